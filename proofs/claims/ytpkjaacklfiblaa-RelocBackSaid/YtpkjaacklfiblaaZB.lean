/- Package reloc: a relocation's bytes, of the program and of the reference. -/
import Derived.Test.YtpkjaacklfiblaaZA
namespace Go.Proofs.Ytpkjaacklfiblaa
open Go.RowKit
set_option linter.unusedVariables false
set_option linter.unusedSimpArgs false

/-- A relocation's bytes. -/
def Rl.bytes (r : Rl) : List UInt8 := putL r.p.toNat 8 ++ putL r.k.toNat 4 ++ putL r.s.toNat 4 ++ putL (IntKind.u64.wrap r.a).toNat 8
theorem Rl.bytes_length (r : Rl) : r.bytes.length = 24 := by simp [Rl.bytes, putL_length]
theorem catZ {a b c : ByteArray} (h : a ++ b = c) {m k : Nat} (ha : a.size = m) (hb : b.size = k) : c.size = m + k := by rw [← h, ByteArray.size_append, ha, hb]
theorem wfZ_u64 {n : Int} (h : 0 ≤ n ∧ n ≤ 18446744073709551615) : (Lit.int .u64 n).wf = true := by
  have e1 : IntKind.u64.min = 0 := rfl
  have e2 : IntKind.u64.max = 18446744073709551615 := by decide
  simp [Lit.wf, e1, e2]; omega
theorem rl_cat (r : Rl) : mkb (putL r.p.toNat 8) ++ mkb (putL r.k.toNat 4) ++ mkb (putL r.s.toNat 4) ++ mkb (putL (IntKind.u64.wrap r.a).toNat 8) = mkb r.bytes := by
  rw [mkb_append, mkb_append, mkb_append, Rl.bytes]
theorem szZ_put (n k : Nat) : (mkb (putL n k)).size = k := by rw [mkb_size, putL_length]

set_option maxRecDepth 100000 in
set_option maxHeartbeats 1600000 in
theorem rbytes_any (r : Rl) (w : World) (hr : r.wf) :
    Calls Try.prog 12 #[.agg r.cs] w fun e w' => e = .returned (.string (mkb r.bytes)) ∧ Below w.heap.size w w' := by
  have hcat := rl_cat r
  obtain ⟨p, k, y, a⟩ := r
  obtain ⟨hp, hk, hy, ha⟩ := hr
  simp only at hp hk hy ha hcat
  obtain ⟨p1, p2⟩ := bounds_i64 hp
  obtain ⟨k1, k2⟩ := bounds_i64 hk
  obtain ⟨y1, y2⟩ := bounds_i64 hy
  unfold Rl.cs
  simp only
  obtain ⟨bs, hbs⟩ : ∃ bs, mkb (Rl.bytes ⟨p, k, y, a⟩) = bs := ⟨_, rfl⟩
  rw [hbs] at hcat ⊢
  clear hbs
  obtain ⟨mp, hmp, hmp0, hmpt⟩ : ∃ m : Int, max p 0 = m ∧ (0 ≤ m ∧ m ≤ 18446744073709551615) ∧ m.toNat = p.toNat := ⟨max p 0, rfl, by omega, by omega⟩
  have hwp : IntKind.u64.wrap mp = mp := by rw [IntKind.wrap_u64]; omega
  obtain ⟨mk, hmk, hmk0, hmkt⟩ : ∃ m : Int, max k 0 = m ∧ (0 ≤ m ∧ m ≤ 18446744073709551615) ∧ m.toNat = k.toNat := ⟨max k 0, rfl, by omega, by omega⟩
  have hwk : IntKind.u64.wrap mk = mk := by rw [IntKind.wrap_u64]; omega
  obtain ⟨my, hmy, hmy0, hmyt⟩ : ∃ m : Int, max y 0 = m ∧ (0 ≤ m ∧ m ≤ 18446744073709551615) ∧ m.toNat = y.toNat := ⟨max y 0, rfl, by omega, by omega⟩
  have hwy : IntKind.u64.wrap my = my := by rw [IntKind.wrap_u64]; omega
  obtain ⟨u, hu, hu0⟩ : ∃ u : Int, IntKind.u64.wrap a = u ∧ (0 ≤ u ∧ u ≤ 18446744073709551615) := ⟨_, rfl, by rw [IntKind.wrap_u64]; omega⟩
  rw [hu] at hcat
  have HP1 := Lib.hid (fun w => put_any mp 8 w (wfZ_u64 hmp0) (by decide))
  rw [hmpt, show wide 8 = 8 from rfl] at HP1
  have HP2 := Lib.hid (fun w => put_any mk 4 w (wfZ_u64 hmk0) (by decide))
  rw [hmkt, show wide 4 = 4 from rfl] at HP2
  have HP3 := Lib.hid (fun w => put_any my 4 w (wfZ_u64 hmy0) (by decide))
  rw [hmyt, show wide 4 = 4 from rfl] at HP3
  have HP4 := Lib.hid (fun w => put_any u 8 w (wfZ_u64 hu0) (by decide))
  rw [show wide 8 = 8 from rfl] at HP4
  have s1 := szZ_put p.toNat 8
  have s2 := szZ_put k.toNat 4
  have s3 := szZ_put y.toNat 4
  have s4 := szZ_put u.toNat 8
  generalize mkb (putL p.toNat 8) = P1 at *
  generalize mkb (putL k.toNat 4) = P2 at *
  generalize mkb (putL y.toNat 4) = P3 at *
  generalize mkb (putL u.toNat 8) = P4 at *
  obtain ⟨C2, hC2⟩ : ∃ C, P1 ++ P2 = C := ⟨_, rfl⟩
  have t2 : C2.size = 12 := catZ hC2 s1 s2
  rw [hC2] at hcat
  obtain ⟨C3, hC3⟩ : ∃ C, C2 ++ P3 = C := ⟨_, rfl⟩
  have t3 : C3.size = 16 := catZ hC3 t2 s3
  rw [hC3] at hcat
  have hB := (Below.refl w.heap.size w).alloc (Nat.le_refl _) (.cells #[.int .i64 p, .int .i64 k, .int .i64 y, .int .i64 a] 23)
  have hb := Blk.new w 23 #[.int .i64 p, .int .i64 k, .int .i64 y, .int .i64 a]
  clear hp hk hy ha hmpt hmkt hmyt p1 p2 k1 k2 y1 y2
  go_enter Try.func12, Try.ntmps12
  go_wp2
  generalize w.alloc (.cells #[.int .i64 p, .int .i64 k, .int .i64 y, .int .i64 a] 23) = W at *
  have n1 := hb.drew
  have n2 := hB.drew
  have n3 : W.drew.cell? ⟨w.heap.size, 0, none⟩ = some (.int .i64 p) := hb.drew.at_ 0 _ rfl
  have n4 : W.drew.cell? ⟨w.heap.size, 1, none⟩ = some (.int .i64 k) := hb.drew.at_ 1 _ rfl
  have n5 : W.drew.cell? ⟨w.heap.size, 2, none⟩ = some (.int .i64 y) := hb.drew.at_ 2 _ rfl
  have n6 : W.drew.cell? ⟨w.heap.size, 3, none⟩ = some (.int .i64 a) := hb.drew.at_ 3 _ rfl
  clear hb hB
  go_region_held3 (fun w' => w'.cell? ⟨w.heap.size, 0, none⟩ = some (.int .i64 p) ∧ w'.cell? ⟨w.heap.size, 1, none⟩ = some (.int .i64 k) ∧ w'.cell? ⟨w.heap.size, 2, none⟩ = some (.int .i64 y) ∧ w'.cell? ⟨w.heap.size, 3, none⟩ = some (.int .i64 a) ∧ Hid (Blk w' w.heap.size 23 #[.int .i64 p, .int .i64 k, .int .i64 y, .int .i64 a]) ∧ Hid (Below w.heap.size w w'))
    (first | exact ⟨n3, n4, n5, n6, n1, n2⟩)
    (first
      | (go_at_call 21; with_reducible refine (HP1.out _).mono ?_; rintro e v1 ⟨rfl, hb⟩; rcases ‹(_ : Prop) ∧ _ ∧ _ ∧ _ ∧ Hid _ ∧ Hid _› with ⟨-, -, -, -, kb, kB⟩; clear n1 n2 n3 n4 n5 n6; have n1 := kb.out.below hb kb.out.lt; have n2 := kB.out.trans (hb.mono kB.out.size); have n3 := n1.at_ 0 _ rfl; have n4 := n1.at_ 1 _ rfl; have n5 := n1.at_ 2 _ rfl; have n6 := n1.at_ 3 _ rfl; clear hb kb kB)
      | (go_at_call 21; with_reducible refine (HP2.out _).mono ?_; rintro e v1 ⟨rfl, hb⟩; rcases ‹(_ : Prop) ∧ _ ∧ _ ∧ _ ∧ Hid _ ∧ Hid _› with ⟨-, -, -, -, kb, kB⟩; clear n1 n2 n3 n4 n5 n6; have n1 := kb.out.below hb kb.out.lt; have n2 := kB.out.trans (hb.mono kB.out.size); have n3 := n1.at_ 0 _ rfl; have n4 := n1.at_ 1 _ rfl; have n5 := n1.at_ 2 _ rfl; have n6 := n1.at_ 3 _ rfl; clear hb kb kB)
      | (go_at_call 21; with_reducible refine (HP3.out _).mono ?_; rintro e v1 ⟨rfl, hb⟩; rcases ‹(_ : Prop) ∧ _ ∧ _ ∧ _ ∧ Hid _ ∧ Hid _› with ⟨-, -, -, -, kb, kB⟩; clear n1 n2 n3 n4 n5 n6; have n1 := kb.out.below hb kb.out.lt; have n2 := kB.out.trans (hb.mono kB.out.size); have n3 := n1.at_ 0 _ rfl; have n4 := n1.at_ 1 _ rfl; have n5 := n1.at_ 2 _ rfl; have n6 := n1.at_ 3 _ rfl; clear hb kb kB)
      | (go_at_call 21; with_reducible refine (HP4.out _).mono ?_; rintro e v1 ⟨rfl, hb⟩; rcases ‹(_ : Prop) ∧ _ ∧ _ ∧ _ ∧ Hid _ ∧ Hid _› with ⟨-, -, -, -, kb, kB⟩; clear n1 n2 n3 n4 n5 n6; have n1 := kb.out.below hb kb.out.lt; have n2 := kB.out.trans (hb.mono kB.out.size); have n3 := n1.at_ 0 _ rfl; have n4 := n1.at_ 1 _ rfl; have n5 := n1.at_ 2 _ rfl; have n6 := n1.at_ 3 _ rfl; clear hb kb kB))
  all_goals
    rcases ‹(_ : Prop) ∧ _ ∧ _ ∧ _ ∧ Hid _ ∧ Hid _› with ⟨-, -, -, -, kb, kB⟩
    go_wp2
    go_ret
    exact ⟨rfl, kB.out⟩

set_option maxHeartbeats 400000 in
theorem rputZ_any (n : Int) (k : Nat) (w : World) (hn : (Lit.int .i64 n).wf = true) (hk : k ≤ 8) : Calls Try.prog 22 #[.int .i64 n, .int .i64 k] w fun e w' => e = .returned (.string (mkb (putL n.toNat k))) ∧ Below w.heap.size w w' := by
  obtain ⟨h1, h2⟩ := bounds_i64 hn
  obtain ⟨m, hm, hm0, hmt⟩ : ∃ m : Int, max n 0 = m ∧ (0 ≤ m ∧ m ≤ 18446744073709551615) ∧ m.toNat = n.toNat := ⟨max n 0, rfl, by omega, by omega⟩
  have hw : IntKind.u64.wrap m = m := by rw [IntKind.wrap_u64]; omega
  have hput := fun w => rput_any m k w (wfZ_u64 hm0) (WalkArith.wf_i64 (by omega))
  rw [hmt, show wide (k : Int) = k by unfold wide; omega] at hput
  generalize putL n.toNat k = L at *
  have HP := Lib.hid hput
  clear hput hmt
  by_cases h0 : n < 0
  · obtain rfl : m = 0 := by omega
    clear hm
    go_enter Try.func22, Try.ntmps22
    go_wp2_with (go_at_call 23; with_reducible refine (HP.out _).mono ?_; rintro e v1 ⟨rfl, hb⟩)
    go_ret
    exact ⟨rfl, hb⟩
  · obtain rfl : m = n := by omega
    clear hm
    go_enter Try.func22, Try.ntmps22
    go_wp2_with (go_at_call 23; with_reducible refine (HP.out _).mono ?_; rintro e v1 ⟨rfl, hb⟩)
    go_ret
    exact ⟨rfl, hb⟩

set_option maxRecDepth 100000 in
set_option maxHeartbeats 1600000 in
theorem rrbytes_any (r : Rl) (w : World) (hr : r.wf) :
    Calls Try.prog 13 #[.agg r.cs] w fun e w' => e = .returned (.string (mkb r.bytes)) ∧ Below w.heap.size w w' := by
  have hcat := rl_cat r
  obtain ⟨p, k, y, a⟩ := r
  obtain ⟨hp, hk, hy, ha⟩ := hr
  simp only at hp hk hy ha hcat
  obtain ⟨p1, p2⟩ := bounds_i64 hp
  obtain ⟨k1, k2⟩ := bounds_i64 hk
  obtain ⟨y1, y2⟩ := bounds_i64 hy
  unfold Rl.cs
  simp only
  obtain ⟨bs, hbs⟩ : ∃ bs, mkb (Rl.bytes ⟨p, k, y, a⟩) = bs := ⟨_, rfl⟩
  rw [hbs] at hcat ⊢
  clear hbs
  obtain ⟨u, hu, hu0⟩ : ∃ u : Int, IntKind.u64.wrap a = u ∧ (0 ≤ u ∧ u ≤ 18446744073709551615) := ⟨_, rfl, by rw [IntKind.wrap_u64]; omega⟩
  rw [hu] at hcat
  have HP1 := Lib.hid (fun w => rputZ_any p 8 w hp (by omega))
  have HP2 := Lib.hid (fun w => rputZ_any k 4 w hk (by omega))
  have HP3 := Lib.hid (fun w => rputZ_any y 4 w hy (by omega))
  have HP4 := Lib.hid (fun w => rput_any u 8 w (wfZ_u64 hu0) (by decide))
  simp only [show ((8 : Nat) : Int) = 8 from rfl] at HP1
  simp only [show ((4 : Nat) : Int) = 4 from rfl] at HP2 HP3
  rw [show wide 8 = 8 from rfl] at HP4
  have s1 := szZ_put p.toNat 8
  have s2 := szZ_put k.toNat 4
  have s3 := szZ_put y.toNat 4
  have s4 := szZ_put u.toNat 8
  generalize mkb (putL p.toNat 8) = P1 at *
  generalize mkb (putL k.toNat 4) = P2 at *
  generalize mkb (putL y.toNat 4) = P3 at *
  generalize mkb (putL u.toNat 8) = P4 at *
  obtain ⟨C2, hC2⟩ : ∃ C, P1 ++ P2 = C := ⟨_, rfl⟩
  have t2 : C2.size = 12 := catZ hC2 s1 s2
  rw [hC2] at hcat
  obtain ⟨C3, hC3⟩ : ∃ C, C2 ++ P3 = C := ⟨_, rfl⟩
  have t3 : C3.size = 16 := catZ hC3 t2 s3
  rw [hC3] at hcat
  have hB := (Below.refl w.heap.size w).alloc (Nat.le_refl _) (.cells #[.int .i64 p, .int .i64 k, .int .i64 y, .int .i64 a] 23)
  have hb := Blk.new w 23 #[.int .i64 p, .int .i64 k, .int .i64 y, .int .i64 a]
  clear hp hk hy ha p1 p2 k1 k2 y1 y2
  go_enter Try.func13, Try.ntmps13
  go_wp2
  generalize w.alloc (.cells #[.int .i64 p, .int .i64 k, .int .i64 y, .int .i64 a] 23) = W at *
  have n1 := hb.drew
  have n2 := hB.drew
  have n3 : W.drew.cell? ⟨w.heap.size, 0, none⟩ = some (.int .i64 p) := hb.drew.at_ 0 _ rfl
  have n4 : W.drew.cell? ⟨w.heap.size, 1, none⟩ = some (.int .i64 k) := hb.drew.at_ 1 _ rfl
  have n5 : W.drew.cell? ⟨w.heap.size, 2, none⟩ = some (.int .i64 y) := hb.drew.at_ 2 _ rfl
  have n6 : W.drew.cell? ⟨w.heap.size, 3, none⟩ = some (.int .i64 a) := hb.drew.at_ 3 _ rfl
  clear hb hB
  go_region_held3 (fun w' => w'.cell? ⟨w.heap.size, 0, none⟩ = some (.int .i64 p) ∧ w'.cell? ⟨w.heap.size, 1, none⟩ = some (.int .i64 k) ∧ w'.cell? ⟨w.heap.size, 2, none⟩ = some (.int .i64 y) ∧ w'.cell? ⟨w.heap.size, 3, none⟩ = some (.int .i64 a) ∧ Hid (Blk w' w.heap.size 23 #[.int .i64 p, .int .i64 k, .int .i64 y, .int .i64 a]) ∧ Hid (Below w.heap.size w w'))
    (first | exact ⟨n3, n4, n5, n6, n1, n2⟩)
    (first
      | (go_at_call 22; with_reducible refine (HP1.out _).mono ?_; rintro e v1 ⟨rfl, hb⟩; rcases ‹(_ : Prop) ∧ _ ∧ _ ∧ _ ∧ Hid _ ∧ Hid _› with ⟨-, -, -, -, kb, kB⟩; clear n1 n2 n3 n4 n5 n6; have n1 := kb.out.below hb kb.out.lt; have n2 := kB.out.trans (hb.mono kB.out.size); have n3 := n1.at_ 0 _ rfl; have n4 := n1.at_ 1 _ rfl; have n5 := n1.at_ 2 _ rfl; have n6 := n1.at_ 3 _ rfl; clear hb kb kB)
      | (go_at_call 22; with_reducible refine (HP2.out _).mono ?_; rintro e v1 ⟨rfl, hb⟩; rcases ‹(_ : Prop) ∧ _ ∧ _ ∧ _ ∧ Hid _ ∧ Hid _› with ⟨-, -, -, -, kb, kB⟩; clear n1 n2 n3 n4 n5 n6; have n1 := kb.out.below hb kb.out.lt; have n2 := kB.out.trans (hb.mono kB.out.size); have n3 := n1.at_ 0 _ rfl; have n4 := n1.at_ 1 _ rfl; have n5 := n1.at_ 2 _ rfl; have n6 := n1.at_ 3 _ rfl; clear hb kb kB)
      | (go_at_call 22; with_reducible refine (HP3.out _).mono ?_; rintro e v1 ⟨rfl, hb⟩; rcases ‹(_ : Prop) ∧ _ ∧ _ ∧ _ ∧ Hid _ ∧ Hid _› with ⟨-, -, -, -, kb, kB⟩; clear n1 n2 n3 n4 n5 n6; have n1 := kb.out.below hb kb.out.lt; have n2 := kB.out.trans (hb.mono kB.out.size); have n3 := n1.at_ 0 _ rfl; have n4 := n1.at_ 1 _ rfl; have n5 := n1.at_ 2 _ rfl; have n6 := n1.at_ 3 _ rfl; clear hb kb kB)
      | (go_at_call 23; with_reducible refine (HP4.out _).mono ?_; rintro e v1 ⟨rfl, hb⟩; rcases ‹(_ : Prop) ∧ _ ∧ _ ∧ _ ∧ Hid _ ∧ Hid _› with ⟨-, -, -, -, kb, kB⟩; clear n1 n2 n3 n4 n5 n6; have n1 := kb.out.below hb kb.out.lt; have n2 := kB.out.trans (hb.mono kB.out.size); have n3 := n1.at_ 0 _ rfl; have n4 := n1.at_ 1 _ rfl; have n5 := n1.at_ 2 _ rfl; have n6 := n1.at_ 3 _ rfl; clear hb kb kB))
  all_goals
    rcases ‹(_ : Prop) ∧ _ ∧ _ ∧ _ ∧ Hid _ ∧ Hid _› with ⟨-, -, -, -, kb, kB⟩
    go_wp2
    go_ret
    exact ⟨rfl, kB.out⟩
end Go.Proofs.Ytpkjaacklfiblaa
