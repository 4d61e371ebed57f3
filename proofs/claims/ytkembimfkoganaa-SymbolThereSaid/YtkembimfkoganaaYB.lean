/- Package symbol: a symbol's bytes, of the program and of the reference. -/
import Derived.Test.YtkembimfkoganaaOctE
import Derived.Test.YtkembimfkoganaaOpen
import Derived.Deep.RegionHeld3
namespace Go.Proofs.Ytkembimfkoganaa
open Go.RowKit
set_option linter.unusedVariables false
set_option linter.unusedSimpArgs false

/-- A symbol: its name's place, is it defined, its value. -/
structure Sy where
  n : Int
  d : Bool
  v : Int
deriving DecidableEq
def Sy.cs (s : Sy) : Array Value := #[.int .i64 s.n, .bool s.d, .int .i64 s.v]
structure Sy.wf (s : Sy) : Prop where
  n : (Lit.int .i64 s.n).wf = true
  v : (Lit.int .i64 s.v).wf = true
def dB (d : Bool) : Nat := if d then 1 else 0
def Sy.bytes (s : Sy) : List UInt8 := putL s.n.toNat 4 ++ [18, 0] ++ putL (dB s.d) 2 ++ putL s.v.toNat 8 ++ putL 0 8
theorem Sy.bytes_length (s : Sy) : s.bytes.length = 24 := by simp [Sy.bytes, putL_length]
theorem catY {a b c : ByteArray} (h : a ++ b = c) {m k : Nat} (ha : a.size = m) (hb : b.size = k) : c.size = m + k := by rw [← h, ByteArray.size_append, ha, hb]
theorem wfY_u64 {n : Int} (h : 0 ≤ n ∧ n ≤ 9223372036854775807) : (Lit.int .u64 n).wf = true := by
  have e1 : IntKind.u64.min = 0 := rfl
  have e2 : IntKind.u64.max = 18446744073709551615 := by decide
  simp [Lit.wf, e1, e2]; omega
theorem sy_cat (s : Sy) : mkb (putL s.n.toNat 4) ++ mkb [18, 0] ++ mkb (putL (dB s.d) 2) ++ mkb (putL s.v.toNat 8) ++ mkb (putL 0 8) = mkb s.bytes := by
  rw [mkb_append, mkb_append, mkb_append, mkb_append, Sy.bytes]
theorem sz_put (n k : Nat) : (mkb (putL n k)).size = k := by rw [mkb_size, putL_length]

set_option maxRecDepth 100000 in
set_option maxHeartbeats 1600000 in
theorem sbytes_any (s : Sy) (w : World) (hs : s.wf) :
    Calls Try.prog 13 #[.agg s.cs] w fun e w' => e = .returned (.string (mkb s.bytes)) ∧ Below w.heap.size w w' := by
  have hcat := sy_cat s
  obtain ⟨n, d, v⟩ := s
  obtain ⟨hn, hv⟩ := hs
  simp only at hn hv hcat
  obtain ⟨n1, n2⟩ := bounds_i64 hn
  obtain ⟨v1, v2⟩ := bounds_i64 hv
  unfold Sy.cs
  simp only
  obtain ⟨bs, hbs⟩ : ∃ bs, mkb (Sy.bytes ⟨n, d, v⟩) = bs := ⟨_, rfl⟩
  rw [hbs] at hcat ⊢
  obtain ⟨m, hm, hm0, hmt⟩ : ∃ m : Int, max n 0 = m ∧ (0 ≤ m ∧ m ≤ 9223372036854775807) ∧ m.toNat = n.toNat := ⟨max n 0, rfl, by omega, by omega⟩
  obtain ⟨u, hu, hu0, hut⟩ : ∃ m : Int, max v 0 = m ∧ (0 ≤ m ∧ m ≤ 9223372036854775807) ∧ m.toNat = v.toNat := ⟨max v 0, rfl, by omega, by omega⟩
  have hwm : IntKind.u64.wrap m = m := by rw [IntKind.wrap_u64]; omega
  have hwu : IntKind.u64.wrap u = u := by rw [IntKind.wrap_u64]; omega
  have HP1 := Lib.hid (fun w => put_any m 4 w (wfY_u64 hm0) (by decide))
  have HP2 := Lib.hid (fun w => put_any 18 2 w (by decide) (by decide))
  have HP3 := Lib.hid (fun w => put_any (dB d : Int) 2 w (wfY_u64 (by cases d <;> decide)) (by decide))
  have HP4 := Lib.hid (fun w => put_any u 8 w (wfY_u64 hu0) (by decide))
  have HP5 := Lib.hid (fun w => put_any 0 8 w (by decide) (by decide))
  rw [hmt, show wide 4 = 4 from rfl] at HP1
  rw [show wide 2 = 2 from rfl, show putL (18 : Int).toNat 2 = [18, 0] from rfl] at HP2
  rw [show wide 2 = 2 from rfl, Int.toNat_natCast] at HP3
  rw [hut, show wide 8 = 8 from rfl] at HP4
  rw [show wide 8 = 8 from rfl, show (0 : Int).toNat = 0 from rfl] at HP5
  have s1 := sz_put n.toNat 4
  have s2 : (mkb [18, 0]).size = 2 := rfl
  have s3 := sz_put (dB d) 2
  have s4 := sz_put v.toNat 8
  have s5 := sz_put 0 8
  generalize mkb (putL n.toNat 4) = P1 at *
  generalize mkb [18, 0] = P2 at *
  generalize mkb (putL (dB d) 2) = P3 at *
  generalize mkb (putL v.toNat 8) = P4 at *
  generalize mkb (putL 0 8) = P5 at *
  obtain ⟨C2, hC2⟩ : ∃ C, P1 ++ P2 = C := ⟨_, rfl⟩
  have t2 : C2.size = 6 := catY hC2 s1 s2
  rw [hC2] at hcat
  obtain ⟨C3, hC3⟩ : ∃ C, C2 ++ P3 = C := ⟨_, rfl⟩
  have t3 : C3.size = 8 := catY hC3 t2 s3
  rw [hC3] at hcat
  obtain ⟨C4, hC4⟩ : ∃ C, C3 ++ P4 = C := ⟨_, rfl⟩
  have t4 : C4.size = 16 := catY hC4 t3 s4
  rw [hC4] at hcat
  have hB := (Below.refl w.heap.size w).alloc (Nat.le_refl _) (.cells #[.int .i64 n, .bool d, .int .i64 v] 23)
  have hb := Blk.new w 23 #[.int .i64 n, .bool d, .int .i64 v]
  have HR := Lib.hid (show d = true ∧ dB d = 1 ∨ d = false ∧ dB d = 0 by cases d <;> simp [dB])
  generalize dB d = q at *
  clear hbs hmt hut hn hv
  rcases HR.out with ⟨rfl, rfl⟩ | ⟨rfl, rfl⟩
  all_goals
    clear HR
    go_enter Try.func13, Try.ntmps13
    go_wp2
    generalize w.alloc (.cells #[.int .i64 n, .bool _, .int .i64 v] 23) = W at *
    have n1 := hb.drew
    have n2 := hB.drew
    have n3 : W.drew.cell? ⟨w.heap.size, 0, none⟩ = some (.int .i64 n) := hb.drew.at_ 0 _ rfl
    have n4 : W.drew.cell? ⟨w.heap.size, 2, none⟩ = some (.int .i64 v) := hb.drew.at_ 2 _ rfl
    clear hb hB
    first | rw [show ((1 : Nat) : Int) = 1 from rfl] at HP3 | rw [show ((0 : Nat) : Int) = 0 from rfl] at HP3
  · go_region_held3 (fun w' => w'.cell? ⟨w.heap.size, 0, none⟩ = some (.int .i64 n) ∧ w'.cell? ⟨w.heap.size, 2, none⟩ = some (.int .i64 v) ∧ Hid (Blk w' w.heap.size 23 #[.int .i64 n, .bool true, .int .i64 v]) ∧ Hid (Below w.heap.size w w'))
      (first | exact ⟨n3, n4, n1, n2⟩)
      (first
    | (go_at_call 22; with_reducible refine (HP1.out _).mono ?_; rintro e v1 ⟨rfl, hb⟩; rcases ‹(_ : Prop) ∧ _ ∧ Hid _ ∧ Hid _› with ⟨-, -, kb, kB⟩; clear n1 n2 n3 n4; have n1 := kb.out.below hb kb.out.lt; have n2 := kB.out.trans (hb.mono kB.out.size); have n3 := n1.at_ 0 _ rfl; have n4 := n1.at_ 2 _ rfl; clear hb kb kB)
    | (go_at_call 22; with_reducible refine (HP2.out _).mono ?_; rintro e v1 ⟨rfl, hb⟩; rcases ‹(_ : Prop) ∧ _ ∧ Hid _ ∧ Hid _› with ⟨-, -, kb, kB⟩; clear n1 n2 n3 n4; have n1 := kb.out.below hb kb.out.lt; have n2 := kB.out.trans (hb.mono kB.out.size); have n3 := n1.at_ 0 _ rfl; have n4 := n1.at_ 2 _ rfl; clear hb kb kB)
    | (go_at_call 22; with_reducible refine (HP3.out _).mono ?_; rintro e v1 ⟨rfl, hb⟩; rcases ‹(_ : Prop) ∧ _ ∧ Hid _ ∧ Hid _› with ⟨-, -, kb, kB⟩; clear n1 n2 n3 n4; have n1 := kb.out.below hb kb.out.lt; have n2 := kB.out.trans (hb.mono kB.out.size); have n3 := n1.at_ 0 _ rfl; have n4 := n1.at_ 2 _ rfl; clear hb kb kB)
    | (go_at_call 22; with_reducible refine (HP4.out _).mono ?_; rintro e v1 ⟨rfl, hb⟩; rcases ‹(_ : Prop) ∧ _ ∧ Hid _ ∧ Hid _› with ⟨-, -, kb, kB⟩; clear n1 n2 n3 n4; have n1 := kb.out.below hb kb.out.lt; have n2 := kB.out.trans (hb.mono kB.out.size); have n3 := n1.at_ 0 _ rfl; have n4 := n1.at_ 2 _ rfl; clear hb kb kB)
    | (go_at_call 22; with_reducible refine (HP5.out _).mono ?_; rintro e v1 ⟨rfl, hb⟩; rcases ‹(_ : Prop) ∧ _ ∧ Hid _ ∧ Hid _› with ⟨-, -, kb, kB⟩; clear n1 n2 n3 n4; have n1 := kb.out.below hb kb.out.lt; have n2 := kB.out.trans (hb.mono kB.out.size); have n3 := n1.at_ 0 _ rfl; have n4 := n1.at_ 2 _ rfl; clear hb kb kB))
    all_goals
      rcases ‹(_ : Prop) ∧ _ ∧ Hid _ ∧ Hid _› with ⟨-, -, kb, kB⟩
      go_wp2
      go_ret
      exact ⟨rfl, kB.out⟩
  · go_region_held3 (fun w' => w'.cell? ⟨w.heap.size, 0, none⟩ = some (.int .i64 n) ∧ w'.cell? ⟨w.heap.size, 2, none⟩ = some (.int .i64 v) ∧ Hid (Blk w' w.heap.size 23 #[.int .i64 n, .bool false, .int .i64 v]) ∧ Hid (Below w.heap.size w w'))
      (first | exact ⟨n3, n4, n1, n2⟩)
      (first
    | (go_at_call 22; with_reducible refine (HP1.out _).mono ?_; rintro e v1 ⟨rfl, hb⟩; rcases ‹(_ : Prop) ∧ _ ∧ Hid _ ∧ Hid _› with ⟨-, -, kb, kB⟩; clear n1 n2 n3 n4; have n1 := kb.out.below hb kb.out.lt; have n2 := kB.out.trans (hb.mono kB.out.size); have n3 := n1.at_ 0 _ rfl; have n4 := n1.at_ 2 _ rfl; clear hb kb kB)
    | (go_at_call 22; with_reducible refine (HP2.out _).mono ?_; rintro e v1 ⟨rfl, hb⟩; rcases ‹(_ : Prop) ∧ _ ∧ Hid _ ∧ Hid _› with ⟨-, -, kb, kB⟩; clear n1 n2 n3 n4; have n1 := kb.out.below hb kb.out.lt; have n2 := kB.out.trans (hb.mono kB.out.size); have n3 := n1.at_ 0 _ rfl; have n4 := n1.at_ 2 _ rfl; clear hb kb kB)
    | (go_at_call 22; with_reducible refine (HP3.out _).mono ?_; rintro e v1 ⟨rfl, hb⟩; rcases ‹(_ : Prop) ∧ _ ∧ Hid _ ∧ Hid _› with ⟨-, -, kb, kB⟩; clear n1 n2 n3 n4; have n1 := kb.out.below hb kb.out.lt; have n2 := kB.out.trans (hb.mono kB.out.size); have n3 := n1.at_ 0 _ rfl; have n4 := n1.at_ 2 _ rfl; clear hb kb kB)
    | (go_at_call 22; with_reducible refine (HP4.out _).mono ?_; rintro e v1 ⟨rfl, hb⟩; rcases ‹(_ : Prop) ∧ _ ∧ Hid _ ∧ Hid _› with ⟨-, -, kb, kB⟩; clear n1 n2 n3 n4; have n1 := kb.out.below hb kb.out.lt; have n2 := kB.out.trans (hb.mono kB.out.size); have n3 := n1.at_ 0 _ rfl; have n4 := n1.at_ 2 _ rfl; clear hb kb kB)
    | (go_at_call 22; with_reducible refine (HP5.out _).mono ?_; rintro e v1 ⟨rfl, hb⟩; rcases ‹(_ : Prop) ∧ _ ∧ Hid _ ∧ Hid _› with ⟨-, -, kb, kB⟩; clear n1 n2 n3 n4; have n1 := kb.out.below hb kb.out.lt; have n2 := kB.out.trans (hb.mono kB.out.size); have n3 := n1.at_ 0 _ rfl; have n4 := n1.at_ 2 _ rfl; clear hb kb kB))
    all_goals
      rcases ‹(_ : Prop) ∧ _ ∧ Hid _ ∧ Hid _› with ⟨-, -, kb, kB⟩
      go_wp2
      go_ret
      exact ⟨rfl, kB.out⟩
end Go.Proofs.Ytkembimfkoganaa
