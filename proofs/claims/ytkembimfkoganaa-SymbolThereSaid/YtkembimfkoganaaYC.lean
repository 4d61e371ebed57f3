/- The reference of layer 10: put, a symbol's bytes. -/
import Derived.Test.YtkembimfkoganaaYB
namespace Go.Proofs.Ytkembimfkoganaa
open Go.RowKit
set_option linter.unusedVariables false
set_option linter.unusedSimpArgs false

set_option maxHeartbeats 400000 in
theorem rputY_any (n : Int) (k : Nat) (w : World) (hn : (Lit.int .i64 n).wf = true) (hk : k ≤ 8) : Calls Try.prog 24 #[.int .i64 n, .int .i64 k] w fun e w' => e = .returned (.string (mkb (putL n.toNat k))) ∧ Below w.heap.size w w' := by
  obtain ⟨h1, h2⟩ := bounds_i64 hn
  obtain ⟨m, hm, hm0, hmt⟩ : ∃ m : Int, max n 0 = m ∧ (0 ≤ m ∧ m ≤ 9223372036854775807) ∧ m.toNat = n.toNat := ⟨max n 0, rfl, by omega, by omega⟩
  have hw : IntKind.u64.wrap m = m := by rw [IntKind.wrap_u64]; omega
  have hput := fun w => rput_any m k w (wfY_u64 hm0) (WalkArith.wf_i64 (by omega))
  rw [hmt, show wide (k : Int) = k by unfold wide; omega] at hput
  generalize putL n.toNat k = L at *
  have HP := Lib.hid hput
  clear hput hmt
  by_cases h0 : n < 0
  · obtain rfl : m = 0 := by omega
    clear hm
    go_enter Try.func24, Try.ntmps24
    go_wp2_with (go_at_call 32; with_reducible refine (HP.out _).mono ?_; rintro e v1 ⟨rfl, hb⟩)
    go_ret
    exact ⟨rfl, hb⟩
  · obtain rfl : m = n := by omega
    clear hm
    go_enter Try.func24, Try.ntmps24
    go_wp2_with (go_at_call 32; with_reducible refine (HP.out _).mono ?_; rintro e v1 ⟨rfl, hb⟩)
    go_ret
    exact ⟨rfl, hb⟩

set_option maxRecDepth 100000 in
set_option maxHeartbeats 1600000 in
theorem rsbytes_any (s : Sy) (w : World) (hs : s.wf) :
    Calls Try.prog 14 #[.agg s.cs] w fun e w' => e = .returned (.string (mkb s.bytes)) ∧ Below w.heap.size w w' := by
  have hcat := sy_cat s
  obtain ⟨n, d, v⟩ := s
  obtain ⟨hn, hv⟩ := hs
  simp only at hn hv hcat
  unfold Sy.cs
  simp only
  obtain ⟨bs, hbs⟩ : ∃ bs, mkb (Sy.bytes ⟨n, d, v⟩) = bs := ⟨_, rfl⟩
  rw [hbs] at hcat ⊢
  rw [show mkb [18, 0] = ⟨#[18, 0]⟩ from rfl] at hcat
  have HP1 := Lib.hid (fun w => rputY_any n 4 w hn (by omega))
  have HP3 := Lib.hid (fun w => rputY_any (dB d : Int) 2 w (WalkArith.wf_i64 (by cases d <;> decide)) (by omega))
  have HP4 := Lib.hid (fun w => rputY_any v 8 w hv (by omega))
  have HP5 := Lib.hid (fun w => rputY_any 0 8 w (by decide) (by omega))
  rw [Int.toNat_natCast] at HP3
  rw [show (0 : Int).toNat = 0 from rfl] at HP5
  simp only [show ((4 : Nat) : Int) = 4 from rfl] at HP1
  simp only [show ((2 : Nat) : Int) = 2 from rfl] at HP3
  simp only [show ((8 : Nat) : Int) = 8 from rfl] at HP4 HP5
  have s1 := sz_put n.toNat 4
  have s2 : (⟨#[18, 0]⟩ : ByteArray).size = 2 := rfl
  have s3 := sz_put (dB d) 2
  have s4 := sz_put v.toNat 8
  have s5 := sz_put 0 8
  generalize mkb (putL n.toNat 4) = P1 at *
  generalize mkb (putL (dB d) 2) = P3 at *
  generalize mkb (putL v.toNat 8) = P4 at *
  generalize mkb (putL 0 8) = P5 at *
  obtain ⟨C2, hC2⟩ : ∃ C, P1 ++ ⟨#[18, 0]⟩ = C := ⟨_, rfl⟩
  have t2 : C2.size = 6 := catY hC2 s1 s2
  rw [hC2] at hcat
  obtain ⟨C3, hC3⟩ : ∃ C, C2 ++ P3 = C := ⟨_, rfl⟩
  have t3 : C3.size = 8 := catY hC3 t2 s3
  rw [hC3] at hcat
  obtain ⟨C4, hC4⟩ : ∃ C, C3 ++ P4 = C := ⟨_, rfl⟩
  have t4 : C4.size = 16 := catY hC4 t3 s4
  rw [hC4] at hcat
  clear s2
  have hB := (Below.refl w.heap.size w).alloc (Nat.le_refl _) (.cells #[.int .i64 n, .bool d, .int .i64 v] 23)
  have hb := Blk.new w 23 #[.int .i64 n, .bool d, .int .i64 v]
  have HR := Lib.hid (show d = true ∧ dB d = 1 ∨ d = false ∧ dB d = 0 by cases d <;> simp [dB])
  generalize dB d = q at *
  clear hbs hn hv
  rcases HR.out with ⟨rfl, rfl⟩ | ⟨rfl, rfl⟩
  all_goals
    clear HR
    go_enter Try.func14, Try.ntmps14
    go_wp2
    generalize w.alloc (.cells #[.int .i64 n, .bool _, .int .i64 v] 23) = W at *
    have n1 := hb.drew
    have n2 := hB.drew
    have n3 : W.drew.cell? ⟨w.heap.size, 0, none⟩ = some (.int .i64 n) := hb.drew.at_ 0 _ rfl
    have n4 : W.drew.cell? ⟨w.heap.size, 2, none⟩ = some (.int .i64 v) := hb.drew.at_ 2 _ rfl
    clear hb hB
    first | rw [show ((1 : Nat) : Int) = 1 from rfl] at HP3 | rw [show ((0 : Nat) : Int) = 0 from rfl] at HP3
  · go_region_held3 (fun w' => w'.cell? ⟨w.heap.size, 0, none⟩ = some (.int .i64 n) ∧ w'.cell? ⟨w.heap.size, 2, none⟩ = some (.int .i64 v) ∧ Hid (Blk w' w.heap.size 23 #[.int .i64 n, .bool true, .int .i64 v]) ∧ Hid (Below w.heap.size w w'))
      (first | exact ⟨n3, n4, n1, n2⟩)
      (first
    | (go_at_call 24; with_reducible refine (HP1.out _).mono ?_; rintro e v1 ⟨rfl, hb⟩; rcases ‹(_ : Prop) ∧ _ ∧ Hid _ ∧ Hid _› with ⟨-, -, kb, kB⟩; clear n1 n2 n3 n4; have n1 := kb.out.below hb kb.out.lt; have n2 := kB.out.trans (hb.mono kB.out.size); have n3 := n1.at_ 0 _ rfl; have n4 := n1.at_ 2 _ rfl; clear hb kb kB)
    | (go_at_call 24; with_reducible refine (HP3.out _).mono ?_; rintro e v1 ⟨rfl, hb⟩; rcases ‹(_ : Prop) ∧ _ ∧ Hid _ ∧ Hid _› with ⟨-, -, kb, kB⟩; clear n1 n2 n3 n4; have n1 := kb.out.below hb kb.out.lt; have n2 := kB.out.trans (hb.mono kB.out.size); have n3 := n1.at_ 0 _ rfl; have n4 := n1.at_ 2 _ rfl; clear hb kb kB)
    | (go_at_call 24; with_reducible refine (HP4.out _).mono ?_; rintro e v1 ⟨rfl, hb⟩; rcases ‹(_ : Prop) ∧ _ ∧ Hid _ ∧ Hid _› with ⟨-, -, kb, kB⟩; clear n1 n2 n3 n4; have n1 := kb.out.below hb kb.out.lt; have n2 := kB.out.trans (hb.mono kB.out.size); have n3 := n1.at_ 0 _ rfl; have n4 := n1.at_ 2 _ rfl; clear hb kb kB)
    | (go_at_call 24; with_reducible refine (HP5.out _).mono ?_; rintro e v1 ⟨rfl, hb⟩; rcases ‹(_ : Prop) ∧ _ ∧ Hid _ ∧ Hid _› with ⟨-, -, kb, kB⟩; clear n1 n2 n3 n4; have n1 := kb.out.below hb kb.out.lt; have n2 := kB.out.trans (hb.mono kB.out.size); have n3 := n1.at_ 0 _ rfl; have n4 := n1.at_ 2 _ rfl; clear hb kb kB))
    all_goals
      rcases ‹(_ : Prop) ∧ _ ∧ Hid _ ∧ Hid _› with ⟨-, -, kb, kB⟩
      go_wp2
      go_ret
      exact ⟨rfl, kB.out⟩
  · go_region_held3 (fun w' => w'.cell? ⟨w.heap.size, 0, none⟩ = some (.int .i64 n) ∧ w'.cell? ⟨w.heap.size, 2, none⟩ = some (.int .i64 v) ∧ Hid (Blk w' w.heap.size 23 #[.int .i64 n, .bool false, .int .i64 v]) ∧ Hid (Below w.heap.size w w'))
      (first | exact ⟨n3, n4, n1, n2⟩)
      (first
    | (go_at_call 24; with_reducible refine (HP1.out _).mono ?_; rintro e v1 ⟨rfl, hb⟩; rcases ‹(_ : Prop) ∧ _ ∧ Hid _ ∧ Hid _› with ⟨-, -, kb, kB⟩; clear n1 n2 n3 n4; have n1 := kb.out.below hb kb.out.lt; have n2 := kB.out.trans (hb.mono kB.out.size); have n3 := n1.at_ 0 _ rfl; have n4 := n1.at_ 2 _ rfl; clear hb kb kB)
    | (go_at_call 24; with_reducible refine (HP3.out _).mono ?_; rintro e v1 ⟨rfl, hb⟩; rcases ‹(_ : Prop) ∧ _ ∧ Hid _ ∧ Hid _› with ⟨-, -, kb, kB⟩; clear n1 n2 n3 n4; have n1 := kb.out.below hb kb.out.lt; have n2 := kB.out.trans (hb.mono kB.out.size); have n3 := n1.at_ 0 _ rfl; have n4 := n1.at_ 2 _ rfl; clear hb kb kB)
    | (go_at_call 24; with_reducible refine (HP4.out _).mono ?_; rintro e v1 ⟨rfl, hb⟩; rcases ‹(_ : Prop) ∧ _ ∧ Hid _ ∧ Hid _› with ⟨-, -, kb, kB⟩; clear n1 n2 n3 n4; have n1 := kb.out.below hb kb.out.lt; have n2 := kB.out.trans (hb.mono kB.out.size); have n3 := n1.at_ 0 _ rfl; have n4 := n1.at_ 2 _ rfl; clear hb kb kB)
    | (go_at_call 24; with_reducible refine (HP5.out _).mono ?_; rintro e v1 ⟨rfl, hb⟩; rcases ‹(_ : Prop) ∧ _ ∧ Hid _ ∧ Hid _› with ⟨-, -, kb, kB⟩; clear n1 n2 n3 n4; have n1 := kb.out.below hb kb.out.lt; have n2 := kB.out.trans (hb.mono kB.out.size); have n3 := n1.at_ 0 _ rfl; have n4 := n1.at_ 2 _ rfl; clear hb kb kB))
    all_goals
      rcases ‹(_ : Prop) ∧ _ ∧ Hid _ ∧ Hid _› with ⟨-, -, kb, kB⟩
      go_wp2
      go_ret
      exact ⟨rfl, kB.out⟩
end Go.Proofs.Ytkembimfkoganaa
