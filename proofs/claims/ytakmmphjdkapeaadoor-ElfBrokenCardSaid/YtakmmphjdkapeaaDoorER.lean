/- The reference of layer 8: in, First, Last, segment, put, get. -/
import Derived.Test.YtakmmphjdkapeaaDoorEL
import Derived.Test.YtakmmphjdkapeaaDoorOctE
namespace Go.Proofs.YtakmmphjdkapeaaDoor
open Go.RowKit
set_option linter.unusedVariables false
set_option linter.unusedSimpArgs false

set_option maxHeartbeats 400000 in
theorem rin_any (n : Int) (w : World) : Calls Tryd.prog 29 #[.int .i64 n] w fun e w' => e = .returned (.bool (upto 1099511627776 n)) ∧ w = w' := by
  unfold upto
  by_cases h : 0 ≤ n
  · have hd : decide (0 ≤ n) = true := decide_eq_true h
    rw [hd, Bool.true_and]
    go_enter Tryd.func29, Tryd.ntmps29
    go_wp2
    go_ret
    exact ⟨rfl, rfl⟩
  · have hd : decide (0 ≤ n) = false := decide_eq_false h
    rw [hd, Bool.false_and]
    go_enter Tryd.func29, Tryd.ntmps29
    go_wp2
    go_ret
    exact ⟨rfl, rfl⟩
set_option maxHeartbeats 400000 in
theorem rfirst_any (s : Seg) (w : World) (hs : s.wf) : Calls Tryd.prog 31 #[s.v] w fun e w' => e = .returned (.int .i64 s.from_) ∧ Below w.heap.size w w' := by
  obtain ⟨ty, fl, off, ad, sz, mem, al⟩ := s
  obtain ⟨p1, p2⟩ := bounds_i64 hs.ad
  unfold Seg.v Seg.cs Seg.from_
  simp only at *
  have ht := tdiv64 p1 p2
  obtain ⟨q, hq⟩ : ∃ q, ad.tdiv 64 = q := ⟨_, rfl⟩
  rw [hq] at ht ⊢
  have HB := Lib.hid ((Below.refl w.heap.size w).alloc (Nat.le_refl _) (.cells #[.int .i64 ty, .int .i64 fl, .int .i64 off, .int .i64 ad, .int .i64 sz, .int .i64 mem, .int .i64 al] 47))
  clear hs
  go_enter Tryd.func31, Tryd.ntmps31
  go_wp2
  go_ret
  exact ⟨rfl, HB.out⟩
set_option maxHeartbeats 400000 in
theorem rlast_any (s : Seg) (z : Int) (w : World) (hs : s.May z) : Calls Tryd.prog 32 #[s.v] w fun e w' => e = .returned (.int .i64 s.to_) ∧ Below w.heap.size w w' := by
  have p1 := hs.ad
  have p2 := hs.mem
  rw [Seg.to_eq p1.1 p2.1]
  obtain ⟨ty, fl, off, ad, sz, mem, al⟩ := s
  unfold Seg.v Seg.cs
  simp only at *
  have ht : (ad + mem + 63).tdiv 64 = (ad + mem + 63) / 64 := Int.tdiv_eq_ediv_of_nonneg (by omega)
  obtain ⟨a, ha⟩ : ∃ a, ad + mem = a := ⟨_, rfl⟩
  obtain ⟨b, hb⟩ : ∃ b, a + 63 = b := ⟨_, rfl⟩
  obtain ⟨q, hq⟩ : ∃ q, b / 64 = q := ⟨_, rfl⟩
  rw [ha, hb, hq] at ht
  rw [ha, hb, hq]
  have h1 : 0 ≤ a ∧ a ≤ 2199023255552 := by omega
  have h2 : 0 ≤ b ∧ b ≤ 2199023255615 := by omega
  have h3 : 0 ≤ q ∧ q ≤ 2199023255615 := by omega
  have HB := Lib.hid ((Below.refl w.heap.size w).alloc (Nat.le_refl _) (.cells #[.int .i64 ty, .int .i64 fl, .int .i64 off, .int .i64 ad, .int .i64 sz, .int .i64 mem, .int .i64 al] 47))
  clear hs hq
  go_enter Tryd.func32, Tryd.ntmps32
  go_wp2
  go_ret
  exact ⟨rfl, HB.out⟩
set_option maxHeartbeats 400000 in
theorem rputn_any (n : Int) (k : Nat) (w : World) (hn : (Lit.int .i64 n).wf = true) (hk : k ≤ 8) : Calls Tryd.prog 39 #[.int .i64 n, .int .i64 k] w fun e w' => e = .returned (.string (mkb (numL n k))) ∧ Below w.heap.size w w' := by
  obtain ⟨h1, h2⟩ := bounds_i64 hn
  obtain ⟨m, hm, hm0, hmt⟩ : ∃ m : Int, max n 0 = m ∧ (0 ≤ m ∧ m ≤ 9223372036854775807) ∧ m.toNat = n.toNat := ⟨max n 0, rfl, by omega, by omega⟩
  have hw : IntKind.u64.wrap m = m := by rw [IntKind.wrap_u64]; omega
  have hput := fun w => rput_any m k w (by have e1 : IntKind.u64.min = 0 := rfl; have e2 : IntKind.u64.max = 18446744073709551615 := by decide
                                           simp [Lit.wf, e1, e2]; omega) (i64_wf (by omega))
  rw [hmt, show wide (k : Int) = k by unfold wide; omega] at hput
  unfold numL
  generalize putL n.toNat k = L at *
  have HP := Lib.hid hput
  clear hput hmt
  by_cases h0 : n < 0
  · obtain rfl : m = 0 := by omega
    clear hm
    go_enter Tryd.func39, Tryd.ntmps39
    go_wp2_with (go_at_call 51; with_reducible refine (HP.out _).mono ?_; rintro e v1 ⟨rfl, hb⟩)
    go_ret
    exact ⟨rfl, hb⟩
  · obtain rfl : m = n := by omega
    clear hm
    go_enter Tryd.func39, Tryd.ntmps39
    go_wp2_with (go_at_call 51; with_reducible refine (HP.out _).mono ?_; rintro e v1 ⟨rfl, hb⟩)
    go_ret
    exact ⟨rfl, hb⟩
/-- A number that stands in a file, if it is not above 2^40; else -1. -/
def getR (s : ByteArray) (a w : Nat) : Int := if hol s.size a w = true ∧ getN s a w ≤ 1099511627776 then getN s a w else -1
theorem getN_range (s : ByteArray) (a w : Int) : 0 ≤ getN s a w ∧ getN s a w < 18446744073709551616 := by
  unfold getN
  split
  · rename_i h
    obtain ⟨h1, h2, h3, h4, h5⟩ := hol_iff.1 h
    have h := getL_lt64 (l := partL s a.toNat w.toNat) (by unfold partL; rw [List.length_take]; omega)
    omega
  · omega
theorem getR_wf (s : ByteArray) (a w : Nat) : (Lit.int .i64 (getR s a w)).wf = true := by
  have := getN_range s a w
  unfold getR
  split
  · exact i64_wf (by omega)
  · decide
set_option maxHeartbeats 400000 in
theorem rgetr_any (s : ByteArray) (a n : Nat) (w : World) (ha : a ≤ 1000000000000) (hn : n ≤ 100) (hs : s.size ≤ 281474976710656) :
    Calls Tryd.prog 43 #[.string s, .int .i64 a, .int .i64 n] w fun e w' => e = .returned (.int .i64 (getR s a n)) ∧ w = w' := by
  have HG := Lib.hid (fun w => rget_any s a n w (i64_wf (by omega)) (i64_wf (by omega)) hs)
  obtain ⟨h0, h1⟩ := getN_range s a n
  unfold getR
  generalize getN s a n = z at *
  generalize hol s.size a n = h at *
  cases h
  · rw [if_neg (by simp)]
    go_enter Tryd.func43, Tryd.ntmps43
    go_wp2_with (go_at_call 56; refine (HG.out _).mono ?_; rintro e w' ⟨rfl, rfl⟩)
    go_ret
    exact ⟨rfl, rfl⟩
  · by_cases hz : z ≤ 1099511627776
    · rw [if_pos ⟨rfl, hz⟩]
      have hw : wrap64 z = z := IntWalk.wrap64_in _ (by omega)
      have hw2 : IntKind.i64.wrap z = z := IntWalk.i64_in _ (by omega)
      go_enter Tryd.func43, Tryd.ntmps43
      go_wp2_with (go_at_call 56; refine (HG.out _).mono ?_; rintro e w' ⟨rfl, rfl⟩)
      go_ret
      exact ⟨rfl, rfl⟩
    · rw [if_neg (fun h => hz h.2)]
      go_enter Tryd.func43, Tryd.ntmps43
      go_wp2_with (go_at_call 56; refine (HG.out _).mono ?_; rintro e w' ⟨rfl, rfl⟩)
      go_ret
      exact ⟨rfl, rfl⟩
end Go.Proofs.YtakmmphjdkapeaaDoor
