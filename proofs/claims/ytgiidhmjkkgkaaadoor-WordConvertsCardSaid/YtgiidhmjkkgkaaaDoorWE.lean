/- Package word: nearest, Convert. -/
import Derived.Test.YtgiidhmjkkgkaaaDoorWD
namespace Go.Proofs.YtgiidhmjkkgkaaaDoor
open Go.RowKit
set_option linter.unusedVariables false
set_option linter.unusedSimpArgs false

theorem lo_range (k : Int) : -9223372036854775808 ≤ loZ k ∧ loZ k ≤ 0 := by unfold loZ; (repeat' split) <;> omega
theorem hi_range (k : Int) : 0 ≤ hiZ k ∧ hiZ k < 18446744073709551616 := by unfold hiZ; (repeat' split) <;> omega

set_option maxHeartbeats 800000 in
theorem nearest_any (from_ to n : Int) (w : World) (hf : (Lit.int .i64 from_).wf = true) (ht : (Lit.int .i64 to).wf = true) (hn : (Lit.int .u64 n).wf = true) (hT : Tab w) (h1 : 1 ≤ to) (h8 : to ≤ 8) :
    Calls Tryd.prog 36 #[.int .i64 from_, .int .i64 to, .int .u64 n] w fun e w' => e = .returned (.int .u64 (wordZ (inZ to (valZ from_ n)))) ∧ w = w' := by
  have HE := Lib.hid (ends_any to w ht hT h1 h8)
  clear hT
  obtain ⟨n0, n1⟩ := u64_range hn
  obtain ⟨l0, l1⟩ := lo_range to
  obtain ⟨g0, g1⟩ := hi_range to
  have hs := signed_any from_ w hf
  by_cases hneg : 5 ≤ from_ ∧ from_ ≤ 8 ∧ 9223372036854775808 ≤ n
  · have e : sgn from_ = true := by unfold sgn; simp; omega
    rw [e] at hs
    have HS := Lib.hid hs
    clear hs e
    have e1 : wrap64 n = n - 18446744073709551616 := by unfold wrap64; omega
    have e2 : wrap64 (wordZ (loZ to)) = loZ to := by unfold wrap64 wordZ; omega
    have ev : valZ from_ n = n - 18446744073709551616 := by unfold valZ; rw [if_pos hneg]
    have er : wordZ (inZ to (valZ from_ n)) = (if loZ to > n - 18446744073709551616 then loZ to else n - 18446744073709551616) % 18446744073709551616 := by
      rw [ev]; unfold inZ wordZ
      by_cases hlt : n - 18446744073709551616 < loZ to
      · rw [if_pos hlt, if_pos hlt]
      · rw [if_neg hlt, if_neg (by omega), if_neg (by omega)]
    rw [er]
    clear er ev
    generalize wordZ (loZ to) = L at *
    generalize wordZ (hiZ to) = H at *
    generalize hm : n - 18446744073709551616 = m at *
    have hm0 : m < 0 := by omega
    clear hm
    go_enter Tryd.func36, Tryd.ntmps36
    go_wp2_with (first
      | (go_at_call 48; refine HE.out.mono ?_; rintro e w' ⟨rfl, rfl⟩)
      | (go_at_call 16; refine HS.out.mono ?_; rintro e w' ⟨rfl, rfl⟩))
    all_goals go_ret
    all_goals exact ⟨by simp [IntKind.wrap_u64], rfl⟩
  · have ev : valZ from_ n = n := by unfold valZ; rw [if_neg hneg]
    have er : wordZ (inZ to (valZ from_ n)) = (if hiZ to < n then hiZ to else n) := by
      rw [ev]; unfold inZ wordZ
      rw [if_neg (by omega)]
      split <;> omega
    have eh : wordZ (hiZ to) = hiZ to := by unfold wordZ; omega
    rw [er]
    rw [eh] at HE
    clear er ev eh
    generalize wordZ (loZ to) = L at *
    generalize hiZ to = H at *
    by_cases hsg : sgn from_ = true
    · rw [hsg] at hs
      have HS := Lib.hid hs
      have e1 : wrap64 n = n := by
        unfold sgn at hsg
        simp at hsg
        unfold wrap64; omega
      clear hs hsg hneg
      go_enter Tryd.func36, Tryd.ntmps36
      go_wp2_with (first
        | (go_at_call 48; refine HE.out.mono ?_; rintro e w' ⟨rfl, rfl⟩)
        | (go_at_call 16; refine HS.out.mono ?_; rintro e w' ⟨rfl, rfl⟩))
      all_goals go_ret
      all_goals exact ⟨rfl, rfl⟩
    · rw [Bool.not_eq_true] at hsg
      rw [hsg] at hs
      have HS := Lib.hid hs
      clear hs hsg hneg
      go_enter Tryd.func36, Tryd.ntmps36
      go_wp2_with (first
        | (go_at_call 48; refine HE.out.mono ?_; rintro e w' ⟨rfl, rfl⟩)
        | (go_at_call 16; refine HS.out.mono ?_; rintro e w' ⟨rfl, rfl⟩))
      all_goals go_ret
      all_goals exact ⟨rfl, rfl⟩

/-- What becomes of a word as another kind. -/
def convS (from_ to n : Int) : Int :=
  if wid from_ = 0 ∨ wid to = 0 then 0
  else if from_ = to then clipS from_ n
  else if to = 9 then (Flt.fl (valZ from_ (clipS from_ n)) : Int)
  else if from_ = 9 then (if Flt.nanB n.toNat then 0 else wordZ (inZ to (Flt.truncZ n.toNat)))
  else wordZ (inZ to (valZ from_ (clipS from_ n)))

theorem wid_zero {k : Int} : wid k = 0 ↔ k < 1 ∨ 9 < k := by
  unfold wid; (repeat' split) <;> omega
theorem clip9 (n : Int) : clipS 9 n = n := by simp [clipS]
theorem wf_u64 {n : Int} (h : 0 ≤ n) (h' : n < 18446744073709551616) : (Lit.int .u64 n).wf = true := by
  simp [Lit.wf, IntKind.min, IntKind.max, IntKind.bits, IntKind.signed]; omega
theorem val_range {k n : Int} (h : 0 ≤ n) (h' : n < 18446744073709551616) : -18446744073709551616 < valZ k n ∧ valZ k n < 18446744073709551616 := by
  unfold valZ; split <;> omega

set_option maxHeartbeats 1600000 in
theorem convert_any (from_ to n : Int) (w : World) (hf : (Lit.int .i64 from_).wf = true) (ht : (Lit.int .i64 to).wf = true) (hn : (Lit.int .u64 n).wf = true) (hT : Tab w) :
    Calls Tryd.prog 22 #[.int .i64 from_, .int .i64 to, .int .u64 n] w fun e w' => e = .returned (.int .u64 (convS from_ to n)) ∧ w = w' := by
  have HC := Lib.hid (clip_any from_ n w hf hn hT)
  have HWf := Lib.hid (width_any from_ w hf hT)
  have HWt := Lib.hid (width_any to w ht hT)
  obtain ⟨n0, n1⟩ := u64_range hn
  obtain ⟨c0, c1⟩ := clipS_range from_ n n0 n1
  by_cases hz1 : wid from_ = 0
  · have er : convS from_ to n = 0 := by unfold convS; rw [if_pos (Or.inl hz1)]
    rw [er]; clear er
    clear hT
    generalize clipS from_ n = x at *
    generalize wid from_ = a at *
    generalize wid to = b at *
    subst hz1
    go_enter Tryd.func22, Tryd.ntmps22
    go_wp2_with (first
      | (go_at_call 18; refine HC.out.mono ?_; rintro e w' ⟨rfl, rfl⟩)
      | (go_at_call 14; with_reducible refine HWf.out.mono ?_; rintro e w' ⟨rfl, rfl⟩)
      | (go_at_call 14; with_reducible refine HWt.out.mono ?_; rintro e w' ⟨rfl, rfl⟩))
    go_ret
    exact ⟨rfl, rfl⟩
  by_cases hz2 : wid to = 0
  · have er : convS from_ to n = 0 := by unfold convS; rw [if_pos (Or.inr hz2)]
    rw [er]; clear er
    clear hT
    generalize clipS from_ n = x at *
    generalize wid from_ = a at *
    generalize wid to = b at *
    have ha0 : (a == 0) = false := by simpa using hz1
    subst hz2
    go_enter Tryd.func22, Tryd.ntmps22
    go_wp2_with (first
      | (go_at_call 18; refine HC.out.mono ?_; rintro e w' ⟨rfl, rfl⟩)
      | (go_at_call 14; with_reducible refine HWf.out.mono ?_; rintro e w' ⟨rfl, rfl⟩)
      | (go_at_call 14; with_reducible refine HWt.out.mono ?_; rintro e w' ⟨rfl, rfl⟩))
    go_ret
    exact ⟨rfl, rfl⟩
  have k1 : ¬ (from_ < 1 ∨ 9 < from_) := fun h => hz1 (wid_zero.2 h)
  have k2 : ¬ (to < 1 ∨ 9 < to) := fun h => hz2 (wid_zero.2 h)
  have hne : ¬ (wid from_ = 0 ∨ wid to = 0) := by omega
  by_cases heq : from_ = to
  · have er : convS from_ to n = clipS from_ n := by unfold convS; rw [if_neg hne, if_pos heq]
    rw [er]; clear er
    subst heq
    clear hT hne k1 k2 hz2 HWt
    generalize clipS from_ n = x at *
    generalize wid from_ = a at *
    have ha0 : (a == 0) = false := by simpa using hz1
    go_enter Tryd.func22, Tryd.ntmps22
    go_wp2_with (first
      | (go_at_call 18; refine HC.out.mono ?_; rintro e w' ⟨rfl, rfl⟩)
      | (go_at_call 14; with_reducible refine HWf.out.mono ?_; rintro e w' ⟨rfl, rfl⟩))
    go_ret
    exact ⟨rfl, rfl⟩
  have he0 : (from_ == to) = false := by simpa using heq
  by_cases ht9 : to = 9
  · have er : convS from_ to n = (Flt.fl (valZ from_ (clipS from_ n)) : Int) := by unfold convS; rw [if_neg hne, if_neg heq, if_pos ht9]
    rw [er]; clear er
    have HP := Lib.hid (withpt_any from_ (clipS from_ n) w hf (wf_u64 c0 c1))
    subst ht9
    clear hT hne k1 k2
    generalize Flt.fl (valZ from_ (clipS from_ n)) = f at *
    generalize clipS from_ n = x at *
    generalize wid from_ = a at *
    generalize wid 9 = b at *
    have ha0 : (a == 0) = false := by simpa using hz1
    have hb0 : (b == 0) = false := by simpa using hz2
    go_enter Tryd.func22, Tryd.ntmps22
    go_wp2_with (first
      | (go_at_call 18; refine HC.out.mono ?_; rintro e w' ⟨rfl, rfl⟩)
      | (go_at_call 33; refine HP.out.mono ?_; rintro e w' ⟨rfl, rfl⟩)
      | (go_at_call 14; with_reducible refine HWf.out.mono ?_; rintro e w' ⟨rfl, rfl⟩)
      | (go_at_call 14; with_reducible refine HWt.out.mono ?_; rintro e w' ⟨rfl, rfl⟩))
    go_ret
    exact ⟨rfl, rfl⟩
  have ht0 : (to == 9) = false := by simpa using ht9
  by_cases hf9 : from_ = 9
  · have er : convS from_ to n = (if Flt.nanB n.toNat then 0 else wordZ (inZ to (Flt.truncZ n.toNat))) := by unfold convS; rw [if_neg hne, if_neg heq, if_neg ht9, if_pos hf9]
    rw [er]; clear er
    subst hf9
    have HP := Lib.hid (without_any to n.toNat w hT (by omega) (by omega) (by omega))
    rw [clip9] at HC
    clear hT hne k1 k2 c0 c1
    generalize (if Flt.nanB n.toNat then 0 else wordZ (inZ to (Flt.truncZ n.toNat))) = f at *
    generalize wid 9 = a at *
    generalize wid to = b at *
    have ha0 : (a == 0) = false := by simpa using hz1
    have hb0 : (b == 0) = false := by simpa using hz2
    go_enter Tryd.func22, Tryd.ntmps22
    go_wp2_with (first
      | (go_at_call 18; refine HC.out.mono ?_; rintro e w' ⟨rfl, rfl⟩)
      | (go_at_call 34; refine HP.out.mono ?_; rintro e w' ⟨rfl, rfl⟩)
      | (go_at_call 14; with_reducible refine HWf.out.mono ?_; rintro e w' ⟨rfl, rfl⟩)
      | (go_at_call 14; with_reducible refine HWt.out.mono ?_; rintro e w' ⟨rfl, rfl⟩))
    go_ret
    exact ⟨rfl, rfl⟩
  · have hf0 : (from_ == 9) = false := by simpa using hf9
    have er : convS from_ to n = wordZ (inZ to (valZ from_ (clipS from_ n))) := by unfold convS; rw [if_neg hne, if_neg heq, if_neg ht9, if_neg hf9]
    rw [er]; clear er
    have HP := Lib.hid (nearest_any from_ to (clipS from_ n) w hf ht (wf_u64 c0 c1) hT (by omega) (by omega))
    clear hT hne k1 k2
    generalize wordZ (inZ to (valZ from_ (clipS from_ n))) = f at *
    generalize clipS from_ n = x at *
    generalize wid from_ = a at *
    generalize wid to = b at *
    have ha0 : (a == 0) = false := by simpa using hz1
    have hb0 : (b == 0) = false := by simpa using hz2
    go_enter Tryd.func22, Tryd.ntmps22
    go_wp2_with (first
      | (go_at_call 18; refine HC.out.mono ?_; rintro e w' ⟨rfl, rfl⟩)
      | (go_at_call 36; refine HP.out.mono ?_; rintro e w' ⟨rfl, rfl⟩)
      | (go_at_call 14; with_reducible refine HWf.out.mono ?_; rintro e w' ⟨rfl, rfl⟩)
      | (go_at_call 14; with_reducible refine HWt.out.mono ?_; rintro e w' ⟨rfl, rfl⟩))
    go_ret
    exact ⟨rfl, rfl⟩
end Go.Proofs.YtgiidhmjkkgkaaaDoor
