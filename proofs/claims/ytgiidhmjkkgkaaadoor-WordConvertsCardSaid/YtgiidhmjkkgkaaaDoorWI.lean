/- Package word: Least, Greatest, Bytes, Read. -/
import Derived.Test.YtgiidhmjkkgkaaaDoorWH
import Derived.Test.YtgiidhmjkkgkaaaDoorOctC
import Derived.Test.YtgiidhmjkkgkaaaDoorOctD
namespace Go.Proofs.YtgiidhmjkkgkaaaDoor
open Go.RowKit
set_option linter.unusedVariables false
set_option linter.unusedSimpArgs false

theorem clip_clip {k n : Int} (h : 0 ≤ n) (h' : n < 18446744073709551616) : clipS k (clipS k n) = clipS k n := by
  rcases kinds k with rfl | rfl | rfl | rfl | rfl | rfl | rfl | rfl | rfl | hout
  case inr.inr.inr.inr.inr.inr.inr.inr.inr => unfold clipS; (repeat rw [if_neg (by omega)])
  all_goals
    simp only [clipS]
    simp
  all_goals (repeat' split) <;> omega

theorem clip_nine {k n : Int} (h9 : k = 9) : clipS k n = n := by subst h9; simp [clipS]

theorem cmp_clip {k a b : Int} (a0 : 0 ≤ a) (a1 : a < 18446744073709551616) (b0 : 0 ≤ b) (b1 : b < 18446744073709551616) : cmpS k (clipS k a) (clipS k b) = cmpS k a b := by
  unfold cmpS
  rw [clip_clip a0 a1, clip_clip b0 b1]
  by_cases h9 : k = 9
  · rw [clip_nine h9, clip_nine h9]
  · simp [h9]

def leastC (x y c : Int) : Int := if c = -1 then x else if c = 1 then y else if c = 0 then bits .or .u64 x y else 9221120237041090561
def greatC (x y c : Int) : Int := if c = -1 then y else if c = 1 then x else if c = 0 then bits .and .u64 x y else 9221120237041090561
/-- The least and the greatest of two words. -/
def leastS (k a b : Int) : Int := leastC (clipS k a) (clipS k b) (cmpS k a b)
def greatS (k a b : Int) : Int := greatC (clipS k a) (clipS k b) (cmpS k a b)

set_option maxHeartbeats 1600000 in
theorem least_walk (k a b x y c : Int) (w : World) (hT : Tab w)
    (HC1 : Hid (∀ w, Tab w → Calls Tryd.prog 18 #[.int .i64 k, .int .u64 a] w fun e w' => e = .returned (.int .u64 x) ∧ w = w'))
    (HC2 : Hid (∀ w, Tab w → Calls Tryd.prog 18 #[.int .i64 k, .int .u64 b] w fun e w' => e = .returned (.int .u64 y) ∧ w = w'))
    (HK : Hid (∀ w, Tab w → Calls Tryd.prog 24 #[.int .i64 k, .int .u64 x, .int .u64 y] w fun e w' => e = .returned (.int .i64 c) ∧ Below w.heap.size w w')) :
    Calls Tryd.prog 26 #[.int .i64 k, .int .u64 a, .int .u64 b] w fun e w' => e = .returned (.int .u64 (leastC x y c)) ∧ Below w.heap.size w w' := by
  have hB := Below.refl w.heap.size w
  by_cases h0 : c = -1
  · subst h0
    have e : leastC x y (-1) = x := by simp [leastC]
    rw [e]; clear e
    go_enter Tryd.func26, Tryd.ntmps26
    go_wp2_with (first
        | (go_at_call 18; with_reducible refine (HC1.out _ hT).mono ?_; rintro e w' ⟨rfl, rfl⟩)
        | (go_at_call 18; with_reducible refine (HC2.out _ hT).mono ?_; rintro e w' ⟨rfl, rfl⟩)
        | (go_at_call 24; with_reducible refine (HK.out _ hT).mono ?_; rintro e w' ⟨rfl, hb⟩; replace hB := hB.trans hb))
    go_ret
    exact ⟨rfl, hB⟩
  by_cases h1 : c = 1
  · subst h1
    have e : leastC x y (1) = y := by simp [leastC]
    rw [e]; clear e
    go_enter Tryd.func26, Tryd.ntmps26
    go_wp2_with (first
        | (go_at_call 18; with_reducible refine (HC1.out _ hT).mono ?_; rintro e w' ⟨rfl, rfl⟩)
        | (go_at_call 18; with_reducible refine (HC2.out _ hT).mono ?_; rintro e w' ⟨rfl, rfl⟩)
        | (go_at_call 24; with_reducible refine (HK.out _ hT).mono ?_; rintro e w' ⟨rfl, hb⟩; replace hB := hB.trans hb))
    go_ret
    exact ⟨rfl, hB⟩
  by_cases h2 : c = 0
  · subst h2
    have e : leastC x y (0) = bits .or .u64 x y := by simp [leastC]
    rw [e]; clear e
    go_enter Tryd.func26, Tryd.ntmps26
    go_wp2_with (first
        | (go_at_call 18; with_reducible refine (HC1.out _ hT).mono ?_; rintro e w' ⟨rfl, rfl⟩)
        | (go_at_call 18; with_reducible refine (HC2.out _ hT).mono ?_; rintro e w' ⟨rfl, rfl⟩)
        | (go_at_call 24; with_reducible refine (HK.out _ hT).mono ?_; rintro e w' ⟨rfl, hb⟩; replace hB := hB.trans hb))
    go_ret
    exact ⟨rfl, hB⟩
  have e : leastC x y c = 9221120237041090561 := by simp [leastC, h0, h1, h2]
  rw [e]; clear e
  have g0 : (c == -1) = false := by simpa using h0
  have g1 : (c == 1) = false := by simpa using h1
  have g2 : (c == 0) = false := by simpa using h2
  go_enter Tryd.func26, Tryd.ntmps26
  go_wp2_with (first
        | (go_at_call 18; with_reducible refine (HC1.out _ hT).mono ?_; rintro e w' ⟨rfl, rfl⟩)
        | (go_at_call 18; with_reducible refine (HC2.out _ hT).mono ?_; rintro e w' ⟨rfl, rfl⟩)
        | (go_at_call 24; with_reducible refine (HK.out _ hT).mono ?_; rintro e w' ⟨rfl, hb⟩; replace hB := hB.trans hb))
  go_ret
  exact ⟨rfl, hB⟩

theorem least_any (k a b : Int) (w : World) (hk : (Lit.int .i64 k).wf = true) (ha : (Lit.int .u64 a).wf = true) (hb : (Lit.int .u64 b).wf = true) (hT : Tab w) :
    Calls Tryd.prog 26 #[.int .i64 k, .int .u64 a, .int .u64 b] w fun e w' => e = .returned (.int .u64 (leastS k a b)) ∧ Below w.heap.size w w' := by
  obtain ⟨a0, a1⟩ := u64_range ha
  obtain ⟨b0, b1⟩ := u64_range hb
  obtain ⟨x0, x1⟩ := clipS_range k a a0 a1
  obtain ⟨y0, y1⟩ := clipS_range k b b0 b1
  have HC1 := Lib.hid (fun w hT => clip_any k a w hk ha hT)
  have HC2 := Lib.hid (fun w hT => clip_any k b w hk hb hT)
  have HK := Lib.hid (fun w hT => compare_any k (clipS k a) (clipS k b) w hk (wf_u64 x0 x1) (wf_u64 y0 y1) hT)
  simp only [cmp_clip a0 a1 b0 b1] at HK
  exact least_walk k a b _ _ _ w hT HC1 HC2 HK

set_option maxHeartbeats 1600000 in
theorem great_walk (k a b x y c : Int) (w : World) (hT : Tab w)
    (HC1 : Hid (∀ w, Tab w → Calls Tryd.prog 18 #[.int .i64 k, .int .u64 a] w fun e w' => e = .returned (.int .u64 x) ∧ w = w'))
    (HC2 : Hid (∀ w, Tab w → Calls Tryd.prog 18 #[.int .i64 k, .int .u64 b] w fun e w' => e = .returned (.int .u64 y) ∧ w = w'))
    (HK : Hid (∀ w, Tab w → Calls Tryd.prog 24 #[.int .i64 k, .int .u64 x, .int .u64 y] w fun e w' => e = .returned (.int .i64 c) ∧ Below w.heap.size w w')) :
    Calls Tryd.prog 28 #[.int .i64 k, .int .u64 a, .int .u64 b] w fun e w' => e = .returned (.int .u64 (greatC x y c)) ∧ Below w.heap.size w w' := by
  have hB := Below.refl w.heap.size w
  by_cases h0 : c = -1
  · subst h0
    have e : greatC x y (-1) = y := by simp [greatC]
    rw [e]; clear e
    go_enter Tryd.func28, Tryd.ntmps28
    go_wp2_with (first
        | (go_at_call 18; with_reducible refine (HC1.out _ hT).mono ?_; rintro e w' ⟨rfl, rfl⟩)
        | (go_at_call 18; with_reducible refine (HC2.out _ hT).mono ?_; rintro e w' ⟨rfl, rfl⟩)
        | (go_at_call 24; with_reducible refine (HK.out _ hT).mono ?_; rintro e w' ⟨rfl, hb⟩; replace hB := hB.trans hb))
    go_ret
    exact ⟨rfl, hB⟩
  by_cases h1 : c = 1
  · subst h1
    have e : greatC x y (1) = x := by simp [greatC]
    rw [e]; clear e
    go_enter Tryd.func28, Tryd.ntmps28
    go_wp2_with (first
        | (go_at_call 18; with_reducible refine (HC1.out _ hT).mono ?_; rintro e w' ⟨rfl, rfl⟩)
        | (go_at_call 18; with_reducible refine (HC2.out _ hT).mono ?_; rintro e w' ⟨rfl, rfl⟩)
        | (go_at_call 24; with_reducible refine (HK.out _ hT).mono ?_; rintro e w' ⟨rfl, hb⟩; replace hB := hB.trans hb))
    go_ret
    exact ⟨rfl, hB⟩
  by_cases h2 : c = 0
  · subst h2
    have e : greatC x y (0) = bits .and .u64 x y := by simp [greatC]
    rw [e]; clear e
    go_enter Tryd.func28, Tryd.ntmps28
    go_wp2_with (first
        | (go_at_call 18; with_reducible refine (HC1.out _ hT).mono ?_; rintro e w' ⟨rfl, rfl⟩)
        | (go_at_call 18; with_reducible refine (HC2.out _ hT).mono ?_; rintro e w' ⟨rfl, rfl⟩)
        | (go_at_call 24; with_reducible refine (HK.out _ hT).mono ?_; rintro e w' ⟨rfl, hb⟩; replace hB := hB.trans hb))
    go_ret
    exact ⟨rfl, hB⟩
  have e : greatC x y c = 9221120237041090561 := by simp [greatC, h0, h1, h2]
  rw [e]; clear e
  have g0 : (c == -1) = false := by simpa using h0
  have g1 : (c == 1) = false := by simpa using h1
  have g2 : (c == 0) = false := by simpa using h2
  go_enter Tryd.func28, Tryd.ntmps28
  go_wp2_with (first
        | (go_at_call 18; with_reducible refine (HC1.out _ hT).mono ?_; rintro e w' ⟨rfl, rfl⟩)
        | (go_at_call 18; with_reducible refine (HC2.out _ hT).mono ?_; rintro e w' ⟨rfl, rfl⟩)
        | (go_at_call 24; with_reducible refine (HK.out _ hT).mono ?_; rintro e w' ⟨rfl, hb⟩; replace hB := hB.trans hb))
  go_ret
  exact ⟨rfl, hB⟩

theorem great_any (k a b : Int) (w : World) (hk : (Lit.int .i64 k).wf = true) (ha : (Lit.int .u64 a).wf = true) (hb : (Lit.int .u64 b).wf = true) (hT : Tab w) :
    Calls Tryd.prog 28 #[.int .i64 k, .int .u64 a, .int .u64 b] w fun e w' => e = .returned (.int .u64 (greatS k a b)) ∧ Below w.heap.size w w' := by
  obtain ⟨a0, a1⟩ := u64_range ha
  obtain ⟨b0, b1⟩ := u64_range hb
  obtain ⟨x0, x1⟩ := clipS_range k a a0 a1
  obtain ⟨y0, y1⟩ := clipS_range k b b0 b1
  have HC1 := Lib.hid (fun w hT => clip_any k a w hk ha hT)
  have HC2 := Lib.hid (fun w hT => clip_any k b w hk hb hT)
  have HK := Lib.hid (fun w hT => compare_any k (clipS k a) (clipS k b) w hk (wf_u64 x0 x1) (wf_u64 y0 y1) hT)
  simp only [cmp_clip a0 a1 b0 b1] at HK
  exact great_walk k a b _ _ _ w hT HC1 HC2 HK

theorem wid_range (k : Int) : 0 ≤ wid k ∧ wid k ≤ 8 := by unfold wid; (repeat' split) <;> omega
theorem wide_wid (k : Int) : wide (wid k) = (wid k).toNat := by have := wid_range k; unfold wide; omega
theorem wf_i64 {n : Int} (h : -9223372036854775808 ≤ n) (h' : n < 9223372036854775808) : (Lit.int .i64 n).wf = true := by
  simp [Lit.wf, IntKind.min, IntKind.max, IntKind.bits, IntKind.signed]; omega

set_option maxHeartbeats 800000 in
theorem bytes_any (k n : Int) (w : World) (hk : (Lit.int .i64 k).wf = true) (hn : (Lit.int .u64 n).wf = true) (hT : Tab w) :
    Calls Tryd.prog 20 #[.int .i64 k, .int .u64 n] w fun e w' => e = .returned (.string (mkb (putL n.toNat (wid k).toNat))) ∧ Below w.heap.size w w' := by
  have HW := Lib.hid (fun w hT => width_any k w hk hT)
  have hr := wid_range k
  have hp := fun w => put_any n (wid k) w hn (wf_i64 (by omega) (by omega))
  rw [wide_wid] at hp
  have HP := Lib.hid hp
  clear hp hr
  have hB := Below.refl w.heap.size w
  generalize mkb (putL n.toNat (wid k).toNat) = r at *
  generalize wid k = a at *
  go_enter Tryd.func20, Tryd.ntmps20
  go_wp2_with (first
    | (go_at_call 14; with_reducible refine (HW.out _ hT).mono ?_; rintro e w' ⟨rfl, rfl⟩)
    | (go_at_call 31; with_reducible refine (HP.out _).mono ?_; rintro e w' ⟨rfl, hb⟩; replace hB := hB.trans hb))
  go_ret
  exact ⟨rfl, hB⟩

/-- What is read, and its error. -/
def readV (k : Int) (s : ByteArray) : Int := if wid k = 0 then 0 else if (s.size : Int) ≠ wid k then 0 else clipS k (getN s 0 (wid k))
def readE (k : Int) (s : ByteArray) : Int := if wid k = 0 then 1 else if (s.size : Int) ≠ wid k then 10 else 0

theorem getN_range (s : ByteArray) (n : Int) (hn : 0 ≤ n) (h8 : n ≤ 8) : 0 ≤ getN s 0 n ∧ getN s 0 n < 18446744073709551616 := by
  unfold getN
  split
  · rename_i h
    have hl := (partL s (0 : Int).toNat n.toNat)
    have h2 : (partL s (0 : Int).toNat n.toNat).length ≤ 8 := by unfold partL; simp; omega
    have := getL_lt64 h2
    omega
  · omega

set_option maxHeartbeats 1600000 in
theorem read_any (k : Int) (s : ByteArray) (w : World) (hk : (Lit.int .i64 k).wf = true) (hs : s.size ≤ 281474976710656) (hT : Tab w) :
    Calls Tryd.prog 12 #[.int .i64 k, .string s] w fun e w' => e = .returned (.tuple #[.int .u64 (readV k s), .int .i64 (readE k s)]) ∧ w = w' := by
  have HW := Lib.hid (fun w hT => width_any k w hk hT)
  have hr := wid_range k
  have HG := Lib.hid (fun w => get_any s 0 (wid k) w (by decide) (wf_i64 (by omega) (by omega)) hs)
  obtain ⟨g0, g1⟩ := getN_range s (wid k) hr.1 hr.2
  have HC := Lib.hid (fun w hT => clip_any k (getN s 0 (wid k)) w hk (wf_u64 g0 g1) hT)
  by_cases hz : wid k = 0
  · have e1 : readV k s = 0 := by unfold readV; rw [if_pos hz]
    have e2 : readE k s = 1 := by unfold readE; rw [if_pos hz]
    rw [e1, e2]; clear e1 e2
    rw [hz] at HW
    clear HG HC g0 g1 hr hz
    go_enter Tryd.func12, Tryd.ntmps12
    go_wp2_with (go_at_call 14; with_reducible refine (HW.out _ hT).mono ?_; rintro e w' ⟨rfl, rfl⟩)
    go_ret2
    exact ⟨rfl, rfl⟩
  have hz0 : (wid k == 0) = false := by simpa using hz
  by_cases hl : (s.size : Int) = wid k
  · have e1 : readV k s = clipS k (getN s 0 (wid k)) := by unfold readV; rw [if_neg hz, if_neg (by omega)]
    have e2 : readE k s = 0 := by unfold readE; rw [if_neg hz, if_neg (by omega)]
    rw [e1, e2]; clear e1 e2 g0 g1
    have hl0 : ((s.size : Int) != wid k) = false := by simp [hl]
    generalize clipS k (getN s 0 (wid k)) = r at *
    generalize getN s 0 (wid k) = g at *
    generalize hol s.size 0 (wid k) = o at *
    generalize wid k = a at *
    clear hl hz
    go_enter Tryd.func12, Tryd.ntmps12
    go_wp2_with (first
      | (go_at_call 14; with_reducible refine (HW.out _ hT).mono ?_; rintro e w' ⟨rfl, rfl⟩)
      | (go_at_call 29; with_reducible refine (HG.out _).mono ?_; rintro e w' ⟨rfl, rfl⟩)
      | (go_at_call 18; with_reducible refine (HC.out _ hT).mono ?_; rintro e w' ⟨rfl, rfl⟩))
    go_ret2
    exact ⟨rfl, rfl⟩
  · have e1 : readV k s = 0 := by unfold readV; rw [if_neg hz, if_pos hl]
    have e2 : readE k s = 10 := by unfold readE; rw [if_neg hz, if_pos hl]
    rw [e1, e2]; clear e1 e2 g0 g1
    have hl0 : ((s.size : Int) != wid k) = true := by simpa using hl
    clear HG HC hr
    generalize wid k = a at *
    clear hl hz
    go_enter Tryd.func12, Tryd.ntmps12
    go_wp2_with (go_at_call 14; with_reducible refine (HW.out _ hT).mono ?_; rintro e w' ⟨rfl, rfl⟩)
    go_ret2
    exact ⟨rfl, rfl⟩
end Go.Proofs.YtgiidhmjkkgkaaaDoor
