/- Package word: Bytes, Read. -/
import Derived.Test.YtbidlabhekiijaaDoorWB
import Derived.Test.YtbidlabhekiijaaDoorOctC
import Derived.Test.YtbidlabhekiijaaDoorOctD
namespace Go.Proofs.YtbidlabhekiijaaDoor
open Go.RowKit
set_option linter.unusedVariables false
set_option linter.unusedSimpArgs false

theorem wid_range (k : Int) : 0 ≤ wid k ∧ wid k ≤ 8 := by unfold wid; (repeat' split) <;> omega
theorem wide_wid (k : Int) : wide (wid k) = (wid k).toNat := by have := wid_range k; unfold wide; omega
theorem wf_i64 {n : Int} (h : -9223372036854775808 ≤ n) (h' : n < 9223372036854775808) : (Lit.int .i64 n).wf = true := by
  simp [Lit.wf, IntKind.min, IntKind.max, IntKind.bits, IntKind.signed]; omega

set_option maxHeartbeats 800000 in
theorem bytes_any (k n : Int) (w : World) (hk : (Lit.int .i64 k).wf = true) (hn : (Lit.int .u64 n).wf = true) (hT : Tab w) :
    Calls Tryd.prog 70 #[.int .i64 k, .int .u64 n] w fun e w' => e = .returned (.string (mkb (putL n.toNat (wid k).toNat))) ∧ Below w.heap.size w w' := by
  have HW := Lib.hid (fun w hT => width_any k w hk hT)
  have hr := wid_range k
  have hp := fun w => put_any n (wid k) w hn (wf_i64 (by omega) (by omega))
  rw [wide_wid] at hp
  have HP := Lib.hid hp
  clear hp hr
  have hB := Below.refl w.heap.size w
  generalize mkb (putL n.toNat (wid k).toNat) = r at *
  generalize wid k = a at *
  go_enter Tryd.func70, Tryd.ntmps70
  go_wp2_with (first
    | (go_at_call 75; with_reducible refine (HW.out _ hT).mono ?_; rintro e w' ⟨rfl, rfl⟩)
    | (go_at_call 77; with_reducible refine (HP.out _).mono ?_; rintro e w' ⟨rfl, hb⟩; replace hB := hB.trans hb))
  go_ret
  exact ⟨rfl, hB⟩

/-- What is read, and its error. -/
def readV (k : Int) (s : ByteArray) : Int := if wid k = 0 then 0 else if (s.size : Int) ≠ wid k then 0 else clipS k (getN s 0 (wid k))
def readE (k : Int) (s : ByteArray) : Int := if wid k = 0 then 1 else if (s.size : Int) ≠ wid k then 10 else 0

theorem getN_range (s : ByteArray) (n : Int) (hn : 0 ≤ n) (h8 : n ≤ 8) : 0 ≤ getN s 0 n ∧ getN s 0 n < 18446744073709551616 := by
  unfold getN
  split
  · rename_i h
    have hl := (partL s (0 : Int).toNat n.toNat)
    have h2 : (partL s (0 : Int).toNat n.toNat).length ≤ 8 := by unfold partL; simp; omega
    have := getL_lt64 h2
    omega
  · omega

set_option maxHeartbeats 1600000 in
theorem read_any (k : Int) (s : ByteArray) (w : World) (hk : (Lit.int .i64 k).wf = true) (hs : s.size ≤ 281474976710656) (hT : Tab w) :
    Calls Tryd.prog 72 #[.int .i64 k, .string s] w fun e w' => e = .returned (.tuple #[.int .u64 (readV k s), .int .i64 (readE k s)]) ∧ w = w' := by
  have HW := Lib.hid (fun w hT => width_any k w hk hT)
  have hr := wid_range k
  have HG := Lib.hid (fun w => get_any s 0 (wid k) w (by decide) (wf_i64 (by omega) (by omega)) hs)
  obtain ⟨g0, g1⟩ := getN_range s (wid k) hr.1 hr.2
  have HC := Lib.hid (fun w hT => clip_any k (getN s 0 (wid k)) w hk (wf_u64 g0 g1) hT)
  by_cases hz : wid k = 0
  · have e1 : readV k s = 0 := by unfold readV; rw [if_pos hz]
    have e2 : readE k s = 1 := by unfold readE; rw [if_pos hz]
    rw [e1, e2]; clear e1 e2
    rw [hz] at HW
    clear HG HC g0 g1 hr hz
    go_enter Tryd.func72, Tryd.ntmps72
    go_wp2_with (go_at_call 75; with_reducible refine (HW.out _ hT).mono ?_; rintro e w' ⟨rfl, rfl⟩)
    go_ret2
    exact ⟨rfl, rfl⟩
  have hz0 : (wid k == 0) = false := by simpa using hz
  by_cases hl : (s.size : Int) = wid k
  · have e1 : readV k s = clipS k (getN s 0 (wid k)) := by unfold readV; rw [if_neg hz, if_neg (by omega)]
    have e2 : readE k s = 0 := by unfold readE; rw [if_neg hz, if_neg (by omega)]
    rw [e1, e2]; clear e1 e2 g0 g1
    have hl0 : ((s.size : Int) != wid k) = false := by simp [hl]
    generalize clipS k (getN s 0 (wid k)) = r at *
    generalize getN s 0 (wid k) = g at *
    generalize hol s.size 0 (wid k) = o at *
    generalize wid k = a at *
    clear hl hz
    go_enter Tryd.func72, Tryd.ntmps72
    go_wp2_with (first
      | (go_at_call 75; with_reducible refine (HW.out _ hT).mono ?_; rintro e w' ⟨rfl, rfl⟩)
      | (go_at_call 67; with_reducible refine (HG.out _).mono ?_; rintro e w' ⟨rfl, rfl⟩)
      | (go_at_call 78; with_reducible refine (HC.out _ hT).mono ?_; rintro e w' ⟨rfl, rfl⟩))
    go_ret2
    exact ⟨rfl, rfl⟩
  · have e1 : readV k s = 0 := by unfold readV; rw [if_neg hz, if_pos hl]
    have e2 : readE k s = 10 := by unfold readE; rw [if_neg hz, if_pos hl]
    rw [e1, e2]; clear e1 e2 g0 g1
    have hl0 : ((s.size : Int) != wid k) = true := by simpa using hl
    clear HG HC hr
    generalize wid k = a at *
    clear hl hz
    go_enter Tryd.func72, Tryd.ntmps72
    go_wp2_with (go_at_call 75; with_reducible refine (HW.out _ hT).mono ?_; rintro e w' ⟨rfl, rfl⟩)
    go_ret2
    exact ⟨rfl, rfl⟩
end Go.Proofs.YtbidlabhekiijaaDoor
