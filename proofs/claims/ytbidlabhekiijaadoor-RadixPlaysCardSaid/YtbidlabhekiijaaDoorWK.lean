/- What was put is read; a part of a page that was set. -/
import Derived.Test.YtbidlabhekiijaaDoorWJ
namespace Go.Proofs.YtbidlabhekiijaaDoor
open Go.RowKit
set_option linter.unusedVariables false
set_option linter.unusedSimpArgs false

theorem getL_putL2 : ∀ W x, getL (putL x W) = x % 256 ^ W
  | 0, x => by simp [putL, getL, Nat.mod_one]
  | W + 1, x => by
    rw [putL, getL, getL_putL2 W (x / 256), Nat.pow_succ, Nat.mul_comm (256 ^ W) 256, Nat.mod_mul]
    simp

/-- What was put is read. -/
theorem read_put {k n : Int} (h1 : 1 ≤ k) (h9 : k ≤ 9) (n0 : 0 ≤ n) (n1 : n < 18446744073709551616) :
    readV k (mkb (putL n.toNat (wid k).toNat)) = clipS k n ∧ readE k (mkb (putL n.toNat (wid k).toNat)) = 0 := by
  have hz : ¬ wid k = 0 := by rw [wid_zero]; omega
  have hr := wid_range k
  have hs : ((mkb (putL n.toNat (wid k).toNat)).size : Int) = wid k := by rw [mkb_size, putL_length]; omega
  have hg : getN (mkb (putL n.toNat (wid k).toNat)) 0 (wid k) = ((n.toNat % 256 ^ (wid k).toNat : Nat) : Int) := by
    unfold getN
    have hh : hol (mkb (putL n.toNat (wid k).toNat)).size 0 (wid k) = true := by rw [hol_iff]; omega
    rw [if_pos hh]
    have hp : partL (mkb (putL n.toNat (wid k).toNat)) (0 : Int).toNat (wid k).toNat = putL n.toNat (wid k).toNat := by
      unfold partL
      rw [mkb_data]
      simp [List.take_of_length_le, putL_length]
    rw [hp, getL_putL2]
  unfold readV readE
  rw [if_neg hz, if_neg (by omega), if_neg hz, if_neg (by omega), hg]
  refine ⟨?_, rfl⟩
  rcases kinds k with rfl | rfl | rfl | rfl | rfl | rfl | rfl | rfl | rfl | hout
  case inr.inr.inr.inr.inr.inr.inr.inr.inr => omega
  all_goals
    simp only [clipS, wid]
    simp
  all_goals (try (repeat' split)) <;> omega
end Go.Proofs.YtbidlabhekiijaaDoor
