/- Layer 7: what laws with rows of ints share. -/
import Derived.Test.YtbidlabhekiijaaDoorQF
namespace Go.Proofs.YtbidlabhekiijaaDoor
open Go.RowKit Go.ChangeShapes Go.WideShapes Go.Deep
set_option linter.unusedVariables false

set_option maxRecDepth 100000 in
theorem openInts7 {H : Type} {enc : TypeId × Value → H} {w : World} {base : Nat} {spare : Nat → Bool} {held : Bool} {r : Reach} {b0 : Nat} {v : Value} {d : DataW H} {ps : List MemPlace}
    (hv : Value.okWide Tryd.prog w r b0 58 v) (h : DataW.Trod enc Tryd.prog w base spare held 58 v d ps) : ∃ A zs c, v = .slice A (List.length zs) c ∧ zs.length ≤ maxLen ∧ IntRow w A zs :=
  open_int_row Tryd.underlying58 Tryd.underlying3 (by kernel_rfl) hv h
theorem and_mask {x : Int} (k m : Nat) (hk : k < 63) (hm : 2 ^ k = m + 1) : ∃ K : Nat, bits .and .i64 x (m : Int) = (K : Int) ∧ K < m + 1 ∧ (K : Int) = x % ((m : Int) + 1) := by
  have h := i64_and_mask x k m hk hm
  have e : (2 : Int) ^ k = (m : Int) + 1 := by
    have := congrArg (fun n : Nat => (n : Int)) hm
    simpa using this
  rw [e] at h
  have h1 := Int.emod_nonneg x (show (m : Int) + 1 ≠ 0 by omega)
  have h2 := Int.emod_lt_of_pos x (show 0 < (m : Int) + 1 by omega)
  generalize x % ((m : Int) + 1) = y at *
  exact ⟨y.toNat, by rw [h]; omega, by omega, by omega⟩
theorem and_page (x : Int) : ∃ K : Nat, bits .and .i64 x 4095 = (K : Int) ∧ K < 4096 ∧ (K : Int) = x % 4096 := and_mask 12 4095 (by omega) (by decide)
/-- What Set tells of a page and an entry that may be. -/
theorem stE7_no {M : Nat → Sl} {N P : Nat} {s : Sl} (hP : P < 4096) (hs : s.may = true) (h : ¬ 4 - kn M P ≤ N - cnt7 M) : stE7 M N (P : Nat) s = 18 ∧ stM7 M N (P : Nat) s = M := by
  have e : stE7 M N (P : Nat) s = 18 := by
    unfold stE7 stE'
    rw [if_pos (by omega), if_pos hs, Int.toNat_natCast, if_neg h]
  refine ⟨e, ?_⟩
  unfold stM7 stM'
  unfold stE7 at e
  rw [if_neg (by rw [e]; decide)]
theorem spotsF_len (M : Nat → Sl) : (spotsF M).length ≤ 10000 := by
  unfold spotsF
  rw [List.length_map]
  have := lvl_len M 0 4 0 4096
  unfold pagesF
  omega
theorem out_may {n : Nat} (h : n ≤ 1048576) : (Sl.mk false false false true (n : Nat)).may = true := by
  unfold Sl.may; simp; omega
end Go.Proofs.YtbidlabhekiijaaDoor
