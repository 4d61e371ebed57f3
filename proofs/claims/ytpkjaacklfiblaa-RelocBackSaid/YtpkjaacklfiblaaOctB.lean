/- Contracts of the functions of package octet that make texts: part, Part, Fill, holds. -/
import Derived.Test.YtpkjaacklfiblaaFill
import Derived.Test.YtpkjaacklfiblaaOctA
namespace Go.Proofs.Ytpkjaacklfiblaa
open Go.RowKit
set_option linter.unusedVariables false

theorem fill_part (s : ByteArray) {a n : Nat} (h : a + n ≤ s.size) : mkb (fillL (s.extract a s.size).data.toList n) = s.extract a (a + n) := by
  rw [extract_mkb s a (a + n), Lib.extract_data]
  congr 1
  unfold fillL
  have hl : (s.data.toList.drop a).length = s.size - a := by rw [List.length_drop, len_data]
  rw [List.length_take, hl, show n - min (s.size - a) (s.size - a) = 0 by omega, List.take_take, show min n (s.size - a) = n by omega, show a + n - a = n by omega]
  simp


/-- What Part tells. -/
def partS (s : ByteArray) (a n : Int) : ByteArray := if inn a n s.size then s.extract a.toNat (a.toNat + n.toNat) else ⟨#[]⟩


/-- May a number of that width stand there? -/
def hol (l a w : Int) : Bool := decide (1 ≤ w) && decide (w ≤ 8) && inn a w l
theorem hol_iff {l a w : Int} : hol l a w = true ↔ 1 ≤ w ∧ w ≤ 8 ∧ 0 ≤ a ∧ a ≤ l ∧ w ≤ l - a := by
  unfold hol; rw [Bool.and_eq_true, Bool.and_eq_true, inn_iff]; simp; omega

set_option maxHeartbeats 400000 in
theorem holds_any (s : ByteArray) (a n : Int) (w : World) (ha : (Lit.int .i64 a).wf = true) (hn : (Lit.int .i64 n).wf = true) (hs : s.size ≤ 281474976710656) :
    Calls Try.prog 30 #[.string s, .int .i64 a, .int .i64 n] w fun e w' => e = .returned (.bool (hol s.size a n)) ∧ w = w' := by
  by_cases h1 : 1 ≤ n
  · by_cases h2 : n ≤ 8
    · have hr : hol s.size a n = inn a n s.size := by unfold hol; simp [h1, h2]
      rw [hr]; clear hr
      go_enter Try.func30, Try.ntmps30
      go_wp2_with (go_at_call 24; refine (within_any _ _ _ _ ha hn (by omega)).mono ?_; rintro e w' ⟨rfl, rfl⟩)
      go_ret
      exact ⟨rfl, rfl⟩
    · have hr : hol s.size a n = false := by unfold hol; simp [h2]
      rw [hr]; clear hr
      go_enter Try.func30, Try.ntmps30
      go_wp2_with fail
      go_ret
      exact ⟨rfl, rfl⟩
  · have hr : hol s.size a n = false := by unfold hol; simp [h1]
    rw [hr]; clear hr
    go_enter Try.func30, Try.ntmps30
    go_wp2_with fail
    go_ret
    exact ⟨rfl, rfl⟩

end Go.Proofs.Ytpkjaacklfiblaa
