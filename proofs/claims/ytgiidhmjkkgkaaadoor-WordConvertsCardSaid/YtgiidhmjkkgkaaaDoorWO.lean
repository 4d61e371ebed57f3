/- The order of words, as numbers. -/
import Derived.Test.YtgiidhmjkkgkaaaDoorWL
import Derived.Test.YtgiidhmjkkgkaaaDoorBits
namespace Go.Proofs.YtgiidhmjkkgkaaaDoor
open Go.RowKit
set_option linter.unusedVariables false
set_option linter.unusedSimpArgs false

/-- The place of a clipped word in its kind's order. -/
def rk (k x : Int) : Int := if k = 9 then Flt.rz x.toNat else valZ k x
def cmp3 (u v : Int) : Int := if u < v then -1 else if v < u then 1 else 0

theorem less_rk {k a b : Int} (a0 : 0 ≤ a) (a1 : a < 18446744073709551616) (b0 : 0 ≤ b) (b1 : b < 18446744073709551616) (hn : ¬ (k = 9 ∧ (Flt.nanB a.toNat = true ∨ Flt.nanB b.toNat = true))) :
    lessS k a b = decide (rk k a < rk k b) := by
  unfold lessS rk
  by_cases h9 : k = 9
  · rw [if_pos h9, if_pos h9, if_pos h9]
    have n1 : Flt.nanB a.toNat = false := by
      cases h : Flt.nanB a.toNat
      · rfl
      · exact absurd ⟨h9, Or.inl h⟩ hn
    have n2 : Flt.nanB b.toNat = false := by
      cases h : Flt.nanB b.toNat
      · rfl
      · exact absurd ⟨h9, Or.inr h⟩ hn
    have e := Flt.order_eq (x := a.toNat) (y := b.toNat) (by omega) (by omega)
    rw [n1, n2] at e
    have e' : FloatKind.f64.format.order a.toNat b.toNat = some (compare (Flt.rz a.toNat) (Flt.rz b.toNat)) := by
      simp only [Bool.or_self, Bool.false_eq_true, if_false] at e
      exact e
    rw [e']
    simp only [compare, compareOfLessAndEq]
    by_cases h1 : Flt.rz a.toNat < Flt.rz b.toNat
    · simp [h1]
    · by_cases h2 : Flt.rz a.toNat = Flt.rz b.toNat <;> simp [h1, h2]
  · rw [if_neg h9, if_neg h9, if_neg h9]
    unfold sgn valZ wrap64
    by_cases hs : 5 ≤ k ∧ k ≤ 8
    · simp only [hs, decide_true, Bool.and_self, if_true, true_and]
      rw [decide_eq_decide]
      split <;> split <;> omega
    · have : ¬ ((decide (5 ≤ k) && decide (k ≤ 8)) = true) := by simp; omega
      rw [if_neg this, if_neg (by omega), if_neg (by omega)]

theorem cmp_rk {k a b : Int} (a0 : 0 ≤ a) (a1 : a < 18446744073709551616) (b0 : 0 ≤ b) (b1 : b < 18446744073709551616) :
    cmpS k a b = if k = 9 ∧ (Flt.nanB a.toNat = true ∨ Flt.nanB b.toNat = true) then 2 else cmp3 (rk k (clipS k a)) (rk k (clipS k b)) := by
  unfold cmpS
  by_cases hn : k = 9 ∧ (Flt.nanB a.toNat = true ∨ Flt.nanB b.toNat = true)
  · rw [if_pos hn, if_pos hn]
  · rw [if_neg hn, if_neg hn]
    obtain ⟨x0, x1⟩ := clipS_range k a a0 a1
    obtain ⟨y0, y1⟩ := clipS_range k b b0 b1
    have hn1 : ¬ (k = 9 ∧ (Flt.nanB (clipS k a).toNat = true ∨ Flt.nanB (clipS k b).toNat = true)) := by
      intro ⟨h9, h⟩
      rw [clip_nine h9, clip_nine h9] at h
      exact hn ⟨h9, h⟩
    have hn2 : ¬ (k = 9 ∧ (Flt.nanB (clipS k b).toNat = true ∨ Flt.nanB (clipS k a).toNat = true)) := fun ⟨h9, h⟩ => hn1 ⟨h9, h.symm⟩
    rw [less_rk x0 x1 y0 y1 hn1, less_rk y0 y1 x0 x1 hn2]
    unfold cmp3
    simp only [decide_eq_true_eq]

/-- Where two words are the same, they are, or are zeros. -/
theorem rk_same {k x y : Int} (x0 : 0 ≤ x) (x1 : x < 18446744073709551616) (y0 : 0 ≤ y) (y1 : y < 18446744073709551616) (h : rk k x = rk k y) :
    x = y ∨ (k = 9 ∧ ((x = 0 ∧ y = 9223372036854775808) ∨ (x = 9223372036854775808 ∧ y = 0))) := by
  unfold rk at h
  by_cases h9 : k = 9
  · rw [if_pos h9, if_pos h9] at h
    unfold Flt.rz at h
    split at h <;> split at h <;> omega
  · rw [if_neg h9, if_neg h9] at h
    unfold valZ at h
    split at h <;> split at h <;> omega

theorem or_same {x : Int} (x0 : 0 ≤ x) (x1 : x < 18446744073709551616) : bits .or .u64 x x = x := by
  obtain ⟨X, rfl⟩ : ∃ X : Nat, x = X := ⟨x.toNat, by omega⟩
  rw [bits_or_u64_nat X X (by omega) (by omega), Nat.or_self]
theorem bits_and_u64_nat (a b : Nat) (ha : a < 18446744073709551616) (hb : b < 18446744073709551616) :
    bits .and .u64 (a : Int) (b : Int) = ((a &&& b : Nat) : Int) := by
  have hx : a &&& b ≤ a := Nat.and_le_left
  have h1 : (BitVec.ofInt 64 (a : Int)).toNat = a := by
    rw [BitVec.ofInt_natCast, BitVec.toNat_ofNat]; exact Nat.mod_eq_of_lt (by omega)
  have h2 : (BitVec.ofInt 64 (b : Int)).toNat = b := by
    rw [BitVec.ofInt_natCast, BitVec.toNat_ofNat]; exact Nat.mod_eq_of_lt (by omega)
  show IntKind.u64.wrap ((BitVec.ofInt 64 (a : Int) &&& BitVec.ofInt 64 (b : Int)).toNat : Int) = _
  rw [BitVec.toNat_and, h1, h2, IntKind.wrap_u64]
  omega
theorem and_same {x : Int} (x0 : 0 ≤ x) (x1 : x < 18446744073709551616) : bits .and .u64 x x = x := by
  obtain ⟨X, rfl⟩ : ∃ X : Nat, x = X := ⟨x.toNat, by omega⟩
  rw [bits_and_u64_nat X X (by omega) (by omega), Nat.and_self]

/-- What the least and the greatest are. -/
theorem least_is {k a b : Int} (a0 : 0 ≤ a) (a1 : a < 18446744073709551616) (b0 : 0 ≤ b) (b1 : b < 18446744073709551616) :
    leastS k a b = (if k = 9 ∧ (Flt.nanB a.toNat = true ∨ Flt.nanB b.toNat = true) then 9221120237041090561
      else if rk k (clipS k a) < rk k (clipS k b) then clipS k a else if rk k (clipS k b) < rk k (clipS k a) then clipS k b
      else if clipS k a = clipS k b then clipS k a else 9223372036854775808) ∧
    greatS k a b = (if k = 9 ∧ (Flt.nanB a.toNat = true ∨ Flt.nanB b.toNat = true) then 9221120237041090561
      else if rk k (clipS k a) < rk k (clipS k b) then clipS k b else if rk k (clipS k b) < rk k (clipS k a) then clipS k a
      else if clipS k a = clipS k b then clipS k a else 0) := by
  unfold leastS greatS
  rw [cmp_rk a0 a1 b0 b1]
  obtain ⟨x0, x1⟩ := clipS_range k a a0 a1
  obtain ⟨y0, y1⟩ := clipS_range k b b0 b1
  have hs := rk_same (k := k) x0 x1 y0 y1
  by_cases hn : k = 9 ∧ (Flt.nanB a.toNat = true ∨ Flt.nanB b.toNat = true)
  · simp only [if_pos hn]
    simp [leastC, greatC]
  · simp only [if_neg hn]
    generalize clipS k a = x at *
    generalize clipS k b = y at *
    unfold cmp3
    by_cases h1 : rk k x < rk k y
    · simp only [if_pos h1]; simp [leastC, greatC]
    · simp only [if_neg h1]
      by_cases h2 : rk k y < rk k x
      · simp only [if_pos h2]; simp [leastC, greatC]
      · simp only [if_neg h2]
        rcases hs (by omega) with rfl | ⟨_, ⟨rfl, rfl⟩ | ⟨rfl, rfl⟩⟩
        · simp [leastC, greatC, or_same x0 x1, and_same x0 x1]
        · constructor <;> decide +kernel
        · constructor <;> decide +kernel
end Go.Proofs.YtgiidhmjkkgkaaaDoor
