/- The number with a point that is nearest to a whole number; there and back. -/
import Derived.Test.YtgiidhmjkkgkaaaDoorWF
namespace Go.Proofs.YtgiidhmjkkgkaaaDoor.Flt
set_option linter.unusedVariables false
set_option linter.unusedSimpArgs false

/-- What is kept of a whole number whose greatest digit is at place L. -/
def kept (m L : Nat) : Nat :=
  if L ≤ 52 then m * 2 ^ (52 - L)
  else m / 2 ^ (L - 52) + (if 2 ^ (L - 52) < 2 * (m % 2 ^ (L - 52)) ∨ (2 ^ (L - 52) = 2 * (m % 2 ^ (L - 52)) ∧ m / 2 ^ (L - 52) % 2 = 1) then 1 else 0)
/-- The rung nearest to a whole number. -/
def frung (m : Nat) : Nat := if m = 0 then 0 else (m.log2 + 1022) * 4503599627370496 + kept m m.log2
/-- The bits nearest to a whole number. -/
def fl (v : Int) : Nat := (if v < 0 then 9223372036854775808 else 0) + frung v.natAbs

theorem kept_range {m L : Nat} (h1 : 2 ^ L ≤ m) (h2 : m < 2 ^ (L + 1)) : 4503599627370496 ≤ kept m L ∧ kept m L ≤ 9007199254740992 := by
  unfold kept
  by_cases h : L ≤ 52
  · rw [if_pos h]
    have e1 : 2 ^ L * 2 ^ (52 - L) = 4503599627370496 := by rw [← Nat.pow_add, show L + (52 - L) = 52 by omega]
    have e2 : 2 ^ (L + 1) * 2 ^ (52 - L) = 9007199254740992 := by rw [← Nat.pow_add, show L + 1 + (52 - L) = 53 by omega]
    have a := Nat.mul_le_mul_right (2 ^ (52 - L)) h1
    have b := Nat.mul_le_mul_right (2 ^ (52 - L)) (Nat.le_of_lt h2)
    omega
  · rw [if_neg h]
    have e1 : 2 ^ L = 4503599627370496 * 2 ^ (L - 52) := by rw [show 4503599627370496 = 2 ^ 52 by rfl, ← Nat.pow_add, show 52 + (L - 52) = L by omega]
    have e2 : 2 ^ (L + 1) = 9007199254740992 * 2 ^ (L - 52) := by rw [show 9007199254740992 = 2 ^ 53 by rfl, ← Nat.pow_add, show 53 + (L - 52) = L + 1 by omega]
    have a : 4503599627370496 ≤ m / 2 ^ (L - 52) := (Nat.le_div_iff_mul_le (Nat.two_pow_pos _)).2 (by omega)
    have b : m / 2 ^ (L - 52) < 9007199254740992 := (Nat.div_lt_iff_lt_mul (Nat.two_pow_pos _)).2 (by omega)
    split <;> omega
theorem kept_strict {m L : Nat} (h1 : 2 ^ L ≤ m) (h2 : m < 2 ^ (L + 1)) (h : L ≤ 52) : kept m L < 9007199254740992 := by
  unfold kept
  rw [if_pos h]
  have e2 : 2 ^ (L + 1) * 2 ^ (52 - L) = 9007199254740992 := by rw [← Nat.pow_add, show L + 1 + (52 - L) = 53 by omega]
  have b := Nat.mul_lt_mul_of_pos_right h2 (Nat.two_pow_pos (52 - L))
  omega

theorem log2_lt64 {m : Nat} (h0 : m ≠ 0) (hm : m < 18446744073709551616) : m.log2 < 64 := (Nat.log2_lt h0).2 hm

theorem frung_le {m : Nat} (hm : m < 18446744073709551616) : frung m ≤ 4895412794951729152 := by
  unfold frung
  split
  · omega
  · rename_i h0
    have := log2_lt64 h0 hm
    have := (kept_range (Nat.log2_self_le h0) Nat.lt_log2_self).2
    omega
theorem fl_lt {v : Int} (h : -18446744073709551616 < v) (h' : v < 18446744073709551616) : fl v < 18446744073709551616 := by
  have := frung_le (m := v.natAbs) (by omega)
  unfold fl
  split <;> omega

theorem cut_even (s : Bool) (n drop : Nat) (h : drop ≤ n.log2 + 2) : Ieee.Toward.cut .even s n drop =
    n / 2 ^ drop + (if 2 ^ drop < 2 * (n % 2 ^ drop) ∨ (2 ^ drop = 2 * (n % 2 ^ drop) ∧ n / 2 ^ drop % 2 = 1) then 1 else 0) := by
  unfold Ieee.Toward.cut
  simp only [Nat.one_shiftLeft, Nat.min_eq_left h]
  congr 1
  generalize n / 2 ^ drop = q
  generalize n % 2 ^ drop = r
  generalize 2 ^ drop = p
  by_cases a : p < 2 * r <;> by_cases b : p = 2 * r <;> by_cases c : q % 2 = 1 <;> simp [a, b, c]

theorem near_eq (s : Bool) {m : Nat} (hm : m < 18446744073709551616) : Ieee.double.nearest s m 0 = (if s then 9223372036854775808 else 0) + frung m := by
  have hle := frung_le hm
  unfold Ieee.Format.nearest frung at *
  by_cases h0 : m = 0
  · rw [if_pos h0, if_pos h0]
    unfold Ieee.Format.word
    rw [dW]
    cases s <;> simp
  · rw [if_neg h0] at hle
    rw [if_neg h0, if_neg h0]
    have hL := log2_lt64 h0 hm
    simp only [dB, dI, dL]
    have e0 : Ieee.double.fractionBits = 52 := rfl
    rw [e0]
    have hlast : max ((0 : Int) + (m.log2 : Int) - ((52 : Nat) : Int)) (-1074) = (m.log2 : Int) - 52 := by omega
    rw [hlast]
    have hk : Ieee.Toward.cut .even s (m <<< ((0 : Int) - ((m.log2 : Int) - 52)).toNat) (((m.log2 : Int) - 52) - 0).toNat = kept m m.log2 := by
      unfold kept
      by_cases h : m.log2 ≤ 52
      · rw [if_pos h, show ((0 : Int) - ((m.log2 : Int) - 52)).toNat = 52 - m.log2 by omega, show (((m.log2 : Int) - 52) - 0).toNat = 0 by omega, Nat.shiftLeft_eq, cut_even _ _ _ (by omega)]
        simp [Nat.mod_one]
      · rw [if_neg h, show ((0 : Int) - ((m.log2 : Int) - 52)).toNat = 0 by omega, show (((m.log2 : Int) - 52) - 0).toNat = m.log2 - 52 by omega, Nat.shiftLeft_zero, cut_even _ _ _ (by omega)]
    rw [hk, show (((m.log2 : Int) - 52) - (-1074)).toNat = m.log2 + 1022 by omega, Nat.min_eq_left (by omega)]
    unfold Ieee.Format.word
    rw [dW]
    cases s <;> simp

theorem floatOfInt_eq {v : Int} (h : -18446744073709551616 < v) (h' : v < 18446744073709551616) : floatOfInt .f64 v = fl v := by
  unfold floatOfInt fl
  show Ieee.double.nearest (decide (v < 0)) v.natAbs 0 = _
  rw [near_eq _ (by omega)]
  by_cases hv : v < 0 <;> simp [hv]

/-- The rung of a whole number below 2^53, by its parts. -/
theorem frung_parts {m : Nat} (h0 : m ≠ 0) (hL : m.log2 ≤ 52) :
    frung m / 4503599627370496 = m.log2 + 1023 ∧ 4503599627370496 + frung m % 4503599627370496 = m * 2 ^ (52 - m.log2) := by
  obtain ⟨a, _⟩ := kept_range (Nat.log2_self_le h0) (Nat.lt_log2_self (n := m))
  have b := kept_strict (Nat.log2_self_le h0) (Nat.lt_log2_self (n := m)) hL
  have e : kept m m.log2 = m * 2 ^ (52 - m.log2) := by unfold kept; rw [if_pos hL]
  unfold frung
  rw [if_neg h0, e]
  rw [e] at a b
  generalize m * 2 ^ (52 - m.log2) = K at *
  omega
theorem tr_frung {m : Nat} (h : m ≤ 9007199254740992) : tr (frung m) = m := by
  by_cases h0 : m = 0
  · subst h0
    exact tr_none (by decide)
  by_cases hm : m = 9007199254740992
  · subst hm
    have : frung 9007199254740992 = 4845873199050653696 := by decide +kernel
    rw [this, tr_high (e := 1076) (by omega) (by omega)]
  · have hL : m.log2 ≤ 52 := by
      have := (Nat.log2_lt h0 (k := 53)).2 (by omega)
      omega
    obtain ⟨h1, h2⟩ := frung_parts h0 hL
    rw [tr_low h1 (by omega), h2, show 1075 - (m.log2 + 1023) = 52 - m.log2 by omega, Nat.mul_div_cancel _ (Nat.two_pow_pos _)]
theorem tr_half {m : Nat} (h0 : m ≠ 0) (h : m < 9007199254740992) : 4503599627370496 ≤ frung m ∧ tr (frung m - 4503599627370496) = m / 2 := by
  have hL : m.log2 ≤ 52 := by
    have := (Nat.log2_lt h0 (k := 53)).2 (by omega)
    omega
  obtain ⟨h1, h2⟩ := frung_parts h0 hL
  refine ⟨by omega, ?_⟩
  by_cases hz : m.log2 = 0
  · have : m < 2 := by have := Nat.lt_log2_self (n := m); rw [hz] at this; omega
    rw [tr_none (by omega)]
    omega
  · rw [tr_low (e := m.log2 + 1022) (by omega) (by omega), show (frung m - 4503599627370496) % 4503599627370496 = frung m % 4503599627370496 by omega, h2, show 1075 - (m.log2 + 1022) = (52 - m.log2) + 1 by omega, Nat.pow_succ, Nat.mul_comm (2 ^ (52 - m.log2)) 2, Nat.mul_div_mul_right _ _ (Nat.two_pow_pos _)]

theorem fl_zero : fl 0 = 0 := by decide
theorem fl_mod {v : Int} (h : -18446744073709551616 < v) (h' : v < 18446744073709551616) : fl v % 9223372036854775808 = frung v.natAbs := by
  have := frung_le (m := v.natAbs) (by omega)
  unfold fl
  split <;> omega
theorem fl_nan {v : Int} (h : -18446744073709551616 < v) (h' : v < 18446744073709551616) : nanB (fl v) = false := by
  have := frung_le (m := v.natAbs) (by omega)
  unfold nanB
  rw [fl_mod h h']
  simp; omega
/-- A whole number of at most 2^53 comes back. -/
theorem trunc_fl {v : Int} (h : -9007199254740992 ≤ v) (h' : v ≤ 9007199254740992) : truncZ (fl v) = v := by
  have hle := frung_le (m := v.natAbs) (by omega)
  unfold truncZ
  rw [fl_mod (by omega) (by omega), tr_frung (by omega)]
  unfold fl
  by_cases hv : v < 0
  · rw [if_pos hv, if_pos (by omega)]; omega
  · rw [if_neg hv, if_neg (by omega)]; omega
end Go.Proofs.YtgiidhmjkkgkaaaDoor.Flt
