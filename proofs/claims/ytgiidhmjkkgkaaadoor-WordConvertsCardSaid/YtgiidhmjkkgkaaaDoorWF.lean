/- Numbers with a point of 64 bits: order, cut to a whole number, nearest to a whole number; of no program. -/
import Derived.Laws.FloatArith
namespace Go.Proofs.YtgiidhmjkkgkaaaDoor.Flt
set_option linter.unusedVariables false
set_option linter.unusedSimpArgs false

/-- The value of a rung of the normal ones, in units of 2^-1075. -/
def g (r : Nat) : Nat := (4503599627370496 + r % 4503599627370496) * 2 ^ (r / 4503599627370496)

theorem g_lt {r r' : Nat} (h : r < r') : g r < g r' := by
  unfold g
  have he : r / 4503599627370496 ≤ r' / 4503599627370496 := Nat.div_le_div_right (Nat.le_of_lt h)
  rcases Nat.lt_or_eq_of_le he with hl | heq
  · calc (4503599627370496 + r % 4503599627370496) * 2 ^ (r / 4503599627370496)
        < 9007199254740992 * 2 ^ (r / 4503599627370496) := Nat.mul_lt_mul_of_pos_right (by omega) (Nat.two_pow_pos _)
      _ = 4503599627370496 * 2 ^ (r / 4503599627370496 + 1) := by rw [Nat.pow_succ]; omega
      _ ≤ 4503599627370496 * 2 ^ (r' / 4503599627370496) := Nat.mul_le_mul_left _ (Nat.pow_le_pow_right (by omega) hl)
      _ ≤ (4503599627370496 + r' % 4503599627370496) * 2 ^ (r' / 4503599627370496) := Nat.mul_le_mul_right _ (by omega)
  · rw [heq]
    exact Nat.mul_lt_mul_of_pos_right (by omega) (Nat.two_pow_pos _)
theorem g_le_iff {r r' : Nat} : g r ≤ g r' ↔ r ≤ r' := by
  constructor
  · intro h
    by_cases hr : r ≤ r'
    · exact hr
    · exact absurd (g_lt (show r' < r by omega)) (by omega)
  · intro h
    rcases Nat.lt_or_eq_of_le h with h | rfl
    · exact Nat.le_of_lt (g_lt h)
    · exact Nat.le_refl _

theorem pow_split {K e : Nat} (h : e ≤ K) : 2 ^ K = 2 ^ (K - e) * 2 ^ e := by
  rw [← Nat.pow_add]; congr 1; omega

/-- 2^1075. -/
def pw (K : Nat) : Nat := 2 ^ K
def P75 : Nat := pw 1075
theorem P75_eq {K : Nat} (h : K = 1075) : P75 = 2 ^ K := (congrArg pw h).symm
theorem P75_pos : 0 < P75 := by
  obtain ⟨K, hK⟩ : ∃ K : Nat, K = 1075 := ⟨_, rfl⟩
  rw [P75_eq hK]; exact Nat.two_pow_pos _

/-- The whole number of a rung, cut toward 0. -/
def tr (r : Nat) : Nat := g r / P75
theorem tr_ge {R X r : Nat} (h : g R = X * P75) : X ≤ tr r ↔ R ≤ r := by
  unfold tr
  rw [Nat.le_div_iff_mul_le P75_pos, ← h, g_le_iff]
theorem tr_mono {r r' : Nat} (h : r ≤ r') : tr r ≤ tr r' := Nat.div_le_div_right (g_le_iff.2 h)

/-- By the exponent. -/
theorem tr_lowK {r e K : Nat} (hK : K = 1075) (he : r / 4503599627370496 = e) (h : e ≤ K) : tr r = (4503599627370496 + r % 4503599627370496) / 2 ^ (K - e) := by
  unfold tr g
  rw [he, P75_eq hK, pow_split h, Nat.mul_div_mul_right _ _ (Nat.two_pow_pos _)]
theorem tr_highK {r e K : Nat} (hK : K = 1075) (he : r / 4503599627370496 = e) (h : K ≤ e) : tr r = (4503599627370496 + r % 4503599627370496) * 2 ^ (e - K) := by
  unfold tr g
  rw [he, P75_eq hK, pow_split h, ← Nat.mul_assoc, Nat.mul_div_cancel _ (Nat.two_pow_pos _)]
theorem tr_low {r e : Nat} (he : r / 4503599627370496 = e) (h : e ≤ 1075) : tr r = (4503599627370496 + r % 4503599627370496) / 2 ^ (1075 - e) := tr_lowK rfl he h
theorem tr_high {r e : Nat} (he : r / 4503599627370496 = e) (h : 1075 ≤ e) : tr r = (4503599627370496 + r % 4503599627370496) * 2 ^ (e - 1075) := tr_highK rfl he h
theorem tr_none {r : Nat} (h : r < 4607182418800017408) : tr r = 0 := by
  have he : r / 4503599627370496 < 1023 := by omega
  rw [tr_low rfl (by omega)]
  refine Nat.div_eq_of_lt ?_
  calc 4503599627370496 + r % 4503599627370496 < 2 ^ 53 := by omega
    _ ≤ 2 ^ (1075 - r / 4503599627370496) := Nat.pow_le_pow_right (by omega) (by omega)

/-- Not a number? -/
def nanB (b : Nat) : Bool := decide (9218868437227405312 < b % 9223372036854775808)
/-- The place of bits in the order. -/
def rz (b : Nat) : Int := if 9223372036854775808 ≤ b then -((b % 9223372036854775808 : Nat) : Int) else ((b % 9223372036854775808 : Nat) : Int)
/-- The whole number of bits, cut toward 0. -/
def truncZ (b : Nat) : Int := if 9223372036854775808 ≤ b then -(tr (b % 9223372036854775808) : Int) else (tr (b % 9223372036854775808) : Int)

theorem dW : Ieee.double.signWeight = 9223372036854775808 := by decide
theorem dB : Ieee.double.binade = 4503599627370496 := by decide
theorem dI : Ieee.double.infRung = 9218868437227405312 := by decide
theorem dL : Ieee.double.leastPlace = -1074 := by decide

theorem neg_eq {b : Nat} (hb : b < 18446744073709551616) : (b / 9223372036854775808 % 2 == 1) = decide (9223372036854775808 ≤ b) := by
  rw [Bool.eq_iff_iff]; simp; omega

theorem read_sub {b : Nat} (hb : b < 18446744073709551616) (h : b % 9223372036854775808 < 4503599627370496) :
    Ieee.double.read b = .number (decide (9223372036854775808 ≤ b)) (b % 9223372036854775808) (-1074) := by
  unfold Ieee.Format.read
  simp only [dW, dB, dI, dL, neg_eq hb, if_pos h]
theorem read_norm {b : Nat} (hb : b < 18446744073709551616) (h : ¬ b % 9223372036854775808 < 4503599627370496) (h' : b % 9223372036854775808 < 9218868437227405312) :
    Ieee.double.read b = .number (decide (9223372036854775808 ≤ b)) (4503599627370496 + b % 9223372036854775808 % 4503599627370496) (-1074 + (b % 9223372036854775808 / 4503599627370496 - 1 : Nat)) := by
  unfold Ieee.Format.read
  simp only [dW, dB, dI, dL, neg_eq hb, if_neg h, if_pos h']
theorem read_inf {b : Nat} (hb : b < 18446744073709551616) (h : b % 9223372036854775808 = 9218868437227405312) :
    Ieee.double.read b = .infinity (decide (9223372036854775808 ≤ b)) := by
  unfold Ieee.Format.read
  simp only [dW, dB, dI, dL, neg_eq hb, h]
  simp
theorem read_nan {b : Nat} (hb : b < 18446744073709551616) (h : 9218868437227405312 < b % 9223372036854775808) :
    ∃ s f, Ieee.double.read b = .nan s f := by
  unfold Ieee.Format.read
  simp only [dW, dB, dI, dL, neg_eq hb]
  rw [if_neg (by omega), if_neg (by omega), if_neg (by omega)]
  exact ⟨_, _, rfl⟩

theorem signed_zero (s : Bool) (m : Nat) : Ieee.signed s m 0 = if s then -(m : Int) else (m : Int) := by simp [Ieee.signed]

theorem cut_zero (s : Bool) (n drop : Nat) : Ieee.Toward.cut .zero s n drop = n / 2 ^ min drop (n.log2 + 2) := by
  simp [Ieee.Toward.cut, Nat.one_shiftLeft]

theorem toInt_eq {b : Nat} (hb : b < 18446744073709551616) (h : b % 9223372036854775808 < 9218868437227405312) :
    (Ieee.double.read b).toInt .zero = some (truncZ b) := by
  by_cases h1 : b % 9223372036854775808 < 4503599627370496
  · rw [read_sub hb h1]
    simp only [Ieee.Datum.toInt, Ieee.Datum.integral, signed_zero, cut_zero]
    have e : (b % 9223372036854775808) <<< (-1074 : Int).toNat / 2 ^ min (-(-1074 : Int)).toNat (((b % 9223372036854775808) <<< (-1074 : Int).toNat).log2 + 2) = 0 := by
      generalize b % 9223372036854775808 = r at *
      rw [show (-1074 : Int).toNat = 0 by rfl, Nat.shiftLeft_zero, show (-(-1074 : Int)).toNat = 1074 by rfl]
      refine Nat.div_eq_of_lt ?_
      by_cases hr : r = 0
      · subst hr; exact Nat.two_pow_pos _
      have := (Nat.log2_lt hr (k := 52)).2 (by omega)
      rw [Nat.min_eq_right (by omega)]
      exact Nat.lt_trans Nat.lt_log2_self (Nat.pow_lt_pow_right (by omega) (by omega))
    rw [e]
    unfold truncZ
    rw [tr_none (by omega)]
    simp
  · rw [read_norm hb h1 h]
    unfold truncZ
    generalize b % 9223372036854775808 = r at *
    simp only [Ieee.Datum.toInt, Ieee.Datum.integral, signed_zero, cut_zero, decide_eq_true_eq]
    have key : (4503599627370496 + r % 4503599627370496) <<< (-1074 + ((r / 4503599627370496 - 1 : Nat) : Int)).toNat / 2 ^ min (-(-1074 + ((r / 4503599627370496 - 1 : Nat) : Int))).toNat (((4503599627370496 + r % 4503599627370496) <<< (-1074 + ((r / 4503599627370496 - 1 : Nat) : Int)).toNat).log2 + 2) = tr r := by
      obtain ⟨e, he⟩ : ∃ e, r / 4503599627370496 = e := ⟨_, rfl⟩
      rw [he]
      have he1 : 1 ≤ e := by omega
      have hm : 4503599627370496 + r % 4503599627370496 < 2 ^ 53 := by omega
      by_cases h2 : e ≤ 1075
      · rw [tr_low he h2, show (-1074 + ((e - 1 : Nat) : Int)).toNat = 0 by omega, show (-(-1074 + ((e - 1 : Nat) : Int))).toNat = 1075 - e by omega, Nat.shiftLeft_zero]
        have hl : (4503599627370496 + r % 4503599627370496).log2 = 52 := by
          refine (Nat.log2_eq_iff (by omega)).2 ⟨by omega, by omega⟩
        rw [hl]
        by_cases h3 : 1075 - e ≤ 54
        · rw [Nat.min_eq_left (by omega)]
        · rw [Nat.min_eq_right (by omega), Nat.div_eq_of_lt (by omega), Nat.div_eq_of_lt]
          exact Nat.lt_of_lt_of_le hm (Nat.pow_le_pow_right (by omega) (by omega))
      · rw [tr_high he (by omega), show (-1074 + ((e - 1 : Nat) : Int)).toNat = e - 1075 by omega, show (-(-1074 + ((e - 1 : Nat) : Int))).toNat = 0 by omega, Nat.shiftLeft_eq]
        simp
    rw [key]

/-- The value of a rung in units of 2^-1074. -/
def sc (r : Nat) : Nat := if r < 4503599627370496 then r else (4503599627370496 + r % 4503599627370496) * 2 ^ (r / 4503599627370496 - 1)
theorem sc_lt {r r' : Nat} (h : r < r') : sc r < sc r' := by
  by_cases h1 : r' < 4503599627370496
  · unfold sc; rw [if_pos (by omega), if_pos h1]; exact h
  · by_cases h2 : r < 4503599627370496
    · unfold sc; rw [if_pos h2, if_neg h1]
      have := Nat.two_pow_pos (r' / 4503599627370496 - 1)
      calc r < 4503599627370496 * 1 := by omega
        _ ≤ _ := Nat.mul_le_mul (by omega) this
    · have e2 : ∀ r, ¬ r < 4503599627370496 → 2 * sc r = g r := by
        intro r h
        unfold sc g
        rw [if_neg h]
        obtain ⟨e, he⟩ : ∃ e, r / 4503599627370496 = e + 1 := ⟨r / 4503599627370496 - 1, by omega⟩
        rw [he, Nat.add_sub_cancel, Nat.pow_succ, Nat.mul_comm 2, Nat.mul_assoc]
      have := g_lt h
      rw [← e2 r h2, ← e2 r' h1] at this
      omega
theorem sc_le_iff {r r' : Nat} : sc r ≤ sc r' ↔ r ≤ r' := by
  constructor
  · intro h
    by_cases hr : r ≤ r'
    · exact hr
    · exact absurd (sc_lt (show r' < r by omega)) (by omega)
  · intro h
    rcases Nat.lt_or_eq_of_le h with h | rfl
    · exact Nat.le_of_lt (sc_lt h)
    · exact Nat.le_refl _
theorem sc_lt_iff {r r' : Nat} : sc r < sc r' ↔ r < r' := by
  have := sc_le_iff (r := r') (r' := r); omega

theorem cmp_eq {a b c d : Int} (h1 : a < b ↔ c < d) (h2 : b < a ↔ d < c) : compare a b = compare c d := by
  simp only [compare, compareOfLessAndEq]
  by_cases x : a < b
  · rw [if_pos x, if_pos (h1.1 x)]
  · rw [if_neg x, if_neg (fun y => x (h1.2 y))]
    by_cases y : b < a
    · rw [if_neg (by omega), if_neg (by have := h2.1 y; omega)]
    · rw [if_pos (by omega), if_pos (by have := fun z => y (h2.2 z); have := fun z => x (h1.2 z); omega)]

/-- A number of the format, with its value in units of 2^-1074. -/
theorem read_num {b : Nat} (hb : b < 18446744073709551616) (h : b % 9223372036854775808 < 9218868437227405312) :
    ∃ m k : Nat, Ieee.double.read b = .number (decide (9223372036854775808 ≤ b)) m (-1074 + (k : Int)) ∧ m * 2 ^ k = sc (b % 9223372036854775808) := by
  by_cases h1 : b % 9223372036854775808 < 4503599627370496
  · refine ⟨_, 0, read_sub hb h1, ?_⟩
    unfold sc; rw [if_pos h1]; simp
  · refine ⟨_, _, read_norm hb h1 h, ?_⟩
    unfold sc; rw [if_neg h1]

theorem ord_num (s t : Bool) (m n k l : Nat) : Ieee.Datum.order (.number s m (-1074 + (k : Int))) (.number t n (-1074 + (l : Int))) =
    some (compare (if s then -((m * 2 ^ k : Nat) : Int) else ((m * 2 ^ k : Nat) : Int)) (if t then -((n * 2 ^ l : Nat) : Int) else ((n * 2 ^ l : Nat) : Int))) := by
  simp only [Ieee.Datum.order, Ieee.signed, Nat.shiftLeft_eq]
  congr 1
  obtain ⟨c, hc⟩ : ∃ c, c = min k l := ⟨_, rfl⟩
  have hbase : min (-1074 + (k : Int)) (-1074 + (l : Int)) = -1074 + (c : Int) := by omega
  rw [hbase, show ((-1074 + (k : Int)) - (-1074 + (c : Int))).toNat = k - c by omega, show ((-1074 + (l : Int)) - (-1074 + (c : Int))).toNat = l - c by omega]
  have ek : m * 2 ^ k = m * 2 ^ (k - c) * 2 ^ c := by rw [Nat.mul_assoc, ← Nat.pow_add]; congr 2; omega
  have el : n * 2 ^ l = n * 2 ^ (l - c) * 2 ^ c := by rw [Nat.mul_assoc, ← Nat.pow_add]; congr 2; omega
  rw [ek, el]
  generalize m * 2 ^ (k - c) = M
  generalize n * 2 ^ (l - c) = L
  have hp : (0 : Int) < ((2 ^ c : Nat) : Int) := by exact_mod_cast Nat.two_pow_pos c
  have hM : (if s then -((M * 2 ^ c : Nat) : Int) else ((M * 2 ^ c : Nat) : Int)) = (if s then -(M : Int) else (M : Int)) * ((2 ^ c : Nat) : Int) := by
    cases s <;> simp [Int.natCast_mul, Int.neg_mul]
  have hL : (if t then -((L * 2 ^ c : Nat) : Int) else ((L * 2 ^ c : Nat) : Int)) = (if t then -(L : Int) else (L : Int)) * ((2 ^ c : Nat) : Int) := by
    cases t <;> simp [Int.natCast_mul, Int.neg_mul]
  rw [hM, hL]
  generalize (if s then -(M : Int) else (M : Int)) = A
  generalize (if t then -(L : Int) else (L : Int)) = B
  exact cmp_eq ⟨fun h => Int.mul_lt_mul_of_pos_right h hp, fun h => Int.lt_of_mul_lt_mul_right h (Int.le_of_lt hp)⟩ ⟨fun h => Int.mul_lt_mul_of_pos_right h hp, fun h => Int.lt_of_mul_lt_mul_right h (Int.le_of_lt hp)⟩

theorem cmp_sc (s t : Bool) (r q : Nat) : compare (if s then -((sc r : Nat) : Int) else ((sc r : Nat) : Int)) (if t then -((sc q : Nat) : Int) else ((sc q : Nat) : Int)) =
    compare (if s then -(r : Int) else (r : Int)) (if t then -(q : Int) else (q : Int)) := by
  have h1 := @sc_lt_iff r q
  have h2 := @sc_lt_iff q r
  have hz : sc 0 = 0 := rfl
  have h3 := @sc_lt_iff 0 r
  have h4 := @sc_lt_iff 0 q
  rw [hz] at h3 h4
  generalize sc r = R at *
  generalize sc q = Q at *
  clear hz
  refine cmp_eq ?_ ?_ <;> cases s <;> cases t <;> simp <;> omega

theorem order_eq {x y : Nat} (hx : x < 18446744073709551616) (hy : y < 18446744073709551616) :
    Ieee.double.order x y = if nanB x || nanB y then none else some (compare (rz x) (rz y)) := by
  unfold Ieee.Format.order
  by_cases nx : 9218868437227405312 < x % 9223372036854775808
  · obtain ⟨s, f, e⟩ := read_nan hx nx
    have : nanB x = true := by simp [nanB, nx]
    rw [this, e]
    simp [Ieee.Datum.order]
  by_cases ny : 9218868437227405312 < y % 9223372036854775808
  · obtain ⟨s, f, e⟩ := read_nan hy ny
    have : nanB y = true := by simp [nanB, ny]
    rw [this, e]
    cases Ieee.double.read x <;> simp [Ieee.Datum.order]
  have n1 : nanB x = false := by simp [nanB]; omega
  have n2 : nanB y = false := by simp [nanB]; omega
  rw [n1, n2]
  simp only [Bool.or_self, Bool.false_eq_true, if_false]
  unfold rz
  by_cases ix : x % 9223372036854775808 = 9218868437227405312
  · rw [read_inf hx ix, ix]
    by_cases iy : y % 9223372036854775808 = 9218868437227405312
    · rw [read_inf hy iy, iy]
      simp only [Ieee.Datum.order]
      by_cases a : 9223372036854775808 ≤ x <;> by_cases b : 9223372036854775808 ≤ y <;> simp [a, b] <;> decide
    · obtain ⟨n, l, e, _⟩ := read_num hy (by omega)
      rw [e]
      simp only [Ieee.Datum.order]
      congr 1
      by_cases a : 9223372036854775808 ≤ x
      · simp only [a, decide_true, if_true]
        symm
        simp only [compare, compareOfLessAndEq]
        rw [if_pos (by split <;> omega)]
      · simp only [a, decide_false, if_false]
        symm
        simp only [compare, compareOfLessAndEq]
        rw [if_neg (by split <;> omega), if_neg (by split <;> omega)]
        simp
  · obtain ⟨m, k, e, em⟩ := read_num hx (by omega)
    rw [e]
    by_cases iy : y % 9223372036854775808 = 9218868437227405312
    · rw [read_inf hy iy, iy]
      simp only [Ieee.Datum.order]
      congr 1
      by_cases a : 9223372036854775808 ≤ y
      · simp only [a, decide_true, if_true]
        symm
        simp only [compare, compareOfLessAndEq]
        rw [if_neg (by split <;> omega), if_neg (by split <;> omega)]
      · simp only [a, decide_false, if_false]
        symm
        simp only [compare, compareOfLessAndEq]
        rw [if_pos (by split <;> omega)]
        simp
    · obtain ⟨n, l, e', en⟩ := read_num hy (by omega)
      rw [e', ord_num, em, en]
      congr 1
      have := cmp_sc (decide (9223372036854775808 ≤ x)) (decide (9223372036854775808 ≤ y)) (x % 9223372036854775808) (y % 9223372036854775808)
      simp only [decide_eq_true_eq] at this ⊢
      exact this
end Go.Proofs.YtgiidhmjkkgkaaaDoor.Flt
