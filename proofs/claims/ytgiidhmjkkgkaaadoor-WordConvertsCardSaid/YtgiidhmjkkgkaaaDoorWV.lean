/- The reference of layer 2: float. -/
import Derived.Test.YtgiidhmjkkgkaaaDoorWU
namespace Go.Proofs.YtgiidhmjkkgkaaaDoor
open Go.RowKit
set_option linter.unusedVariables false
set_option linter.unusedSimpArgs false

theorem or_low (q l k : Nat) (hl : l < 2 ^ k) (hc : q * 2 ^ k + l < 18446744073709551616) : bits .or .u64 ((q * 2 ^ k : Nat) : Int) (l : Int) = ((q * 2 ^ k + l : Nat) : Int) := by
  rw [bits_or_u64_nat (q * 2 ^ k) l (by omega) (by omega), Nat.mul_comm, ← Nat.two_pow_add_eq_or_of_lt hl]

theorem and_oneW {n : Int} (n0 : 0 ≤ n) (n1 : n < 18446744073709551616) : bits .and .u64 n 1 = n % 2 := by
  obtain ⟨N, rfl⟩ : ∃ N : Nat, n = N := ⟨n.toNat, by omega⟩
  have := u64_and_mask N 1 1 (by omega) (by omega) (by decide)
  simpa using this

theorem or_two {E Q : Int} (e0 : 0 ≤ E) (e1 : E < 4096) (q0 : 0 ≤ Q) (q1 : Q < 4503599627370496) :
    bits .or .u64 (E * 4503599627370496) Q = E * 4503599627370496 + Q := by
  obtain ⟨e, rfl⟩ : ∃ N : Nat, E = N := ⟨E.toNat, by omega⟩
  obtain ⟨q, rfl⟩ : ∃ N : Nat, Q = N := ⟨Q.toNat, by omega⟩
  have := or_low e q 52 (by omega) (by omega)
  simpa using this
theorem or_parts {E Q : Int} (e0 : 0 ≤ E) (e1 : E < 2048) (q0 : 0 ≤ Q) (q1 : Q < 4503599627370496) :
    bits .or .u64 0 (E * 4503599627370496) = E * 4503599627370496 ∧ bits .or .u64 (E * 4503599627370496) Q = E * 4503599627370496 + Q ∧
    bits .or .u64 9223372036854775808 (E * 4503599627370496) = 9223372036854775808 + E * 4503599627370496 ∧ bits .or .u64 (9223372036854775808 + E * 4503599627370496) Q = 9223372036854775808 + E * 4503599627370496 + Q := by
  have h4 := or_two (E := 2048 + E) (Q := Q) (by omega) (by omega) q0 q1
  rw [show (2048 + E) * 4503599627370496 = 9223372036854775808 + E * 4503599627370496 by omega] at h4
  refine ⟨?_, or_two e0 (by omega) q0 q1, ?_, h4⟩
  · obtain ⟨e, rfl⟩ : ∃ N : Nat, E = N := ⟨E.toNat, by omega⟩
    have := bits_or_u64_nat 0 (e * 4503599627370496) (by omega) (by omega)
    rw [Nat.zero_or] at this
    simpa using this
  · obtain ⟨e, rfl⟩ : ∃ N : Nat, E = N := ⟨E.toNat, by omega⟩
    have := or_low 1 (e * 4503599627370496) 63 (by omega) (by omega)
    simpa using this

set_option maxHeartbeats 3200000 in
theorem float_low (m : Bool) (n ans R : Int) (L : Nat) (w : World) (n0 : 0 ≤ n) (n1 : n < 18446744073709551616) (hz : (n == 0) = false) (hL : L ≤ 52)
    (HT : Hid (∀ T : Nat, (L < T → n / 2 ^ T = 0) ∧ (T = L → n / 2 ^ T ≠ 0))) (r0 : 4503599627370496 ≤ R) (r1 : R < 9007199254740992)
    (HR : Hid (IntKind.u64.wrap (n * 2 ^ (52 - (L : Int)).toNat) = R)) (HA : Hid ((if m then 9223372036854775808 else 0) + (1023 + (L : Int)) * 4503599627370496 + (R - 4503599627370496) = ans)) :
    Calls Tryd.prog 37 #[.agg #[.bool m, .int .u64 n]] w fun e w' => e = .returned (.int .u64 ans) ∧ Below w.heap.size w w' := by
  have hB : Below w.heap.size w (w.alloc (.cells #[.bool m, .int .u64 n] 55)) := (Below.refl _ w).alloc (Nat.le_refl _) _
  cases m
  all_goals
    go_enter Tryd.func37, Tryd.ntmps37
    go_wp2
    go_loop [4] (fun i => ∃ T : Nat, L ≤ T ∧ T < 64 ∧ i = .int .i64 T) (fun i => (intOf i).toNat)
    case atStart => exact ⟨63, by omega, by omega, rfl⟩
    case round =>
      obtain ⟨T, hT1, hT2, rfl⟩ := hrel
      by_cases hT : T = L
      · obtain ⟨Z, hZ⟩ : ∃ Z : Int, n / 2 ^ T = Z := ⟨_, rfl⟩
        have ht0 : (Z == 0) = false := by
          have := (HT.out T).2 hT
          rw [hZ] at this
          simpa using this
        subst hT
        obtain ⟨E, hE⟩ : ∃ E, 1023 + (T : Int) = E := ⟨_, rfl⟩
        obtain ⟨D, hD⟩ : ∃ D, 52 - (T : Int) = D := ⟨_, rfl⟩
        have hw := HR.out
        rw [hD] at hw
        have ha := (and_bits (n := R) (by omega) (by omega)).2.1
        have hq : R % 4503599627370496 = R - 4503599627370496 := by omega
        have hans := HA.out
        simp only [Bool.false_eq_true, if_false, if_true, Int.zero_add] at hans
        rw [hE] at hans
        rw [hq] at ha
        obtain ⟨Q, hQ⟩ : ∃ Q, R - 4503599627370496 = Q := ⟨_, rfl⟩
        rw [hQ] at ha hans
        obtain ⟨o1, o2, o3, o4⟩ := or_parts (E := E) (Q := Q) (by omega) (by omega) (by omega) (by omega)
        have hR53 : (R == 9007199254740992) = false := by simp; omega
        clear hq hQ
        go_wp2
        go_ret
        exact ⟨rfl, hB⟩
      · have ht' := (HT.out T).1 (by omega)
        go_wp2
        go_round
        case rel => exact ⟨T - 1, by omega, by omega, by go_num⟩
        case measure => simp [intOf]; omega

set_option maxHeartbeats 6400000 in
theorem float_high (m : Bool) (n ans Q r H P : Int) (L : Nat) (w : World) (n0 : 0 ≤ n) (n1 : n < 18446744073709551616) (hz : (n == 0) = false) (hL : 52 < L) (hL2 : L < 64)
    (HT : Hid (∀ T : Nat, (L < T → n / 2 ^ T = 0) ∧ (T = L → n / 2 ^ T ≠ 0))) (q0 : 4503599627370496 ≤ Q) (q1 : Q < 9007199254740992)
    (HQ : Hid (n / 2 ^ ((L : Int) - 52).toNat = Q)) (HP : Hid (IntKind.u64.wrap (2 ^ ((L : Int) - 52).toNat) = P)) (p0 : 1 ≤ P) (p1 : P < 18446744073709551616)
    (HR : Hid (bits .and .u64 n (P - 1) = r)) (HH : Hid (IntKind.u64.wrap (2 ^ ((L : Int) - 52 - 1).toNat) = H)) (h0 : 0 ≤ H) (h1 : H < 18446744073709551616) (r0 : 0 ≤ r) (r1 : r < 18446744073709551616)
    (HA : Hid ((if m then 9223372036854775808 else 0) + (1022 + (L : Int)) * 4503599627370496 + (Q + if H < r ∨ (r = H ∧ Q % 2 = 1) then 1 else 0) = ans)) :
    Calls Tryd.prog 37 #[.agg #[.bool m, .int .u64 n]] w fun e w' => e = .returned (.int .u64 ans) ∧ Below w.heap.size w w' := by
  have hB : Below w.heap.size w (w.alloc (.cells #[.bool m, .int .u64 n] 55)) := (Below.refl _ w).alloc (Nat.le_refl _) _
  cases m
  all_goals
    go_enter Tryd.func37, Tryd.ntmps37
    go_wp2
    go_loop [4] (fun i => ∃ T : Nat, L ≤ T ∧ T < 64 ∧ i = .int .i64 T) (fun i => (intOf i).toNat)
    case atStart => exact ⟨63, by omega, by omega, rfl⟩
    case round =>
      obtain ⟨T, hT1, hT2, rfl⟩ := hrel
      by_cases hT : T = L
      · obtain ⟨Z, hZ⟩ : ∃ Z : Int, n / 2 ^ T = Z := ⟨_, rfl⟩
        have ht0 : (Z == 0) = false := by
          have := (HT.out T).2 hT
          rw [hZ] at this
          simpa using this
        subst hT
        obtain ⟨E, hE⟩ : ∃ E, 1023 + (T : Int) = E := ⟨_, rfl⟩
        have hans := HA.out
        simp only [Bool.false_eq_true, if_false, if_true, Int.zero_add] at hans
        obtain ⟨C, hC⟩ : ∃ C, (T : Int) - 52 = C := ⟨_, rfl⟩
        obtain ⟨C1, hC1⟩ : ∃ C1, C - 1 = C1 := ⟨_, rfl⟩
        have hq := HQ.out
        have hp := HP.out
        have hr := HR.out
        have hh := HH.out
        rw [hC] at hq hp hh
        rw [hC1] at hh
        obtain ⟨P1, hP1⟩ : ∃ P1, P - 1 = P1 := ⟨_, rfl⟩
        rw [hP1] at hr
        have ha1 := and_oneW (n := Q) (by omega) (by omega)
        by_cases hup : H < r ∨ (r = H ∧ Q % 2 = 1)
        · rw [if_pos hup] at hans
          by_cases h53 : Q = 9007199254740991
          · have ha : bits .and .u64 4503599627370496 4503599627370495 = 0 := by decide
            obtain ⟨E1, hE1⟩ : ∃ E1, E + 1 = E1 := ⟨_, rfl⟩
            obtain ⟨o1, o2, o3, o4⟩ := or_parts (E := E1) (Q := 0) (by omega) (by omega) (by omega) (by omega)
            simp only [Int.add_zero] at o2 o4
            subst h53
            rcases hup with hup | ⟨hup, hod⟩
            · have HX := Lib.hid hans
              have HF := Lib.hid hE1
              clear hans
              go_wp2
              go_ret
              refine ⟨congrArg (fun z => Ending.returned (Value.int .u64 z)) ?_, hB⟩
              have := HX.out
              have := HF.out
              omega
            · subst hup
              rw [hod] at ha1
              have HX := Lib.hid hans
              have HF := Lib.hid hE1
              clear hans hod
              go_wp2
              go_ret
              refine ⟨congrArg (fun z => Ending.returned (Value.int .u64 z)) ?_, hB⟩
              have := HX.out
              have := HF.out
              omega
          · have ha := (and_bits (n := Q + 1) (by omega) (by omega)).2.1
            rw [show (Q + 1) % 4503599627370496 = Q + 1 - 4503599627370496 by omega] at ha
            obtain ⟨F, hF⟩ : ∃ F, Q + 1 - 4503599627370496 = F := ⟨_, rfl⟩
            rw [hF] at ha
            obtain ⟨o1, o2, o3, o4⟩ := or_parts (E := E) (Q := F) (by omega) (by omega) (by omega) (by omega)
            have hR53 : (Q + 1 == 9007199254740992) = false := by simp; omega
            rcases hup with hup | ⟨hup, hod⟩
            · have HX := Lib.hid hans
              have HF := Lib.hid hF
              clear hans hF
              go_wp2
              go_ret
              refine ⟨congrArg (fun z => Ending.returned (Value.int .u64 z)) ?_, hB⟩
              have := HX.out
              have := HF.out
              omega
            · subst hup
              rw [hod] at ha1
              have HX := Lib.hid hans
              have HF := Lib.hid hF
              clear hans hF hod
              go_wp2
              go_ret
              refine ⟨congrArg (fun z => Ending.returned (Value.int .u64 z)) ?_, hB⟩
              have := HX.out
              have := HF.out
              omega
        · rw [if_neg hup] at hans
          have ha := (and_bits (n := Q) (by omega) (by omega)).2.1
          rw [show Q % 4503599627370496 = Q - 4503599627370496 by omega] at ha
          obtain ⟨F, hF⟩ : ∃ F, Q - 4503599627370496 = F := ⟨_, rfl⟩
          rw [hF] at ha
          obtain ⟨o1, o2, o3, o4⟩ := or_parts (E := E) (Q := F) (by omega) (by omega) (by omega) (by omega)
          have hR53 : (Q == 9007199254740992) = false := by simp; omega
          have hlt : ¬ H < r := fun h => hup (Or.inl h)
          by_cases hrh : r = H
          · have hev : Q % 2 = 0 := by omega
            subst hrh
            rw [hev] at ha1
            have HX := Lib.hid hans
            have HF := Lib.hid hF
            clear hans hF hup hev
            go_wp2
            go_ret
            refine ⟨congrArg (fun z => Ending.returned (Value.int .u64 z)) ?_, hB⟩
            have := HX.out
            have := HF.out
            omega
          · have hrh0 : (r == H) = false := by simpa using hrh
            have HX := Lib.hid hans
            have HF := Lib.hid hF
            clear hans hF hup hrh
            go_wp2
            go_ret
            refine ⟨congrArg (fun z => Ending.returned (Value.int .u64 z)) ?_, hB⟩
            have := HX.out
            have := HF.out
            omega
      · have ht' := (HT.out T).1 (by omega)
        go_wp2
        go_round
        case rel => exact ⟨T - 1, by omega, by omega, by go_num⟩
        case measure => simp [intOf]; omega

theorem float_any (m : Bool) (n : Int) (w : World) (n0 : 0 ≤ n) (n1 : n < 18446744073709551616) :
    Calls Tryd.prog 37 #[.agg #[.bool m, .int .u64 n]] w fun e w' => e = .returned (.int .u64 (Flt.fl (numZ m n))) ∧ Below w.heap.size w w' := by
  by_cases hz : n = 0
  · subst hz
    have hB : Below w.heap.size w (w.alloc (.cells #[.bool m, .int .u64 0] 55)) := (Below.refl _ w).alloc (Nat.le_refl _) _
    have e : Flt.fl (numZ m 0) = 0 := by cases m <;> decide
    rw [e]; clear e
    go_enter Tryd.func37, Tryd.ntmps37
    go_wp2
    go_ret
    exact ⟨rfl, hB⟩
  have hz0 : (n == 0) = false := by simpa using hz
  obtain ⟨N, hN⟩ : ∃ N : Nat, n = N := ⟨n.toNat, by omega⟩
  have hN0 : N ≠ 0 := by omega
  have hlo := Nat.log2_self_le hN0
  have hhi := Nat.lt_log2_self (n := N)
  have hL := Flt.log2_lt64 hN0 (by omega)
  have efl : Flt.fl (numZ m n) = (if m then 9223372036854775808 else 0) + ((N.log2 + 1022) * 4503599627370496 + Flt.kept N N.log2) := by
    rw [hN]
    unfold Flt.fl numZ Flt.frung
    cases m
    · simp only [Bool.false_eq_true, if_false, Int.natAbs_natCast, if_neg hN0]
      rw [if_neg (by omega)]
    · simp only [if_true, Int.natAbs_neg, Int.natAbs_natCast, if_neg hN0]
      rw [if_pos (by omega)]
  rw [efl]; clear efl
  obtain ⟨kr0, kr1⟩ := Flt.kept_range hlo hhi
  have hdiv : ∀ T : Nat, n / 2 ^ T = ((N / 2 ^ T : Nat) : Int) := fun T => by rw [hN]; simp
  have htest : ∀ T : Nat, (N.log2 < T → n / 2 ^ T = 0) ∧ (T = N.log2 → n / 2 ^ T ≠ 0) := by
    intro T
    have h := Nat.div_eq_zero_iff_lt (x := N) (Nat.two_pow_pos T)
    have h2 := Nat.log2_lt hN0 (k := T)
    rw [hdiv]
    constructor
    · intro hT
      have := h.2 (h2.1 hT)
      omega
    · intro hT he
      have h3 : N / 2 ^ T = 0 := by omega
      have := h2.2 (h.1 h3)
      omega
  by_cases h52 : N.log2 ≤ 52
  · have hks := Flt.kept_strict hlo hhi h52
    have hk : Flt.kept N N.log2 = N * 2 ^ (52 - N.log2) := by unfold Flt.kept; rw [if_pos h52]
    have hR : IntKind.u64.wrap (n * 2 ^ (52 - (N.log2 : Int)).toNat) = (Flt.kept N N.log2 : Int) := by
      have e : ((N * 2 ^ (52 - N.log2) : Nat) : Int) = n * 2 ^ (52 - (N.log2 : Int)).toNat := by
        rw [hN, show (52 - (N.log2 : Int)).toNat = 52 - N.log2 by omega]; simp
      rw [← e, ← hk, IntKind.wrap_u64]; omega
    have hA : (if m then 9223372036854775808 else 0) + (1023 + (N.log2 : Int)) * 4503599627370496 + ((Flt.kept N N.log2 : Int) - 4503599627370496) =
        (((if m then 9223372036854775808 else 0) + ((N.log2 + 1022) * 4503599627370496 + Flt.kept N N.log2) : Nat) : Int) := by
      cases m <;> simp <;> omega
    exact float_low m n _ _ N.log2 w n0 n1 hz0 h52 (Lib.hid htest) (by omega) (by omega) (Lib.hid hR) (Lib.hid hA)
  · have hk : Flt.kept N N.log2 = N / 2 ^ (N.log2 - 52) + (if 2 ^ (N.log2 - 52) < 2 * (N % 2 ^ (N.log2 - 52)) ∨ (2 ^ (N.log2 - 52) = 2 * (N % 2 ^ (N.log2 - 52)) ∧ N / 2 ^ (N.log2 - 52) % 2 = 1) then 1 else 0) := by
      unfold Flt.kept; rw [if_neg h52]
    obtain ⟨c, hc⟩ : ∃ c, N.log2 = 53 + c := ⟨N.log2 - 53, by omega⟩
    have hpw : 2 ^ (N.log2 - 52) = 2 * 2 ^ c := by rw [hc, show 53 + c - 52 = c + 1 by omega, Nat.pow_succ, Nat.mul_comm]
    have hc10 : c ≤ 10 := by omega
    have hcp : 1 ≤ 2 ^ c ∧ 2 ^ c ≤ 1024 := ⟨Nat.two_pow_pos c, by
      have := Nat.pow_le_pow_right (n := 2) (by omega) hc10
      omega⟩
    have hr : N % (2 * 2 ^ c) < 2 * 2 ^ c := Nat.mod_lt _ (by omega)
    have hq0 : 4503599627370496 ≤ N / 2 ^ (N.log2 - 52) ∧ N / 2 ^ (N.log2 - 52) < 9007199254740992 := by
      have e1 : 2 ^ N.log2 = 4503599627370496 * 2 ^ (N.log2 - 52) := by rw [show 4503599627370496 = 2 ^ 52 by decide, ← Nat.pow_add, show 52 + (N.log2 - 52) = N.log2 by omega]
      have e2 : 2 ^ (N.log2 + 1) = 9007199254740992 * 2 ^ (N.log2 - 52) := by rw [show 9007199254740992 = 2 ^ 53 by decide, ← Nat.pow_add, show 53 + (N.log2 - 52) = N.log2 + 1 by omega]
      exact ⟨(Nat.le_div_iff_mul_le (Nat.two_pow_pos _)).2 (by omega), (Nat.div_lt_iff_lt_mul (Nat.two_pow_pos _)).2 (by omega)⟩
    rw [hpw] at hk hq0
    have i1 : ((N.log2 : Int) - 52).toNat = c + 1 := by omega
    have i2 : ((N.log2 : Int) - 52 - 1).toNat = c := by omega
    have cp1 : ((2 : Int) ^ (c + 1)) = ((2 * 2 ^ c : Nat) : Int) := by rw [Int.pow_succ]; simp [Int.mul_comm]
    have cp0 : ((2 : Int) ^ c) = ((2 ^ c : Nat) : Int) := by simp
    have HQ : n / 2 ^ ((N.log2 : Int) - 52).toNat = ((N / (2 * 2 ^ c) : Nat) : Int) := by rw [i1, cp1, hN]; simp
    have HP : IntKind.u64.wrap (2 ^ ((N.log2 : Int) - 52).toNat) = ((2 * 2 ^ c : Nat) : Int) := by rw [i1, cp1, IntKind.wrap_u64]; omega
    have HH : IntKind.u64.wrap (2 ^ ((N.log2 : Int) - 52 - 1).toNat) = ((2 ^ c : Nat) : Int) := by rw [i2, cp0, IntKind.wrap_u64]; omega
    have HR : bits .and .u64 n (((2 * 2 ^ c : Nat) : Int) - 1) = ((N % (2 * 2 ^ c) : Nat) : Int) := by
      have e : (((2 * 2 ^ c : Nat) : Int) - 1) = ((2 * 2 ^ c - 1 : Nat) : Int) := by omega
      rw [e, hN]
      have e2 : 2 * 2 ^ c = 2 ^ (c + 1) := by rw [Nat.pow_succ, Nat.mul_comm]
      rw [e2]
      exact u64_and_mask N (c + 1) (2 ^ (c + 1) - 1) (by omega) (by omega) (by omega)
    have HA : (if m then 9223372036854775808 else 0) + (1022 + (N.log2 : Int)) * 4503599627370496 + (((N / (2 * 2 ^ c) : Nat) : Int) + if ((2 ^ c : Nat) : Int) < ((N % (2 * 2 ^ c) : Nat) : Int) ∨ (((N % (2 * 2 ^ c) : Nat) : Int) = ((2 ^ c : Nat) : Int) ∧ ((N / (2 * 2 ^ c) : Nat) : Int) % 2 = 1) then 1 else 0) =
        (((if m then 9223372036854775808 else 0) + ((N.log2 + 1022) * 4503599627370496 + Flt.kept N N.log2) : Nat) : Int) := by
      rw [hk]
      generalize N / (2 * 2 ^ c) = q at *
      generalize N % (2 * 2 ^ c) = r at *
      generalize 2 ^ c = p at *
      by_cases hup : 2 * p < 2 * r ∨ (2 * p = 2 * r ∧ q % 2 = 1)
      · have hc : (p : Int) < (r : Int) ∨ ((r : Int) = (p : Int) ∧ (q : Int) % 2 = 1) := by omega
        rw [if_pos hup, if_pos hc]
        cases m <;> simp only [Bool.false_eq_true, if_false, if_true] <;> omega
      · have hc : ¬ ((p : Int) < (r : Int) ∨ ((r : Int) = (p : Int) ∧ (q : Int) % 2 = 1)) := by omega
        rw [if_neg hup, if_neg hc]
        cases m <;> simp only [Bool.false_eq_true, if_false, if_true] <;> omega
    exact float_high m n _ _ _ _ _ N.log2 w n0 n1 hz0 (by omega) hL (Lib.hid htest) (by omega) (by omega) (Lib.hid HQ) (Lib.hid HP) (by omega) (by omega) (Lib.hid HR) (Lib.hid HH) (by omega) (by omega) (by omega) (by omega) (Lib.hid HA)
end Go.Proofs.YtgiidhmjkkgkaaaDoor
