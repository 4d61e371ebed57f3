/- The reference of layer 2: numbers without a point and their order. -/
import Derived.Test.YtgiidhmjkkgkaaaDoorWR
import Derived.Laws.StructEq
import Derived.Laws.Tables
namespace Go.Proofs.YtgiidhmjkkgkaaaDoor
open Go.RowKit
set_option linter.unusedVariables false
set_option linter.unusedSimpArgs false

/-- The value of type Number. -/
def num (m : Bool) (n : Int) : Value := .agg #[.bool m, .int .u64 n]

@[go_sem] theorem build_both (m : Bool) (n : Int) (w : World) : (Instr.build 55 #[(0, .bool m), (1, .int .u64 n)]).run Tryd.prog w = .ok (.agg #[.bool m, .int .u64 n]) w := run_build w 55 _ _ (by kernel_rfl)
@[go_sem] theorem build_n (n : Int) (w : World) : (Instr.build 55 #[(1, .int .u64 n)]).run Tryd.prog w = .ok (.agg #[.bool false, .int .u64 n]) w := run_build w 55 _ _ (by kernel_rfl)
@[go_sem] theorem build_none (w : World) : (Instr.build 55 #[]).run Tryd.prog w = .ok (.agg #[.bool false, .int .u64 0]) w := run_build w 55 _ _ (by kernel_rfl)
@[go_sem] theorem eq_num (a c : Bool) (b d : Int) (w : World) : (Op.equalIn 10000 55 (.agg #[.bool a, .int .u64 b]) (.agg #[.bool c, .int .u64 d])).run Tryd.prog w = .ok (a == c && b == d) w := by
  have u1 := Tryd.underlying4
  have u2 := Tryd.underlying22
  have hS : Tryd.prog.underlying 55 = some (.struct (Tryd.prog.fieldsOf 55)) := by kernel_rfl
  rw [show (10000 : Nat) = 9999 + 1 from rfl, run_equalIn_agg w 9999 55 _ _ hS (by kernel_rfl)]
  simp only [Program.fieldsOf, Tryd.underlying55]
  go_simp
  by_cases h1 : a = c <;> by_cases h2 : b = d <;> simp [h1, h2]

/-- The whole number that a Number is. -/
def numZ (m : Bool) (n : Int) : Int := if m then -n else n

set_option maxHeartbeats 800000 in
theorem number_any (k x : Int) (w : World) (hk : (Lit.int .i64 k).wf = true) (hx : (Lit.int .u64 x).wf = true) :
    Calls Tryd.prog 38 #[.int .i64 k, .int .u64 x] w fun e w' => e = .returned (.agg #[.bool (decide (valZ k x < 0)), .int .u64 (valZ k x).natAbs]) ∧ Below w.heap.size w w' := by
  obtain ⟨x0, x1⟩ := u64_range hx
  have hs := fun w => rsigned_any k w hk
  by_cases hneg : 5 ≤ k ∧ k ≤ 8 ∧ 9223372036854775808 ≤ x
  · have e : sgn k = true := by unfold sgn; simp [hneg]
    simp only [e] at hs
    have HS := Lib.hid hs
    have e1 : decide (valZ k x < 0) = true := by unfold valZ; rw [if_pos hneg]; simp; omega
    have e2 : ((valZ k x).natAbs : Int) = 18446744073709551616 - x := by unfold valZ; rw [if_pos hneg]; omega
    rw [e1, e2]
    have hd : x / 9223372036854775808 = 1 := by omega
    have hN : IntKind.u64.wrap (bits BinOp.xor IntKind.u64 IntKind.u64.max x + 1) = 18446744073709551616 - x := by
      rw [show IntKind.u64.max = 18446744073709551615 by decide, xor_all x0 x1, IntKind.wrap_u64]; omega
    clear e e1 e2 hs
    go_enter Tryd.func38, Tryd.ntmps38
    go_wp2_with (go_at_call 17; with_reducible refine (HS.out _).mono ?_; rintro e v1 ⟨rfl, rfl⟩)
    refine bodyPost_ret (results_cell_row rfl _ _ w.heap.size 55 _ (0, 0) _ rfl (heap_alloc_new w _) Tryd.underlying55 rfl (by kernel_rfl)) rfl ?_
    exact ⟨rfl, (Below.refl _ w).alloc (Nat.le_refl _) _⟩
  · have e1 : decide (valZ k x < 0) = false := by unfold valZ; rw [if_neg hneg]; simp; omega
    have e2 : ((valZ k x).natAbs : Int) = x := by unfold valZ; rw [if_neg hneg]; omega
    rw [e1, e2]
    clear e1 e2
    by_cases hsg : sgn k = true
    · simp only [hsg] at hs
      have HS := Lib.hid hs
      have hd : (x / 9223372036854775808 == 1) = false := by
        unfold sgn at hsg; simp at hsg; simp; omega
      clear hs hsg hneg
      go_enter Tryd.func38, Tryd.ntmps38
      go_wp2_with (go_at_call 17; with_reducible refine (HS.out _).mono ?_; rintro e v1 ⟨rfl, rfl⟩)
      refine bodyPost_ret (results_cell_row rfl _ _ w.heap.size 55 _ (0, 0) _ rfl (heap_alloc_new w _) Tryd.underlying55 rfl (by kernel_rfl)) rfl ?_
      exact ⟨rfl, (Below.refl _ w).alloc (Nat.le_refl _) _⟩
    · rw [Bool.not_eq_true] at hsg
      simp only [hsg] at hs
      have HS := Lib.hid hs
      clear hs hsg hneg
      go_enter Tryd.func38, Tryd.ntmps38
      go_wp2_with (go_at_call 17; with_reducible refine (HS.out _).mono ?_; rintro e v1 ⟨rfl, rfl⟩)
      refine bodyPost_ret (results_cell_row rfl _ _ w.heap.size 55 _ (0, 0) _ rfl (heap_alloc_new w _) Tryd.underlying55 rfl (by kernel_rfl)) rfl ?_
      exact ⟨rfl, (Below.refl _ w).alloc (Nat.le_refl _) _⟩

theorem and_bits {n : Int} (n0 : 0 ≤ n) (n1 : n < 18446744073709551616) :
    bits .and .u64 n 2047 = n % 2048 ∧ bits .and .u64 n 4503599627370495 = n % 4503599627370496 ∧ bits .and .u64 n 9223372036854775807 = n % 9223372036854775808 := by
  obtain ⟨N, rfl⟩ : ∃ N : Nat, n = N := ⟨n.toNat, by omega⟩
  have a := u64_and_mask N 11 2047 (by omega) (by omega) (by decide)
  have b := u64_and_mask N 52 4503599627370495 (by omega) (by omega) (by decide)
  have c := u64_and_mask N 63 9223372036854775807 (by omega) (by omega) (by decide)
  exact ⟨by simpa using a, by simpa using b, by simpa using c⟩

set_option maxHeartbeats 800000 in
theorem nan_any (x : Int) (w : World) (hx : (Lit.int .u64 x).wf = true) :
    Calls Tryd.prog 39 #[.int .u64 x] w fun e w' => e = .returned (.bool (Flt.nanB x.toNat)) ∧ w = w' := by
  obtain ⟨x0, x1⟩ := u64_range hx
  have a1 := (and_bits (n := x / 4503599627370496) (by omega) (by omega)).1
  have a2 := (and_bits x0 x1).2.1
  by_cases h1 : x / 4503599627370496 % 2048 = 2047
  · rw [h1] at a1
    by_cases h2 : x % 4503599627370496 = 0
    · rw [h2] at a2
      have e : Flt.nanB x.toNat = false := by unfold Flt.nanB; simp; omega
      rw [e]
      clear h1 h2
      go_enter Tryd.func39, Tryd.ntmps39
      go_wp2
      go_ret
      exact ⟨rfl, rfl⟩
    · have e : Flt.nanB x.toNat = true := by unfold Flt.nanB; simp; omega
      rw [e]
      have d2 : (x % 4503599627370496 != 0) = true := by simpa using h2
      generalize x % 4503599627370496 = q at *
      clear h1 h2
      go_enter Tryd.func39, Tryd.ntmps39
      go_wp2
      go_ret
      exact ⟨rfl, rfl⟩
  · have e : Flt.nanB x.toNat = false := by unfold Flt.nanB; simp; omega
    rw [e]
    have d1 : (x / 4503599627370496 % 2048 == 2047) = false := by simpa using h1
    generalize x / 4503599627370496 % 2048 = q at *
    clear h1
    go_enter Tryd.func39, Tryd.ntmps39
    go_wp2
    go_ret
    exact ⟨rfl, rfl⟩

set_option maxHeartbeats 800000 in
theorem rank_any (x : Int) (w : World) (hx : (Lit.int .u64 x).wf = true) :
    Calls Tryd.prog 45 #[.int .u64 x] w fun e w' => e = .returned (.agg #[.bool (decide (Flt.rz x.toNat < 0)), .int .u64 (Flt.rz x.toNat).natAbs]) ∧ Below w.heap.size w w' := by
  obtain ⟨x0, x1⟩ := u64_range hx
  have a1 := (and_bits x0 x1).2.2
  have hw : IntKind.u64.wrap (x * 2) = x % 9223372036854775808 * 2 := by rw [IntKind.wrap_u64]; omega
  have e2 : ((Flt.rz x.toNat).natAbs : Int) = x % 9223372036854775808 := by unfold Flt.rz; split <;> omega
  rw [e2]
  by_cases hz : x % 9223372036854775808 = 0
  · have e1 : decide (Flt.rz x.toNat < 0) = false := by unfold Flt.rz; simp; split <;> omega
    rw [e1, hz]
    rw [hz] at hw
    simp only [Int.zero_mul] at hw
    clear e1 e2 hz a1
    go_enter Tryd.func45, Tryd.ntmps45
    go_wp2
    refine bodyPost_ret (results_cell_row rfl _ _ w.heap.size 55 _ (0, 0) _ rfl (heap_alloc_new w _) Tryd.underlying55 rfl (by kernel_rfl)) rfl ?_
    exact ⟨rfl, (Below.refl _ w).alloc (Nat.le_refl _) _⟩
  · have hz0 : (x % 9223372036854775808 * 2 == 0) = false := by simp; omega
    have e1 : decide (Flt.rz x.toNat < 0) = (x / 9223372036854775808 == 1) := by
      rw [Bool.eq_iff_iff]; unfold Flt.rz; simp; split <;> omega
    rw [e1]
    clear e1 e2 hz
    generalize x % 9223372036854775808 = q at *
    go_enter Tryd.func45, Tryd.ntmps45
    go_wp2
    refine bodyPost_ret (results_cell_row rfl _ _ w.heap.size 55 _ (0, 0) _ rfl (heap_alloc_new w _) Tryd.underlying55 rfl (by kernel_rfl)) rfl ?_
    exact ⟨rfl, (Below.refl _ w).alloc (Nat.le_refl _) _⟩

set_option maxHeartbeats 1600000 in
theorem rorder_any (m n : Bool) (a b : Int) (w : World) (ha : 0 ≤ a) (hb : 0 ≤ b) (hm : m = true → 0 < a) (hn : n = true → 0 < b) :
    Calls Tryd.prog 44 #[.agg #[.bool m, .int .u64 a], .agg #[.bool n, .int .u64 b]] w fun e w' => e = .returned (.int .i64 (cmp3 (numZ m a) (numZ n b))) ∧ Below w.heap.size w w' := by
  have hg : Tryd.prog.eqGuardType Tryd.prog.depth 55 = false := by kernel_rfl
  have hB := ((Below.refl w.heap.size w).alloc (Nat.le_refl _) (.cells #[.bool m, .int .u64 a] 55)).alloc (by simp) (.cells #[.bool n, .int .u64 b] 55)
  cases m <;> cases n <;> simp only [numZ, Bool.false_eq_true, if_false, if_true, forall_const] at hm hn ⊢
  · rcases Int.lt_trichotomy a b with h | h | h
    · have e : cmp3 a b = -1 := by unfold cmp3; rw [if_pos h]
      have h1 : (a == b) = false := by simp; omega
      rw [e]; clear e
      go_enter Tryd.func44, Tryd.ntmps44
      go_wp2
      go_ret
      exact ⟨rfl, hB⟩
    · have e : cmp3 a b = 0 := by unfold cmp3; rw [if_neg (by omega), if_neg (by omega)]
      rw [e]; clear e
      subst h
      go_enter Tryd.func44, Tryd.ntmps44
      go_wp2
      go_ret
      exact ⟨rfl, hB⟩
    · have e : cmp3 a b = 1 := by unfold cmp3; rw [if_neg (by omega), if_pos h]
      have h1 : (a == b) = false := by simp; omega
      rw [e]; clear e
      go_enter Tryd.func44, Tryd.ntmps44
      go_wp2
      go_ret
      exact ⟨rfl, hB⟩
  · have e : cmp3 a (-b) = 1 := by unfold cmp3; rw [if_neg (by omega), if_pos (by omega)]
    rw [e]; clear e
    go_enter Tryd.func44, Tryd.ntmps44
    go_wp2
    go_ret
    exact ⟨rfl, hB⟩
  · have e : cmp3 (-a) b = -1 := by unfold cmp3; rw [if_pos (by omega)]
    rw [e]; clear e
    go_enter Tryd.func44, Tryd.ntmps44
    go_wp2
    go_ret
    exact ⟨rfl, hB⟩
  · rcases Int.lt_trichotomy a b with h | h | h
    · have e : cmp3 (-a) (-b) = 1 := by unfold cmp3; rw [if_neg (by omega), if_pos (by omega)]
      have h1 : (a == b) = false := by simp; omega
      rw [e]; clear e
      go_enter Tryd.func44, Tryd.ntmps44
      go_wp2
      go_ret
      exact ⟨rfl, hB⟩
    · have e : cmp3 (-a) (-b) = 0 := by unfold cmp3; rw [if_neg (by omega), if_neg (by omega)]
      rw [e]; clear e
      subst h
      go_enter Tryd.func44, Tryd.ntmps44
      go_wp2
      go_ret
      exact ⟨rfl, hB⟩
    · have e : cmp3 (-a) (-b) = -1 := by unfold cmp3; rw [if_pos (by omega)]
      have h2 : (!decide (a < b)) = true := by simp; omega
      have h1 : (a == b) = false := by simp; omega
      rw [e]; clear e
      go_enter Tryd.func44, Tryd.ntmps44
      go_wp2
      go_ret
      exact ⟨rfl, hB⟩
end Go.Proofs.YtgiidhmjkkgkaaaDoor
