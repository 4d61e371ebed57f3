/- The reference of layer 2: into, whole. -/
import Derived.Test.YtgiidhmjkkgkaaaDoorWS
namespace Go.Proofs.YtgiidhmjkkgkaaaDoor
open Go.RowKit
set_option linter.unusedVariables false
set_option linter.unusedSimpArgs false

theorem neg_u64 {n : Int} (n0 : 0 ≤ n) (n1 : n < 18446744073709551616) : IntKind.u64.wrap (bits BinOp.xor IntKind.u64 IntKind.u64.max n + 1) = (-n) % 18446744073709551616 := by
  rw [show IntKind.u64.max = 18446744073709551615 by decide, xor_all n0 n1, IntKind.wrap_u64]; omega

set_option maxHeartbeats 800000 in
theorem into_1 (m : Bool) (n : Int) (w : World) (n0 : 0 ≤ n) (n1 : n < 18446744073709551616) :
    Calls Tryd.prog 40 #[.int .i64 1, .agg #[.bool m, .int .u64 n]] w fun e w' => e = .returned (.int .u64 (wordZ (inZ 1 (numZ m n)))) ∧ Below w.heap.size w w' := by
  have W1 := Lib.hid (fun w => rwidth_any 1 w (by decide))
  have S1 := Lib.hid (fun w => rsigned_any 1 w (by decide))
  simp [wid] at W1
  simp [sgn] at S1
  obtain ⟨r, hr⟩ : ∃ r, wordZ (inZ 1 (numZ m n)) = r := ⟨_, rfl⟩
  rw [hr]
  cases m
  · by_cases hb : 255 < n
    · obtain rfl : r = 255 := by rw [← hr]; simp [numZ, inZ, wordZ, loZ, hiZ]; (repeat' split) <;> omega
      clear hr
      go_enter Tryd.func40, Tryd.ntmps40
      go_wp2_with (first
        | (go_at_call 15; with_reducible refine (W1.out _).mono ?_; rintro e v1 ⟨rfl, rfl⟩)
        | (go_at_call 17; with_reducible refine (S1.out _).mono ?_; rintro e v1 ⟨rfl, rfl⟩))
      go_ret
      refine ⟨rfl, ?_⟩
      first
        | exact (Below.refl _ w).alloc (Nat.le_refl _) _
        | exact ((Below.refl _ w).alloc (Nat.le_refl _) _).setCell (Nat.le_refl _) _
    · obtain rfl : r = n := by rw [← hr]; simp [numZ, inZ, wordZ, loZ, hiZ]; (repeat' split) <;> omega
      clear hr
      go_enter Tryd.func40, Tryd.ntmps40
      go_wp2_with (first
        | (go_at_call 15; with_reducible refine (W1.out _).mono ?_; rintro e v1 ⟨rfl, rfl⟩)
        | (go_at_call 17; with_reducible refine (S1.out _).mono ?_; rintro e v1 ⟨rfl, rfl⟩))
      go_ret
      refine ⟨rfl, ?_⟩
      first
        | exact (Below.refl _ w).alloc (Nat.le_refl _) _
        | exact ((Below.refl _ w).alloc (Nat.le_refl _) _).setCell (Nat.le_refl _) _
  · obtain rfl : r = 0 := by rw [← hr]; simp [numZ, inZ, wordZ, loZ, hiZ]; (repeat' split) <;> omega
    clear hr
    go_enter Tryd.func40, Tryd.ntmps40
    go_wp2_with (first
      | (go_at_call 15; with_reducible refine (W1.out _).mono ?_; rintro e v1 ⟨rfl, rfl⟩)
      | (go_at_call 17; with_reducible refine (S1.out _).mono ?_; rintro e v1 ⟨rfl, rfl⟩))
    go_ret
    refine ⟨rfl, ?_⟩
    first
      | exact (Below.refl _ w).alloc (Nat.le_refl _) _
      | exact ((Below.refl _ w).alloc (Nat.le_refl _) _).setCell (Nat.le_refl _) _

set_option maxHeartbeats 800000 in
theorem into_2 (m : Bool) (n : Int) (w : World) (n0 : 0 ≤ n) (n1 : n < 18446744073709551616) :
    Calls Tryd.prog 40 #[.int .i64 2, .agg #[.bool m, .int .u64 n]] w fun e w' => e = .returned (.int .u64 (wordZ (inZ 2 (numZ m n)))) ∧ Below w.heap.size w w' := by
  have W1 := Lib.hid (fun w => rwidth_any 2 w (by decide))
  have S1 := Lib.hid (fun w => rsigned_any 2 w (by decide))
  simp [wid] at W1
  simp [sgn] at S1
  obtain ⟨r, hr⟩ : ∃ r, wordZ (inZ 2 (numZ m n)) = r := ⟨_, rfl⟩
  rw [hr]
  cases m
  · by_cases hb : 65535 < n
    · obtain rfl : r = 65535 := by rw [← hr]; simp [numZ, inZ, wordZ, loZ, hiZ]; (repeat' split) <;> omega
      clear hr
      go_enter Tryd.func40, Tryd.ntmps40
      go_wp2_with (first
        | (go_at_call 15; with_reducible refine (W1.out _).mono ?_; rintro e v1 ⟨rfl, rfl⟩)
        | (go_at_call 17; with_reducible refine (S1.out _).mono ?_; rintro e v1 ⟨rfl, rfl⟩))
      go_ret
      refine ⟨rfl, ?_⟩
      first
        | exact (Below.refl _ w).alloc (Nat.le_refl _) _
        | exact ((Below.refl _ w).alloc (Nat.le_refl _) _).setCell (Nat.le_refl _) _
    · obtain rfl : r = n := by rw [← hr]; simp [numZ, inZ, wordZ, loZ, hiZ]; (repeat' split) <;> omega
      clear hr
      go_enter Tryd.func40, Tryd.ntmps40
      go_wp2_with (first
        | (go_at_call 15; with_reducible refine (W1.out _).mono ?_; rintro e v1 ⟨rfl, rfl⟩)
        | (go_at_call 17; with_reducible refine (S1.out _).mono ?_; rintro e v1 ⟨rfl, rfl⟩))
      go_ret
      refine ⟨rfl, ?_⟩
      first
        | exact (Below.refl _ w).alloc (Nat.le_refl _) _
        | exact ((Below.refl _ w).alloc (Nat.le_refl _) _).setCell (Nat.le_refl _) _
  · obtain rfl : r = 0 := by rw [← hr]; simp [numZ, inZ, wordZ, loZ, hiZ]; (repeat' split) <;> omega
    clear hr
    go_enter Tryd.func40, Tryd.ntmps40
    go_wp2_with (first
      | (go_at_call 15; with_reducible refine (W1.out _).mono ?_; rintro e v1 ⟨rfl, rfl⟩)
      | (go_at_call 17; with_reducible refine (S1.out _).mono ?_; rintro e v1 ⟨rfl, rfl⟩))
    go_ret
    refine ⟨rfl, ?_⟩
    first
      | exact (Below.refl _ w).alloc (Nat.le_refl _) _
      | exact ((Below.refl _ w).alloc (Nat.le_refl _) _).setCell (Nat.le_refl _) _

set_option maxHeartbeats 800000 in
theorem into_3 (m : Bool) (n : Int) (w : World) (n0 : 0 ≤ n) (n1 : n < 18446744073709551616) :
    Calls Tryd.prog 40 #[.int .i64 3, .agg #[.bool m, .int .u64 n]] w fun e w' => e = .returned (.int .u64 (wordZ (inZ 3 (numZ m n)))) ∧ Below w.heap.size w w' := by
  have W1 := Lib.hid (fun w => rwidth_any 3 w (by decide))
  have S1 := Lib.hid (fun w => rsigned_any 3 w (by decide))
  simp [wid] at W1
  simp [sgn] at S1
  obtain ⟨r, hr⟩ : ∃ r, wordZ (inZ 3 (numZ m n)) = r := ⟨_, rfl⟩
  rw [hr]
  cases m
  · by_cases hb : 4294967295 < n
    · obtain rfl : r = 4294967295 := by rw [← hr]; simp [numZ, inZ, wordZ, loZ, hiZ]; (repeat' split) <;> omega
      clear hr
      go_enter Tryd.func40, Tryd.ntmps40
      go_wp2_with (first
        | (go_at_call 15; with_reducible refine (W1.out _).mono ?_; rintro e v1 ⟨rfl, rfl⟩)
        | (go_at_call 17; with_reducible refine (S1.out _).mono ?_; rintro e v1 ⟨rfl, rfl⟩))
      go_ret
      refine ⟨rfl, ?_⟩
      first
        | exact (Below.refl _ w).alloc (Nat.le_refl _) _
        | exact ((Below.refl _ w).alloc (Nat.le_refl _) _).setCell (Nat.le_refl _) _
    · obtain rfl : r = n := by rw [← hr]; simp [numZ, inZ, wordZ, loZ, hiZ]; (repeat' split) <;> omega
      clear hr
      go_enter Tryd.func40, Tryd.ntmps40
      go_wp2_with (first
        | (go_at_call 15; with_reducible refine (W1.out _).mono ?_; rintro e v1 ⟨rfl, rfl⟩)
        | (go_at_call 17; with_reducible refine (S1.out _).mono ?_; rintro e v1 ⟨rfl, rfl⟩))
      go_ret
      refine ⟨rfl, ?_⟩
      first
        | exact (Below.refl _ w).alloc (Nat.le_refl _) _
        | exact ((Below.refl _ w).alloc (Nat.le_refl _) _).setCell (Nat.le_refl _) _
  · obtain rfl : r = 0 := by rw [← hr]; simp [numZ, inZ, wordZ, loZ, hiZ]; (repeat' split) <;> omega
    clear hr
    go_enter Tryd.func40, Tryd.ntmps40
    go_wp2_with (first
      | (go_at_call 15; with_reducible refine (W1.out _).mono ?_; rintro e v1 ⟨rfl, rfl⟩)
      | (go_at_call 17; with_reducible refine (S1.out _).mono ?_; rintro e v1 ⟨rfl, rfl⟩))
    go_ret
    refine ⟨rfl, ?_⟩
    first
      | exact (Below.refl _ w).alloc (Nat.le_refl _) _
      | exact ((Below.refl _ w).alloc (Nat.le_refl _) _).setCell (Nat.le_refl _) _

set_option maxHeartbeats 800000 in
theorem into_4 (m : Bool) (n : Int) (w : World) (n0 : 0 ≤ n) (n1 : n < 18446744073709551616) :
    Calls Tryd.prog 40 #[.int .i64 4, .agg #[.bool m, .int .u64 n]] w fun e w' => e = .returned (.int .u64 (wordZ (inZ 4 (numZ m n)))) ∧ Below w.heap.size w w' := by
  have W1 := Lib.hid (fun w => rwidth_any 4 w (by decide))
  have S1 := Lib.hid (fun w => rsigned_any 4 w (by decide))
  simp [wid] at W1
  simp [sgn] at S1
  obtain ⟨r, hr⟩ : ∃ r, wordZ (inZ 4 (numZ m n)) = r := ⟨_, rfl⟩
  rw [hr]
  cases m
  · by_cases hb : 18446744073709551615 < n
    · exact absurd hb (by omega)
    · obtain rfl : r = n := by rw [← hr]; simp [numZ, inZ, wordZ, loZ, hiZ]; (repeat' split) <;> omega
      clear hr
      go_enter Tryd.func40, Tryd.ntmps40
      go_wp2_with (first
        | (go_at_call 15; with_reducible refine (W1.out _).mono ?_; rintro e v1 ⟨rfl, rfl⟩)
        | (go_at_call 17; with_reducible refine (S1.out _).mono ?_; rintro e v1 ⟨rfl, rfl⟩))
      go_ret
      refine ⟨rfl, ?_⟩
      first
        | exact (Below.refl _ w).alloc (Nat.le_refl _) _
        | exact ((Below.refl _ w).alloc (Nat.le_refl _) _).setCell (Nat.le_refl _) _
  · obtain rfl : r = 0 := by rw [← hr]; simp [numZ, inZ, wordZ, loZ, hiZ]; (repeat' split) <;> omega
    clear hr
    go_enter Tryd.func40, Tryd.ntmps40
    go_wp2_with (first
      | (go_at_call 15; with_reducible refine (W1.out _).mono ?_; rintro e v1 ⟨rfl, rfl⟩)
      | (go_at_call 17; with_reducible refine (S1.out _).mono ?_; rintro e v1 ⟨rfl, rfl⟩))
    go_ret
    refine ⟨rfl, ?_⟩
    first
      | exact (Below.refl _ w).alloc (Nat.le_refl _) _
      | exact ((Below.refl _ w).alloc (Nat.le_refl _) _).setCell (Nat.le_refl _) _

set_option maxHeartbeats 800000 in
theorem into_5 (m : Bool) (n : Int) (w : World) (n0 : 0 ≤ n) (n1 : n < 18446744073709551616) :
    Calls Tryd.prog 40 #[.int .i64 5, .agg #[.bool m, .int .u64 n]] w fun e w' => e = .returned (.int .u64 (wordZ (inZ 5 (numZ m n)))) ∧ Below w.heap.size w w' := by
  have W1 := Lib.hid (fun w => rwidth_any 5 w (by decide))
  have S1 := Lib.hid (fun w => rsigned_any 5 w (by decide))
  simp [wid] at W1
  simp [sgn] at S1
  obtain ⟨r, hr⟩ : ∃ r, wordZ (inZ 5 (numZ m n)) = r := ⟨_, rfl⟩
  rw [hr]
  cases m
  · by_cases hb : 127 < n
    · obtain rfl : r = 127 := by rw [← hr]; simp [numZ, inZ, wordZ, loZ, hiZ]; (repeat' split) <;> omega
      clear hr
      go_enter Tryd.func40, Tryd.ntmps40
      go_wp2_with (first
        | (go_at_call 15; with_reducible refine (W1.out _).mono ?_; rintro e v1 ⟨rfl, rfl⟩)
        | (go_at_call 17; with_reducible refine (S1.out _).mono ?_; rintro e v1 ⟨rfl, rfl⟩))
      go_ret
      refine ⟨rfl, ?_⟩
      first
        | exact (Below.refl _ w).alloc (Nat.le_refl _) _
        | exact ((Below.refl _ w).alloc (Nat.le_refl _) _).setCell (Nat.le_refl _) _
    · obtain rfl : r = n := by rw [← hr]; simp [numZ, inZ, wordZ, loZ, hiZ]; (repeat' split) <;> omega
      clear hr
      go_enter Tryd.func40, Tryd.ntmps40
      go_wp2_with (first
        | (go_at_call 15; with_reducible refine (W1.out _).mono ?_; rintro e v1 ⟨rfl, rfl⟩)
        | (go_at_call 17; with_reducible refine (S1.out _).mono ?_; rintro e v1 ⟨rfl, rfl⟩))
      go_ret
      refine ⟨rfl, ?_⟩
      first
        | exact (Below.refl _ w).alloc (Nat.le_refl _) _
        | exact ((Below.refl _ w).alloc (Nat.le_refl _) _).setCell (Nat.le_refl _) _
  · by_cases hb : 128 < n
    · obtain rfl : r = 18446744073709551488 := by rw [← hr]; simp [numZ, inZ, wordZ, loZ, hiZ]; (repeat' split) <;> omega
      have hx := neg_u64 (n := 128) (by omega) (by omega)
      simp only [Int.reduceNeg, Int.reduceMod] at hx
      clear hr
      go_enter Tryd.func40, Tryd.ntmps40
      go_wp2_with (first
        | (go_at_call 15; with_reducible refine (W1.out _).mono ?_; rintro e v1 ⟨rfl, rfl⟩)
        | (go_at_call 17; with_reducible refine (S1.out _).mono ?_; rintro e v1 ⟨rfl, rfl⟩))
      go_ret
      refine ⟨rfl, ?_⟩
      first
        | exact (Below.refl _ w).alloc (Nat.le_refl _) _
        | exact ((Below.refl _ w).alloc (Nat.le_refl _) _).setCell (Nat.le_refl _) _
    · have hx := neg_u64 n0 n1
      obtain rfl : r = (-n) % 18446744073709551616 := by rw [← hr]; simp [numZ, inZ, wordZ, loZ, hiZ]; (repeat' split) <;> omega
      generalize (-n) % 18446744073709551616 = q at *
      clear hr
      go_enter Tryd.func40, Tryd.ntmps40
      go_wp2_with (first
        | (go_at_call 15; with_reducible refine (W1.out _).mono ?_; rintro e v1 ⟨rfl, rfl⟩)
        | (go_at_call 17; with_reducible refine (S1.out _).mono ?_; rintro e v1 ⟨rfl, rfl⟩))
      go_ret
      refine ⟨rfl, ?_⟩
      first
        | exact (Below.refl _ w).alloc (Nat.le_refl _) _
        | exact ((Below.refl _ w).alloc (Nat.le_refl _) _).setCell (Nat.le_refl _) _

set_option maxHeartbeats 800000 in
theorem into_6 (m : Bool) (n : Int) (w : World) (n0 : 0 ≤ n) (n1 : n < 18446744073709551616) :
    Calls Tryd.prog 40 #[.int .i64 6, .agg #[.bool m, .int .u64 n]] w fun e w' => e = .returned (.int .u64 (wordZ (inZ 6 (numZ m n)))) ∧ Below w.heap.size w w' := by
  have W1 := Lib.hid (fun w => rwidth_any 6 w (by decide))
  have S1 := Lib.hid (fun w => rsigned_any 6 w (by decide))
  simp [wid] at W1
  simp [sgn] at S1
  obtain ⟨r, hr⟩ : ∃ r, wordZ (inZ 6 (numZ m n)) = r := ⟨_, rfl⟩
  rw [hr]
  cases m
  · by_cases hb : 32767 < n
    · obtain rfl : r = 32767 := by rw [← hr]; simp [numZ, inZ, wordZ, loZ, hiZ]; (repeat' split) <;> omega
      clear hr
      go_enter Tryd.func40, Tryd.ntmps40
      go_wp2_with (first
        | (go_at_call 15; with_reducible refine (W1.out _).mono ?_; rintro e v1 ⟨rfl, rfl⟩)
        | (go_at_call 17; with_reducible refine (S1.out _).mono ?_; rintro e v1 ⟨rfl, rfl⟩))
      go_ret
      refine ⟨rfl, ?_⟩
      first
        | exact (Below.refl _ w).alloc (Nat.le_refl _) _
        | exact ((Below.refl _ w).alloc (Nat.le_refl _) _).setCell (Nat.le_refl _) _
    · obtain rfl : r = n := by rw [← hr]; simp [numZ, inZ, wordZ, loZ, hiZ]; (repeat' split) <;> omega
      clear hr
      go_enter Tryd.func40, Tryd.ntmps40
      go_wp2_with (first
        | (go_at_call 15; with_reducible refine (W1.out _).mono ?_; rintro e v1 ⟨rfl, rfl⟩)
        | (go_at_call 17; with_reducible refine (S1.out _).mono ?_; rintro e v1 ⟨rfl, rfl⟩))
      go_ret
      refine ⟨rfl, ?_⟩
      first
        | exact (Below.refl _ w).alloc (Nat.le_refl _) _
        | exact ((Below.refl _ w).alloc (Nat.le_refl _) _).setCell (Nat.le_refl _) _
  · by_cases hb : 32768 < n
    · obtain rfl : r = 18446744073709518848 := by rw [← hr]; simp [numZ, inZ, wordZ, loZ, hiZ]; (repeat' split) <;> omega
      have hx := neg_u64 (n := 32768) (by omega) (by omega)
      simp only [Int.reduceNeg, Int.reduceMod] at hx
      clear hr
      go_enter Tryd.func40, Tryd.ntmps40
      go_wp2_with (first
        | (go_at_call 15; with_reducible refine (W1.out _).mono ?_; rintro e v1 ⟨rfl, rfl⟩)
        | (go_at_call 17; with_reducible refine (S1.out _).mono ?_; rintro e v1 ⟨rfl, rfl⟩))
      go_ret
      refine ⟨rfl, ?_⟩
      first
        | exact (Below.refl _ w).alloc (Nat.le_refl _) _
        | exact ((Below.refl _ w).alloc (Nat.le_refl _) _).setCell (Nat.le_refl _) _
    · have hx := neg_u64 n0 n1
      obtain rfl : r = (-n) % 18446744073709551616 := by rw [← hr]; simp [numZ, inZ, wordZ, loZ, hiZ]; (repeat' split) <;> omega
      generalize (-n) % 18446744073709551616 = q at *
      clear hr
      go_enter Tryd.func40, Tryd.ntmps40
      go_wp2_with (first
        | (go_at_call 15; with_reducible refine (W1.out _).mono ?_; rintro e v1 ⟨rfl, rfl⟩)
        | (go_at_call 17; with_reducible refine (S1.out _).mono ?_; rintro e v1 ⟨rfl, rfl⟩))
      go_ret
      refine ⟨rfl, ?_⟩
      first
        | exact (Below.refl _ w).alloc (Nat.le_refl _) _
        | exact ((Below.refl _ w).alloc (Nat.le_refl _) _).setCell (Nat.le_refl _) _

set_option maxHeartbeats 800000 in
theorem into_7 (m : Bool) (n : Int) (w : World) (n0 : 0 ≤ n) (n1 : n < 18446744073709551616) :
    Calls Tryd.prog 40 #[.int .i64 7, .agg #[.bool m, .int .u64 n]] w fun e w' => e = .returned (.int .u64 (wordZ (inZ 7 (numZ m n)))) ∧ Below w.heap.size w w' := by
  have W1 := Lib.hid (fun w => rwidth_any 7 w (by decide))
  have S1 := Lib.hid (fun w => rsigned_any 7 w (by decide))
  simp [wid] at W1
  simp [sgn] at S1
  obtain ⟨r, hr⟩ : ∃ r, wordZ (inZ 7 (numZ m n)) = r := ⟨_, rfl⟩
  rw [hr]
  cases m
  · by_cases hb : 2147483647 < n
    · obtain rfl : r = 2147483647 := by rw [← hr]; simp [numZ, inZ, wordZ, loZ, hiZ]; (repeat' split) <;> omega
      clear hr
      go_enter Tryd.func40, Tryd.ntmps40
      go_wp2_with (first
        | (go_at_call 15; with_reducible refine (W1.out _).mono ?_; rintro e v1 ⟨rfl, rfl⟩)
        | (go_at_call 17; with_reducible refine (S1.out _).mono ?_; rintro e v1 ⟨rfl, rfl⟩))
      go_ret
      refine ⟨rfl, ?_⟩
      first
        | exact (Below.refl _ w).alloc (Nat.le_refl _) _
        | exact ((Below.refl _ w).alloc (Nat.le_refl _) _).setCell (Nat.le_refl _) _
    · obtain rfl : r = n := by rw [← hr]; simp [numZ, inZ, wordZ, loZ, hiZ]; (repeat' split) <;> omega
      clear hr
      go_enter Tryd.func40, Tryd.ntmps40
      go_wp2_with (first
        | (go_at_call 15; with_reducible refine (W1.out _).mono ?_; rintro e v1 ⟨rfl, rfl⟩)
        | (go_at_call 17; with_reducible refine (S1.out _).mono ?_; rintro e v1 ⟨rfl, rfl⟩))
      go_ret
      refine ⟨rfl, ?_⟩
      first
        | exact (Below.refl _ w).alloc (Nat.le_refl _) _
        | exact ((Below.refl _ w).alloc (Nat.le_refl _) _).setCell (Nat.le_refl _) _
  · by_cases hb : 2147483648 < n
    · obtain rfl : r = 18446744071562067968 := by rw [← hr]; simp [numZ, inZ, wordZ, loZ, hiZ]; (repeat' split) <;> omega
      have hx := neg_u64 (n := 2147483648) (by omega) (by omega)
      simp only [Int.reduceNeg, Int.reduceMod] at hx
      clear hr
      go_enter Tryd.func40, Tryd.ntmps40
      go_wp2_with (first
        | (go_at_call 15; with_reducible refine (W1.out _).mono ?_; rintro e v1 ⟨rfl, rfl⟩)
        | (go_at_call 17; with_reducible refine (S1.out _).mono ?_; rintro e v1 ⟨rfl, rfl⟩))
      go_ret
      refine ⟨rfl, ?_⟩
      first
        | exact (Below.refl _ w).alloc (Nat.le_refl _) _
        | exact ((Below.refl _ w).alloc (Nat.le_refl _) _).setCell (Nat.le_refl _) _
    · have hx := neg_u64 n0 n1
      obtain rfl : r = (-n) % 18446744073709551616 := by rw [← hr]; simp [numZ, inZ, wordZ, loZ, hiZ]; (repeat' split) <;> omega
      generalize (-n) % 18446744073709551616 = q at *
      clear hr
      go_enter Tryd.func40, Tryd.ntmps40
      go_wp2_with (first
        | (go_at_call 15; with_reducible refine (W1.out _).mono ?_; rintro e v1 ⟨rfl, rfl⟩)
        | (go_at_call 17; with_reducible refine (S1.out _).mono ?_; rintro e v1 ⟨rfl, rfl⟩))
      go_ret
      refine ⟨rfl, ?_⟩
      first
        | exact (Below.refl _ w).alloc (Nat.le_refl _) _
        | exact ((Below.refl _ w).alloc (Nat.le_refl _) _).setCell (Nat.le_refl _) _

set_option maxHeartbeats 800000 in
theorem into_8 (m : Bool) (n : Int) (w : World) (n0 : 0 ≤ n) (n1 : n < 18446744073709551616) :
    Calls Tryd.prog 40 #[.int .i64 8, .agg #[.bool m, .int .u64 n]] w fun e w' => e = .returned (.int .u64 (wordZ (inZ 8 (numZ m n)))) ∧ Below w.heap.size w w' := by
  have W1 := Lib.hid (fun w => rwidth_any 8 w (by decide))
  have S1 := Lib.hid (fun w => rsigned_any 8 w (by decide))
  simp [wid] at W1
  simp [sgn] at S1
  obtain ⟨r, hr⟩ : ∃ r, wordZ (inZ 8 (numZ m n)) = r := ⟨_, rfl⟩
  rw [hr]
  cases m
  · by_cases hb : 9223372036854775807 < n
    · obtain rfl : r = 9223372036854775807 := by rw [← hr]; simp [numZ, inZ, wordZ, loZ, hiZ]; (repeat' split) <;> omega
      clear hr
      go_enter Tryd.func40, Tryd.ntmps40
      go_wp2_with (first
        | (go_at_call 15; with_reducible refine (W1.out _).mono ?_; rintro e v1 ⟨rfl, rfl⟩)
        | (go_at_call 17; with_reducible refine (S1.out _).mono ?_; rintro e v1 ⟨rfl, rfl⟩))
      go_ret
      refine ⟨rfl, ?_⟩
      first
        | exact (Below.refl _ w).alloc (Nat.le_refl _) _
        | exact ((Below.refl _ w).alloc (Nat.le_refl _) _).setCell (Nat.le_refl _) _
    · obtain rfl : r = n := by rw [← hr]; simp [numZ, inZ, wordZ, loZ, hiZ]; (repeat' split) <;> omega
      clear hr
      go_enter Tryd.func40, Tryd.ntmps40
      go_wp2_with (first
        | (go_at_call 15; with_reducible refine (W1.out _).mono ?_; rintro e v1 ⟨rfl, rfl⟩)
        | (go_at_call 17; with_reducible refine (S1.out _).mono ?_; rintro e v1 ⟨rfl, rfl⟩))
      go_ret
      refine ⟨rfl, ?_⟩
      first
        | exact (Below.refl _ w).alloc (Nat.le_refl _) _
        | exact ((Below.refl _ w).alloc (Nat.le_refl _) _).setCell (Nat.le_refl _) _
  · by_cases hb : 9223372036854775808 < n
    · obtain rfl : r = 9223372036854775808 := by rw [← hr]; simp [numZ, inZ, wordZ, loZ, hiZ]; (repeat' split) <;> omega
      have hx := neg_u64 (n := 9223372036854775808) (by omega) (by omega)
      simp only [Int.reduceNeg, Int.reduceMod] at hx
      clear hr
      go_enter Tryd.func40, Tryd.ntmps40
      go_wp2_with (first
        | (go_at_call 15; with_reducible refine (W1.out _).mono ?_; rintro e v1 ⟨rfl, rfl⟩)
        | (go_at_call 17; with_reducible refine (S1.out _).mono ?_; rintro e v1 ⟨rfl, rfl⟩))
      go_ret
      refine ⟨rfl, ?_⟩
      first
        | exact (Below.refl _ w).alloc (Nat.le_refl _) _
        | exact ((Below.refl _ w).alloc (Nat.le_refl _) _).setCell (Nat.le_refl _) _
    · have hx := neg_u64 n0 n1
      obtain rfl : r = (-n) % 18446744073709551616 := by rw [← hr]; simp [numZ, inZ, wordZ, loZ, hiZ]; (repeat' split) <;> omega
      generalize (-n) % 18446744073709551616 = q at *
      clear hr
      go_enter Tryd.func40, Tryd.ntmps40
      go_wp2_with (first
        | (go_at_call 15; with_reducible refine (W1.out _).mono ?_; rintro e v1 ⟨rfl, rfl⟩)
        | (go_at_call 17; with_reducible refine (S1.out _).mono ?_; rintro e v1 ⟨rfl, rfl⟩))
      go_ret
      refine ⟨rfl, ?_⟩
      first
        | exact (Below.refl _ w).alloc (Nat.le_refl _) _
        | exact ((Below.refl _ w).alloc (Nat.le_refl _) _).setCell (Nat.le_refl _) _


theorem into_any (k : Int) (m : Bool) (n : Int) (w : World) (k1 : 1 ≤ k) (k8 : k ≤ 8) (n0 : 0 ≤ n) (n1 : n < 18446744073709551616) :
    Calls Tryd.prog 40 #[.int .i64 k, .agg #[.bool m, .int .u64 n]] w fun e w' => e = .returned (.int .u64 (wordZ (inZ k (numZ m n)))) ∧ Below w.heap.size w w' := by
  rcases kinds k with rfl | rfl | rfl | rfl | rfl | rfl | rfl | rfl | rfl | hout
  · exact into_1 m n w n0 n1
  · exact into_2 m n w n0 n1
  · exact into_3 m n w n0 n1
  · exact into_4 m n w n0 n1
  · exact into_5 m n w n0 n1
  · exact into_6 m n w n0 n1
  · exact into_7 m n w n0 n1
  · exact into_8 m n w n0 n1
  · omega
  · omega

/-- What whole tells. -/
def wholeM (x : Int) : Bool := if x % 9223372036854775808 < 4607182418800017408 then false else decide (9223372036854775808 ≤ x)
def wholeN (x : Int) : Int := if x % 9223372036854775808 < 4607182418800017408 then 0 else if 4895412794951729152 ≤ x % 9223372036854775808 then 18446744073709551615 else (Flt.tr (x % 9223372036854775808).toNat : Int)

theorem or_52 {l : Int} (l0 : 0 ≤ l) (l1 : l < 4503599627370496) : bits .or .u64 l 4503599627370496 = 4503599627370496 + l := by
  obtain ⟨N, rfl⟩ : ∃ N : Nat, l = N := ⟨l.toNat, by omega⟩
  have := or_high N 1 52 (by omega) (by omega)
  simp at this
  rw [this]; omega

set_option maxHeartbeats 1600000 in
theorem whole_any (x : Int) (w : World) (hx : (Lit.int .u64 x).wf = true) (hn : Flt.nanB x.toNat = false) :
    Calls Tryd.prog 41 #[.int .u64 x] w fun e w' => e = .returned (.agg #[.bool (wholeM x), .int .u64 (wholeN x)]) ∧ Below w.heap.size w w' := by
  obtain ⟨x0, x1⟩ := u64_range hx
  have n1 := fun w => nan_any x w hx
  simp only [hn] at n1
  have N1 := Lib.hid n1
  have a1 := (and_bits (n := x / 4503599627370496) (by omega) (by omega)).1
  have a2 := (and_bits x0 x1).2.1
  have a3 := or_52 (l := x % 4503599627370496) (by omega) (by omega)
  have hm0 : 4503599627370496 ≤ 4503599627370496 + x % 4503599627370496 ∧ 4503599627370496 + x % 4503599627370496 < 9007199254740992 := by omega
  have hr : (x % 9223372036854775808).toNat / 4503599627370496 = (x / 4503599627370496 % 2048).toNat := by omega
  have hr2 : (x % 9223372036854775808).toNat % 4503599627370496 = (x % 4503599627370496).toNat := by omega
  have he : 0 ≤ x / 4503599627370496 % 2048 ∧ x / 4503599627370496 % 2048 < 2048 := by omega
  have hs : (x / 9223372036854775808 == 1) = decide (9223372036854775808 ≤ x) := by rw [Bool.eq_iff_iff]; simp; omega
  have c1 : x % 9223372036854775808 < 4607182418800017408 ↔ x / 4503599627370496 % 2048 < 1023 := by omega
  have c2 : 4895412794951729152 ≤ x % 9223372036854775808 ↔ 1087 ≤ x / 4503599627370496 % 2048 := by omega
  unfold wholeM wholeN
  simp only [c1, c2]
  have tl := fun h => Flt.tr_low hr h
  have th := fun h => Flt.tr_high hr h
  rw [hr2] at tl th
  clear c1 c2 hr hr2 n1 hn
  generalize decide (9223372036854775808 ≤ x) = sg at *
  generalize (x % 9223372036854775808).toNat = rg at *
  have hmn : ((4503599627370496 + (x % 4503599627370496).toNat : Nat) : Int) = 4503599627370496 + x % 4503599627370496 := by omega
  generalize x % 4503599627370496 = l at *
  generalize 4503599627370496 + l = M at *
  generalize x / 4503599627370496 % 2048 = E at *
  obtain ⟨he0, he1⟩ := he
  by_cases h1 : E < 1023
  · rw [if_pos h1, if_pos h1]
    clear tl th
    go_enter Tryd.func41, Tryd.ntmps41
    go_wp2_with (go_at_call 39; with_reducible refine (N1.out _).mono ?_; rintro e v1 ⟨rfl, rfl⟩)
    refine bodyPost_ret (results_cell_row rfl _ _ w.heap.size 55 _ (0, 0) _ rfl (heap_alloc_new w _) Tryd.underlying55 rfl (by kernel_rfl)) rfl ?_
    exact ⟨rfl, (Below.refl _ w).alloc (Nat.le_refl _) _⟩
  rw [if_neg h1, if_neg h1]
  by_cases h2 : 1087 ≤ E
  · rw [if_pos h2]
    clear tl th
    go_enter Tryd.func41, Tryd.ntmps41
    go_wp2_with (go_at_call 39; with_reducible refine (N1.out _).mono ?_; rintro e v1 ⟨rfl, rfl⟩)
    refine bodyPost_ret (results_cell_row rfl _ _ w.heap.size 55 _ (0, 0) _ rfl (heap_alloc_new w _) Tryd.underlying55 rfl (by kernel_rfl)) rfl ?_
    exact ⟨rfl, (Below.refl _ w).alloc (Nat.le_refl _) _⟩
  rw [if_neg h2]
  obtain ⟨K, hK⟩ : ∃ K, E - 1023 = K := ⟨_, rfl⟩
  by_cases h3 : K ≤ 52
  · have t := tl (by omega)
    obtain ⟨D, hD⟩ : ∃ D, 52 - K = D := ⟨_, rfl⟩
    have hd : D.toNat = 1075 - E.toNat := by omega
    have ht : M / 2 ^ D.toNat = (Flt.tr rg : Int) := by
      rw [t, hd, ← hmn]
      simp
    clear tl th t hd hmn
    generalize (Flt.tr rg : Int) = T at *
    go_enter Tryd.func41, Tryd.ntmps41
    go_wp2_with (go_at_call 39; with_reducible refine (N1.out _).mono ?_; rintro e v1 ⟨rfl, rfl⟩)
    refine bodyPost_ret (results_cell_row rfl _ _ w.heap.size 55 _ (0, 0) _ rfl (heap_alloc_new w _) Tryd.underlying55 rfl (by kernel_rfl)) rfl ?_
    exact ⟨rfl, (Below.refl _ w).alloc (Nat.le_refl _) _⟩
  · have t := th (by omega)
    obtain ⟨D, hD⟩ : ∃ D, K - 52 = D := ⟨_, rfl⟩
    have hd : D.toNat = E.toNat - 1075 := by omega
    have ht : IntKind.u64.wrap (M * 2 ^ D.toNat) = (Flt.tr rg : Int) := by
      have hp : M * 2 ^ D.toNat = (Flt.tr rg : Int) := by
        rw [t, hd, ← hmn]
        simp
      rw [IntKind.wrap_u64, hp]
      have hb : Flt.tr rg < 18446744073709551616 := by
        rw [t]
        calc _ < 9007199254740992 * 2 ^ (E.toNat - 1075) := Nat.mul_lt_mul_of_pos_right (by omega) (Nat.two_pow_pos _)
          _ ≤ 9007199254740992 * 2 ^ 11 := Nat.mul_le_mul_left _ (Nat.pow_le_pow_right (by omega) (by omega))
          _ = 18446744073709551616 := by decide
      omega
    clear tl th t hd hmn
    generalize (Flt.tr rg : Int) = T at *
    go_enter Tryd.func41, Tryd.ntmps41
    go_wp2_with (go_at_call 39; with_reducible refine (N1.out _).mono ?_; rintro e v1 ⟨rfl, rfl⟩)
    refine bodyPost_ret (results_cell_row rfl _ _ w.heap.size 55 _ (0, 0) _ rfl (heap_alloc_new w _) Tryd.underlying55 rfl (by kernel_rfl)) rfl ?_
    exact ⟨rfl, (Below.refl _ w).alloc (Nat.le_refl _) _⟩

end Go.Proofs.YtgiidhmjkkgkaaaDoor
