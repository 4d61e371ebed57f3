/- The reference of layer 2: Width, Signed, Clip, Read. -/
import Derived.Test.YtdelmhcbmlbojaaDoorWJ
import Derived.Test.YtdelmhcbmlbojaaDoorOctE
import Derived.Test.YtdelmhcbmlbojaaDoorBits
namespace Go.Proofs.YtdelmhcbmlbojaaDoor
open Go.RowKit
set_option linter.unusedVariables false
set_option linter.unusedSimpArgs false

set_option maxHeartbeats 400000 in
theorem rwidth_any (k : Int) (w : World) (hk : (Lit.int .i64 k).wf = true) :
    Calls Tryd.prog 33 #[.int .i64 k] w fun e w' => e = .returned (.int .i64 (wid k)) ∧ w = w' := by
  rcases kinds k with rfl | rfl | rfl | rfl | rfl | rfl | rfl | rfl | rfl | hout
  case inr.inr.inr.inr.inr.inr.inr.inr.inr =>
    have e : wid k = 0 := by unfold wid; (repeat rw [if_neg (by omega)])
    rw [e]; clear e
    have h1 : (k == 1) = false := by simp; omega
    have h2 : (k == 2) = false := by simp; omega
    have h3 : (k == 3) = false := by simp; omega
    have h4 : (k == 4) = false := by simp; omega
    have h5 : (k == 5) = false := by simp; omega
    have h6 : (k == 6) = false := by simp; omega
    have h7 : (k == 7) = false := by simp; omega
    have h8 : (k == 8) = false := by simp; omega
    have h9 : (k == 9) = false := by simp; omega
    go_enter Tryd.func33, Tryd.ntmps33
    go_wp2
    go_ret
    exact ⟨rfl, rfl⟩
  all_goals
    go_enter Tryd.func33, Tryd.ntmps33
    go_wp2
    go_ret
    exact ⟨rfl, rfl⟩

theorem rsigned_any (k : Int) (w : World) (hk : (Lit.int .i64 k).wf = true) :
    Calls Tryd.prog 52 #[.int .i64 k] w fun e w' => e = .returned (.bool (sgn k)) ∧ w = w' := by
  by_cases h1 : 5 ≤ k
  · have e : sgn k = decide (k ≤ 8) := by unfold sgn; simp [h1]
    rw [e]; clear e
    go_enter Tryd.func52, Tryd.ntmps52
    go_wp2
    go_ret
    exact ⟨rfl, rfl⟩
  · have e : sgn k = false := by unfold sgn; simp [h1]
    rw [e]; clear e
    go_enter Tryd.func52, Tryd.ntmps52
    go_wp2
    go_ret
    exact ⟨rfl, rfl⟩

theorem and_low {n : Int} (n0 : 0 ≤ n) (n1 : n < 18446744073709551616) :
    bits .and .u64 n 255 = n % 256 ∧ bits .and .u64 n 65535 = n % 65536 ∧ bits .and .u64 n 4294967295 = n % 4294967296 := by
  obtain ⟨N, rfl⟩ : ∃ N : Nat, n = N := ⟨n.toNat, by omega⟩
  have a := u64_and_mask N 8 255 (by omega) (by omega) (by decide)
  have b := u64_and_mask N 16 65535 (by omega) (by omega) (by decide)
  have c := u64_and_mask N 32 4294967295 (by omega) (by omega) (by decide)
  exact ⟨by simpa using a, by simpa using b, by simpa using c⟩
theorem or_high (l q k : Nat) (hl : l < 2 ^ k) (hc : l + q * 2 ^ k < 18446744073709551616) : bits .or .u64 (l : Int) ((q * 2 ^ k : Nat) : Int) = ((l + q * 2 ^ k : Nat) : Int) := by
  rw [bits_or_u64_nat l (q * 2 ^ k) (by omega) (by omega), Nat.or_comm, Nat.mul_comm, ← Nat.two_pow_add_eq_or_of_lt hl, Nat.add_comm]
theorem or_ones {l : Int} (l0 : 0 ≤ l) :
    (l < 256 → bits .or .u64 l 18446744073709551360 = l + 18446744073709551360) ∧ (l < 65536 → bits .or .u64 l 18446744073709486080 = l + 18446744073709486080) ∧
    (l < 4294967296 → bits .or .u64 l 18446744069414584320 = l + 18446744069414584320) := by
  obtain ⟨N, rfl⟩ : ∃ N : Nat, l = N := ⟨l.toNat, by omega⟩
  refine ⟨fun h => ?_, fun h => ?_, fun h => ?_⟩
  · have := or_high N 72057594037927935 8 (by omega) (by omega); simpa using this
  · have := or_high N 281474976710655 16 (by omega) (by omega); simpa using this
  · have := or_high N 4294967295 32 (by omega) (by omega); simpa using this

set_option maxHeartbeats 1600000 in
theorem rclip_any (k n : Int) (w : World) (hk : (Lit.int .i64 k).wf = true) (hn : (Lit.int .u64 n).wf = true) :
    Calls Tryd.prog 34 #[.int .i64 k, .int .u64 n] w fun e w' => e = .returned (.int .u64 (clipS k n)) ∧ w = w' := by
  have W1 := Lib.hid (fun w => rwidth_any k w hk)
  have S1 := Lib.hid (fun w => rsigned_any k w hk)
  obtain ⟨n0, n1⟩ := u64_range hn
  obtain ⟨a1, a2, a3⟩ := and_low n0 n1
  rcases kinds k with rfl | rfl | rfl | rfl | rfl | rfl | rfl | rfl | rfl | hout
  case inr.inr.inr.inr.inr.inr.inr.inr.inr =>
    have e : clipS k n = 0 := by unfold clipS; (repeat rw [if_neg (by omega)])
    have e2 : wid k = 0 := by unfold wid; (repeat rw [if_neg (by omega)])
    rw [e]; rw [e2] at W1; clear e e2
    go_enter Tryd.func34, Tryd.ntmps34
    go_wp2_with (first
      | (go_at_call 33; with_reducible refine (W1.out _).mono ?_; rintro e v1 ⟨rfl, rfl⟩)
      | (go_at_call 52; with_reducible refine (S1.out _).mono ?_; rintro e v1 ⟨rfl, rfl⟩))
    go_ret
    exact ⟨rfl, rfl⟩
  all_goals
    generalize hr : clipS _ n = r
    unfold clipS at hr
    simp [wid] at W1
    simp [sgn] at S1 hr
  case' inr.inr.inr.inr.inl =>
    have l0 : 0 ≤ n % 256 ∧ n % 256 < 256 := by omega
    generalize n % 256 = l at *
    have o1 := (or_ones l0.1).1 l0.2
    by_cases hb : l < 128 <;> simp only [hb, if_true, if_false] at hr <;> subst hr
  case' inr.inr.inr.inr.inr.inl =>
    have l0 : 0 ≤ n % 65536 ∧ n % 65536 < 65536 := by omega
    generalize n % 65536 = l at *
    have o1 := (or_ones l0.1).2.1 l0.2
    by_cases hb : l < 32768 <;> simp only [hb, if_true, if_false] at hr <;> subst hr
  case' inr.inr.inr.inr.inr.inr.inl =>
    have l0 : 0 ≤ n % 4294967296 ∧ n % 4294967296 < 4294967296 := by omega
    generalize n % 4294967296 = l at *
    have o1 := (or_ones l0.1).2.2 l0.2
    by_cases hb : l < 2147483648 <;> simp only [hb, if_true, if_false] at hr <;> subst hr
  all_goals
    first
      | (have d1 : (l / 128 == 1) = false := by (simp; omega))
      | (have d1 : (l / 128 == 1) = true := by (simp; omega))
      | (have d1 : (l / 32768 == 1) = false := by (simp; omega))
      | (have d1 : (l / 32768 == 1) = true := by (simp; omega))
      | (have d1 : (l / 2147483648 == 1) = false := by (simp; omega))
      | (have d1 : (l / 2147483648 == 1) = true := by (simp; omega))
      | skip
    go_enter Tryd.func34, Tryd.ntmps34
    go_wp2_with (first
      | (go_at_call 33; with_reducible refine (W1.out _).mono ?_; rintro e v1 ⟨rfl, rfl⟩)
      | (go_at_call 52; with_reducible refine (S1.out _).mono ?_; rintro e v1 ⟨rfl, rfl⟩))
    go_ret
    exact ⟨by simp_all [IntKind.wrap_u64], rfl⟩

set_option maxHeartbeats 1600000 in
theorem rread_any (k : Int) (s : ByteArray) (w : World) (hk : (Lit.int .i64 k).wf = true) (hs : s.size ≤ 281474976710656) :
    Calls Tryd.prog 48 #[.int .i64 k, .string s] w fun e w' => e = .returned (.tuple #[.int .u64 (readV k s), .int .i64 (readE k s)]) ∧ w = w' := by
  have HW := Lib.hid (fun w => rwidth_any k w hk)
  have hr := wid_range k
  have hg := fun w => rget_any s 0 (wid k) w (by decide) (wf_i64 (by omega) (by omega)) hs
  obtain ⟨g0, g1⟩ := getN_range s (wid k) hr.1 hr.2
  have HC := Lib.hid (fun w => rclip_any k (getN s 0 (wid k)) w hk (wf_u64 g0 g1))
  by_cases hz : wid k = 0
  · have e1 : readV k s = 0 := by unfold readV; rw [if_pos hz]
    have e2 : readE k s = 1 := by unfold readE; rw [if_pos hz]
    rw [e1, e2]; clear e1 e2
    rw [hz] at HW
    clear hg HC g0 g1 hr hz
    go_enter Tryd.func48, Tryd.ntmps48
    go_wp2_with (go_at_call 33; with_reducible refine (HW.out _).mono ?_; rintro e v1 ⟨rfl, rfl⟩)
    go_ret2
    exact ⟨rfl, rfl⟩
  have hz0 : (wid k == 0) = false := by simpa using hz
  by_cases hl : (s.size : Int) = wid k
  · have e1 : readV k s = clipS k (getN s 0 (wid k)) := by unfold readV; rw [if_neg hz, if_neg (by omega)]
    have e2 : readE k s = 0 := by unfold readE; rw [if_neg hz, if_neg (by omega)]
    rw [e1, e2]; clear e1 e2 g0 g1
    have hl0 : ((s.size : Int) != wid k) = false := by simp [hl]
    have ho : hol s.size 0 (wid k) = true := by rw [hol_iff]; omega
    rw [ho] at hg
    have HG := Lib.hid hg
    clear hg ho
    generalize clipS k (getN s 0 (wid k)) = r at *
    generalize getN s 0 (wid k) = g at *
    generalize wid k = a at *
    clear hl hz
    go_enter Tryd.func48, Tryd.ntmps48
    go_wp2_with (first
      | (go_at_call 33; with_reducible refine (HW.out _).mono ?_; rintro e v1 ⟨rfl, rfl⟩)
      | (go_at_call 59; with_reducible refine (HG.out _).mono ?_; rintro e v1 ⟨rfl, rfl⟩)
      | (go_at_call 34; with_reducible refine (HC.out _).mono ?_; rintro e v1 ⟨rfl, rfl⟩))
    go_ret2
    exact ⟨rfl, rfl⟩
  · have e1 : readV k s = 0 := by unfold readV; rw [if_neg hz, if_pos hl]
    have e2 : readE k s = 10 := by unfold readE; rw [if_neg hz, if_pos hl]
    rw [e1, e2]; clear e1 e2 g0 g1
    have hl0 : ((s.size : Int) != wid k) = true := by simpa using hl
    clear HC hr
    generalize getN s 0 (wid k) = g at *
    cases ho : hol s.size 0 (wid k)
    all_goals
      rw [ho] at hg
      have HG := Lib.hid hg
      clear hg ho
      generalize wid k = a at *
      clear hl hz
      go_enter Tryd.func48, Tryd.ntmps48
      go_wp2_with (first
        | (go_at_call 33; with_reducible refine (HW.out _).mono ?_; rintro e v1 ⟨rfl, rfl⟩)
        | (go_at_call 59; with_reducible refine (HG.out _).mono ?_; rintro e v1 ⟨rfl, rfl⟩))
      go_ret2
      exact ⟨rfl, rfl⟩
end Go.Proofs.YtdelmhcbmlbojaaDoor
