/- Package word: Clip, ends. -/
import Derived.Test.YtbidlabhekiijaaDoorWA
import Derived.Laws.Bits64
namespace Go.Proofs.YtbidlabhekiijaaDoor
open Go.RowKit
set_option linter.unusedVariables false
set_option linter.unusedSimpArgs false

theorem u64_range {n : Int} (h : (Lit.int .u64 n).wf = true) : 0 ≤ n ∧ n < 18446744073709551616 := by
  simp [Lit.wf, IntKind.min, IntKind.max, IntKind.bits, IntKind.signed] at h; omega

theorem wf_u64 {n : Int} (h : 0 ≤ n) (h' : n < 18446744073709551616) : (Lit.int .u64 n).wf = true := by
  simp [Lit.wf, IntKind.min, IntKind.max, IntKind.bits, IntKind.signed]; omega

theorem wid_zero {k : Int} : wid k = 0 ↔ k < 1 ∨ 9 < k := by
  unfold wid; (repeat' split) <;> omega
theorem clipS_range (k n : Int) (h : 0 ≤ n) (h' : n < 18446744073709551616) : 0 ≤ clipS k n ∧ clipS k n < 18446744073709551616 := by
  unfold clipS; (repeat' split) <;> omega

theorem wrap_i64W (n : Int) : IntKind.i64.wrap n = (n + 9223372036854775808) % 18446744073709551616 - 9223372036854775808 := by
  simp [IntKind.wrap, IntKind.bits, IntKind.signed]
  omega

set_option maxHeartbeats 800000 in
theorem clip_any (k n : Int) (w : World) (hk : (Lit.int .i64 k).wf = true) (hn : (Lit.int .u64 n).wf = true) (hT : Tab w) :
    Calls Tryd.prog 78 #[.int .i64 k, .int .u64 n] w fun e w' => e = .returned (.int .u64 (clipS k n)) ∧ w = w' := by
  have HW := Lib.hid (width_any k w hk hT)
  have HS := Lib.hid (signed_any k w hk)
  obtain ⟨n0, n1⟩ := u64_range hn
  clear hT
  rcases kinds k with rfl | rfl | rfl | rfl | rfl | rfl | rfl | rfl | rfl | hout
  case inr.inr.inr.inr.inr.inr.inr.inr.inr =>
    have e : clipS k n = 0 := by unfold clipS; (repeat rw [if_neg (by omega)])
    have e2 : wid k = 0 := by unfold wid; (repeat rw [if_neg (by omega)])
    rw [e]; rw [e2] at HW; clear e e2
    go_enter Tryd.func78, Tryd.ntmps78
    go_wp2_with (go_at_call 75; refine HW.out.mono ?_; rintro e w' ⟨rfl, rfl⟩)
    go_ret
    exact ⟨rfl, rfl⟩
  all_goals
    generalize hr : clipS _ n = r
    unfold clipS at hr
    simp [wid] at HW
    simp [sgn] at HS hr
    go_enter Tryd.func78, Tryd.ntmps78
    go_wp2_with (first
      | (go_at_call 75; refine HW.out.mono ?_; rintro e w' ⟨rfl, rfl⟩)
      | (go_at_call 79; refine HS.out.mono ?_; rintro e w' ⟨rfl, rfl⟩))
    go_ret
    refine ⟨?_, rfl⟩
    refine congrArg (fun z => Ending.returned (Value.int .u64 z)) ?_
    try simp only [IntKind.wrap_u64, wrap64, wrap_i64W]
    try (split at hr)
    all_goals omega
end Go.Proofs.YtbidlabhekiijaaDoor
