/- OctetRound: for any two numbers, cut to 40 and 20 bits, one is rounded up by less than what goes into it; rounded again it stays. -/
import Derived.Test.YtbojahbagfhpfaaAwake
import Derived.Test.YtbojahbagfhpfaaBits
namespace Go.Proofs.Ytbojahbagfhpfaa.lawRound
open Go.ChangeShapes Go.WideShapes Go.ChangeAt Go.RowKit
set_option linter.unusedVariables false

theorem facts {n b : Int} (h0 : 0 ≤ n) (h1 : n ≤ 1099511627775) (h2 : 1 ≤ b) (h3 : b ≤ 1048576) :
    rndOk n b = true ∧ n ≤ rndTo n b ∧ rndTo n b - n < b ∧ rndTo n b % b = 0 ∧ rndTo n b ≤ 1100000000000 := by
  have hm := Int.emod_nonneg n (show b ≠ 0 by omega)
  have hm2 := Int.emod_lt_of_pos n (show 0 < b by omega)
  by_cases hz : n % b = 0
  · obtain ⟨e1, e2⟩ := rnd_zero ⟨h0, by omega, h2⟩ hz
    rw [e2]
    exact ⟨e1, by omega, by omega, hz, by omega⟩
  · obtain ⟨e1, e2⟩ := rnd_yes ⟨h0, by omega, h2⟩ hz (by omega)
    rw [e2]
    refine ⟨e1, by omega, by omega, ?_, by omega⟩
    have hd := Int.mul_ediv_add_emod n b
    have : n + (b - n % b) = b * (n / b + 1) := by rw [Int.mul_add]; omega
    rw [this, Int.mul_emod_right]

set_option maxHeartbeats 1600000 in
theorem walk (a0 a1 : Int) (w : World) (w0 : (Lit.int .i64 a0).wf = true) (w1 : (Lit.int .i64 a1).wf = true) :
    Calls Try.prog 6 #[.int .i64 a0, .int .i64 a1] w fun e w' => e = .returned (.bool true) ∧ Below w.heap.size w w' := by
  have haw := fun w => awake_any w
  have HA := Lib.hid haw
  clear haw
  have hB := Below.refl w.heap.size w
  obtain ⟨n, hn⟩ : ∃ n, bits .and .i64 a0 1099511627775 = n := ⟨_, rfl⟩
  obtain ⟨c, hc⟩ : ∃ c, bits .and .i64 a1 1048575 = c := ⟨_, rfl⟩
  have n0 : 0 ≤ n ∧ n ≤ 1099511627775 := by rw [← hn, i64_and40]; omega
  have c0 : 0 ≤ c ∧ c ≤ 1048575 := by rw [← hc, i64_and20]; omega
  obtain ⟨n0, n1⟩ := n0
  obtain ⟨c0, c1⟩ := c0
  obtain ⟨f1, f2, f3, f4, f5⟩ := facts n0 n1 (show 1 ≤ 1 + c by omega) (by omega)
  obtain ⟨g1, g2⟩ := rnd_zero (n := rndTo n (1 + c)) (b := 1 + c) ⟨by omega, by omega, by omega⟩ f4
  have hr1 := fun w => round_any n (1 + c) w (WalkArith.wf_i64 (by omega)) (WalkArith.wf_i64 (by omega))
  have hr2 := fun w => round_any (rndTo n (1 + c)) (1 + c) w (WalkArith.wf_i64 (by omega)) (WalkArith.wf_i64 (by omega))
  rw [g1, g2] at hr2
  rw [f1] at hr1
  generalize rndTo n (1 + c) = r at *
  have H1 := Lib.hid hr1
  have H2 := Lib.hid hr2
  clear hr1 hr2 g1 g2 f1
  go_enter Try.func6, Try.ntmps6
  go_wp2_with (first
    | (go_at_call 10; refine (HA.out _).mono ?_; rintro e v1 ⟨rfl, hb⟩; replace hB := hB.trans (hb.mono hB.size); clear hb)
    | (go_at_call 22; with_reducible refine (H1.out _).mono ?_; rintro e v2 ⟨rfl, rfl⟩)
    | (go_at_call 22; with_reducible refine (H2.out _).mono ?_; rintro e v2 ⟨rfl, rfl⟩))
  go_ret
  exact ⟨rfl, hB⟩

set_option maxRecDepth 100000 in
theorem lifted (os : Os) (started : os.Started) (H : Type) (enc : TypeId × Value → H) :
    ReturnsInHanded {} Try.checked os 6 .any (Rows.octetRoundSpec.pre6 enc Try.prog Try.f6 Rows.octetRoundRow.domain false) (Rows.octetRoundSpec.post enc Try.prog Try.f6 false true false false) := by
  refine returnsInHanded_of_change (C := Try.checked) own started (by kernel_rfl) Try.func6
    (ChangeSpec.witness6 (enc := enc) (C := Try.checked) false ⟨#[], #[.int .i64 0, .int .i64 0], []⟩ 8 (by kernel_rfl) (by kernel_rfl) (by kernel_rfl) (by kernel_rfl)) ?_
  intro W base args ds gs before hval0 hW hcnd _
  have hval : ∀ (j : Nat) t v, Try.f6.params[j]? = some t → args[j]? = some v → Value.okWide Try.prog W .any base t v := hval0
  have hW' := hW
  obtain ⟨p, q, hA0, hV, rfl, hfz, hnd⟩ := hW
  have hA : DataW.TrodAll enc Try.prog W 0 (fun _ => true) true Try.f6.params.toList args.toList ds p := hA0
  rw [Try.params6] at hA hval
  obtain ⟨v0, vs0, d0, ds0, p0, q0, hargs, rfl, rfl, h0, r0⟩ := trodAll_cons hA
  obtain ⟨v1, vs1, d1, ds1, p1, q1, rfl, rfl, rfl, h1, r1⟩ := trodAll_cons r0
  obtain ⟨rfl, rfl, rfl⟩ := trodAll_nil r1
  obtain rfl : args = #[v0, v1] := by cases args; simp_all
  obtain ⟨rfl, rfl⟩ := trodVars_none hV
  have k0 := h0
  have lt0 : ∀ x ∈ p0, x.block < W.heap.size := by obtain ⟨m, hm⟩ := k0; exact DataW.trod_lt m _ _ _ hm
  obtain ⟨a0, rfl, _, _, w0⟩ := open_int Try.underlying3 (hval 0 3 v0 rfl rfl) h0
  have k1 := h1
  have lt1 : ∀ x ∈ p1, x.block < W.heap.size := by obtain ⟨m, hm⟩ := k1; exact DataW.trod_lt m _ _ _ hm
  obtain ⟨a1, rfl, _, _, w1⟩ := open_int Try.underlying3 (hval 1 3 v1 rfl rfl) h1
  clear hA0 hval0
  refine (walk a0 a1 W w0 w1).mono fun e W' ⟨he, bel⟩ => ?_
  subst he
  exact ⟨_, rfl, _, _, _, [], _, [], hW', trodAll_mk1 (shut_bool Try.underlying4 _), (trodAll_cons_mk (Below.trod laidOut (by kernel_rfl) (of_decide_eq_true (by kernel_rfl)) k0 bel lt0) (trodAll_cons_mk (Below.trod laidOut (by kernel_rfl) (of_decide_eq_true (by kernel_rfl)) k1 bel lt1) trodAll_mk0)), rfl, bel.frame _, fun h => by cases h⟩
theorem over : Rows.octetRoundRow.holds Try.pinned (OpenSpec.ofChange Rows.octetRoundSpec) :=
  OpenClaim.holds_of_wide 6 Try.f6 rfl rfl rfl rfl rfl rfl rfl ⟨rfl, rfl, rfl, rfl, rfl⟩ rfl rfl rfl rfl rfl (by kernel_rfl) Try.func6 (by kernel_rfl)
    (of_decide_eq_true (by kernel_rfl)) (by unfold Func.isWrapper; first | (rw [if_pos (by decide +kernel)]; kernel_rfl) | (rw [if_neg (by decide +kernel)]; exact ⟨rfl, rfl⟩))
    (fun os started H enc _ => lifted os started H enc)
/-- The statement. -/
theorem proved : Rows.OctetRoundSaid := over
end Go.Proofs.Ytbojahbagfhpfaa.lawRound
