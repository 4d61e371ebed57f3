/- RegionKeeps: for any changes, to 10, of an empty row, any pages from, to and any Perm by their rests: each page of the cut row has what it had, but those cut, which are none's; each page of the protected one has what it had, but the Perm of those protected; it is done if all of them are there. -/
import Derived.Test.YtmknkdfdkanijaaUKA0
import Derived.Test.YtmknkdfdkanijaaUKA1
import Derived.Test.YtmknkdfdkanijaaUKB0
import Derived.Test.YtmknkdfdkanijaaUKB1
namespace Go.Proofs.Ytmknkdfdkanijaa.lawKeeps
open Go.ChangeShapes Go.WideShapes Go.ChangeAt Go.RowKit Go.Deep
set_option linter.unusedVariables false
set_option linter.unusedSimpArgs false

theorem walk (A : Option Addr) (ops : List OpU) (c : Nat) (q0 q1 q2 : Int) (w : World) (hmax : ops.length ≤ maxLen) (hrow : OpRow w A ops) (w0 : (Lit.int .i64 q0).wf = true) (w1 : (Lit.int .i64 q1).wf = true) (w2 : (Lit.int .i64 q2).wf = true) :
    Calls Try.prog 4 #[.slice A ops.length c, .agg #[.int .i64 q0, .int .i64 q1, .int .i64 q2]] w fun e w' => e = .returned (.bool true) ∧ Below w.heap.size w w' := by
  by_cases h1 : ops.length ≤ 10
  · by_cases h2 : q0 % 64 < q1 % 64
    · exact walkB1 A ops c q0 q1 q2 w hmax h1 h2 hrow w0 w1 w2
    · exact walkB0 A ops c q0 q1 q2 w hmax h1 h2 hrow w0 w1 w2
  · by_cases h2 : q0 % 64 < q1 % 64
    · exact walkA1 A ops c q0 q1 q2 w hmax (by omega) h2 hrow w0 w1 w2
    · exact walkA0 A ops c q0 q1 q2 w hmax (by omega) h2 hrow w0 w1 w2

set_option maxRecDepth 100000 in
theorem lifted (os : Os) (started : os.Started) (H : Type) (enc : TypeId × Value → H) :
    ReturnsInHanded {} Try.checked os 4 .any (Rows.regionKeepsSpec.pre6 enc Try.prog Try.f4 Rows.regionKeepsRow.domain false) (Rows.regionKeepsSpec.post enc Try.prog Try.f4 false true false false) := by
  refine returnsInHanded_of_change (C := Try.checked) own started (by kernel_rfl) Try.func4
    (ChangeSpec.witness6 (enc := enc) (C := Try.checked) false ⟨#[], #[.slice none 0 0, .agg #[.int .i64 0, .int .i64 0, .int .i64 0]], []⟩ 8 (by kernel_rfl) (by kernel_rfl) (by kernel_rfl) (by kernel_rfl)) ?_
  intro W base args ds gs before hval0 hW hcnd _
  have hval : ∀ (j : Nat) t v, Try.f4.params[j]? = some t → args[j]? = some v → Value.okWide Try.prog W .any base t v := hval0
  have hW' := hW
  obtain ⟨p, q, hA0, hV, rfl, hfz, hnd⟩ := hW
  have hA : DataW.TrodAll enc Try.prog W 0 (fun _ => true) true Try.f4.params.toList args.toList ds p := hA0
  rw [Try.params4] at hA hval
  obtain ⟨v0, vs0, d0, ds0, p0, q0, hargs, rfl, rfl, h0, r0⟩ := trodAll_cons hA
  obtain ⟨v1, vs1, d1, ds1, p1, q1, rfl, rfl, rfl, h1, r1⟩ := trodAll_cons r0
  obtain ⟨rfl, rfl, rfl⟩ := trodAll_nil r1
  obtain rfl : args = #[v0, v1] := by cases args; simp_all
  obtain ⟨rfl, rfl⟩ := trodVars_none hV
  have k0 := h0
  have lt0 : ∀ x ∈ p0, x.block < W.heap.size := by obtain ⟨m, hm⟩ := k0; exact DataW.trod_lt m _ _ _ hm
  obtain ⟨LA0, Ll0, Lc0, rfl, Lm0, Lr0⟩ := open_opsU (hval 0 22 v0 rfl rfl) h0
  have k1 := h1
  have lt1 : ∀ x ∈ p1, x.block < W.heap.size := by obtain ⟨m, hm⟩ := k1; exact DataW.trod_lt m _ _ _ hm
  obtain ⟨z1, e1, hl1, hw1⟩ := open_ints_array Try.underlying49 Try.underlying3 (by kernel_rfl) (by kernel_rfl) (hval 1 49 v1 rfl rfl) h1
  obtain ⟨a1_0, a1_1, a1_2, rfl⟩ : ∃ a1_0 a1_1 a1_2, z1 = [a1_0, a1_1, a1_2] := by
    match z1, hl1 with
    | [a1_0, a1_1, a1_2], _ => exact ⟨_, _, _, rfl⟩
  obtain rfl : v1 = .agg #[.int .i64 a1_0, .int .i64 a1_1, .int .i64 a1_2] := e1
  clear hA0 hval0
  refine (walk LA0 Ll0 Lc0 a1_0 a1_1 a1_2 W Lm0 Lr0 (hw1 a1_0 (by simp)) (hw1 a1_1 (by simp)) (hw1 a1_2 (by simp))).mono fun e W' ⟨he, bel⟩ => ?_
  subst he
  exact ⟨_, rfl, _, _, _, [], _, [], hW', trodAll_mk1 (shut_bool Try.underlying4 _), (trodAll_cons_mk (Below.trod laidOut (by kernel_rfl) (of_decide_eq_true (by kernel_rfl)) k0 bel lt0) (trodAll_cons_mk (Below.trod laidOut (by kernel_rfl) (of_decide_eq_true (by kernel_rfl)) k1 bel lt1) trodAll_mk0)), rfl, bel.frame _, fun h => by cases h⟩
theorem over : Rows.regionKeepsRow.holds Try.pinned (OpenSpec.ofChange Rows.regionKeepsSpec) :=
  OpenClaim.holds_of_wide 4 Try.f4 rfl rfl rfl rfl rfl rfl rfl ⟨rfl, rfl, rfl, rfl, rfl⟩ rfl rfl rfl rfl rfl (by kernel_rfl) Try.func4 (by kernel_rfl)
    (of_decide_eq_true (by kernel_rfl)) (by unfold Func.isWrapper; first | (rw [if_pos (by decide +kernel)]; kernel_rfl) | (rw [if_neg (by decide +kernel)]; exact ⟨rfl, rfl⟩))
    (fun os started H enc _ => lifted os started H enc)
/-- The statement. -/
theorem proved : Rows.RegionKeepsSaid := over
end Go.Proofs.Ytmknkdfdkanijaa.lawKeeps
