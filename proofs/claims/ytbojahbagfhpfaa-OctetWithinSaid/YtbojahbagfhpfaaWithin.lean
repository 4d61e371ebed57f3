/- OctetWithin: for any three numbers, taken by their rests by 60, the range is within just if each of its places is. -/
import Derived.Test.YtbojahbagfhpfaaAwake
namespace Go.Proofs.Ytbojahbagfhpfaa.lawWithin
open Go.ChangeShapes Go.WideShapes Go.ChangeAt Go.RowKit
set_option linter.unusedVariables false

def wB (at_ n all k : Int) : Bool := decide (0 ≤ at_ ∧ 0 ≤ n ∧ at_ ≤ all ∧ k ≤ all)

set_option maxHeartbeats 1600000 in
theorem walk (a0 a1 a2 : Int) (w : World) (w0 : (Lit.int .i64 a0).wf = true) (w1 : (Lit.int .i64 a1).wf = true) (w2 : (Lit.int .i64 a2).wf = true) :
    Calls Try.prog 8 #[.agg #[.int .i64 a0, .int .i64 a1, .int .i64 a2]] w fun e w' => e = .returned (.bool true) ∧ Below w.heap.size w w' := by
  have haw := fun w => awake_any w
  have HA := Lib.hid haw
  clear haw
  have hB := Below.refl w.heap.size w
  have b0 := Int.tmod_lt_of_pos a0 (show (0 : Int) < 60 by omega)
  have b0' := Int.lt_tmod_of_pos a0 (show (0 : Int) < 60 by omega)
  have b1 := Int.tmod_lt_of_pos a1 (show (0 : Int) < 60 by omega)
  have b1' := Int.lt_tmod_of_pos a1 (show (0 : Int) < 60 by omega)
  have b2 := Int.tmod_lt_of_pos a2 (show (0 : Int) < 60 by omega)
  have b2' := Int.lt_tmod_of_pos a2 (show (0 : Int) < 60 by omega)
  obtain ⟨x, hx⟩ : ∃ x, a0.tmod 60 = x := ⟨_, rfl⟩
  obtain ⟨y, hy⟩ : ∃ x, a1.tmod 60 = x := ⟨_, rfl⟩
  obtain ⟨z, hz⟩ : ∃ x, a2.tmod 60 = x := ⟨_, rfl⟩
  rw [hx] at b0 b0'
  rw [hy] at b1 b1'
  rw [hz] at b2 b2'
  by_cases h1 : 0 ≤ x <;> by_cases h2 : 0 ≤ y <;> by_cases h3 : x ≤ z
  all_goals
    go_enter Try.func8, Try.ntmps8
    go_wp2_with (go_at_call 10; refine (HA.out _).mono ?_; rintro e v1 ⟨rfl, hb⟩; replace hB := (hB.alloc hB.size _).trans (hb.mono (by simp)); have hbk := (Blk.new w 32 #[.int .i64 a0, .int .i64 a1, .int .i64 a2]).below hb (by simp); have c0 : v1.cell? ⟨w.heap.size, 0, none⟩ = some (.int .i64 a0) := hbk.cell 0; have c1 : v1.cell? ⟨w.heap.size, 1, none⟩ = some (.int .i64 a1) := hbk.cell 1; have c2 : v1.cell? ⟨w.heap.size, 2, none⟩ = some (.int .i64 a2) := hbk.cell 2; clear hb)
    clear c0 c1 c2 hbk
    go_loop [7, 8] (fun b i => ∃ k : Int, i = .int .i64 k ∧ x ≤ k ∧ (k ≤ x + y ∨ k = x) ∧ b = .bool (wB x y z k)) (fun i b => (x + y - intOf b).toNat)
    case atStart => exact ⟨x, rfl, Int.le_refl _, .inr rfl, by simp [wB, h1, h2, h3]⟩
    case round =>
      obtain ⟨k, rfl, hk1, hk2, rfl⟩ := hrel
      by_cases hlt : k < x + y
      · cases hwb : wB x y z k
        · have hnx : false = wB x y z (k + 1) := by
            simp only [wB, decide_eq_false_iff_not] at hwb
            simp only [wB, Bool.false_eq, decide_eq_false_iff_not]
            omega
          have HN := Lib.hid hnx
          clear hnx hwb
          go_wp2
          go_round
          case rel => exact ⟨k + 1, rfl, by omega, by omega, by rw [← HN.out]⟩
          case measure => simp [intOf]; omega
        · have hnx : decide (k < z) = wB x y z (k + 1) := by
            simp only [wB, decide_eq_true_eq] at hwb
            simp only [wB, decide_eq_decide]
            omega
          have hk0 : 0 ≤ k := by
            simp only [wB, decide_eq_true_eq] at hwb
            omega
          have HN := Lib.hid hnx
          clear hnx hwb
          go_wp2
          go_round
          case rel => exact ⟨k + 1, rfl, by omega, by omega, by rw [← HN.out]⟩
          case measure => simp [intOf]; omega
      · have hin : inn x y z = wB x y z k := by
          rw [Bool.eq_iff_iff, inn_iff]
          simp only [wB, decide_eq_true_eq]
          omega
        have wx : (Lit.int .i64 x).wf = true := WalkArith.wf_i64 (by omega)
        have wy : (Lit.int .i64 y).wf = true := WalkArith.wf_i64 (by omega)
        have hwi := fun w => within_any x y z w wx wy (by omega)
        rw [hin] at hwi
        have HW := Lib.hid hwi
        clear hwi hin
        generalize wB x y z k = R at *
        go_wp2_with (go_at_call 26; refine (HW.out _).mono ?_; rintro e v2 ⟨rfl, rfl⟩)
        go_ret
        exact ⟨by simp, hB⟩

set_option maxRecDepth 100000 in
theorem lifted (os : Os) (started : os.Started) (H : Type) (enc : TypeId × Value → H) :
    ReturnsInHanded {} Try.checked os 8 .any (Rows.octetWithinSpec.pre6 enc Try.prog Try.f8 Rows.octetWithinRow.domain false) (Rows.octetWithinSpec.post enc Try.prog Try.f8 false true false false) := by
  refine returnsInHanded_of_change (C := Try.checked) own started (by kernel_rfl) Try.func8
    (ChangeSpec.witness6 (enc := enc) (C := Try.checked) false ⟨#[], #[.agg #[.int .i64 0, .int .i64 0, .int .i64 0]], []⟩ 8 (by kernel_rfl) (by kernel_rfl) (by kernel_rfl) (by kernel_rfl)) ?_
  intro W base args ds gs before hval0 hW hcnd _
  have hval : ∀ (j : Nat) t v, Try.f8.params[j]? = some t → args[j]? = some v → Value.okWide Try.prog W .any base t v := hval0
  have hW' := hW
  obtain ⟨p, q, hA0, hV, rfl, hfz, hnd⟩ := hW
  have hA : DataW.TrodAll enc Try.prog W 0 (fun _ => true) true Try.f8.params.toList args.toList ds p := hA0
  rw [Try.params8] at hA hval
  obtain ⟨v0, vs0, d0, ds0, p0, q0, hargs, rfl, rfl, h0, r0⟩ := trodAll_cons hA
  obtain ⟨rfl, rfl, rfl⟩ := trodAll_nil r0
  obtain rfl : args = #[v0] := by cases args; simp_all
  obtain ⟨rfl, rfl⟩ := trodVars_none hV
  have k0 := h0
  have lt0 : ∀ x ∈ p0, x.block < W.heap.size := by obtain ⟨m, hm⟩ := k0; exact DataW.trod_lt m _ _ _ hm
  obtain ⟨z0, e0, hl0, hw0⟩ := open_ints_array Try.underlying32 Try.underlying3 (by kernel_rfl) (by kernel_rfl) (hval 0 32 v0 rfl rfl) h0
  obtain ⟨a0_0, a0_1, a0_2, rfl⟩ : ∃ a0_0 a0_1 a0_2, z0 = [a0_0, a0_1, a0_2] := by
    match z0, hl0 with
    | [a0_0, a0_1, a0_2], _ => exact ⟨_, _, _, rfl⟩
  obtain rfl : v0 = .agg #[.int .i64 a0_0, .int .i64 a0_1, .int .i64 a0_2] := e0
  clear hA0 hval0
  refine (walk a0_0 a0_1 a0_2 W (hw0 a0_0 (by simp)) (hw0 a0_1 (by simp)) (hw0 a0_2 (by simp))).mono fun e W' ⟨he, bel⟩ => ?_
  subst he
  exact ⟨_, rfl, _, _, _, [], _, [], hW', trodAll_mk1 (shut_bool Try.underlying4 _), (trodAll_cons_mk (Below.trod laidOut (by kernel_rfl) (of_decide_eq_true (by kernel_rfl)) k0 bel lt0) trodAll_mk0), rfl, bel.frame _, fun h => by cases h⟩
theorem over : Rows.octetWithinRow.holds Try.pinned (OpenSpec.ofChange Rows.octetWithinSpec) :=
  OpenClaim.holds_of_wide 8 Try.f8 rfl rfl rfl rfl rfl rfl rfl ⟨rfl, rfl, rfl, rfl, rfl⟩ rfl rfl rfl rfl rfl (by kernel_rfl) Try.func8 (by kernel_rfl)
    (of_decide_eq_true (by kernel_rfl)) (by unfold Func.isWrapper; first | (rw [if_pos (by decide +kernel)]; kernel_rfl) | (rw [if_neg (by decide +kernel)]; exact ⟨rfl, rfl⟩))
    (fun os started H enc _ => lifted os started H enc)
/-- The statement. -/
theorem proved : Rows.OctetWithinSaid := over
end Go.Proofs.Ytbojahbagfhpfaa.lawWithin
