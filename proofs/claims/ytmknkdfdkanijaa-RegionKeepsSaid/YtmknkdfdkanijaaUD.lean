/- Package region: isPerm, mayBe, part, areOne, has. -/
import Derived.Test.YtmknkdfdkanijaaUC
namespace Go.Proofs.Ytmknkdfdkanijaa
open Go.RowKit Go.ChangeShapes Go.WideShapes Go.Deep
set_option linter.unusedVariables false
set_option linter.unusedSimpArgs false

def permB (p : Int) : Bool := decide (0 ≤ p) && decide (p ≤ 7)
set_option maxHeartbeats 800000 in
theorem isPerm_any (p : Int) (w : World) : Calls Try.prog 34 #[.int .i64 p] w fun e w' => e = .returned (.bool (permB p)) ∧ w' = w := by
  unfold permB
  by_cases h : 0 ≤ p
  · have h1 : decide (0 ≤ p) = true := decide_eq_true h
    rw [h1, Bool.true_and]
    go_enter Try.func34, Try.ntmps34
    go_wp2
    go_ret
    exact ⟨rfl, rfl⟩
  · have h1 : decide (0 ≤ p) = false := decide_eq_false h
    rw [h1, Bool.false_and]
    go_enter Try.func34, Try.ntmps34
    go_wp2
    go_ret
    exact ⟨rfl, rfl⟩

set_option maxHeartbeats 800000 in
theorem has_any (r : Rg) (x : Int) (w : World) : Calls Try.prog 30 #[.agg r.cs, .int .i64 x] w fun e w' => e = .returned (.bool (decide (r.f ≤ x) && decide (x < r.t))) ∧ Below w.heap.size w w' := by
  obtain ⟨f, t, p, k, fl, pg⟩ := r
  unfold Rg.cs
  simp only
  have HB := Lib.hid ((Below.refl w.heap.size w).alloc (Nat.le_refl _) (.cells #[.int .i64 f, .int .i64 t, .int .i64 p, .int .i64 k, .int .i64 fl, .int .i64 pg] 29))
  by_cases h : f ≤ x
  · have h1 : decide (f ≤ x) = true := decide_eq_true h
    rw [h1, Bool.true_and]
    go_enter Try.func30, Try.ntmps30
    go_wp2
    go_ret
    exact ⟨rfl, HB.out⟩
  · have h1 : decide (f ≤ x) = false := decide_eq_false h
    rw [h1, Bool.false_and]
    go_enter Try.func30, Try.ntmps30
    go_wp2
    go_ret
    exact ⟨rfl, HB.out⟩

set_option maxHeartbeats 1600000 in
theorem part_any (r : Rg) (a b : Int) (w : World) (h : r.k = 1 → (0 ≤ a ∧ a ≤ 4611686018427387904) ∧ (0 ≤ r.f ∧ r.f ≤ 1099511627776) ∧ 0 ≤ r.pg ∧ r.pg ≤ 1099511627776) :
    Calls Try.prog 33 #[.agg r.cs, .int .i64 a, .int .i64 b] w fun e w' => e = .returned (.agg (r.part a b).cs) ∧ Below w.heap.size w w' := by
  obtain ⟨f, t, p, k, fl, pg⟩ := r
  simp only at h
  by_cases hk : k = 1
  · subst hk
    obtain ⟨⟨h1, h2⟩, ⟨h3, h4⟩, h5, h6⟩ := h rfl
    have e : (Rg.part ⟨f, t, p, 1, fl, pg⟩ a b).cs = #[.int .i64 a, .int .i64 b, .int .i64 p, .int .i64 1, .int .i64 fl, .int .i64 (pg + (a - f))] := rfl
    rw [e]
    unfold Rg.cs
    simp only
    have wa : IntKind.i64.wrap (a - f) = a - f ∧ wrap64 (a - f) = a - f := ⟨IntWalk.i64_in _ (by omega), IntWalk.wrap64_in _ (by omega)⟩
    have wb : IntKind.i64.wrap (pg + (a - f)) = pg + (a - f) ∧ wrap64 (pg + (a - f)) = pg + (a - f) := ⟨IntWalk.i64_in _ (by omega), IntWalk.wrap64_in _ (by omega)⟩
    have HB := Lib.hid (((Below.refl w.heap.size w).alloc (Nat.le_refl _) (.cells #[.int .i64 a, .int .i64 b, .int .i64 p, .int .i64 1, .int .i64 fl, .int .i64 (pg + (a - f))] 29)).alloc (by simp) (.cells #[.int .i64 a, .int .i64 b, .int .i64 p, .int .i64 1, .int .i64 fl, .int .i64 (pg + (a - f))] 29))
    clear h e
    go_enter Try.func33, Try.ntmps33
    go_wp2
    exact bodyPost_ret (results_cell_row rfl _ _ (w.heap.size + 1) 29 _ (0, 0) _ rfl (by have := heap_alloc_new (w.alloc (.cells #[.int .i64 a, .int .i64 b, .int .i64 p, .int .i64 1, .int .i64 fl, .int .i64 (pg + (a - f))] 29)) (.cells #[.int .i64 a, .int .i64 b, .int .i64 p, .int .i64 1, .int .i64 fl, .int .i64 (pg + (a - f))] 29); simpa using this) Try.underlying29 rfl (by kernel_rfl)) rfl ⟨rfl, HB.out⟩
  · have e : (Rg.part ⟨f, t, p, k, fl, pg⟩ a b).cs = #[.int .i64 a, .int .i64 b, .int .i64 p, .int .i64 k, .int .i64 fl, .int .i64 pg] := by unfold Rg.part Rg.cs Rg.pgAt; simp [hk]
    rw [e]
    unfold Rg.cs
    simp only
    have hk2 : (k == 1) = false := by simpa using hk
    have HB := Lib.hid (((Below.refl w.heap.size w).alloc (Nat.le_refl _) (.cells #[.int .i64 a, .int .i64 b, .int .i64 p, .int .i64 k, .int .i64 fl, .int .i64 pg] 29)).alloc (by simp) (.cells #[.int .i64 a, .int .i64 b, .int .i64 p, .int .i64 k, .int .i64 fl, .int .i64 pg] 29))
    clear h e
    go_enter Try.func33, Try.ntmps33
    go_wp2
    exact bodyPost_ret (results_cell_row rfl _ _ (w.heap.size + 1) 29 _ (0, 0) _ rfl (by have := heap_alloc_new (w.alloc (.cells #[.int .i64 a, .int .i64 b, .int .i64 p, .int .i64 k, .int .i64 fl, .int .i64 pg] 29)) (.cells #[.int .i64 a, .int .i64 b, .int .i64 p, .int .i64 k, .int .i64 fl, .int .i64 pg] 29); simpa using this) Try.underlying29 rfl (by kernel_rfl)) rfl ⟨rfl, HB.out⟩
end Go.Proofs.Ytmknkdfdkanijaa
