/- Package region: Add's three ways; the law's awake. -/
import Derived.Test.YtmknkdfdkanijaaUR
namespace Go.Proofs.Ytmknkdfdkanijaa
open Go.RowKit Go.ChangeShapes Go.WideShapes Go.Deep
set_option linter.unusedVariables false
set_option linter.unusedSimpArgs false

def zregV : Value := .agg #[.int .i64 0, .int .i64 0, .int .i64 0, .int .i64 0, .int .i64 0, .int .i64 0]
theorem addL_nil {r : Rg} (h : r.f < r.t) (k : Nat) : addL [] r k = [r] := by
  unfold addL rowOf
  simp only [List.take_nil, List.drop_nil, List.nil_append]
  show push [] r = [r]
  exact push_first h
theorem addL_pos {l : List Rg} (h : Asc l) {r : Rg} (hr : r.May) {k : Nat} (ha : AddAt l r k) : RowP (addL l r k) := (addL_ok h hr ha).1
theorem add_yes (l : List Rg) (r : Rg) (A : Option Addr) (n c : Nat) (w : World) (h : RS w A n c l) (hasc : Asc l) (hr : r.May) (hno : ∀ x ∈ l, ¬ (x.f < r.t ∧ r.f < x.t)) :
    Calls Try.prog 24 #[.slice A n c, .agg r.cs] w fun e w' => ∃ k, AddAt l r k ∧ ∃ A, e = .returned (.tuple #[.slice A (addL l r k).length (addL l r k).length, .int .i64 0]) ∧ RS w' A (addL l r k).length (addL l r k).length (addL l r k) ∧ Below w.heap.size w w' := by
  refine (add_any l r A n c w h hasc hr.wf).mono ?_
  rintro e w' ⟨hb, ⟨h1, _⟩ | ⟨_, ⟨x, hx, h2⟩, _⟩ | ⟨_, k, hk, A1, e1, h1⟩⟩
  · exact absurd hr h1
  · exact absurd h2 (hno x hx)
  · exact ⟨k, hk, A1, e1, h1, hb⟩
theorem add_hit (l : List Rg) (r : Rg) (A : Option Addr) (n c : Nat) (w : World) (h : RS w A n c l) (hasc : Asc l) (hr : r.May) {x : Rg} (hx : x ∈ l) (h1 : x.f < r.t) (h2 : r.f < x.t) :
    Calls Try.prog 24 #[.slice A n c, .agg r.cs] w fun e w' => e = .returned (.tuple #[.slice none 0 0, .int .i64 13]) ∧ Below w.heap.size w w' := by
  refine (add_any l r A n c w h hasc hr.wf).mono ?_
  rintro e w' ⟨hb, ⟨h3, _⟩ | ⟨_, _, e1⟩ | ⟨_, k, hk, A1, e1, h3⟩⟩
  · exact absurd hr h3
  · exact ⟨e1, hb⟩
  · exfalso
    rw [← List.take_append_drop k l] at hx
    rcases List.mem_append.1 hx with hx | hx
    · have := hk.low x hx; omega
    · have := hk.up x hx; omega
theorem add_none (r : Rg) (w : World) (hr : r.Wf) :
    Calls Try.prog 24 #[.slice none 0 0, .agg r.cs] w fun e w' => Below w.heap.size w w' ∧ ((¬ r.May ∧ e = .returned (.tuple #[.slice none 0 0, .int .i64 1])) ∨ (r.May ∧ ∃ A, e = .returned (.tuple #[.slice A 1 1, .int .i64 0]) ∧ RS w' A 1 1 [r])) := by
  refine (add_any [] r none 0 0 w (RS.nil w) Asc.nil hr).mono ?_
  rintro e w' ⟨hb, h1 | ⟨_, ⟨x, hx, _⟩, _⟩ | ⟨hm, k, hk, A1, e1, h3⟩⟩
  · exact ⟨hb, .inl h1⟩
  · simp at hx
  · rw [addL_nil hm.ft] at e1 h3
    exact ⟨hb, .inr ⟨hm, A1, e1, h3⟩⟩

def r0U : Rg := ⟨0, 4, 6, 2, -1, 0⟩
theorem r0U_may : r0U.May := ⟨by decide, by decide, by decide, by decide, by decide, .inr ⟨.inl rfl, rfl, rfl⟩⟩
def m0U : List Rg := [⟨0, 1, 6, 2, -1, 0⟩, ⟨1, 2, 4, 2, -1, 0⟩, ⟨2, 4, 6, 2, -1, 0⟩]
theorem m0U_is : proL [r0U] 1 2 4 = m0U := by decide
theorem m0U_back : proL m0U 1 2 6 = [r0U] := by decide
theorem one_row {r : Rg} (h : r.May) : RowP [r] := ⟨⟨by simpa using h, by simp⟩, fun i hi => absurd hi (by simp)⟩
set_option maxRecDepth 100000 in
set_option maxHeartbeats 3200000 in
theorem awake_anyU (w : World) : Calls Try.prog 9 #[] w fun e w' => e = .returned (.bool true) ∧ Below w.heap.size w w' := by
  have HA := Lib.hid (fun v => show Calls Try.prog 24 #[.slice none 0 0, .agg #[.int .i64 0, .int .i64 4, .int .i64 6, .int .i64 2, .int .i64 (-1), .int .i64 0]] v (fun e w' => ∃ A, e = .returned (.tuple #[.slice A 1 1, .int .i64 0]) ∧ Hid (RS w' A 1 1 [r0U] ∧ Below v.heap.size v w')) from by
    refine (add_none r0U v r0U_may.wf).mono ?_
    rintro e w' ⟨hb, ⟨h1, _⟩ | ⟨_, A, e1, h1⟩⟩
    · exact absurd r0U_may h1
    · exact ⟨A, e1, Lib.hid ⟨h1, hb⟩⟩)
  have hm0 : RowP m0U := by
    rw [← m0U_is]
    exact (proL_ok (one_row r0U_may).asc (by decide) (by decide)).1
  have HP1 := Lib.hid (fun v A (h : RS v A 1 1 [r0U]) => show Calls Try.prog 23 #[.slice A 1 1, .int .i64 1, .int .i64 2, .int .i64 4] v (fun e w' => ∃ A, e = .returned (.tuple #[.slice A 3 3, .int .i64 0]) ∧ Hid (RS w' A 3 3 m0U ∧ Below v.heap.size v w')) from by
    refine (protect_any [r0U] 1 2 4 A 1 1 v h (one_row r0U_may).asc (by decide) (by decide) (by decide)).mono ?_
    rintro e w' (⟨h1, _⟩ | ⟨_, h1, _⟩ | ⟨_, _, A1, e1, h1, h2⟩)
    · exact absurd h1 (by decide)
    · exact absurd (by decide) h1
    · rw [m0U_is] at e1 h1
      exact ⟨A1, e1, Lib.hid ⟨h1, h2⟩⟩)
  have HP2 := Lib.hid (fun v A (h : RS v A 3 3 m0U) => show Calls Try.prog 23 #[.slice A 3 3, .int .i64 1, .int .i64 2, .int .i64 6] v (fun e w' => ∃ A, e = .returned (.tuple #[.slice A 1 1, .int .i64 0]) ∧ Hid (RS w' A 1 1 [r0U] ∧ Below v.heap.size v w')) from by
    refine (protect_any m0U 1 2 6 A 3 3 v h hm0.asc (by decide) (by decide) (by decide)).mono ?_
    rintro e w' (⟨h1, _⟩ | ⟨_, h1, _⟩ | ⟨_, _, A1, e1, h1, h2⟩)
    · exact absurd h1 (by decide)
    · exact absurd (by decide) h1
    · rw [m0U_back] at e1 h1
      exact ⟨A1, e1, Lib.hid ⟨h1, h2⟩⟩)
  have HPG := Lib.hid (fun v A (h : RS v A 1 1 [r0U]) => show Calls Try.prog 21 #[.slice A 1 1] v (fun e w' => e = .returned (.int .i64 4) ∧ Below v.heap.size v w') from
    (pages_any [r0U] A 1 1 v h (one_row r0U_may).asc).mono fun e w' h => ⟨h.1, h.2⟩)
  clear hm0
  go_enter Try.func9, Try.ntmps9
  go_upto_region 2 with (go_at_call 24; refine (HA.out _).mono ?_; rintro e v1 ⟨A1, rfl, h1⟩)
  go_upto_region 3 with (go_at_call 23; refine (HP1.out _ _ h1.out.1).mono ?_; rintro e v2 ⟨A2, rfl, h2⟩)
  go_upto_region 4 with (go_at_call 23; refine (HP2.out _ _ h2.out.1).mono ?_; rintro e v3 ⟨A3, rfl, h3⟩)
  go_wp2_with (go_at_call 21; refine (HPG.out _ _ h3.out.1).mono ?_; rintro e v4 ⟨rfl, h4⟩)
  go_ret
  exact ⟨rfl, ((h1.out.2.trans (h2.out.2.mono h1.out.2.size)).trans (h3.out.2.mono (Nat.le_trans h1.out.2.size h2.out.2.size))).trans (h4.mono (Nat.le_trans h1.out.2.size (Nat.le_trans h2.out.2.size h3.out.2.size)))⟩
end Go.Proofs.Ytmknkdfdkanijaa
