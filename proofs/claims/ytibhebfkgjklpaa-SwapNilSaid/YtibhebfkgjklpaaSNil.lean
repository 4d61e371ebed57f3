/- SwapNil: for any number: of no area nothing comes, a zero one has no slots. -/
import Derived.Test.YtibhebfkgjklpaaSD
import Derived.Test.YtibhebfkgjklpaaLaw
namespace Go.Proofs.Ytibhebfkgjklpaa.lawNil
open Go.ChangeShapes Go.WideShapes Go.ChangeAt Go.RowKit
set_option linter.unusedVariables false

/-- A zero area lies at z; nothing of w has turned. -/
structure Zer (w w' : World) (z : Nat) : Prop where
  cell : w'.cell? ⟨z, 2, none⟩ = some (.slice none 0 0)
  lt : z < w'.heap.size
  bel : Below w.heap.size w w'
theorem Zer.on {w a b : World} {z : Nat} (h : Zer w a z) (hb : Below a.heap.size a b) : Zer w b z :=
  ⟨(hb.cell (p := ⟨z, 2, none⟩) h.lt).trans h.cell, Nat.lt_of_lt_of_le h.lt hb.size, h.bel.trans (hb.mono h.bel.size)⟩
theorem zer_new (w : World) (t : TypeId) (a b : Value) : Zer w (w.alloc (.cells #[a, b, .slice none 0 0] t)) w.heap.size :=
  ⟨World.cell?_alloc_new w _ t 2, by simp, (Below.refl _ w).alloc (Nat.le_refl _) _⟩

set_option maxHeartbeats 1600000 in
theorem walk (a : Int) (w : World) (wa : (Lit.int .i64 a).wf = true) :
    Calls Try.prog 6 #[.int .i64 a] w fun e w' => e = .returned (.bool true) ∧ Below w.heap.size w w' := by
  have HA := Lib.hid (fun w => awake5_any w)
  have HP := Lib.hid (fun n w => page_any n w)
  have HZ := Lib.hid (fun n => pageS_size n)
  have H1 := Lib.hid (fun s w => put_nil s w)
  have H2 := Lib.hid (fun w => get_nil a w)
  have H3 := Lib.hid (fun w => hold_nil a w)
  have H4 := Lib.hid (fun w => held_nil a w)
  have H5 := Lib.hid (fun w => slots_nil w)
  have H6 := Lib.hid (fun w => sused_none (.pointer none) w (slots_nil w))
  have hZ := zer_new w 56 (.pointer none) (.int .i64 0)
  go_enter Try.func6, Try.ntmps6
  go_wp2_with (first
    | (go_at_call 9; refine (HA.out _).mono ?_; rintro e v1 ⟨rfl, hb⟩; replace hZ := hZ.on hb; clear hb)
    | (go_at_call 13; refine (HP.out _ _).mono ?_; rintro e v1 ⟨rfl, hb⟩; replace hZ := hZ.on hb; clear hb)
    | (go_at_call 14; with_reducible refine (H1.out _ _).mono ?_; rintro e v1 ⟨rfl, rfl⟩)
    | (go_at_call 14; with_reducible refine (put_zero _ _ _ hZ.cell _ (HZ.out _)).mono ?_; rintro e v1 ⟨rfl, rfl⟩)
    | (go_at_call 16; with_reducible refine (H2.out _).mono ?_; rintro e v1 ⟨rfl, hb⟩; replace hZ := hZ.on hb; clear hb)
    | (go_at_call 16; with_reducible refine (get_zero _ _ _ hZ.cell hZ.lt a).mono ?_; rintro e v1 ⟨rfl, hb⟩; replace hZ := hZ.on hb; clear hb)
    | (go_at_call 18; with_reducible refine (H3.out _).mono ?_; rintro e v1 ⟨rfl, hb⟩; replace hZ := hZ.on hb; clear hb)
    | (go_at_call 20; with_reducible refine (free_zero _ _ _ hZ.cell hZ.lt a).mono ?_; rintro e v1 ⟨rfl, hb⟩; replace hZ := hZ.on hb; clear hb)
    | (go_at_call 23; with_reducible refine (H4.out _).mono ?_; rintro e v1 ⟨rfl, rfl⟩)
    | (go_at_call 21; with_reducible refine (H6.out _).mono ?_; rintro e v1 ⟨rfl, rfl⟩)
    | (go_at_call 21; with_reducible refine (sused_none _ _ (slots_of _ none 0 0 _ hZ.cell)).mono ?_; rintro e v1 ⟨rfl, rfl⟩)
    | (go_at_call 24; with_reducible refine (H5.out _).mono ?_; rintro e v1 ⟨rfl, rfl⟩)
    | (go_at_call 24; with_reducible refine (slots_of _ none 0 0 _ hZ.cell).mono ?_; rintro e v1 ⟨rfl, rfl⟩))
  go_ret
  exact ⟨rfl, hZ.bel⟩

set_option maxRecDepth 100000 in
theorem lifted (os : Os) (started : os.Started) (H : Type) (enc : TypeId × Value → H) :
    ReturnsInHanded {} Try.checked os 6 .any (Rows.swapNilSpec.pre6 enc Try.prog Try.f6 Rows.swapNilRow.domain false) (Rows.swapNilSpec.post enc Try.prog Try.f6 false true false false) := by
  refine returnsInHanded_of_change (C := Try.checked) own started (by kernel_rfl) Try.func6
    (ChangeSpec.witness6 (enc := enc) (C := Try.checked) false ⟨#[], #[.int .i64 0], []⟩ 8 (by kernel_rfl) (by kernel_rfl) (by kernel_rfl) (by kernel_rfl)) ?_
  intro W base args ds gs before hval0 hW hcnd _
  have hval : ∀ (j : Nat) t v, Try.f6.params[j]? = some t → args[j]? = some v → Value.okWide Try.prog W .any base t v := hval0
  have hW' := hW
  obtain ⟨p, q, hA0, hV, rfl, hfz, hnd⟩ := hW
  have hA : DataW.TrodAll enc Try.prog W 0 (fun _ => true) true Try.f6.params.toList args.toList ds p := hA0
  rw [Try.params6] at hA hval
  obtain ⟨v0, vs0, d0, ds0, p0, q0, hargs, rfl, rfl, h0, r0⟩ := trodAll_cons hA
  obtain ⟨rfl, rfl, rfl⟩ := trodAll_nil r0
  obtain rfl : args = #[v0] := by cases args; simp_all
  obtain ⟨rfl, rfl⟩ := trodVars_none hV
  have k0 := h0
  have lt0 : ∀ x ∈ p0, x.block < W.heap.size := by obtain ⟨m, hm⟩ := k0; exact DataW.trod_lt m _ _ _ hm
  obtain ⟨a0, rfl, _, _, w0⟩ := open_int Try.underlying3 (hval 0 3 v0 rfl rfl) h0
  clear hA0 hval0
  refine (walk a0 W w0).mono fun e W' ⟨he, bel⟩ => ?_
  subst he
  exact ⟨_, rfl, _, _, _, [], _, [], hW', trodAll_mk1 (shut_bool Try.underlying4 _), (trodAll_cons_mk (Below.trod laidOut (by kernel_rfl) (of_decide_eq_true (by kernel_rfl)) k0 bel lt0) trodAll_mk0), rfl, bel.frame _, fun h => by cases h⟩
theorem over : Rows.swapNilRow.holds Try.pinned (OpenSpec.ofChange Rows.swapNilSpec) :=
  OpenClaim.holds_of_wide 6 Try.f6 rfl rfl rfl rfl rfl rfl rfl ⟨rfl, rfl, rfl, rfl, rfl⟩ rfl rfl rfl rfl rfl (by kernel_rfl) Try.func6 (by kernel_rfl)
    (of_decide_eq_true (by kernel_rfl)) (by unfold Func.isWrapper; first | (rw [if_pos (by decide +kernel)]; kernel_rfl) | (rw [if_neg (by decide +kernel)]; exact ⟨rfl, rfl⟩))
    (fun os started H enc _ => lifted os started H enc)
/-- The statement. -/
theorem proved : Rows.SwapNilSaid := over
end Go.Proofs.Ytibhebfkgjklpaa.lawNil
