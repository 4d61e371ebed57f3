/- FramesNil: for any number: of no pool nothing comes, a zero one has no frames. -/
import Derived.Test.YtdelmhcbmlbojaaDoorPF
namespace Go.Proofs.YtdelmhcbmlbojaaDoor.lawNil
open Go.ChangeShapes Go.WideShapes Go.ChangeAt Go.RowKit
set_option linter.unusedVariables false

/-- A zero pool lies at z; nothing of w has turned. -/
structure Zer (w w' : World) (z : Nat) : Prop where
  cell : w'.cell? ⟨z, 0, none⟩ = some (.slice none 0 0)
  lt : z < w'.heap.size
  bel : Below w.heap.size w w'
  tab : Tab w'
theorem Zer.on {w a b : World} {z : Nat} (h : Zer w a z) (hb : Below a.heap.size a b) : Zer w b z :=
  ⟨(hb.cell (p := ⟨z, 0, none⟩) h.lt).trans h.cell, Nat.lt_of_lt_of_le h.lt hb.size, h.bel.trans (hb.mono h.bel.size), h.tab.below hb h.tab.pos⟩
theorem zer_new (w : World) (hT : Tab w) (t : TypeId) (a : Value) : Zer w (w.alloc (.cells #[.slice none 0 0, a] t)) w.heap.size :=
  ⟨World.cell?_alloc_new w _ t 0, by simp, (Below.refl _ w).alloc (Nat.le_refl _) _, hT.alloc _⟩

set_option maxHeartbeats 1600000 in
theorem walk (a : Int) (w : World) (wa : (Lit.int .i64 a).wf = true) (hT : Tab w) :
    Calls Tryd.prog 7 #[.int .i64 a] w fun e w' => e = .returned (.bool true) ∧ Below w.heap.size w w' := by
  have HA := Lib.hid (fun w hT => awake6_any w hT)
  have H1 := Lib.hid (fun w => ptake_nil w)
  have H2 := Lib.hid (fun w => pgbytes_nil a w)
  have H3 := Lib.hid (fun w => pload_nil a 0 1 w)
  have H4 := Lib.hid (fun w => phold_nil a w)
  have H5 := Lib.hid (fun w => pfill_nil a ⟨#[]⟩ w)
  have H6 := Lib.hid (fun w => pheld_nil a w)
  have H7 := Lib.hid (fun w => pframes_nil w)
  have H8 := Lib.hid (fun w => pfreeN_none (.pointer none) w (pframes_nil w))
  have hZ := zer_new w hT 64 (.slice none 0 0)
  clear hT
  go_enter Tryd.func7, Tryd.ntmps7
  go_wp2_with (first
    | (go_at_call 10; refine (HA.out _ hZ.tab).mono ?_; rintro e v1 ⟨rfl, hb⟩; replace hZ := hZ.on hb; clear hb)
    | (go_at_call 14; with_reducible refine (H1.out _).mono ?_; rintro e v1 ⟨rfl, rfl⟩)
    | (go_at_call 14; with_reducible refine (ptake_zero _ _ _ hZ.cell).mono ?_; rintro e v1 ⟨rfl, rfl⟩)
    | (go_at_call 19; with_reducible refine (H2.out _).mono ?_; rintro e v1 ⟨rfl, hb⟩; replace hZ := hZ.on hb; clear hb)
    | (go_at_call 23; with_reducible refine (pcopy_zero _ _ _ hZ.cell hZ.lt a).mono ?_; rintro e v1 ⟨rfl, hb⟩; replace hZ := hZ.on hb; clear hb)
    | (go_at_call 25; with_reducible refine (H3.out _).mono ?_; rintro e v1 ⟨rfl, hb⟩; replace hZ := hZ.on hb; clear hb)
    | (go_at_call 16; with_reducible refine (H4.out _).mono ?_; rintro e v1 ⟨rfl, hb⟩; replace hZ := hZ.on hb; clear hb)
    | (go_at_call 18; with_reducible refine (pdrop_zero _ _ _ hZ.cell hZ.lt a).mono ?_; rintro e v1 ⟨rfl, hb⟩; replace hZ := hZ.on hb; clear hb)
    | (go_at_call 21; with_reducible refine (H5.out _).mono ?_; rintro e v1 ⟨rfl, hb⟩; replace hZ := hZ.on hb; clear hb)
    | (go_at_call 31; with_reducible refine (H6.out _).mono ?_; rintro e v1 ⟨rfl, rfl⟩)
    | (go_at_call 29; with_reducible refine (H8.out _).mono ?_; rintro e v1 ⟨rfl, rfl⟩)
    | (go_at_call 29; with_reducible refine (pfreeN_none _ _ (pframes_of _ none 0 0 _ hZ.cell)).mono ?_; rintro e v1 ⟨rfl, rfl⟩)
    | (go_at_call 32; with_reducible refine (H7.out _).mono ?_; rintro e v1 ⟨rfl, rfl⟩)
    | (go_at_call 32; with_reducible refine (pframes_of _ none 0 0 _ hZ.cell).mono ?_; rintro e v1 ⟨rfl, rfl⟩))
  go_ret
  exact ⟨rfl, hZ.bel⟩

set_option maxRecDepth 100000 in
theorem lifted (os : Os) (started : os.Started) (H : Type) (enc : TypeId × Value → H) :
    ReturnsInHanded {} Tryd.checked os 7 .any (fun w args => (Rows.framesNilSpec.pre enc Tryd.prog Tryd.f7 Rows.framesNilRow.domain false w args ∧ laidMet Tryd.prog Rows.framesNilRow.laid w) ∧ sizedMet enc Tryd.prog Tryd.f7 (OpenSpec.ofChange Rows.framesNilSpec) false w args) (Rows.framesNilSpec.post enc Tryd.prog Tryd.f7 false true false false) := by
  refine returnsInHanded_of_change_and (C := Tryd.checked) (X := fun w _ => laidMet Tryd.prog Rows.framesNilRow.laid w) (fun _ _ _ hh h => h.of_heap hh) own started (by kernel_rfl) Tryd.func7
    (ChangeSpec.witness_at (enc := enc) (C := Tryd.checked) (os := os) (X := fun w _ => laidMet Tryd.prog Rows.framesNilRow.laid w) false (laidWorld os) #[.int .i64 0] 8 rfl (by kernel_rfl) (by kernel_rfl) (by kernel_rfl) (by kernel_rfl) (by kernel_rfl) (laid_met os _)) ?_
  intro W base args ds gs before hval0 hW hcnd _ hL _
  have hval : ∀ (j : Nat) t v, Tryd.f7.params[j]? = some t → args[j]? = some v → Value.okWide Tryd.prog W .any base t v := hval0
  have hW' := hW
  obtain ⟨p, q, hA0, hV, rfl, hfz, hnd⟩ := hW
  have hA : DataW.TrodAll enc Tryd.prog W 0 (fun _ => true) true Tryd.f7.params.toList args.toList ds p := hA0
  rw [Tryd.params7] at hA hval
  obtain ⟨v0, vs0, d0, ds0, p0, q0, hargs, rfl, rfl, h0, r0⟩ := trodAll_cons hA
  obtain ⟨rfl, rfl, rfl⟩ := trodAll_nil r0
  obtain rfl : args = #[v0] := by cases args; simp_all
  obtain ⟨rfl, rfl⟩ := trodVars_none hV
  have k0 := h0
  have lt0 : ∀ x ∈ p0, x.block < W.heap.size := by obtain ⟨m, hm⟩ := k0; exact DataW.trod_lt m _ _ _ hm
  obtain ⟨a0, rfl, _, _, w0⟩ := open_int Tryd.underlying3 (hval 0 3 v0 rfl rfl) h0
  clear hA0 hval0
  refine (walk a0 W w0 (tab_of_laid hL)).mono fun e W' ⟨he, bel⟩ => ?_
  subst he
  exact ⟨_, rfl, _, _, _, [], _, [], hW', trodAll_mk1 (shut_bool Tryd.underlying4 _), (trodAll_cons_mk (Below.trod laidOut (by kernel_rfl) (of_decide_eq_true (by kernel_rfl)) k0 bel lt0) trodAll_mk0), rfl, bel.frame _, fun h => by cases h⟩
theorem over : Rows.framesNilRow.holds Tryd.pinned (OpenSpec.ofChange Rows.framesNilSpec) :=
  OpenClaim.holds_of_wide 7 Tryd.f7 rfl rfl rfl rfl rfl rfl rfl ⟨rfl, rfl, rfl, rfl, rfl⟩ rfl rfl rfl rfl rfl (by kernel_rfl) Tryd.func7 (by kernel_rfl)
    (of_decide_eq_true (by kernel_rfl)) (by unfold Func.isWrapper; first | (rw [if_pos (by decide +kernel)]; kernel_rfl) | (rw [if_neg (by decide +kernel)]; exact ⟨rfl, rfl⟩))
    (fun os started H enc _ => lifted os started H enc)
/-- The statement. -/
theorem proved : Rows.FramesNilCardSaid :=
  Claim7.holds_tied_plain_at .later [] [.data] true _ false over (fun _ h => by cases h) (by kernel_rfl) (fun _ h => by cases h) framesNil_row_tie rfl ⟨rfl, rfl⟩ (by kernel_rfl) rfl
    (fun f fn hf hfn => by
      obtain rfl : f = 7 := Option.some.inj (hf.symm.trans (by kernel_rfl))
      obtain rfl : fn = Tryd.f7 := Option.some.inj (hfn.symm.trans Tryd.func7)
      refine ⟨by kernel_rfl, fun j t ht => ?_⟩
      rw [Tryd.params7] at ht
      match j, ht with
      | 0, ht =>
        obtain rfl : t = 3 := by simpa using ht.symm
        exact (by kernel_rfl : Tryd.pinned.checked.prog.wantsStandIn 3 = false)
      | j + 1, ht => simp at ht)
    (by kernel_rfl)
end Go.Proofs.YtdelmhcbmlbojaaDoor.lawNil
