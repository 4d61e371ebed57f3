/- FilesNil: of no files nothing is there. -/
import Derived.Test.YtacokjbehegkgaaDoorFW
import Derived.Test.YtacokjbehegkgaaDoorLaw
import Derived.Test.YtacokjbehegkgaaDoorTie
import Derived.Test.YtacokjbehegkgaaDoorCards
import Derived.LaidMore
import Derived.Lay
import Derived.SevenTiedAt
import Derived.Stop.Joined
namespace Go.Proofs.YtacokjbehegkgaaDoor.lawFNil
open Go.ChangeShapes Go.WideShapes Go.ChangeAt Go.RowKit
set_option linter.unusedVariables false
set_option linter.unusedSimpArgs false

set_option maxRecDepth 100000 in
set_option maxHeartbeats 4000000 in
theorem walk (i : Int) (w : World) (hi : (Lit.int .i64 i).wf = true) : Calls Tryd.prog 5 #[.int .i64 i] w fun e w' => e = .returned (.bool true) ∧ Below w.heap.size w w' := by
  have HA := Lib.hid (fun w => awake_true w)
  have H1 := Lib.hid (fun w => finode_no (.pointer none) i w (.inl rfl))
  have H2 := Lib.hid (fun w => lookup_nil ⟨#[97]⟩ w)
  have H3 := Lib.hid (fun w => page_no (.pointer none) i 0 w (.inl rfl))
  have H4 := Lib.hid (fun w => open_nil w)
  have H5 := Lib.hid (fun w => count_nil w)
  have H6 := Lib.hid (fun w => fsectors_nil w)
  have H7 := Lib.hid (fun w => pages_no (.pointer none) i w (.inl rfl))
  have hZ := Blk.new w 52 #[.pointer none, .int .i64 0, .slice none 0 0, .map none]
  have hB := (Below.refl w.heap.size w).alloc (Nat.le_refl _) (.cells #[.pointer none, .int .i64 0, .slice none 0 0, .map none] 52)
  have hno : ∀ W, Blk W w.heap.size 52 #[.pointer none, .int .i64 0, .slice none 0 0, .map none] → NoFile W (.pointer (some ⟨w.heap.size, 0, none⟩)) i := fun W h => .inr ⟨w.heap.size, none, 0, 0, rfl, h.at_ 2 _ rfl, h.lt, by omega⟩
  have HN := Lib.hid hno
  have HZ := Lib.hid hZ
  have HB := Lib.hid hB
  unfold zeroIno at H1
  have q1 := fun (W : World) h => finode_no (.pointer (some ⟨w.heap.size, 0, none⟩)) i W (HN.out W h)
  unfold zeroIno at q1
  have Q1 := Lib.hid q1
  clear hZ hB hno q1
  go_enter Tryd.func5, Tryd.ntmps5
  go_wp2_with (first
    | (go_at_call 25; (with_reducible refine (H1.out _).mono ?_); rintro e v1 ⟨rfl, hb⟩; replace HZ := Lib.hid (HZ.out.below hb HZ.out.lt); replace HB := Lib.hid (HB.out.trans (hb.mono HB.out.size)); replace HZ := Lib.hid (HZ.out.alloc (.cells #[.string ⟨#[]⟩, .int .i64 0, .slice none 0 0] 55)); replace HB := Lib.hid (HB.out.alloc HB.out.size (.cells #[.string ⟨#[]⟩, .int .i64 0, .slice none 0 0] 55)); clear hb)
    | (go_at_call 25; (with_reducible refine (Q1.out _ HZ.out).mono ?_); rintro e v1 ⟨rfl, hb⟩; replace HZ := Lib.hid (HZ.out.below hb HZ.out.lt); replace HB := Lib.hid (HB.out.trans (hb.mono HB.out.size)); replace HZ := Lib.hid (HZ.out.alloc (.cells #[.string ⟨#[]⟩, .int .i64 0, .slice none 0 0] 55)); replace HB := Lib.hid (HB.out.alloc HB.out.size (.cells #[.string ⟨#[]⟩, .int .i64 0, .slice none 0 0] 55)); clear hb)
    | (go_at_call 20; (with_reducible refine (H2.out _).mono ?_); rintro e v1 ⟨rfl, rfl⟩)
    | (go_at_call 20; (with_reducible refine (lookup_zero w.heap.size ⟨#[97]⟩ _ (HZ.out.at_ 3 _ rfl) (by decide)).mono ?_); rintro e v1 ⟨rfl, rfl⟩)
    | (go_at_call 23; (with_reducible refine (H3.out _).mono ?_); rintro e v1 ⟨rfl, hb⟩; replace HZ := Lib.hid (HZ.out.below hb HZ.out.lt); replace HB := Lib.hid (HB.out.trans (hb.mono HB.out.size)); clear hb)
    | (go_at_call 21; (with_reducible refine (bytes_no _ i _ (HN.out _ HZ.out)).mono ?_); rintro e v1 ⟨rfl, hb⟩; replace HZ := Lib.hid (HZ.out.below hb HZ.out.lt); replace HB := Lib.hid (HB.out.trans (hb.mono HB.out.size)); clear hb)
    | (go_at_call 16; (with_reducible refine (H4.out _).mono ?_); rintro e v1 ⟨rfl, rfl⟩)
    | (go_at_call 9; (with_reducible refine (HA.out _).mono ?_); rintro e v1 ⟨rfl, hb⟩; replace HZ := Lib.hid (HZ.out.below hb HZ.out.lt); replace HB := Lib.hid (HB.out.trans (hb.mono HB.out.size)); clear hb)
    | (go_at_call 18; (with_reducible refine (H5.out _).mono ?_); rintro e v1 ⟨rfl, rfl⟩)
    | (go_at_call 18; (with_reducible refine (count_of w.heap.size none 0 0 _ (HZ.out.at_ 2 _ rfl)).mono ?_); rintro e v1 ⟨rfl, rfl⟩)
    | (go_at_call 19; (with_reducible refine (H6.out _).mono ?_); rintro e v1 ⟨rfl, rfl⟩)
    | (go_at_call 19; (with_reducible refine (fsectors_of w.heap.size 0 _ (HZ.out.at_ 1 _ rfl)).mono ?_); rintro e v1 ⟨rfl, rfl⟩)
    | (go_at_call 22; (with_reducible refine (H7.out _).mono ?_); rintro e v1 ⟨rfl, hb⟩; replace HZ := Lib.hid (HZ.out.below hb HZ.out.lt); replace HB := Lib.hid (HB.out.trans (hb.mono HB.out.size)); clear hb))
  go_ret
  exact ⟨rfl, HB.out⟩

set_option maxRecDepth 100000 in
theorem lifted (os : Os) (started : os.Started) (H : Type) (enc : TypeId × Value → H) :
    ReturnsInHanded {} Tryd.checked os 5 .any (fun w args => (Rows.filesNilSpec.pre enc Tryd.prog Tryd.f5 Rows.filesNilRow.domain false w args ∧ laidMetH Tryd.prog Rows.filesNilRow.laid w) ∧ sizedMet enc Tryd.prog Tryd.f5 (OpenSpec.ofChange Rows.filesNilSpec) false w args) (Rows.filesNilSpec.post enc Tryd.prog Tryd.f5 false true false false) := by
  refine returnsInHanded_of_change_and (C := Tryd.checked) (X := fun w _ => laidMetH Tryd.prog Rows.filesNilRow.laid w) (fun _ _ _ hh h => h.of_heap hh) own started (by kernel_rfl) Tryd.func5
    (ChangeSpec.witness_shaped (enc := enc) (C := Tryd.checked) (os := os) (X := fun w _ => laidMetH Tryd.prog Rows.filesNilRow.laid w) false (World.laidAll Tryd.prog os Rows.filesNilRow.laid) #[.int .i64 0] 8 (World.laidAll_os _ _ _) (World.shaped_of_ZipB (by kernel_rfl) (by kernel_rfl)) (by kernel_rfl) (by kernel_rfl) (by kernel_rfl) (by rw [MakeChecks.laidMetH_plain _ _ _ (by kernel_rfl)]; exact laidMet_laidAll _ (by kernel_rfl) (by kernel_rfl))) ?_
  intro W base args ds gs before hval0 hW hcnd _ hL _
  have hval : ∀ (j : Nat) t v, Tryd.f5.params[j]? = some t → args[j]? = some v → Value.okWide Tryd.prog W .any base t v := hval0
  have hW' := hW
  obtain ⟨p, q, hA0, hV, rfl, hfz, hnd⟩ := hW
  have hA : DataW.TrodAll enc Tryd.prog W 0 (fun _ => true) true Tryd.f5.params.toList args.toList ds p := hA0
  rw [Tryd.params5] at hA hval
  obtain ⟨v0, vs0, d0, ds0, p0, q0, hargs, rfl, rfl, h0, r0⟩ := trodAll_cons hA
  obtain ⟨rfl, rfl, rfl⟩ := trodAll_nil r0
  obtain rfl : args = #[v0] := by cases args; simp_all
  obtain ⟨rfl, rfl⟩ := trodVars_none hV
  have k0 := h0
  have lt0 : ∀ x ∈ p0, x.block < W.heap.size := by obtain ⟨m, hm⟩ := k0; exact DataW.trod_lt m _ _ _ hm
  obtain ⟨a0, rfl, _, _, w0⟩ := open_int Tryd.underlying3 (hval 0 3 v0 rfl rfl) h0
  clear hA0 hval0
  refine (walk a0 W w0).mono fun e W' ⟨he, bel⟩ => ?_
  subst he
  exact ⟨_, rfl, _, _, _, [], _, [], hW', trodAll_mk1 (shut_bool Tryd.underlying4 _), (trodAll_cons_mk (Below.trod laidOut (by kernel_rfl) (of_decide_eq_true (by kernel_rfl)) k0 bel lt0) trodAll_mk0), rfl, bel.frame _, fun h => by cases h⟩
theorem over : Rows.filesNilRow.holds Tryd.pinned (OpenSpec.ofChange Rows.filesNilSpec) :=
  OpenClaim.holds_of_wide 5 Tryd.f5 rfl rfl rfl rfl rfl rfl rfl ⟨rfl, rfl, rfl, rfl, rfl⟩ rfl rfl rfl rfl rfl (by kernel_rfl) Tryd.func5 (by kernel_rfl)
    (of_decide_eq_true (by kernel_rfl)) (by unfold Func.isWrapper; first | (rw [if_pos (by decide +kernel)]; kernel_rfl) | (rw [if_neg (by decide +kernel)]; exact ⟨rfl, rfl⟩))
    (fun os started H enc _ => lifted os started H enc)
set_option maxRecDepth 100000 in
/-- The statement. -/
theorem proved : Rows.FilesNilCardSaid :=
  Claim7.holds_tied_plain_at .later [] [.data, .pinned] true _ false over (fun _ h => by cases h) (by kernel_rfl) (fun _ h => by cases h) filesNil_row_tie rfl ⟨rfl, rfl⟩ (by kernel_rfl) rfl
    (fun f fn hf hfn => by
      obtain rfl : f = 5 := Option.some.inj (hf.symm.trans (by kernel_rfl))
      obtain rfl : fn = Tryd.f5 := Option.some.inj (hfn.symm.trans Tryd.func5)
      refine ⟨by kernel_rfl, fun j t ht => ?_⟩
      rw [Tryd.params5] at ht
      match j, ht with
      | 0, ht =>
        obtain rfl : t = 3 := by simpa using ht.symm
        exact (by kernel_rfl : Tryd.pinned.checked.prog.wantsStandIn 3 = false)
      | j + 1, ht => simp at ht)
    (by kernel_rfl)
end Go.Proofs.YtacokjbehegkgaaDoor.lawFNil
