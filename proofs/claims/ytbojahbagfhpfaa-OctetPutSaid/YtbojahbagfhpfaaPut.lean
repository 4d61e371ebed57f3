/- OctetPut: for any number and any two widths to 8, a wider number begins with a narrower one's bytes; so many bytes are put as there are. -/
import Derived.Test.YtbojahbagfhpfaaAwake
namespace Go.Proofs.Ytbojahbagfhpfaa.lawPut
open Go.ChangeShapes Go.WideShapes Go.ChangeAt Go.RowKit
set_option linter.unusedVariables false

theorem putL_take : ∀ (v w n : Nat), w ≤ v → (putL n v).take w = putL n w
  | v, 0, n, _ => by simp [putL]
  | v + 1, w + 1, n, h => by simp [putL, putL_take v w (n / 256) (by omega)]

theorem rest9 (a : Int) : ∃ p : Nat, (a.tmod 9 + 9).tmod 9 = (p : Int) ∧ p < 9 := by
  have h1 := Int.tmod_lt_of_pos a (show (0 : Int) < 9 by omega)
  have h2 := Int.lt_tmod_of_pos a (show (0 : Int) < 9 by omega)
  have h3 := Int.tmod_lt_of_pos (a.tmod 9 + 9) (show (0 : Int) < 9 by omega)
  have h4 := Int.tmod_nonneg (a := a.tmod 9 + 9) 9 (by omega)
  exact ⟨((a.tmod 9 + 9).tmod 9).toNat, by omega, by omega⟩

set_option maxHeartbeats 1600000 in
theorem walk (a0 a1 a2 : Int) (w : World) (w0 : (Lit.int .u64 a0).wf = true) (w1 : (Lit.int .i64 a1).wf = true) (w2 : (Lit.int .i64 a2).wf = true) :
    Calls Try.prog 9 #[.int .u64 a0, .int .i64 a1, .int .i64 a2] w fun e w' => e = .returned (.bool true) ∧ Below w.heap.size w w' := by
  have haw := fun w => awake_any w
  have HA := Lib.hid haw
  clear haw
  have hB := Below.refl w.heap.size w
  have t1 := Int.tmod_lt_of_pos a1 (show (0 : Int) < 9 by omega)
  have t2 := Int.lt_tmod_of_pos a1 (show (0 : Int) < 9 by omega)
  have t3 := Int.tmod_lt_of_pos a2 (show (0 : Int) < 9 by omega)
  have t4 := Int.lt_tmod_of_pos a2 (show (0 : Int) < 9 by omega)
  obtain ⟨p, hp, hp9⟩ := rest9 a1
  obtain ⟨q, hq, hq9⟩ := rest9 a2
  have key : ∀ P : Nat, P < 9 → ∃ B : ByteArray, B.size = P ∧ B = mkb (putL a0.toNat P) ∧ Hid (∀ w, Calls Try.prog 16 #[.int .u64 a0, .int .i64 P] w fun e w' => e = .returned (.string B) ∧ Below w.heap.size w w') := by
    intro P hP
    refine ⟨_, by rw [mkb_size, putL_length], rfl, Lib.hid fun w => ?_⟩
    have h := put_any a0 P w w0 (WalkArith.wf_i64 (by omega))
    have e : wide P = P := by unfold wide; omega
    rwa [e] at h
  have hneg := fun w => put_any a0 (-1) w w0 (by decide)
  rw [show wide (-1) = 0 by decide, show mkb (putL a0.toNat 0) = ⟨#[]⟩ from rfl] at hneg
  obtain ⟨B8, hB8, _, H8⟩ := key 8 (by omega)
  have hnine := fun w => put_any a0 9 w w0 (by decide)
  rw [show wide 9 = 8 by decide] at hnine
  have hz8 : (mkb (putL a0.toNat 8)).size = 8 := by rw [mkb_size, putL_length]
  generalize mkb (putL a0.toNat 8) = B9 at *
  have HN := Lib.hid hneg
  have H9 := Lib.hid hnine
  clear hneg hnine H8 hB8
  obtain ⟨X, hX, eX, HX⟩ := key p hp9
  obtain ⟨Y, hY, eY, HY⟩ := key q hq9
  have hXY : p ≤ q → Y.extract 0 p = X := by
    intro h
    rw [extract_mkb, eY, eX, mkb_data, List.drop_zero, Nat.sub_zero, putL_take _ _ _ h]
  have hYX : q ≤ p → X.extract 0 q = Y := by
    intro h
    rw [extract_mkb, eY, eX, mkb_data, List.drop_zero, Nat.sub_zero, putL_take _ _ _ h]
  clear eX eY key
  by_cases hle : p ≤ q
  · have hE := hXY hle
    clear hXY hYX
    go_enter Try.func9, Try.ntmps9
    go_wp2_with (first
      | (go_at_call 10; refine (HA.out _).mono ?_; rintro e v1 ⟨rfl, hb⟩; replace hB := hB.trans (hb.mono hB.size); clear hb)
      | (go_at_call 16; with_reducible refine (HX.out _).mono ?_; rintro e v1 ⟨rfl, hb⟩; replace hB := hB.trans (hb.mono hB.size); clear hb)
      | (go_at_call 16; with_reducible refine (HY.out _).mono ?_; rintro e v1 ⟨rfl, hb⟩; replace hB := hB.trans (hb.mono hB.size); clear hb)
      | (go_at_call 16; with_reducible refine (HN.out _).mono ?_; rintro e v1 ⟨rfl, hb⟩; replace hB := hB.trans (hb.mono hB.size); clear hb)
      | (go_at_call 16; with_reducible refine (H9.out _).mono ?_; rintro e v1 ⟨rfl, hb⟩; replace hB := hB.trans (hb.mono hB.size); clear hb))
    go_ret
    exact ⟨rfl, hB⟩
  · have hE := hYX (by omega)
    clear hXY hYX
    go_enter Try.func9, Try.ntmps9
    go_wp2_with (first
      | (go_at_call 10; refine (HA.out _).mono ?_; rintro e v1 ⟨rfl, hb⟩; replace hB := hB.trans (hb.mono hB.size); clear hb)
      | (go_at_call 16; with_reducible refine (HX.out _).mono ?_; rintro e v1 ⟨rfl, hb⟩; replace hB := hB.trans (hb.mono hB.size); clear hb)
      | (go_at_call 16; with_reducible refine (HY.out _).mono ?_; rintro e v1 ⟨rfl, hb⟩; replace hB := hB.trans (hb.mono hB.size); clear hb)
      | (go_at_call 16; with_reducible refine (HN.out _).mono ?_; rintro e v1 ⟨rfl, hb⟩; replace hB := hB.trans (hb.mono hB.size); clear hb)
      | (go_at_call 16; with_reducible refine (H9.out _).mono ?_; rintro e v1 ⟨rfl, hb⟩; replace hB := hB.trans (hb.mono hB.size); clear hb))
    go_ret
    exact ⟨rfl, hB⟩

set_option maxRecDepth 100000 in
theorem lifted (os : Os) (started : os.Started) (H : Type) (enc : TypeId × Value → H) :
    ReturnsInHanded {} Try.checked os 9 .any (Rows.octetPutSpec.pre6 enc Try.prog Try.f9 Rows.octetPutRow.domain false) (Rows.octetPutSpec.post enc Try.prog Try.f9 false true false false) := by
  refine returnsInHanded_of_change (C := Try.checked) own started (by kernel_rfl) Try.func9
    (ChangeSpec.witness6 (enc := enc) (C := Try.checked) false ⟨#[], #[.int .u64 0, .int .i64 0, .int .i64 0], []⟩ 8 (by kernel_rfl) (by kernel_rfl) (by kernel_rfl) (by kernel_rfl)) ?_
  intro W base args ds gs before hval0 hW hcnd _
  have hval : ∀ (j : Nat) t v, Try.f9.params[j]? = some t → args[j]? = some v → Value.okWide Try.prog W .any base t v := hval0
  have hW' := hW
  obtain ⟨p, q, hA0, hV, rfl, hfz, hnd⟩ := hW
  have hA : DataW.TrodAll enc Try.prog W 0 (fun _ => true) true Try.f9.params.toList args.toList ds p := hA0
  rw [Try.params9] at hA hval
  obtain ⟨v0, vs0, d0, ds0, p0, q0, hargs, rfl, rfl, h0, r0⟩ := trodAll_cons hA
  obtain ⟨v1, vs1, d1, ds1, p1, q1, rfl, rfl, rfl, h1, r1⟩ := trodAll_cons r0
  obtain ⟨v2, vs2, d2, ds2, p2, q2, rfl, rfl, rfl, h2, r2⟩ := trodAll_cons r1
  obtain ⟨rfl, rfl, rfl⟩ := trodAll_nil r2
  obtain rfl : args = #[v0, v1, v2] := by cases args; simp_all
  obtain ⟨rfl, rfl⟩ := trodVars_none hV
  have k0 := h0
  have lt0 : ∀ x ∈ p0, x.block < W.heap.size := by obtain ⟨m, hm⟩ := k0; exact DataW.trod_lt m _ _ _ hm
  obtain ⟨a0, rfl, _, _, w0⟩ := open_int Try.underlying23 (hval 0 23 v0 rfl rfl) h0
  have k1 := h1
  have lt1 : ∀ x ∈ p1, x.block < W.heap.size := by obtain ⟨m, hm⟩ := k1; exact DataW.trod_lt m _ _ _ hm
  obtain ⟨a1, rfl, _, _, w1⟩ := open_int Try.underlying3 (hval 1 3 v1 rfl rfl) h1
  have k2 := h2
  have lt2 : ∀ x ∈ p2, x.block < W.heap.size := by obtain ⟨m, hm⟩ := k2; exact DataW.trod_lt m _ _ _ hm
  obtain ⟨a2, rfl, _, _, w2⟩ := open_int Try.underlying3 (hval 2 3 v2 rfl rfl) h2
  clear hA0 hval0
  refine (walk a0 a1 a2 W w0 w1 w2).mono fun e W' ⟨he, bel⟩ => ?_
  subst he
  exact ⟨_, rfl, _, _, _, [], _, [], hW', trodAll_mk1 (shut_bool Try.underlying4 _), (trodAll_cons_mk (Below.trod laidOut (by kernel_rfl) (of_decide_eq_true (by kernel_rfl)) k0 bel lt0) (trodAll_cons_mk (Below.trod laidOut (by kernel_rfl) (of_decide_eq_true (by kernel_rfl)) k1 bel lt1) (trodAll_cons_mk (Below.trod laidOut (by kernel_rfl) (of_decide_eq_true (by kernel_rfl)) k2 bel lt2) trodAll_mk0))), rfl, bel.frame _, fun h => by cases h⟩
theorem over : Rows.octetPutRow.holds Try.pinned (OpenSpec.ofChange Rows.octetPutSpec) :=
  OpenClaim.holds_of_wide 9 Try.f9 rfl rfl rfl rfl rfl rfl rfl ⟨rfl, rfl, rfl, rfl, rfl⟩ rfl rfl rfl rfl rfl (by kernel_rfl) Try.func9 (by kernel_rfl)
    (of_decide_eq_true (by kernel_rfl)) (by unfold Func.isWrapper; first | (rw [if_pos (by decide +kernel)]; kernel_rfl) | (rw [if_neg (by decide +kernel)]; exact ⟨rfl, rfl⟩))
    (fun os started H enc _ => lifted os started H enc)
/-- The statement. -/
theorem proved : Rows.OctetPutSaid := over
end Go.Proofs.Ytbojahbagfhpfaa.lawPut
