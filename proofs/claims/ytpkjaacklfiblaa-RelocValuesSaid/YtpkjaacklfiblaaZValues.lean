/- RelocValues: for any relocation, any base and any symbol: the program's bytes, value, whether it asks and how it goes up are as the document says them. -/
import Derived.Test.YtpkjaacklfiblaaZB
import Derived.Test.YtpkjaacklfiblaaZC
namespace Go.Proofs.Ytpkjaacklfiblaa.lawValuesZ
open Go.ChangeShapes Go.WideShapes Go.ChangeAt Go.RowKit Go.Deep
set_option linter.unusedVariables false
set_option linter.unusedSimpArgs false

set_option maxRecDepth 100000 in
set_option maxHeartbeats 1600000 in
theorem walk (r : Rl) (b s : Int) (w : World) (wr : r.wf) (wb : (Lit.int .i64 b).wf = true) (ws : (Lit.int .i64 s).wf = true) :
    Calls Try.prog 3 #[.agg r.cs, .int .i64 b, .int .i64 s] w fun e w' => e = .returned (.bool true) ∧ Below w.heap.size w w' := by
  have HA := Lib.hid (fun v => awakeZ_any v)
  have HV := Lib.hid (fun v => value_any r b s v)
  have HVr := Lib.hid (fun v => rvalue_any r b s v)
  have HB := Lib.hid (fun v => rbytes_any r v wr)
  have HBr := Lib.hid (fun v => rrbytes_any r v wr)
  have HK := Lib.hid (fun v => asks_any r v)
  have HKr := Lib.hid (fun v => rasks_any r v)
  have HS := Lib.hid (fun v => shift_any r v)
  generalize r.val b s = V at *
  generalize hKn : r.known = K at *
  generalize r.asks = Q at *
  generalize mkb r.bytes = T at *
  obtain ⟨p, k, y, a⟩ := r
  clear wr hKn
  unfold Rl.cs at *
  simp only at *
  obtain ⟨R, hR⟩ : ∃ R, w.heap.size = R := ⟨_, rfl⟩
  have hB0 := (Below.refl R w).alloc (by omega) (.cells #[.int .i64 p, .int .i64 k, .int .i64 y, .int .i64 a] 23)
  have hK0 := Blk.new w 23 #[.int .i64 p, .int .i64 k, .int .i64 y, .int .i64 a]
  rw [hR] at hK0
  rw [hR]
  have HJ : ∀ v v' : World, Blk v R 23 #[.int .i64 p, .int .i64 k, .int .i64 y, .int .i64 a] → Below R w v → Below v.heap.size v v' → (Blk v' R 23 #[.int .i64 p, .int .i64 k, .int .i64 y, .int .i64 a] ∧ Below R w v') := fun v v' h1 h2 h3 => ⟨h1.below h3 h1.lt, h2.trans (h3.mono (Nat.le_of_lt h1.lt))⟩
  have HJ := Lib.hid HJ
  have HC := Lib.hid (fun (v : World) (h : Blk v R 23 #[.int .i64 p, .int .i64 k, .int .i64 y, .int .i64 a]) => show v.cell? ⟨R, 0, none⟩ = some (.int .i64 p) ∧ v.cell? ⟨R, 1, none⟩ = some (.int .i64 k) ∧ v.cell? ⟨R, 2, none⟩ = some (.int .i64 y) ∧ v.cell? ⟨R, 3, none⟩ = some (.int .i64 a) from ⟨h.cell 0, h.cell 1, h.cell 2, h.cell 3⟩)
  go_enter Try.func3, Try.ntmps3
  go_upto_region 1 with fail
  try rw [hR]
  generalize w.alloc (.cells #[.int .i64 p, .int .i64 k, .int .i64 y, .int .i64 a] 23) = W0 at *
  obtain ⟨c0, c1, c2, c3⟩ := HC.out _ hK0
  go_upto_region 2 with (go_at_call 9; refine (HA.out _).mono ?_; rintro e v1 ⟨rfl, hb1⟩)
  obtain ⟨hK1, hB1⟩ := HJ.out _ _ hK0 hB0 hb1
  clear c0 c1 c2 c3
  obtain ⟨c0, c1, c2, c3⟩ := HC.out _ hK1
  clear hK0 hB0 hb1
  go_upto_region 3 with (go_at_call 10; refine (HV.out _).mono ?_; rintro e v2 ⟨rfl, hb2⟩)
  obtain ⟨hK2, hB2⟩ := HJ.out _ _ hK1 hB1 hb2
  clear c0 c1 c2 c3
  obtain ⟨c0, c1, c2, c3⟩ := HC.out _ hK2
  clear hK1 hB1 hb2
  go_upto_region 4 with (go_at_call 11; refine (HVr.out _).mono ?_; rintro e v3 ⟨rfl, hb3⟩)
  obtain ⟨hK3, hB3⟩ := HJ.out _ _ hK2 hB2 hb3
  clear c0 c1 c2 c3
  obtain ⟨c0, c1, c2, c3⟩ := HC.out _ hK3
  clear hK2 hB2 hb3
  cases K
  all_goals
    try rw [if_pos rfl] at HS
    try rw [if_neg (by simp)] at HS
    go_upto_region 7 with fail
    have n1 := Lib.hid hK3.drew
    have n2 := Lib.hid hB3.drew
    obtain ⟨n3, n4, n5, n6⟩ := HC.out _ n1.out
    clear hK3 hB3 c0 c1 c2 c3
    go_region_held3 (fun w' => w'.cell? ⟨R, 0, none⟩ = some (.int .i64 p) ∧ w'.cell? ⟨R, 1, none⟩ = some (.int .i64 k) ∧ w'.cell? ⟨R, 2, none⟩ = some (.int .i64 y) ∧ w'.cell? ⟨R, 3, none⟩ = some (.int .i64 a) ∧ Hid (Blk w' R 23 #[.int .i64 p, .int .i64 k, .int .i64 y, .int .i64 a]) ∧ Hid (Below R w w'))
      (first | exact ⟨n3, n4, n5, n6, n1, n2⟩)
      (first
      | (go_at_call 12; refine (HB.out _).mono ?_; rintro e v1 ⟨rfl, hb⟩; rcases ‹(_ : Prop) ∧ _ ∧ _ ∧ _ ∧ Hid _ ∧ Hid _› with ⟨-, -, -, -, kb, kB⟩; clear n1 n2 n3 n4 n5 n6; have n1 := Lib.hid (kb.out.below hb kb.out.lt); have n2 := Lib.hid (kB.out.trans (hb.mono (Nat.le_of_lt kb.out.lt))); obtain ⟨n3, n4, n5, n6⟩ := HC.out _ n1.out; clear hb kb kB)
      | (go_at_call 13; refine (HBr.out _).mono ?_; rintro e v1 ⟨rfl, hb⟩; rcases ‹(_ : Prop) ∧ _ ∧ _ ∧ _ ∧ Hid _ ∧ Hid _› with ⟨-, -, -, -, kb, kB⟩; clear n1 n2 n3 n4 n5 n6; have n1 := Lib.hid (kb.out.below hb kb.out.lt); have n2 := Lib.hid (kB.out.trans (hb.mono (Nat.le_of_lt kb.out.lt))); obtain ⟨n3, n4, n5, n6⟩ := HC.out _ n1.out; clear hb kb kB)
      | (go_at_call 14; refine (HK.out _).mono ?_; rintro e v1 ⟨rfl, hb⟩; rcases ‹(_ : Prop) ∧ _ ∧ _ ∧ _ ∧ Hid _ ∧ Hid _› with ⟨-, -, -, -, kb, kB⟩; clear n1 n2 n3 n4 n5 n6; have n1 := Lib.hid (kb.out.below hb kb.out.lt); have n2 := Lib.hid (kB.out.trans (hb.mono (Nat.le_of_lt kb.out.lt))); obtain ⟨n3, n4, n5, n6⟩ := HC.out _ n1.out; clear hb kb kB)
      | (go_at_call 15; refine (HKr.out _).mono ?_; rintro e v1 ⟨rfl, hb⟩; rcases ‹(_ : Prop) ∧ _ ∧ _ ∧ _ ∧ Hid _ ∧ Hid _› with ⟨-, -, -, -, kb, kB⟩; clear n1 n2 n3 n4 n5 n6; have n1 := Lib.hid (kb.out.below hb kb.out.lt); have n2 := Lib.hid (kB.out.trans (hb.mono (Nat.le_of_lt kb.out.lt))); obtain ⟨n3, n4, n5, n6⟩ := HC.out _ n1.out; clear hb kb kB)
      | (go_at_call 16; refine (HS.out _).mono ?_; rintro e v1 ⟨rfl, hb⟩; rcases ‹(_ : Prop) ∧ _ ∧ _ ∧ _ ∧ Hid _ ∧ Hid _› with ⟨-, -, -, -, kb, kB⟩; clear n1 n2 n3 n4 n5 n6; have n1 := Lib.hid (kb.out.below hb kb.out.lt); have n2 := Lib.hid (kB.out.trans (hb.mono (Nat.le_of_lt kb.out.lt))); obtain ⟨n3, n4, n5, n6⟩ := HC.out _ n1.out; clear hb kb kB))
    all_goals
      rcases ‹(_ : Prop) ∧ _ ∧ _ ∧ _ ∧ Hid _ ∧ Hid _› with ⟨-, -, -, -, kb, kB⟩
      go_wp2
      go_ret
      exact ⟨by simp, kB.out⟩

set_option maxRecDepth 100000 in
theorem lifted (os : Os) (started : os.Started) (H : Type) (enc : TypeId × Value → H) :
    ReturnsInHanded {} Try.checked os 3 .any (Rows.relocValuesSpec.pre6 enc Try.prog Try.f3 Rows.relocValuesRow.domain false) (Rows.relocValuesSpec.post enc Try.prog Try.f3 false true false false) := by
  refine returnsInHanded_of_change (C := Try.checked) own started (by kernel_rfl) Try.func3
    (ChangeSpec.witness6 (enc := enc) (C := Try.checked) false ⟨#[], #[zrelV, .int .i64 0, .int .i64 0], []⟩ 8 (by kernel_rfl) (by kernel_rfl) (by kernel_rfl) (by kernel_rfl)) ?_
  intro W base args ds gs before hval0 hW hcnd _
  have hval : ∀ (j : Nat) t v, Try.f3.params[j]? = some t → args[j]? = some v → Value.okWide Try.prog W .any base t v := hval0
  have hW' := hW
  obtain ⟨p, q, hA0, hV, rfl, hfz, hnd⟩ := hW
  have hA : DataW.TrodAll enc Try.prog W 0 (fun _ => true) true Try.f3.params.toList args.toList ds p := hA0
  rw [Try.params3] at hA hval
  obtain ⟨v0, vs0, d0, ds0, p0, q0, hargs, rfl, rfl, h0, r0⟩ := trodAll_cons hA
  obtain ⟨v1, vs1, d1, ds1, p1, q1, rfl, rfl, rfl, h1, r1⟩ := trodAll_cons r0
  obtain ⟨v2, vs2, d2, ds2, p2, q2, rfl, rfl, rfl, h2, r2⟩ := trodAll_cons r1
  obtain ⟨rfl, rfl, rfl⟩ := trodAll_nil r2
  obtain rfl : args = #[v0, v1, v2] := by cases args; simp_all
  obtain ⟨rfl, rfl⟩ := trodVars_none hV
  have k0 := h0
  have lt0 : ∀ x ∈ p0, x.block < W.heap.size := by obtain ⟨m, hm⟩ := k0; exact DataW.trod_lt m _ _ _ hm
  obtain ⟨a0, rfl, w0⟩ := open_relZ (hval 0 23 v0 rfl rfl) h0
  have k1 := h1
  have lt1 : ∀ x ∈ p1, x.block < W.heap.size := by obtain ⟨m, hm⟩ := k1; exact DataW.trod_lt m _ _ _ hm
  obtain ⟨a1, rfl, _, _, w1⟩ := open_int Try.underlying3 (hval 1 3 v1 rfl rfl) h1
  have k2 := h2
  have lt2 : ∀ x ∈ p2, x.block < W.heap.size := by obtain ⟨m, hm⟩ := k2; exact DataW.trod_lt m _ _ _ hm
  obtain ⟨a2, rfl, _, _, w2⟩ := open_int Try.underlying3 (hval 2 3 v2 rfl rfl) h2
  clear hA0 hval0
  refine (walk a0 a1 a2 W w0 w1 w2).mono fun e W' ⟨he, bel⟩ => ?_
  subst he
  exact ⟨_, rfl, _, _, _, [], _, [], hW', trodAll_mk1 (shut_bool Try.underlying4 _), (trodAll_cons_mk (Below.trod laidOut (by kernel_rfl) (of_decide_eq_true (by kernel_rfl)) k0 bel lt0) (trodAll_cons_mk (Below.trod laidOut (by kernel_rfl) (of_decide_eq_true (by kernel_rfl)) k1 bel lt1) (trodAll_cons_mk (Below.trod laidOut (by kernel_rfl) (of_decide_eq_true (by kernel_rfl)) k2 bel lt2) trodAll_mk0))), rfl, bel.frame _, fun h => by cases h⟩
theorem over : Rows.relocValuesRow.holds Try.pinned (OpenSpec.ofChange Rows.relocValuesSpec) :=
  OpenClaim.holds_of_wide 3 Try.f3 rfl rfl rfl rfl rfl rfl rfl ⟨rfl, rfl, rfl, rfl, rfl⟩ rfl rfl rfl rfl rfl (by kernel_rfl) Try.func3 (by kernel_rfl)
    (of_decide_eq_true (by kernel_rfl)) (by unfold Func.isWrapper; first | (rw [if_pos (by decide +kernel)]; kernel_rfl) | (rw [if_neg (by decide +kernel)]; exact ⟨rfl, rfl⟩))
    (fun os started H enc _ => lifted os started H enc)
/-- The statement. -/
theorem proved : Rows.RelocValuesSaid := over
end Go.Proofs.Ytpkjaacklfiblaa.lawValuesZ
