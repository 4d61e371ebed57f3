/- OctetNumbers: for any bytes to 40, any place, width and number: Get, Set and Put answer as the reference does. -/
import Derived.Test.YtbojahbagfhpfaaAwake
import Derived.Deep.RegionHeld3
namespace Go.Proofs.Ytbojahbagfhpfaa.lawNumbers
open Go.ChangeShapes Go.WideShapes Go.ChangeAt Go.RowKit
open Go.ChangeMaps (open_string)
set_option linter.unusedVariables false

set_option maxHeartbeats 1600000 in
theorem walk (s : ByteArray) (a b n : Int) (w : World) (ws : s.size ≤ maxLen) (wa : (Lit.int .i64 a).wf = true) (wb : (Lit.int .i64 b).wf = true) (wn : (Lit.int .u64 n).wf = true) :
    Calls Try.prog 3 #[.string s, .agg #[.int .i64 a, .int .i64 b], .int .u64 n] w fun e w' => e = .returned (.bool true) ∧ Below w.heap.size w w' := by
  have haw := fun w => awake_any w
  have HA := Lib.hid haw
  clear haw
  have hB := Below.refl w.heap.size w
  have hsz := shortS_size s 40
  have hsh := fun w => short_any s 40 w ws (by omega)
  generalize shortS s 40 = S at *
  have hg := fun w => get_any S a b w wa wb (by omega)
  have hrg := fun w => rget_any S a b w wa wb (by omega)
  have hst := fun w => set_any S a b n w wa wb wn (by omega)
  have hrst := fun w => rset_any S a b n w wa wb wn (by omega)
  have hp := fun w => put_any n b w wn wb
  have hrp := fun w => rput_any n b w wn wb
  generalize getN S a b = G at *
  generalize setS S a b n.toNat = T at *
  generalize mkb (putL n.toNat (wide b)) = P at *
  have H1 := Lib.hid hg
  have H2 := Lib.hid hrg
  have H3 := Lib.hid hst
  have H4 := Lib.hid hrst
  have H5 := Lib.hid hp
  have H6 := Lib.hid hrp
  have H7 := Lib.hid hsh
  clear hg hrg hst hrst hp hrp hsh
  go_enter Try.func3, Try.ntmps3
  go_wp2_with (first
    | (go_at_call 10; refine (HA.out _).mono ?_; rintro e v1 ⟨rfl, hb⟩; replace hB := (hB.alloc hB.size _).trans (hb.mono (by simp)); have hbk := (Blk.new w 22 #[.int .i64 a, .int .i64 b]).below hb (by simp); have c0 := hbk.at_ 0 (.int .i64 a) rfl; have c1 := hbk.at_ 1 (.int .i64 b) rfl; clear hb)
    | (go_at_call 11; refine (H7.out _).mono ?_; rintro e v2 ⟨rfl, rfl⟩)
    | (go_at_call 12; refine (H1.out _).mono ?_; rintro e v2 ⟨rfl, rfl⟩)
    | (go_at_call 13; refine (H2.out _).mono ?_; rintro e v2 ⟨rfl, rfl⟩)
    | (go_at_call 14; refine (H3.out _).mono ?_; rintro e v3 ⟨rfl, hb⟩; replace hB := hB.trans (hb.mono hB.size); replace hbk := hbk.below hb hbk.lt; have d0 := hbk.at_ 0 (.int .i64 a) rfl; have d1 := hbk.at_ 1 (.int .i64 b) rfl; clear hb)
    | (go_at_call 15; refine (H4.out _).mono ?_; rintro e v4 ⟨rfl, hb⟩; replace hB := hB.trans (hb.mono hB.size); replace hbk := hbk.below hb hbk.lt; have e0 := hbk.at_ 0 (.int .i64 a) rfl; have e1 := hbk.at_ 1 (.int .i64 b) rfl; clear hb)
    | (go_at_call 16; refine (H5.out _).mono ?_; rintro e v5 ⟨rfl, hb⟩; replace hB := hB.trans (hb.mono hB.size); replace hbk := hbk.below hb hbk.lt; have f0 := hbk.at_ 0 (.int .i64 a) rfl; have f1 := hbk.at_ 1 (.int .i64 b) rfl; clear hb)
    | (go_at_call 17; refine (H6.out _).mono ?_; rintro e v6 ⟨rfl, hb⟩; replace hB := hB.trans (hb.mono hB.size); clear hb))
  go_region_held3 (fun w' => w'.cell? ⟨w.heap.size, 1, none⟩ = some (.int .i64 b) ∧ Hid (Blk w' w.heap.size 22 #[.int .i64 a, .int .i64 b]) ∧ Hid (Below w.heap.size w w')) (first | exact ⟨n1, n2, n3⟩ | exact ⟨hbk.drew.at_ 1 _ rfl, hbk.drew, hB.drew⟩)
    (first
    | (go_at_call 16; refine (H5.out _).mono ?_; rintro e v5 ⟨rfl, hb⟩; rcases ‹(_ : Prop) ∧ Hid _ ∧ Hid _› with ⟨_, kb, kB⟩; have n2 := kb.out.below hb kb.out.lt; have n1 := n2.at_ 1 (.int .i64 b) rfl; have n3 := kB.out.trans (hb.mono kB.out.size))
    | (go_at_call 17; refine (H6.out _).mono ?_; rintro e v6 ⟨rfl, hb⟩; rcases ‹(_ : Prop) ∧ Hid _ ∧ Hid _› with ⟨_, kb, kB⟩; have n2 := kb.out.below hb kb.out.lt; have n1 := n2.at_ 1 (.int .i64 b) rfl; have n3 := kB.out.trans (hb.mono kB.out.size)))
  all_goals
    rcases ‹(_ : Prop) ∧ Hid _ ∧ Hid _› with ⟨_, kb, kB⟩
    go_wp2
    go_ret
    exact ⟨by simp, kB.out⟩

set_option maxRecDepth 100000 in
theorem lifted (os : Os) (started : os.Started) (H : Type) (enc : TypeId × Value → H) :
    ReturnsInHanded {} Try.checked os 3 .any (Rows.octetNumbersSpec.pre6 enc Try.prog Try.f3 Rows.octetNumbersRow.domain false) (Rows.octetNumbersSpec.post enc Try.prog Try.f3 false true false false) := by
  refine returnsInHanded_of_change (C := Try.checked) own started (by kernel_rfl) Try.func3
    (ChangeSpec.witness6 (enc := enc) (C := Try.checked) false ⟨#[], #[.string ⟨#[]⟩, .agg #[.int .i64 0, .int .i64 0], .int .u64 0], []⟩ 8 (by kernel_rfl) (by kernel_rfl) (by kernel_rfl) (by kernel_rfl)) ?_
  intro W base args ds gs before hval0 hW hcnd _
  have hval : ∀ (j : Nat) t v, Try.f3.params[j]? = some t → args[j]? = some v → Value.okWide Try.prog W .any base t v := hval0
  have hW' := hW
  obtain ⟨p, q, hA0, hV, rfl, hfz, hnd⟩ := hW
  have hA : DataW.TrodAll enc Try.prog W 0 (fun _ => true) true Try.f3.params.toList args.toList ds p := hA0
  rw [Try.params3] at hA hval
  obtain ⟨v0, vs0, d0, ds0, p0, q0, hargs, rfl, rfl, h0, r0⟩ := trodAll_cons hA
  obtain ⟨v1, vs1, d1, ds1, p1, q1, rfl, rfl, rfl, h1, r1⟩ := trodAll_cons r0
  obtain ⟨v2, vs2, d2, ds2, p2, q2, rfl, rfl, rfl, h2, r2⟩ := trodAll_cons r1
  obtain ⟨rfl, rfl, rfl⟩ := trodAll_nil r2
  obtain rfl : args = #[v0, v1, v2] := by cases args; simp_all
  obtain ⟨rfl, rfl⟩ := trodVars_none hV
  have k0 := h0
  have lt0 : ∀ x ∈ p0, x.block < W.heap.size := by obtain ⟨m, hm⟩ := k0; exact DataW.trod_lt m _ _ _ hm
  obtain ⟨a0, rfl, _, _, w0⟩ := open_string Try.underlying9 (hval 0 9 v0 rfl rfl) h0
  have k1 := h1
  have lt1 : ∀ x ∈ p1, x.block < W.heap.size := by obtain ⟨m, hm⟩ := k1; exact DataW.trod_lt m _ _ _ hm
  obtain ⟨z1, e1, hl1, hw1⟩ := open_ints_array Try.underlying22 Try.underlying3 (by kernel_rfl) (by kernel_rfl) (hval 1 22 v1 rfl rfl) h1
  obtain ⟨a1_0, a1_1, rfl⟩ : ∃ a1_0 a1_1, z1 = [a1_0, a1_1] := by
    match z1, hl1 with
    | [a1_0, a1_1], _ => exact ⟨_, _, rfl⟩
  obtain rfl : v1 = .agg #[.int .i64 a1_0, .int .i64 a1_1] := e1
  have k2 := h2
  have lt2 : ∀ x ∈ p2, x.block < W.heap.size := by obtain ⟨m, hm⟩ := k2; exact DataW.trod_lt m _ _ _ hm
  obtain ⟨a2, rfl, _, _, w2⟩ := open_int Try.underlying23 (hval 2 23 v2 rfl rfl) h2
  clear hA0 hval0
  refine (walk a0 a1_0 a1_1 a2 W w0 (hw1 a1_0 (by simp)) (hw1 a1_1 (by simp)) w2).mono fun e W' ⟨he, bel⟩ => ?_
  subst he
  exact ⟨_, rfl, _, _, _, [], _, [], hW', trodAll_mk1 (shut_bool Try.underlying4 _), (trodAll_cons_mk (Below.trod laidOut (by kernel_rfl) (of_decide_eq_true (by kernel_rfl)) k0 bel lt0) (trodAll_cons_mk (Below.trod laidOut (by kernel_rfl) (of_decide_eq_true (by kernel_rfl)) k1 bel lt1) (trodAll_cons_mk (Below.trod laidOut (by kernel_rfl) (of_decide_eq_true (by kernel_rfl)) k2 bel lt2) trodAll_mk0))), rfl, bel.frame _, fun h => by cases h⟩
theorem over : Rows.octetNumbersRow.holds Try.pinned (OpenSpec.ofChange Rows.octetNumbersSpec) :=
  OpenClaim.holds_of_wide 3 Try.f3 rfl rfl rfl rfl rfl rfl rfl ⟨rfl, rfl, rfl, rfl, rfl⟩ rfl rfl rfl rfl rfl (by kernel_rfl) Try.func3 (by kernel_rfl)
    (of_decide_eq_true (by kernel_rfl)) (by unfold Func.isWrapper; first | (rw [if_pos (by decide +kernel)]; kernel_rfl) | (rw [if_neg (by decide +kernel)]; exact ⟨rfl, rfl⟩))
    (fun os started H enc _ => lifted os started H enc)
/-- The statement. -/
theorem proved : Rows.OctetNumbersSaid := over
end Go.Proofs.Ytbojahbagfhpfaa.lawNumbers
