/- OctetParts: for any bytes to 40, any three numbers, and how long a text is filled, to 99: Part, Text, Round, Fill and Within answer as the reference does. -/
import Derived.Test.YtbojahbagfhpfaaAwake
import Derived.Deep.RegionHeld3
namespace Go.Proofs.Ytbojahbagfhpfaa.lawParts
open Go.ChangeShapes Go.WideShapes Go.ChangeAt Go.RowKit
open Go.ChangeMaps (open_string)
set_option linter.unusedVariables false

set_option maxHeartbeats 3200000 in
theorem walk (s : ByteArray) (a b c n : Int) (w : World) (ws : s.size ≤ maxLen) (wa : (Lit.int .i64 a).wf = true) (wb : (Lit.int .i64 b).wf = true) (wc : (Lit.int .i64 c).wf = true) (wn : (Lit.int .i64 n).wf = true) :
    Calls Try.prog 4 #[.string s, .agg #[.int .i64 a, .int .i64 b, .int .i64 c], .int .i64 n] w fun e w' => e = .returned (.bool true) ∧ Below w.heap.size w w' := by
  have haw := fun w => awake_any w
  have HA := Lib.hid haw
  clear haw
  have hB := Below.refl w.heap.size w
  have hsz := shortS_size s 40
  have hsh := fun w => short_any s 40 w ws (by omega)
  generalize shortS s 40 = S at *
  obtain ⟨_, _⟩ := bounds_i64 wn
  obtain ⟨_, _⟩ := bounds_i64 wc
  have key : ∃ m : Int, m ≤ 99 ∧ (Lit.int .i64 m).wf = true ∧ ((99 < n ∧ m = 99) ∨ (¬ 99 < n ∧ m = n)) := by
    by_cases h : 99 < n
    · exact ⟨99, by omega, by decide, .inl ⟨h, rfl⟩⟩
    · exact ⟨n, by omega, wn, .inr ⟨h, rfl⟩⟩
  obtain ⟨m, hm99, wm, hm⟩ := key
  have hg := fun w => part_all S a b w wa wb (by omega)
  have hrg := fun w => rpart_any S a b w wa wb (by omega)
  have hst := fun w => text_any S a b w wa wb (by omega)
  have hrst := fun w => rtext_any S a b w wa wb (by omega)
  have hp := fun w => round_any a b w wa wb
  have hrp := fun w => rround_any a b w wa wb
  have hf := fun w => fill_any S m w wm (by omega) (by omega)
  have hrf := fun w => rfill_any S m w wm (by omega) (by omega)
  have hw := fun w => within_any a b c w wa wb (by omega)
  have hrw := fun w => rwithin_any a b c w wa wb (by omega)
  generalize partS S a b = G at *
  generalize textS S a b = T at *
  generalize textOk S a b = TO at *
  generalize inn a b S.size = I at *
  generalize inn a b c = J at *
  generalize rndTo a b = R at *
  generalize rndOk a b = RO at *
  generalize fillS S m = F at *
  have H1 := Lib.hid hg
  have H2 := Lib.hid hrg
  have H3 := Lib.hid hst
  have H4 := Lib.hid hrst
  have H5 := Lib.hid hp
  have H6 := Lib.hid hrp
  have H7 := Lib.hid hsh
  have H8 := Lib.hid hf
  have H9 := Lib.hid hrf
  have H10 := Lib.hid hw
  have H11 := Lib.hid hrw
  clear hg hrg hst hrst hp hrp hsh hf hrf hw hrw
  rcases hm with ⟨hm, rfl⟩ | ⟨hm, rfl⟩
  all_goals
    go_enter Try.func4, Try.ntmps4
    go_wp2_with (first
      | (go_at_call 10; refine (HA.out _).mono ?_; rintro e v1 ⟨rfl, hb⟩; replace hB := (hB.alloc hB.size _).trans (hb.mono (by simp)); have hbk := (Blk.new w 32 #[.int .i64 a, .int .i64 b, .int .i64 c]).below hb (by simp); have c0 := hbk.at_ 0 (.int .i64 a) rfl; have c1 := hbk.at_ 1 (.int .i64 b) rfl; clear hb)
      | (go_at_call 11; refine (H7.out _).mono ?_; rintro e v2 ⟨rfl, rfl⟩)
      | (go_at_call 18; refine (H1.out _).mono ?_; rintro e v2 ⟨rfl, hb⟩; replace hB := hB.trans (hb.mono hB.size); replace hbk := hbk.below hb hbk.lt; have d0 := hbk.at_ 0 (.int .i64 a) rfl; have d1 := hbk.at_ 1 (.int .i64 b) rfl; clear hb)
      | (go_at_call 19; refine (H2.out _).mono ?_; rintro e v3 ⟨rfl, rfl⟩)
      | (go_at_call 20; refine (H3.out _).mono ?_; rintro e v3 ⟨rfl, hb⟩; replace hB := hB.trans (hb.mono hB.size); replace hbk := hbk.below hb hbk.lt; have e0 := hbk.at_ 0 (.int .i64 a) rfl; have e1 := hbk.at_ 1 (.int .i64 b) rfl; clear hb)
      | (go_at_call 21; refine (H4.out _).mono ?_; rintro e v4 ⟨rfl, rfl⟩)
      | (go_at_call 22; refine (H5.out _).mono ?_; rintro e v5 ⟨rfl, rfl⟩)
      | (go_at_call 23; refine (H6.out _).mono ?_; rintro e v6 ⟨rfl, rfl⟩))
    go_region_held3 (fun w' => w'.cell? ⟨w.heap.size, 0, none⟩ = some (.int .i64 a) ∧ w'.cell? ⟨w.heap.size, 1, none⟩ = some (.int .i64 b) ∧ w'.cell? ⟨w.heap.size, 2, none⟩ = some (.int .i64 c) ∧ Hid (Blk w' w.heap.size 32 #[.int .i64 a, .int .i64 b, .int .i64 c]) ∧ Hid (Below w.heap.size w w')) (first | exact ⟨n0, n1, n2, n3, n4⟩ | exact ⟨hbk.drew.at_ 0 _ rfl, hbk.drew.at_ 1 _ rfl, hbk.drew.at_ 2 _ rfl, hbk.drew, hB.drew⟩)
      (first
      | (go_at_call 24; refine (H8.out _).mono ?_; rintro e v5 ⟨rfl, hb⟩; rcases ‹(_ : Prop) ∧ (_ : Prop) ∧ (_ : Prop) ∧ Hid _ ∧ Hid _› with ⟨_, _, _, kb, kB⟩; have n3 := kb.out.below hb kb.out.lt; have n0 := n3.at_ 0 (.int .i64 a) rfl; have n1 := n3.at_ 1 (.int .i64 b) rfl; have n2 := n3.at_ 2 (.int .i64 c) rfl; have n4 := kB.out.trans (hb.mono kB.out.size))
      | (go_at_call 25; refine (H9.out _).mono ?_; rintro e v6 ⟨rfl, hb⟩; rcases ‹(_ : Prop) ∧ (_ : Prop) ∧ (_ : Prop) ∧ Hid _ ∧ Hid _› with ⟨_, _, _, kb, kB⟩; have n3 := kb.out.below hb kb.out.lt; have n0 := n3.at_ 0 (.int .i64 a) rfl; have n1 := n3.at_ 1 (.int .i64 b) rfl; have n2 := n3.at_ 2 (.int .i64 c) rfl; have n4 := kB.out.trans (hb.mono kB.out.size))
      | (go_at_call 26; refine (H10.out _).mono ?_; rintro e v7 ⟨rfl, rfl⟩; rcases ‹(_ : Prop) ∧ (_ : Prop) ∧ (_ : Prop) ∧ Hid _ ∧ Hid _› with ⟨n0, n1, n2, n3, n4⟩)
      | (go_at_call 27; refine (H11.out _).mono ?_; rintro e v8 ⟨rfl, rfl⟩; rcases ‹(_ : Prop) ∧ (_ : Prop) ∧ (_ : Prop) ∧ Hid _ ∧ Hid _› with ⟨n0, n1, n2, n3, n4⟩))
    all_goals
      rcases ‹(_ : Prop) ∧ (_ : Prop) ∧ (_ : Prop) ∧ Hid _ ∧ Hid _› with ⟨_, _, _, kb, kB⟩
      go_wp2
      go_ret
      exact ⟨by simp, kB.out⟩

set_option maxRecDepth 100000 in
theorem lifted (os : Os) (started : os.Started) (H : Type) (enc : TypeId × Value → H) :
    ReturnsInHanded {} Try.checked os 4 .any (Rows.octetPartsSpec.pre6 enc Try.prog Try.f4 Rows.octetPartsRow.domain false) (Rows.octetPartsSpec.post enc Try.prog Try.f4 false true false false) := by
  refine returnsInHanded_of_change (C := Try.checked) own started (by kernel_rfl) Try.func4
    (ChangeSpec.witness6 (enc := enc) (C := Try.checked) false ⟨#[], #[.string ⟨#[]⟩, .agg #[.int .i64 0, .int .i64 0, .int .i64 0], .int .i64 0], []⟩ 8 (by kernel_rfl) (by kernel_rfl) (by kernel_rfl) (by kernel_rfl)) ?_
  intro W base args ds gs before hval0 hW hcnd _
  have hval : ∀ (j : Nat) t v, Try.f4.params[j]? = some t → args[j]? = some v → Value.okWide Try.prog W .any base t v := hval0
  have hW' := hW
  obtain ⟨p, q, hA0, hV, rfl, hfz, hnd⟩ := hW
  have hA : DataW.TrodAll enc Try.prog W 0 (fun _ => true) true Try.f4.params.toList args.toList ds p := hA0
  rw [Try.params4] at hA hval
  obtain ⟨v0, vs0, d0, ds0, p0, q0, hargs, rfl, rfl, h0, r0⟩ := trodAll_cons hA
  obtain ⟨v1, vs1, d1, ds1, p1, q1, rfl, rfl, rfl, h1, r1⟩ := trodAll_cons r0
  obtain ⟨v2, vs2, d2, ds2, p2, q2, rfl, rfl, rfl, h2, r2⟩ := trodAll_cons r1
  obtain ⟨rfl, rfl, rfl⟩ := trodAll_nil r2
  obtain rfl : args = #[v0, v1, v2] := by cases args; simp_all
  obtain ⟨rfl, rfl⟩ := trodVars_none hV
  have k0 := h0
  have lt0 : ∀ x ∈ p0, x.block < W.heap.size := by obtain ⟨m, hm⟩ := k0; exact DataW.trod_lt m _ _ _ hm
  obtain ⟨a0, rfl, _, _, w0⟩ := open_string Try.underlying9 (hval 0 9 v0 rfl rfl) h0
  have k1 := h1
  have lt1 : ∀ x ∈ p1, x.block < W.heap.size := by obtain ⟨m, hm⟩ := k1; exact DataW.trod_lt m _ _ _ hm
  obtain ⟨z1, e1, hl1, hw1⟩ := open_ints_array Try.underlying32 Try.underlying3 (by kernel_rfl) (by kernel_rfl) (hval 1 32 v1 rfl rfl) h1
  obtain ⟨a1_0, a1_1, a1_2, rfl⟩ : ∃ a1_0 a1_1 a1_2, z1 = [a1_0, a1_1, a1_2] := by
    match z1, hl1 with
    | [a1_0, a1_1, a1_2], _ => exact ⟨_, _, _, rfl⟩
  obtain rfl : v1 = .agg #[.int .i64 a1_0, .int .i64 a1_1, .int .i64 a1_2] := e1
  have k2 := h2
  have lt2 : ∀ x ∈ p2, x.block < W.heap.size := by obtain ⟨m, hm⟩ := k2; exact DataW.trod_lt m _ _ _ hm
  obtain ⟨a2, rfl, _, _, w2⟩ := open_int Try.underlying3 (hval 2 3 v2 rfl rfl) h2
  clear hA0 hval0
  refine (walk a0 a1_0 a1_1 a1_2 a2 W w0 (hw1 a1_0 (by simp)) (hw1 a1_1 (by simp)) (hw1 a1_2 (by simp)) w2).mono fun e W' ⟨he, bel⟩ => ?_
  subst he
  exact ⟨_, rfl, _, _, _, [], _, [], hW', trodAll_mk1 (shut_bool Try.underlying4 _), (trodAll_cons_mk (Below.trod laidOut (by kernel_rfl) (of_decide_eq_true (by kernel_rfl)) k0 bel lt0) (trodAll_cons_mk (Below.trod laidOut (by kernel_rfl) (of_decide_eq_true (by kernel_rfl)) k1 bel lt1) (trodAll_cons_mk (Below.trod laidOut (by kernel_rfl) (of_decide_eq_true (by kernel_rfl)) k2 bel lt2) trodAll_mk0))), rfl, bel.frame _, fun h => by cases h⟩
theorem over : Rows.octetPartsRow.holds Try.pinned (OpenSpec.ofChange Rows.octetPartsSpec) :=
  OpenClaim.holds_of_wide 4 Try.f4 rfl rfl rfl rfl rfl rfl rfl ⟨rfl, rfl, rfl, rfl, rfl⟩ rfl rfl rfl rfl rfl (by kernel_rfl) Try.func4 (by kernel_rfl)
    (of_decide_eq_true (by kernel_rfl)) (by unfold Func.isWrapper; first | (rw [if_pos (by decide +kernel)]; kernel_rfl) | (rw [if_neg (by decide +kernel)]; exact ⟨rfl, rfl⟩))
    (fun os started H enc _ => lifted os started H enc)
/-- The statement. -/
theorem proved : Rows.OctetPartsSaid := over
end Go.Proofs.Ytbojahbagfhpfaa.lawParts
