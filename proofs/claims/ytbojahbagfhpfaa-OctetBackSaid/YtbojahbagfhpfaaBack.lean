/- OctetBack: for any bytes to 40 (and eight more), any number, and a place and a width that may be: what was set is got, as far as its width goes; all else is as it was. -/
import Derived.Test.YtbojahbagfhpfaaAwake
import Derived.Test.YtbojahbagfhpfaaBits
import Derived.Deep.RegionHeld3
namespace Go.Proofs.Ytbojahbagfhpfaa.lawBack
open Go.ChangeShapes Go.WideShapes Go.ChangeAt Go.RowKit
open Go.ChangeMaps (open_string)
set_option linter.unusedVariables false

def tail8 : ByteArray := ⟨#[49, 50, 51, 52, 53, 54, 55, 56]⟩

theorem getL_putL : ∀ W x, getL (putL x W) = x % 256 ^ W
  | 0, x => by simp [putL, getL, Nat.mod_one]
  | W + 1, x => by
    rw [putL, getL, getL_putL W (x / 256), Nat.pow_succ, Nat.mul_comm (256 ^ W) 256, Nat.mod_mul]
    simp

/-- What becomes of a text by Set. -/
theorem set_facts (S : ByteArray) (A W x : Nat) (h1 : 1 ≤ W) (h2 : W ≤ 8) (h3 : A + W ≤ S.size) :
    ∃ T, setS S A W x = T ∧ T.size = S.size ∧ getN T A W = ((x % 256 ^ W : Nat) : Int) ∧ partS T A W = mkb (putL x W) ∧ T.extract 0 A = S.extract 0 A ∧ T.extract (A + W) S.size = S.extract (A + W) S.size := by
  have hh : hol S.size A W = true := by rw [hol_iff]; omega
  have hta : (S.data.toList.take A).length = A := by rw [List.length_take, len_data]; omega
  have hpw := putL_length W x
  refine ⟨_, rfl, ?_⟩
  have e : setS S A W x = mkb (S.data.toList.take A ++ (putL x W ++ S.data.toList.drop (A + W))) := by unfold setS; simp [hh]
  rw [e]
  have hsz : (mkb (S.data.toList.take A ++ (putL x W ++ S.data.toList.drop (A + W)))).size = S.size := by
    rw [mkb_size, List.length_append, List.length_append, hta, hpw, List.length_drop, len_data]; omega
  have hmid : ((S.data.toList.take A ++ (putL x W ++ S.data.toList.drop (A + W))).drop A).take W = putL x W := by
    rw [List.drop_left' hta, List.take_left' hpw]
  have hin : inn A W S.size = true := by rw [inn_iff]; omega
  refine ⟨hsz, ?_, ?_, ?_, ?_⟩
  · unfold getN
    rw [hsz, if_pos hh]
    simp only [Int.toNat_natCast]
    unfold partL
    rw [mkb_data, hmid, getL_putL]
  · unfold partS
    rw [hsz, if_pos hin]
    simp only [Int.toNat_natCast]
    rw [extract_mkb, mkb_data, show A + W - A = W by omega, hmid]
  · rw [extract_mkb, extract_mkb, mkb_data, List.drop_zero, List.drop_zero, Nat.sub_zero, List.take_left' hta]
  · rw [extract_mkb, extract_mkb, mkb_data]
    congr 2
    rw [← List.append_assoc, List.drop_left' (by rw [List.length_append, hta, hpw])]

theorem mask_facts (X W : Nat) (hX : X < 18446744073709551616) (hW : W < 8) :
    bits .and .u64 (X : Int) (IntKind.u64.wrap (IntKind.u64.wrap (2 ^ (8 * W)) - 1)) = ((X % 256 ^ W : Nat) : Int) := by
  have hp : (2 : Nat) ^ (8 * W) ≤ 2 ^ 56 := Nat.pow_le_pow_right (by omega) (by omega)
  have hp1 : 1 ≤ (2 : Nat) ^ (8 * W) := Nat.one_le_two_pow
  have e : IntKind.u64.wrap (IntKind.u64.wrap (2 ^ (8 * W)) - 1) = ((2 ^ (8 * W) - 1 : Nat) : Int) := by
    rw [IntKind.wrap_u64, IntKind.wrap_u64, show (2 : Int) ^ (8 * W) = ((2 ^ (8 * W) : Nat) : Int) by rw [Int.natCast_pow]; rfl]
    omega
  rw [e, u64_and_mask X (8 * W) _ hX (by omega) (by omega), Nat.pow_mul]

theorem place_facts (a : Int) (L C : Nat) (hL : 8 ≤ L) (hL2 : L ≤ 48) (hC : C ≤ 7) :
    ∃ r : Int, ∃ A : Nat, a.tmod ((L : Int) - (1 + C) + 1) = r ∧ (r + L - (1 + C) + 1).tmod ((L : Int) - (1 + C) + 1) = A ∧ A + (1 + C) ≤ L ∧ -100 ≤ r ∧ r ≤ 100 ∧ 0 ≤ r + L - (1 + C) + 1 := by
  have h1 := Int.tmod_lt_of_pos a (show (0 : Int) < (L : Int) - (1 + C) + 1 by omega)
  have h2 := Int.lt_tmod_of_pos a (show (0 : Int) < (L : Int) - (1 + C) + 1 by omega)
  obtain ⟨r, hr⟩ : ∃ r, a.tmod ((L : Int) - (1 + C) + 1) = r := ⟨_, rfl⟩
  rw [hr] at h1 h2
  have h3 := Int.tmod_lt_of_pos (r + L - (1 + C) + 1) (show (0 : Int) < (L : Int) - (1 + C) + 1 by omega)
  have h4 := Int.tmod_nonneg (a := r + L - (1 + C) + 1) ((L : Int) - (1 + C) + 1) (by omega)
  exact ⟨r, ((r + L - (1 + C) + 1).tmod ((L : Int) - (1 + C) + 1)).toNat, hr, by omega, by omega, by omega, by omega, by omega⟩

set_option maxHeartbeats 3200000 in
theorem walk (s : ByteArray) (a b x : Int) (w : World) (ws : s.size ≤ maxLen) (wa : (Lit.int .i64 a).wf = true) (wb : (Lit.int .i64 b).wf = true) (wx : (Lit.int .u64 x).wf = true) :
    Calls Try.prog 5 #[.string s, .agg #[.int .i64 a, .int .i64 b], .int .u64 x] w fun e w' => e = .returned (.bool true) ∧ Below w.heap.size w w' := by
  have haw := fun w => awake_any w
  have HA := Lib.hid haw
  clear haw
  have hB := Below.refl w.heap.size w
  have hsz := shortS_size s 40
  have hsh : ∀ w, Calls Try.prog 11 #[.string s, .int .i64 40] w fun e w' => e = .returned (.string (shortS s 40)) ∧ w = w' := fun w => short_any s 40 w ws (by omega)
  generalize shortS s 40 = S0 at *
  obtain ⟨S, hS⟩ : ∃ S, S0 ++ (⟨#[49, 50, 51, 52, 53, 54, 55, 56]⟩ : ByteArray) = S := ⟨_, rfl⟩
  have hz8 : ByteArray.size ⟨#[49, 50, 51, 52, 53, 54, 55, 56]⟩ = 8 := rfl
  have hSs : S.size = S0.size + 8 := by rw [← hS, ByteArray.size_append, hz8]
  have hL1 : 8 ≤ S.size := by omega
  have hL2 : S.size ≤ 48 := by omega
  clear hSs
  obtain ⟨C, hC⟩ : ∃ C : Nat, bits .and .i64 b 7 = C := ⟨(b % 8).toNat, by rw [i64_and3]; omega⟩
  have hC7 : C ≤ 7 := by rw [i64_and3] at hC; omega
  obtain ⟨r, A, hr, hA, hAW, hr1, hr2, hr3⟩ := place_facts a S.size C hL1 hL2 hC7
  obtain ⟨_, _⟩ := bounds_u64 wx
  obtain ⟨X, rfl⟩ : ∃ X : Nat, x = X := ⟨x.toNat, by omega⟩
  obtain ⟨T, eT, sT, gT, pT, T1, T2⟩ := set_facts S A (1 + C) X (by omega) (by omega) hAW
  have hh : hol S.size A (1 + C : Nat) = true := by rw [hol_iff]; omega
  have hin : inn A (1 + C : Nat) S.size = true := by rw [inn_iff]; omega
  have hst := fun w => set_any S A (1 + C : Nat) X w (WalkArith.wf_i64 (by omega)) (WalkArith.wf_i64 (by omega)) wx (by omega)
  have hg := fun w => get_any T A (1 + C : Nat) w (WalkArith.wf_i64 (by omega)) (WalkArith.wf_i64 (by omega)) (by omega)
  have hp := fun w => part_all T A (1 + C : Nat) w (WalkArith.wf_i64 (by omega)) (WalkArith.wf_i64 (by omega)) (by omega)
  have hpu := fun w => put_any X (1 + C : Nat) w wx (WalkArith.wf_i64 (by omega))
  rw [Int.toNat_natCast, eT, hh] at hst
  rw [sT, hh, gT] at hg
  rw [sT, hin, pT] at hp
  rw [Int.toNat_natCast, show wide (1 + C : Nat) = 1 + C by unfold wide; omega] at hpu
  generalize mkb (putL X (1 + C)) = P at *
  have e1 : ((1 + C : Nat) : Int) = 1 + (C : Int) := by omega
  have hM : ∃ M : Int, ((X % 256 ^ (1 + C) : Nat) : Int) = M ∧ (((C : Int) < 7 ∧ bits .and .u64 (X : Int) (IntKind.u64.wrap (IntKind.u64.wrap (2 ^ (8 * (1 + C))) - 1)) = M) ∨ (¬ (C : Int) < 7 ∧ M = X)) := by
    refine ⟨_, rfl, ?_⟩
    by_cases h7 : C < 7
    · exact .inl ⟨by omega, mask_facts X (1 + C) (by omega) (by omega)⟩
    · refine .inr ⟨by omega, ?_⟩
      have : 1 + C = 8 := by omega
      rw [this, Nat.mod_eq_of_lt (by omega)]
  obtain ⟨M, eM, hM⟩ := hM
  rw [eM] at hg
  rw [e1] at hst hg hp hpu
  have H1 := Lib.hid hst
  have H2 := Lib.hid hg
  have H3 := Lib.hid hp
  have H4 := Lib.hid hpu
  have H5 := Lib.hid hsh
  clear hst hg hp hpu hsh eT gT pT hh hin e1 hz8 eM
  rcases hM with ⟨hC8, hM⟩ | ⟨hC8, rfl⟩
  all_goals
    go_enter Try.func5, Try.ntmps5
    go_wp2_with (first
      | (go_at_call 10; with_reducible refine (HA.out _).mono ?_; rintro e v1 ⟨rfl, hb⟩; replace hB := (hB.alloc hB.size _).trans (hb.mono (by simp)); have hbk := (Blk.new w 22 #[.int .i64 a, .int .i64 b]).below hb (by simp); have c0 := hbk.at_ 0 (.int .i64 a) rfl; have c1 := hbk.at_ 1 (.int .i64 b) rfl; clear hb)
      | (go_at_call 11; with_reducible refine (H5.out _).mono ?_; rintro e v2 ⟨rfl, rfl⟩)
      | (go_at_call 14; with_reducible refine (H1.out _).mono ?_; rintro e v2 ⟨rfl, hb⟩; replace hB := hB.trans (hb.mono hB.size); replace hbk := hbk.below hb hbk.lt; clear hb)
      | (go_at_call 12; with_reducible refine (H2.out _).mono ?_; rintro e v3 ⟨rfl, rfl⟩)
      | (go_at_call 18; with_reducible refine (H3.out _).mono ?_; rintro e v4 ⟨rfl, hb⟩; replace hB := hB.trans (hb.mono hB.size); replace hbk := hbk.below hb hbk.lt; clear hb))
    have hs4 : (A : Int) + (1 + C) ≤ S.size := by omega
    have hs2 : (0 : Int) ≤ (A : Int) + (1 + C) := by omega
    have hs3 : ((A : Int) + (1 + C)).toNat = A + (1 + C) := by omega
    have hs5 : (A : Int) ≤ S.size := by omega
    have hs1 : IntKind.i64.wrap ((A : Int) + (1 + C)) = (A : Int) + (1 + C) := IntWalk.i64_in _ (by omega)
    go_region_held3 (fun w' => w'.cell? ⟨w.heap.size, 1, none⟩ = some (.int .i64 b) ∧ Hid (Blk w' w.heap.size 22 #[.int .i64 a, .int .i64 b]) ∧ Hid (Below w.heap.size w w')) (first | exact ⟨n1, n2, n3⟩ | exact ⟨hbk.drew.at_ 1 _ rfl, hbk.drew, hB.drew⟩)
      (first
      | (go_at_call 16; with_reducible refine (H4.out _).mono ?_; rintro e v5 ⟨rfl, hb⟩; rcases ‹(_ : Prop) ∧ Hid _ ∧ Hid _› with ⟨_, kb, kB⟩; have n2 := kb.out.below hb kb.out.lt; have n1 := n2.at_ 1 (.int .i64 b) rfl; have n3 := kB.out.trans (hb.mono kB.out.size)))
    all_goals
      rcases ‹(_ : Prop) ∧ Hid _ ∧ Hid _› with ⟨_, kb, kB⟩
      go_wp2
      go_ret
      exact ⟨by simp, kB.out⟩

set_option maxRecDepth 100000 in
theorem lifted (os : Os) (started : os.Started) (H : Type) (enc : TypeId × Value → H) :
    ReturnsInHanded {} Try.checked os 5 .any (Rows.octetBackSpec.pre6 enc Try.prog Try.f5 Rows.octetBackRow.domain false) (Rows.octetBackSpec.post enc Try.prog Try.f5 false true false false) := by
  refine returnsInHanded_of_change (C := Try.checked) own started (by kernel_rfl) Try.func5
    (ChangeSpec.witness6 (enc := enc) (C := Try.checked) false ⟨#[], #[.string ⟨#[]⟩, .agg #[.int .i64 0, .int .i64 0], .int .u64 0], []⟩ 8 (by kernel_rfl) (by kernel_rfl) (by kernel_rfl) (by kernel_rfl)) ?_
  intro W base args ds gs before hval0 hW hcnd _
  have hval : ∀ (j : Nat) t v, Try.f5.params[j]? = some t → args[j]? = some v → Value.okWide Try.prog W .any base t v := hval0
  have hW' := hW
  obtain ⟨p, q, hA0, hV, rfl, hfz, hnd⟩ := hW
  have hA : DataW.TrodAll enc Try.prog W 0 (fun _ => true) true Try.f5.params.toList args.toList ds p := hA0
  rw [Try.params5] at hA hval
  obtain ⟨v0, vs0, d0, ds0, p0, q0, hargs, rfl, rfl, h0, r0⟩ := trodAll_cons hA
  obtain ⟨v1, vs1, d1, ds1, p1, q1, rfl, rfl, rfl, h1, r1⟩ := trodAll_cons r0
  obtain ⟨v2, vs2, d2, ds2, p2, q2, rfl, rfl, rfl, h2, r2⟩ := trodAll_cons r1
  obtain ⟨rfl, rfl, rfl⟩ := trodAll_nil r2
  obtain rfl : args = #[v0, v1, v2] := by cases args; simp_all
  obtain ⟨rfl, rfl⟩ := trodVars_none hV
  have k0 := h0
  have lt0 : ∀ x ∈ p0, x.block < W.heap.size := by obtain ⟨m, hm⟩ := k0; exact DataW.trod_lt m _ _ _ hm
  obtain ⟨a0, rfl, _, _, w0⟩ := open_string Try.underlying9 (hval 0 9 v0 rfl rfl) h0
  have k1 := h1
  have lt1 : ∀ x ∈ p1, x.block < W.heap.size := by obtain ⟨m, hm⟩ := k1; exact DataW.trod_lt m _ _ _ hm
  obtain ⟨z1, e1, hl1, hw1⟩ := open_ints_array Try.underlying22 Try.underlying3 (by kernel_rfl) (by kernel_rfl) (hval 1 22 v1 rfl rfl) h1
  obtain ⟨a1_0, a1_1, rfl⟩ : ∃ a1_0 a1_1, z1 = [a1_0, a1_1] := by
    match z1, hl1 with
    | [a1_0, a1_1], _ => exact ⟨_, _, rfl⟩
  obtain rfl : v1 = .agg #[.int .i64 a1_0, .int .i64 a1_1] := e1
  have k2 := h2
  have lt2 : ∀ x ∈ p2, x.block < W.heap.size := by obtain ⟨m, hm⟩ := k2; exact DataW.trod_lt m _ _ _ hm
  obtain ⟨a2, rfl, _, _, w2⟩ := open_int Try.underlying23 (hval 2 23 v2 rfl rfl) h2
  clear hA0 hval0
  refine (walk a0 a1_0 a1_1 a2 W w0 (hw1 a1_0 (by simp)) (hw1 a1_1 (by simp)) w2).mono fun e W' ⟨he, bel⟩ => ?_
  subst he
  exact ⟨_, rfl, _, _, _, [], _, [], hW', trodAll_mk1 (shut_bool Try.underlying4 _), (trodAll_cons_mk (Below.trod laidOut (by kernel_rfl) (of_decide_eq_true (by kernel_rfl)) k0 bel lt0) (trodAll_cons_mk (Below.trod laidOut (by kernel_rfl) (of_decide_eq_true (by kernel_rfl)) k1 bel lt1) (trodAll_cons_mk (Below.trod laidOut (by kernel_rfl) (of_decide_eq_true (by kernel_rfl)) k2 bel lt2) trodAll_mk0))), rfl, bel.frame _, fun h => by cases h⟩
theorem over : Rows.octetBackRow.holds Try.pinned (OpenSpec.ofChange Rows.octetBackSpec) :=
  OpenClaim.holds_of_wide 5 Try.f5 rfl rfl rfl rfl rfl rfl rfl ⟨rfl, rfl, rfl, rfl, rfl⟩ rfl rfl rfl rfl rfl (by kernel_rfl) Try.func5 (by kernel_rfl)
    (of_decide_eq_true (by kernel_rfl)) (by unfold Func.isWrapper; first | (rw [if_pos (by decide +kernel)]; kernel_rfl) | (rw [if_neg (by decide +kernel)]; exact ⟨rfl, rfl⟩))
    (fun os started H enc _ => lifted os started H enc)
/-- The statement. -/
theorem proved : Rows.OctetBackSaid := over
end Go.Proofs.Ytbojahbagfhpfaa.lawBack
