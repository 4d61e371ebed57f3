/- WordWhole: whole numbers that F64 has come back; what is behind the point is left out. -/
import Derived.Test.YtgiidhmjkkgkaaaDoorWL
import Derived.Test.YtgiidhmjkkgkaaaDoorBits
namespace Go.Proofs.YtgiidhmjkkgkaaaDoor.lawWhole
open Go.ChangeShapes Go.WideShapes Go.ChangeAt Go.RowKit
set_option linter.unusedVariables false
set_option linter.unusedSimpArgs false

theorem or_top (n : Nat) (h : n < 9223372036854775808) : bits .or .u64 (n : Int) 9223372036854775808 = ((n + 9223372036854775808 : Nat) : Int) := by
  have e := bits_or_u64_nat n 9223372036854775808 (by omega) (by omega)
  have e2 : n ||| 9223372036854775808 = n + 9223372036854775808 := by
    have := Nat.two_pow_add_eq_or_of_lt (i := 63) (b := n) h 1
    rw [Nat.or_comm, show 9223372036854775808 = 2 ^ 63 * 1 by rfl, ← this]
    omega
  rw [e2] at e
  exact e

/-- A whole number below 2^52 and its bits. -/
theorem facts (m : Nat) (h : m < 4503599627370496) :
    convS 4 9 m = (Flt.frung m : Int) ∧ convS 9 4 (Flt.frung m : Int) = m ∧ convS 9 8 (Flt.frung m : Int) = m ∧
    convS 9 4 ((Flt.frung m + 9223372036854775808 : Nat) : Int) = 0 ∧ convS 9 8 ((Flt.frung m + 9223372036854775808 : Nat) : Int) = (-(m : Int)) % 18446744073709551616 ∧
    Flt.frung m < 9223372036854775808 := by
  have hle := Flt.frung_le (m := m) (by omega)
  have htr := Flt.tr_frung (m := m) (by omega)
  have n1 : Flt.nanB (Flt.frung m) = false := by unfold Flt.nanB; simp; omega
  have n2 : Flt.nanB (Flt.frung m + 9223372036854775808) = false := by unfold Flt.nanB; simp; omega
  have t1 : Flt.truncZ (Flt.frung m) = m := by
    unfold Flt.truncZ
    rw [if_neg (by omega), Nat.mod_eq_of_lt (by omega), htr]
  have t2 : Flt.truncZ (Flt.frung m + 9223372036854775808) = -(m : Int) := by
    unfold Flt.truncZ
    rw [if_pos (by omega), show (Flt.frung m + 9223372036854775808) % 9223372036854775808 = Flt.frung m by omega, htr]
  have w4 : wid 4 = 8 := by decide
  have w8 : wid 8 = 8 := by decide
  have w9 : wid 9 = 8 := by decide
  have l4 : loZ 4 = 0 := by decide
  have h4 : hiZ 4 = 18446744073709551615 := by decide
  have l8 : loZ 8 = -9223372036854775808 := by decide
  have h8 : hiZ 8 = 9223372036854775807 := by decide
  have f1 : Flt.fl (m : Int) = Flt.frung m := by
    unfold Flt.fl; rw [if_neg (by omega), Int.natAbs_natCast]; omega
  refine ⟨?_, ?_, ?_, ?_, ?_, by omega⟩
  · unfold convS
    rw [w4, w9, if_neg (by omega), if_neg (by omega), if_pos rfl, show clipS 4 (m : Int) = m by simp [clipS], show valZ 4 (m : Int) = m by simp [valZ], f1]
  · unfold convS
    rw [w4, w9, if_neg (by omega), if_neg (by omega), if_neg (by omega), if_pos rfl, Int.toNat_natCast, n1, t1, inZ_in (by omega) (by omega)]
    simp [wordZ]; omega
  · unfold convS
    rw [w8, w9, if_neg (by omega), if_neg (by omega), if_neg (by omega), if_pos rfl, Int.toNat_natCast, n1, t1, inZ_in (by omega) (by omega)]
    simp [wordZ]; omega
  · unfold convS
    rw [w4, w9, if_neg (by omega), if_neg (by omega), if_neg (by omega), if_pos rfl, Int.toNat_natCast, n2, t2, inZ_lo (by omega) (by omega), l4]
    simp [wordZ]
  · unfold convS
    rw [w8, w9, if_neg (by omega), if_neg (by omega), if_neg (by omega), if_pos rfl, Int.toNat_natCast, n2, t2, inZ_in (by omega) (by omega)]
    simp [wordZ]

theorem fact_half (m : Nat) (h0 : m ≠ 0) (h : m < 4503599627370496) :
    4503599627370496 ≤ Flt.frung m ∧ convS 9 4 ((Flt.frung m : Int) - 4503599627370496) = (m : Int) / 2 := by
  obtain ⟨h1, h2⟩ := Flt.tr_half h0 (by omega)
  have hle := Flt.frung_le (m := m) (by omega)
  refine ⟨h1, ?_⟩
  have n1 : Flt.nanB (Flt.frung m - 4503599627370496) = false := by unfold Flt.nanB; simp; omega
  have t1 : Flt.truncZ (Flt.frung m - 4503599627370496) = ((m / 2 : Nat) : Int) := by
    unfold Flt.truncZ
    rw [if_neg (by omega), Nat.mod_eq_of_lt (by omega), h2]
  have w4 : wid 4 = 8 := by decide
  have w9 : wid 9 = 8 := by decide
  have l4 : loZ 4 = 0 := by decide
  have h4 : hiZ 4 = 18446744073709551615 := by decide
  unfold convS
  rw [w4, w9, if_neg (by omega), if_neg (by omega), if_neg (by omega), if_pos rfl, show ((Flt.frung m : Int) - 4503599627370496).toNat = Flt.frung m - 4503599627370496 by omega, n1, t1, inZ_in (by omega) (by omega)]
  simp [wordZ]; omega

set_option maxHeartbeats 1600000 in
theorem walk (n : Int) (w : World) (hn : (Lit.int .u64 n).wf = true) (hT : Tab w) :
    Calls Tryd.prog 9 #[.int .u64 n] w fun e w' => e = .returned (.bool true) ∧ Below w.heap.size w w' := by
  have HA := Lib.hid (fun w hT => awake_any w hT)
  obtain ⟨n0, n1⟩ := u64_range hn
  obtain ⟨N, rfl⟩ : ∃ N : Nat, n = N := ⟨n.toNat, by omega⟩
  have hm : bits .and .u64 (N : Int) 4503599627370495 = ((N % 4503599627370496 : Nat) : Int) := u64_and_mask N 52 4503599627370495 (by omega) (by omega) (by decide)
  have hlt : N % 4503599627370496 < 4503599627370496 := Nat.mod_lt _ (by omega)
  generalize N % 4503599627370496 = m at *
  obtain ⟨e1, e2, e3, e4, e5, hr⟩ := facts m hlt
  have ho := or_top (Flt.frung m) hr
  have hh := fun h0 => fact_half m h0 hlt
  have hh2 : 0 < (m : Int) → 4503599627370496 ≤ (Flt.frung m : Int) ∧ convS 9 4 ((Flt.frung m : Int) - 4503599627370496) = (m : Int) / 2 := by
    intro h0
    obtain ⟨a, b⟩ := hh (by omega)
    exact ⟨by omega, b⟩
  clear hh
  have hM0 : 0 ≤ (m : Int) := by omega
  have hM1 : (m : Int) < 4503599627370496 := by omega
  generalize hG : ((Flt.frung m + 9223372036854775808 : Nat) : Int) = G at *
  have hG0 : 0 ≤ G ∧ G < 18446744073709551616 := by omega
  have hF0 : 0 ≤ (Flt.frung m : Int) ∧ (Flt.frung m : Int) < 9223372036854775808 := by omega
  clear hG hr
  generalize (Flt.frung m : Int) = F at *
  generalize (m : Int) = M at *
  obtain ⟨hF0, hF1⟩ := hF0
  have c1 := fun w hT => convert_any 4 9 M w (by decide) (by decide) (wf_u64 (by omega) (by omega)) hT
  have c2 := fun w hT => convert_any 9 4 F w (by decide) (by decide) (wf_u64 (by omega) (by omega)) hT
  have c3 := fun w hT => convert_any 9 8 F w (by decide) (by decide) (wf_u64 (by omega) (by omega)) hT
  have c4 := fun w hT => convert_any 9 4 G w (by decide) (by decide) (wf_u64 (by omega) (by omega)) hT
  have c5 := fun w hT => convert_any 9 8 G w (by decide) (by decide) (wf_u64 (by omega) (by omega)) hT
  simp only [e1] at c1
  simp only [e2] at c2
  simp only [e3] at c3
  simp only [e4] at c4
  simp only [e5] at c5
  have hB := Below.refl w.heap.size w
  have hpos := hT.pos
  have H1 := Lib.hid c1
  have H2 := Lib.hid c2
  have H3 := Lib.hid c3
  have H4 := Lib.hid c4
  have H5 := Lib.hid c5
  clear c1 c2 c3 c4 c5 e1 e2 e3 e4 e5 hG0 hlt
  by_cases h0 : 0 < M
  · obtain ⟨hl, eh⟩ := hh2 h0
    have c6 := fun w hT => convert_any 9 4 (F - 4503599627370496) w (by decide) (by decide) (wf_u64 (by omega) (by omega)) hT
    simp only [eh] at c6
    have H6 := Lib.hid c6
    clear c6 eh hh2
    go_enter Tryd.func9, Tryd.ntmps9
    go_wp2_with (first
      | (go_at_call 11; refine (HA.out _ hT).mono ?_; rintro e v1 ⟨rfl, hb⟩; replace hB := hB.trans (hb.mono hB.size); replace hT := hT.below hb hpos)
      | (go_at_call 22; with_reducible refine (H1.out _ hT).mono ?_; rintro e v1 ⟨rfl, rfl⟩)
      | (go_at_call 22; with_reducible refine (H2.out _ hT).mono ?_; rintro e v1 ⟨rfl, rfl⟩)
      | (go_at_call 22; with_reducible refine (H3.out _ hT).mono ?_; rintro e v1 ⟨rfl, rfl⟩)
      | (go_at_call 22; with_reducible refine (H4.out _ hT).mono ?_; rintro e v1 ⟨rfl, rfl⟩)
      | (go_at_call 22; with_reducible refine (H5.out _ hT).mono ?_; rintro e v1 ⟨rfl, rfl⟩)
      | (go_at_call 22; with_reducible refine (H6.out _ hT).mono ?_; rintro e v1 ⟨rfl, rfl⟩))
    go_ret
    exact ⟨by simp [IntKind.wrap_u64], hB⟩
  · clear hh2
    obtain rfl : M = 0 := by omega
    simp only [Int.neg_zero, Int.zero_emod] at H5
    go_enter Tryd.func9, Tryd.ntmps9
    go_wp2_with (first
      | (go_at_call 11; refine (HA.out _ hT).mono ?_; rintro e v1 ⟨rfl, hb⟩; replace hB := hB.trans (hb.mono hB.size); replace hT := hT.below hb hpos)
      | (go_at_call 22; with_reducible refine (H1.out _ hT).mono ?_; rintro e v1 ⟨rfl, rfl⟩)
      | (go_at_call 22; with_reducible refine (H2.out _ hT).mono ?_; rintro e v1 ⟨rfl, rfl⟩)
      | (go_at_call 22; with_reducible refine (H3.out _ hT).mono ?_; rintro e v1 ⟨rfl, rfl⟩)
      | (go_at_call 22; with_reducible refine (H4.out _ hT).mono ?_; rintro e v1 ⟨rfl, rfl⟩)
      | (go_at_call 22; with_reducible refine (H5.out _ hT).mono ?_; rintro e v1 ⟨rfl, rfl⟩))
    go_ret
    exact ⟨by simp [IntKind.wrap_u64], hB⟩

set_option maxRecDepth 100000 in
theorem lifted (os : Os) (started : os.Started) (H : Type) (enc : TypeId × Value → H) :
    ReturnsInHanded {} Tryd.checked os 9 .any (fun w args => (Rows.wordWholeSpec.pre enc Tryd.prog Tryd.f9 Rows.wordWholeRow.domain false w args ∧ laidMet Tryd.prog Rows.wordWholeRow.laid w) ∧ sizedMet enc Tryd.prog Tryd.f9 (OpenSpec.ofChange Rows.wordWholeSpec) false w args) (Rows.wordWholeSpec.post enc Tryd.prog Tryd.f9 false true false false) := by
  refine returnsInHanded_of_change_and (C := Tryd.checked) (X := fun w _ => laidMet Tryd.prog Rows.wordWholeRow.laid w) (fun _ _ _ hh h => h.of_heap hh) own started (by kernel_rfl) Tryd.func9
    (ChangeSpec.witness_at (enc := enc) (C := Tryd.checked) (os := os) (X := fun w _ => laidMet Tryd.prog Rows.wordWholeRow.laid w) false (laidWorld os) #[.int .u64 0] 8 rfl (by kernel_rfl) (by kernel_rfl) (by kernel_rfl) (by kernel_rfl) (by kernel_rfl) (laid_met os _)) ?_
  intro W base args ds gs before hval0 hW hcnd _ hL _
  have hval : ∀ (j : Nat) t v, Tryd.f9.params[j]? = some t → args[j]? = some v → Value.okWide Tryd.prog W .any base t v := hval0
  have hW' := hW
  obtain ⟨p, q, hA0, hV, rfl, hfz, hnd⟩ := hW
  have hA : DataW.TrodAll enc Tryd.prog W 0 (fun _ => true) true Tryd.f9.params.toList args.toList ds p := hA0
  rw [Tryd.params9] at hA hval
  obtain ⟨v0, vs0, d0, ds0, p0, q0, hargs, rfl, rfl, h0, r0⟩ := trodAll_cons hA
  obtain ⟨rfl, rfl, rfl⟩ := trodAll_nil r0
  obtain rfl : args = #[v0] := by cases args; simp_all
  obtain ⟨rfl, rfl⟩ := trodVars_none hV
  have k0 := h0
  have lt0 : ∀ x ∈ p0, x.block < W.heap.size := by obtain ⟨m, hm⟩ := k0; exact DataW.trod_lt m _ _ _ hm
  obtain ⟨a0, rfl, _, _, w0⟩ := open_int Tryd.underlying22 (hval 0 22 v0 rfl rfl) h0
  clear hA0 hval0
  refine (walk a0 W w0 (tab_of_laid hL)).mono fun e W' ⟨he, bel⟩ => ?_
  subst he
  exact ⟨_, rfl, _, _, _, [], _, [], hW', trodAll_mk1 (shut_bool Tryd.underlying4 _), (trodAll_cons_mk (Below.trod laidOut (by kernel_rfl) (of_decide_eq_true (by kernel_rfl)) k0 bel lt0) trodAll_mk0), rfl, bel.frame _, fun h => by cases h⟩
theorem over : Rows.wordWholeRow.holds Tryd.pinned (OpenSpec.ofChange Rows.wordWholeSpec) :=
  OpenClaim.holds_of_wide 9 Tryd.f9 rfl rfl rfl rfl rfl rfl rfl ⟨rfl, rfl, rfl, rfl, rfl⟩ rfl rfl rfl rfl rfl (by kernel_rfl) Tryd.func9 (by kernel_rfl)
    (of_decide_eq_true (by kernel_rfl)) (by unfold Func.isWrapper; first | (rw [if_pos (by decide +kernel)]; kernel_rfl) | (rw [if_neg (by decide +kernel)]; exact ⟨rfl, rfl⟩))
    (fun os started H enc _ => lifted os started H enc)
/-- The statement. -/
theorem proved : Rows.WordWholeCardSaid :=
  Claim7.holds_tied_plain_at .later [] [.data] true _ false over (fun _ h => by cases h) (by kernel_rfl) (fun _ h => by cases h) wordWhole_row_tie rfl ⟨rfl, rfl⟩ (by kernel_rfl) rfl
    (fun f fn hf hfn => by
      obtain rfl : f = 9 := Option.some.inj (hf.symm.trans (by kernel_rfl))
      obtain rfl : fn = Tryd.f9 := Option.some.inj (hfn.symm.trans Tryd.func9)
      refine ⟨by kernel_rfl, fun j t ht => ?_⟩
      rw [Tryd.params9] at ht
      match j, ht with
      | 0, ht =>
        obtain rfl : t = 22 := by simpa using ht.symm
        exact (by kernel_rfl : Tryd.pinned.checked.prog.wantsStandIn 22 = false)
      | j + 1, ht => simp at ht)
    (by kernel_rfl)
end Go.Proofs.YtgiidhmjkkgkaaaDoor.lawWhole
