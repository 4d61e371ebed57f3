/- WordConverts: any word of any kind becomes one of any other kind as the reference says. -/
import Derived.Test.YtgiidhmjkkgkaaaDoorWV
namespace Go.Proofs.YtgiidhmjkkgkaaaDoor.lawConverts
open Go.ChangeShapes Go.WideShapes Go.ChangeAt Go.RowKit
set_option linter.unusedVariables false
set_option linter.unusedSimpArgs false

theorem numZ_abs (v : Int) : numZ (decide (v < 0)) v.natAbs = v := by
  unfold numZ
  by_cases h : v < 0 <;> simp [h] <;> omega

theorem whole_is {k x : Int} (x0 : 0 ≤ x) (x1 : x < 18446744073709551616) : inZ k (numZ (wholeM x) (wholeN x)) = inZ k (Flt.truncZ x.toNat) ∧ 0 ≤ wholeN x ∧ wholeN x < 18446744073709551616 := by
  have hl := lo_range k
  have hh := hi_range k
  have hm : x.toNat % 9223372036854775808 = (x % 9223372036854775808).toNat := by omega
  have hs : (9223372036854775808 ≤ x.toNat) ↔ 9223372036854775808 ≤ x := by omega
  unfold Flt.truncZ wholeM wholeN
  rw [hm]
  simp only [hs]
  by_cases h1 : x % 9223372036854775808 < 4607182418800017408
  · have ht : Flt.tr (x % 9223372036854775808).toNat = 0 := Flt.tr_none (by omega)
    rw [if_pos h1, if_pos h1, ht]
    refine ⟨?_, by omega, by omega⟩
    congr 1
    unfold numZ
    split <;> simp
  · rw [if_neg h1, if_neg h1]
    have hg := Flt.tr_ge (R := 4895412794951729152) (X := 18446744073709551616) (r := (x % 9223372036854775808).toNat) (by decide +kernel)
    by_cases h2 : 4895412794951729152 ≤ x % 9223372036854775808
    · have ht := hg.2 (by omega)
      rw [if_pos h2]
      refine ⟨?_, by omega, by omega⟩
      generalize Flt.tr (x % 9223372036854775808).toNat = t at *
      unfold numZ
      by_cases hx : 9223372036854775808 ≤ x
      · simp only [hx, decide_true, if_true]
        rw [inZ_lo (by omega) (by omega), inZ_lo (by omega) (by omega)]
      · simp only [hx, decide_false, Bool.false_eq_true, if_false]
        rw [inZ_hi (by omega) (by omega), inZ_hi (by omega) (by omega)]
    · rw [if_neg h2]
      have ht : Flt.tr (x % 9223372036854775808).toNat < 18446744073709551616 := by
        by_cases h : 18446744073709551616 ≤ Flt.tr (x % 9223372036854775808).toNat
        · have := hg.1 h; omega
        · omega
      refine ⟨?_, by omega, by omega⟩
      congr 1
      unfold numZ
      by_cases hx : 9223372036854775808 ≤ x <;> simp [hx]

set_option maxHeartbeats 3200000 in
theorem rconvert_any (from_ to n : Int) (w : World) (hf : (Lit.int .i64 from_).wf = true) (ht : (Lit.int .i64 to).wf = true) (hn : (Lit.int .u64 n).wf = true) :
    Calls Tryd.prog 23 #[.int .i64 from_, .int .i64 to, .int .u64 n] w fun e w' => e = .returned (.int .u64 (convS from_ to n)) ∧ Below w.heap.size w w' := by
  have HC := Lib.hid (fun w => rclip_any from_ n w hf hn)
  have HWf := Lib.hid (fun w => rwidth_any from_ w hf)
  have HWt := Lib.hid (fun w => rwidth_any to w ht)
  obtain ⟨n0, n1⟩ := u64_range hn
  obtain ⟨c0, c1⟩ := clipS_range from_ n n0 n1
  have hB := Below.refl w.heap.size w
  by_cases hz1 : wid from_ = 0
  · have er : convS from_ to n = 0 := by unfold convS; rw [if_pos (Or.inl hz1)]
    rw [er]; clear er
    rw [hz1] at HWf
    generalize wid to = b at *
    clear hz1
    go_enter Tryd.func23, Tryd.ntmps23
    go_wp2_with (first
      | (go_at_call 15; with_reducible refine (HWf.out _).mono ?_; rintro e v1 ⟨rfl, rfl⟩)
      | (go_at_call 15; with_reducible refine (HWt.out _).mono ?_; rintro e v1 ⟨rfl, rfl⟩))
    go_ret
    exact ⟨rfl, hB⟩
  have ha0 : (wid from_ == 0) = false := by simpa using hz1
  by_cases hz2 : wid to = 0
  · have er : convS from_ to n = 0 := by unfold convS; rw [if_pos (Or.inr hz2)]
    rw [er]; clear er
    rw [hz2] at HWt
    generalize wid from_ = a at *
    clear hz1 hz2
    go_enter Tryd.func23, Tryd.ntmps23
    go_wp2_with (first
      | (go_at_call 15; with_reducible refine (HWf.out _).mono ?_; rintro e v1 ⟨rfl, rfl⟩)
      | (go_at_call 15; with_reducible refine (HWt.out _).mono ?_; rintro e v1 ⟨rfl, rfl⟩))
    go_ret
    exact ⟨rfl, hB⟩
  have hb0 : (wid to == 0) = false := by simpa using hz2
  have k1 : ¬ (from_ < 1 ∨ 9 < from_) := fun h => hz1 (wid_zero.2 h)
  have k2 : ¬ (to < 1 ∨ 9 < to) := fun h => hz2 (wid_zero.2 h)
  have hne : ¬ (wid from_ = 0 ∨ wid to = 0) := by omega
  by_cases heq : from_ = to
  · have er : convS from_ to n = clipS from_ n := by unfold convS; rw [if_neg hne, if_pos heq]
    rw [er]; clear er
    subst heq
    clear hne k1 k2 hz2 HWt
    generalize clipS from_ n = x at *
    generalize wid from_ = a at *
    clear hz1
    go_enter Tryd.func23, Tryd.ntmps23
    go_wp2_with (first
      | (go_at_call 15; with_reducible refine (HWf.out _).mono ?_; rintro e v1 ⟨rfl, rfl⟩)
      | (go_at_call 19; with_reducible refine (HC.out _).mono ?_; rintro e v1 ⟨rfl, rfl⟩))
    go_ret
    exact ⟨rfl, hB⟩
  have he0 : (from_ == to) = false := by simpa using heq
  by_cases ht9 : to = 9
  · have er : convS from_ to n = (Flt.fl (valZ from_ (clipS from_ n)) : Int) := by unfold convS; rw [if_neg hne, if_neg heq, if_pos ht9]
    rw [er]; clear er
    have HN := Lib.hid (fun w => number_any from_ (clipS from_ n) w hf (wf_u64 c0 c1))
    have hv := val_range (k := from_) c0 c1
    have fl := fun w => float_any (decide (valZ from_ (clipS from_ n) < 0)) (valZ from_ (clipS from_ n)).natAbs w (by omega) (by omega)
    simp only [numZ_abs] at fl
    have HF := Lib.hid fl
    subst ht9
    clear hne k1 k2 fl hv
    generalize (Flt.fl (valZ from_ (clipS from_ n)) : Int) = f at *
    generalize ((valZ from_ (clipS from_ n)).natAbs : Int) = q at *
    generalize decide (valZ from_ (clipS from_ n) < 0) = m at *
    generalize clipS from_ n = x at *
    generalize wid from_ = a at *
    generalize wid 9 = b at *
    clear hz1 hz2 heq
    go_enter Tryd.func23, Tryd.ntmps23
    go_wp2_with (first
      | (go_at_call 15; with_reducible refine (HWf.out _).mono ?_; rintro e v1 ⟨rfl, rfl⟩)
      | (go_at_call 15; with_reducible refine (HWt.out _).mono ?_; rintro e v1 ⟨rfl, rfl⟩)
      | (go_at_call 19; with_reducible refine (HC.out _).mono ?_; rintro e v1 ⟨rfl, rfl⟩)
      | (go_at_call 38; with_reducible refine (HN.out _).mono ?_; rintro e v1 ⟨rfl, hb⟩; replace hB := hB.trans (hb.mono hB.size))
      | (go_at_call 37; with_reducible refine (HF.out _).mono ?_; rintro e v1 ⟨rfl, hb⟩; replace hB := hB.trans (hb.mono hB.size)))
    go_ret
    exact ⟨rfl, hB⟩
  have ht0 : (to == 9) = false := by simpa using ht9
  by_cases hf9 : from_ = 9
  · have er : convS from_ to n = (if Flt.nanB n.toNat then 0 else wordZ (inZ to (Flt.truncZ n.toNat))) := by unfold convS; rw [if_neg hne, if_neg heq, if_neg ht9, if_pos hf9]
    rw [er]; clear er
    subst hf9
    rw [clip9] at HC
    have hna := fun w => nan_any n w hn
    cases hnn : Flt.nanB n.toNat
    · simp only [hnn] at hna
      have HNa := Lib.hid hna
      have HWh := Lib.hid (fun w => whole_any n w hn hnn)
      obtain ⟨q1, q2, q3⟩ := whole_is (k := to) n0 n1
      have hi := fun w => into_any to (wholeM n) (wholeN n) w (by omega) (by omega) q2 q3
      simp only [q1] at hi
      have HI := Lib.hid hi
      simp only [Bool.false_eq_true, if_false]
      clear hne k1 k2 c0 c1 hi hna hnn q1 q2 q3
      generalize wordZ (inZ to (Flt.truncZ n.toNat)) = f at *
      generalize wholeM n = m at *
      generalize wholeN n = q at *
      generalize wid 9 = a at *
      generalize wid to = b at *
      clear hz1 hz2 heq ht9
      go_enter Tryd.func23, Tryd.ntmps23
      go_wp2_with (first
        | (go_at_call 15; with_reducible refine (HWf.out _).mono ?_; rintro e v1 ⟨rfl, rfl⟩)
        | (go_at_call 15; with_reducible refine (HWt.out _).mono ?_; rintro e v1 ⟨rfl, rfl⟩)
        | (go_at_call 19; with_reducible refine (HC.out _).mono ?_; rintro e v1 ⟨rfl, rfl⟩)
        | (go_at_call 39; with_reducible refine (HNa.out _).mono ?_; rintro e v1 ⟨rfl, rfl⟩)
        | (go_at_call 41; with_reducible refine (HWh.out _).mono ?_; rintro e v1 ⟨rfl, hb⟩; replace hB := hB.trans (hb.mono hB.size))
        | (go_at_call 40; with_reducible refine (HI.out _).mono ?_; rintro e v1 ⟨rfl, hb⟩; replace hB := hB.trans (hb.mono hB.size)))
      go_ret
      exact ⟨rfl, hB⟩
    · simp only [hnn] at hna
      have HNa := Lib.hid hna
      simp only [if_true]
      clear hne k1 k2 c0 c1 hna hnn
      generalize wid 9 = a at *
      generalize wid to = b at *
      clear hz1 hz2 heq ht9
      go_enter Tryd.func23, Tryd.ntmps23
      go_wp2_with (first
        | (go_at_call 15; with_reducible refine (HWf.out _).mono ?_; rintro e v1 ⟨rfl, rfl⟩)
        | (go_at_call 15; with_reducible refine (HWt.out _).mono ?_; rintro e v1 ⟨rfl, rfl⟩)
        | (go_at_call 19; with_reducible refine (HC.out _).mono ?_; rintro e v1 ⟨rfl, rfl⟩)
        | (go_at_call 39; with_reducible refine (HNa.out _).mono ?_; rintro e v1 ⟨rfl, rfl⟩))
      go_ret
      exact ⟨rfl, hB⟩
  · have hf0 : (from_ == 9) = false := by simpa using hf9
    have er : convS from_ to n = wordZ (inZ to (valZ from_ (clipS from_ n))) := by unfold convS; rw [if_neg hne, if_neg heq, if_neg ht9, if_neg hf9]
    rw [er]; clear er
    have HN := Lib.hid (fun w => number_any from_ (clipS from_ n) w hf (wf_u64 c0 c1))
    have hv := val_range (k := from_) c0 c1
    have hi := fun w => into_any to (decide (valZ from_ (clipS from_ n) < 0)) (valZ from_ (clipS from_ n)).natAbs w (by omega) (by omega) (by omega) (by omega)
    simp only [numZ_abs] at hi
    have HI := Lib.hid hi
    clear hne k1 k2 hi hv
    generalize wordZ (inZ to (valZ from_ (clipS from_ n))) = f at *
    generalize ((valZ from_ (clipS from_ n)).natAbs : Int) = q at *
    generalize decide (valZ from_ (clipS from_ n) < 0) = m at *
    generalize clipS from_ n = x at *
    generalize wid from_ = a at *
    generalize wid to = b at *
    clear hz1 hz2 heq ht9 hf9
    go_enter Tryd.func23, Tryd.ntmps23
    go_wp2_with (first
      | (go_at_call 15; with_reducible refine (HWf.out _).mono ?_; rintro e v1 ⟨rfl, rfl⟩)
      | (go_at_call 15; with_reducible refine (HWt.out _).mono ?_; rintro e v1 ⟨rfl, rfl⟩)
      | (go_at_call 19; with_reducible refine (HC.out _).mono ?_; rintro e v1 ⟨rfl, rfl⟩)
      | (go_at_call 38; with_reducible refine (HN.out _).mono ?_; rintro e v1 ⟨rfl, hb⟩; replace hB := hB.trans (hb.mono hB.size))
      | (go_at_call 40; with_reducible refine (HI.out _).mono ?_; rintro e v1 ⟨rfl, hb⟩; replace hB := hB.trans (hb.mono hB.size)))
    go_ret
    exact ⟨rfl, hB⟩

theorem walk (from_ to n : Int) (w : World) (hf : (Lit.int .i64 from_).wf = true) (ht : (Lit.int .i64 to).wf = true) (hn : (Lit.int .u64 n).wf = true) (hT : Tab w) :
    Calls Tryd.prog 4 #[.int .i64 from_, .int .i64 to, .int .u64 n] w fun e w' => e = .returned (.bool true) ∧ Below w.heap.size w w' := by
  have HA := Lib.hid (fun w hT => awake_any w hT)
  have V1 := Lib.hid (fun w hT => convert_any from_ to n w hf ht hn hT)
  have V2 := Lib.hid (fun w => rconvert_any from_ to n w hf ht hn)
  have hB := Below.refl w.heap.size w
  generalize convS from_ to n = r at *
  go_enter Tryd.func4, Tryd.ntmps4
  go_wp2_with (first
    | (go_at_call 11; with_reducible refine (HA.out _ hT).mono ?_; rintro e v1 ⟨rfl, hb⟩; replace hT := hT.below hb hT.pos; replace hB := hB.trans (hb.mono hB.size))
    | (go_at_call 22; with_reducible refine (V1.out _ hT).mono ?_; rintro e v1 ⟨rfl, rfl⟩)
    | (go_at_call 23; with_reducible refine (V2.out _).mono ?_; rintro e v1 ⟨rfl, hb⟩; replace hT := hT.below hb hT.pos; replace hB := hB.trans (hb.mono hB.size)))
  go_ret
  exact ⟨rfl, hB⟩

set_option maxRecDepth 100000 in
theorem lifted (os : Os) (started : os.Started) (H : Type) (enc : TypeId × Value → H) :
    ReturnsInHanded {} Tryd.checked os 4 .any (fun w args => (Rows.wordConvertsSpec.pre enc Tryd.prog Tryd.f4 Rows.wordConvertsRow.domain false w args ∧ laidMet Tryd.prog Rows.wordConvertsRow.laid w) ∧ sizedMet enc Tryd.prog Tryd.f4 (OpenSpec.ofChange Rows.wordConvertsSpec) false w args) (Rows.wordConvertsSpec.post enc Tryd.prog Tryd.f4 false true false false) := by
  refine returnsInHanded_of_change_and (C := Tryd.checked) (X := fun w _ => laidMet Tryd.prog Rows.wordConvertsRow.laid w) (fun _ _ _ hh h => h.of_heap hh) own started (by kernel_rfl) Tryd.func4
    (ChangeSpec.witness_at (enc := enc) (C := Tryd.checked) (os := os) (X := fun w _ => laidMet Tryd.prog Rows.wordConvertsRow.laid w) false (laidWorld os) #[.int .i64 0, .int .i64 0, .int .u64 0] 8 rfl (by kernel_rfl) (by kernel_rfl) (by kernel_rfl) (by kernel_rfl) (by kernel_rfl) (laid_met os _)) ?_
  intro W base args ds gs before hval0 hW hcnd _ hL _
  have hval : ∀ (j : Nat) t v, Tryd.f4.params[j]? = some t → args[j]? = some v → Value.okWide Tryd.prog W .any base t v := hval0
  have hW' := hW
  obtain ⟨p, q, hA0, hV, rfl, hfz, hnd⟩ := hW
  have hA : DataW.TrodAll enc Tryd.prog W 0 (fun _ => true) true Tryd.f4.params.toList args.toList ds p := hA0
  rw [Tryd.params4] at hA hval
  obtain ⟨v0, vs0, d0, ds0, p0, q0, hargs, rfl, rfl, h0, r0⟩ := trodAll_cons hA
  obtain ⟨v1, vs1, d1, ds1, p1, q1, rfl, rfl, rfl, h1, r1⟩ := trodAll_cons r0
  obtain ⟨v2, vs2, d2, ds2, p2, q2, rfl, rfl, rfl, h2, r2⟩ := trodAll_cons r1
  obtain ⟨rfl, rfl, rfl⟩ := trodAll_nil r2
  obtain rfl : args = #[v0, v1, v2] := by cases args; simp_all
  obtain ⟨rfl, rfl⟩ := trodVars_none hV
  have k0 := h0
  have lt0 : ∀ x ∈ p0, x.block < W.heap.size := by obtain ⟨m, hm⟩ := k0; exact DataW.trod_lt m _ _ _ hm
  obtain ⟨a0, rfl, _, _, w0⟩ := open_int Tryd.underlying3 (hval 0 3 v0 rfl rfl) h0
  have k1 := h1
  have lt1 : ∀ x ∈ p1, x.block < W.heap.size := by obtain ⟨m, hm⟩ := k1; exact DataW.trod_lt m _ _ _ hm
  obtain ⟨a1, rfl, _, _, w1⟩ := open_int Tryd.underlying3 (hval 1 3 v1 rfl rfl) h1
  have k2 := h2
  have lt2 : ∀ x ∈ p2, x.block < W.heap.size := by obtain ⟨m, hm⟩ := k2; exact DataW.trod_lt m _ _ _ hm
  obtain ⟨a2, rfl, _, _, w2⟩ := open_int Tryd.underlying22 (hval 2 22 v2 rfl rfl) h2
  clear hA0 hval0
  refine (walk a0 a1 a2 W w0 w1 w2 (tab_of_laid hL)).mono fun e W' ⟨he, bel⟩ => ?_
  subst he
  exact ⟨_, rfl, _, _, _, [], _, [], hW', trodAll_mk1 (shut_bool Tryd.underlying4 _), (trodAll_cons_mk (Below.trod laidOut (by kernel_rfl) (of_decide_eq_true (by kernel_rfl)) k0 bel lt0) (trodAll_cons_mk (Below.trod laidOut (by kernel_rfl) (of_decide_eq_true (by kernel_rfl)) k1 bel lt1) (trodAll_cons_mk (Below.trod laidOut (by kernel_rfl) (of_decide_eq_true (by kernel_rfl)) k2 bel lt2) trodAll_mk0))), rfl, bel.frame _, fun h => by cases h⟩
theorem over : Rows.wordConvertsRow.holds Tryd.pinned (OpenSpec.ofChange Rows.wordConvertsSpec) :=
  OpenClaim.holds_of_wide 4 Tryd.f4 rfl rfl rfl rfl rfl rfl rfl ⟨rfl, rfl, rfl, rfl, rfl⟩ rfl rfl rfl rfl rfl (by kernel_rfl) Tryd.func4 (by kernel_rfl)
    (of_decide_eq_true (by kernel_rfl)) (by unfold Func.isWrapper; first | (rw [if_pos (by decide +kernel)]; kernel_rfl) | (rw [if_neg (by decide +kernel)]; exact ⟨rfl, rfl⟩))
    (fun os started H enc _ => lifted os started H enc)
/-- The statement. -/
theorem proved : Rows.WordConvertsCardSaid :=
  Claim7.holds_tied_plain_at .later [] [.data] true _ false over (fun _ h => by cases h) (by kernel_rfl) (fun _ h => by cases h) wordConverts_row_tie rfl ⟨rfl, rfl⟩ (by kernel_rfl) rfl
    (fun f fn hf hfn => by
      obtain rfl : f = 4 := Option.some.inj (hf.symm.trans (by kernel_rfl))
      obtain rfl : fn = Tryd.f4 := Option.some.inj (hfn.symm.trans Tryd.func4)
      refine ⟨by kernel_rfl, fun j t ht => ?_⟩
      rw [Tryd.params4] at ht
      match j, ht with
      | 0, ht =>
        obtain rfl : t = 3 := by simpa using ht.symm
        exact (by kernel_rfl : Tryd.pinned.checked.prog.wantsStandIn 3 = false)
      | 1, ht =>
        obtain rfl : t = 3 := by simpa using ht.symm
        exact (by kernel_rfl : Tryd.pinned.checked.prog.wantsStandIn 3 = false)
      | 2, ht =>
        obtain rfl : t = 22 := by simpa using ht.symm
        exact (by kernel_rfl : Tryd.pinned.checked.prog.wantsStandIn 22 = false)
      | j + 3, ht => simp at ht)
    (by kernel_rfl)
end Go.Proofs.YtgiidhmjkkgkaaaDoor.lawConverts
