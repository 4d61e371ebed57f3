/- WordKeeps: an order is kept by another kind, as far as it goes. -/
import Derived.Test.YtgiidhmjkkgkaaaDoorWO
namespace Go.Proofs.YtgiidhmjkkgkaaaDoor.lawKeeps
open Go.ChangeShapes Go.WideShapes Go.ChangeAt Go.RowKit
set_option linter.unusedVariables false
set_option linter.unusedSimpArgs false

/-- The number that a clipped word is, cut. -/
def nm (k x : Int) : Int := if k = 9 then Flt.truncZ x.toNat else valZ k x

theorem trunc_mono {a b : Nat} (h : Flt.rz a ≤ Flt.rz b) : Flt.truncZ a ≤ Flt.truncZ b := by
  unfold Flt.rz at h
  unfold Flt.truncZ
  split <;> rename_i h1 <;> split <;> rename_i h2
  · rw [if_pos h1, if_pos h2] at h
    have := Flt.tr_mono (show b % 9223372036854775808 ≤ a % 9223372036854775808 by omega)
    omega
  · omega
  · rw [if_neg h1, if_pos h2] at h
    have e1 : a % 9223372036854775808 = 0 := by omega
    have e2 : b % 9223372036854775808 = 0 := by omega
    rw [e1, e2]
    have : Flt.tr 0 = 0 := Flt.tr_none (by decide)
    omega
  · rw [if_neg h1, if_neg h2] at h
    have := Flt.tr_mono (show a % 9223372036854775808 ≤ b % 9223372036854775808 by omega)
    omega

theorem nm_mono {k x y : Int} (h : rk k x ≤ rk k y) : nm k x ≤ nm k y := by
  unfold rk at h; unfold nm
  split
  · rename_i h9
    rw [if_pos h9, if_pos h9] at h
    exact trunc_mono h
  · rename_i h9
    rw [if_neg h9, if_neg h9] at h
    exact h

theorem in_mono {t u v : Int} (h : u ≤ v) : inZ t u ≤ inZ t v := by
  have := lo_range t; have := hi_range t
  unfold inZ; (repeat' split) <;> omega

/-- The number of a word made of one. -/
theorem val_word {t v : Int} (h1 : 1 ≤ t) (h8 : t ≤ 8) : valZ t (wordZ (inZ t v)) = inZ t v ∧ clipS t (wordZ (inZ t v)) = wordZ (inZ t v) ∧ 0 ≤ wordZ (inZ t v) ∧ wordZ (inZ t v) < 18446744073709551616 := by
  have hr : loZ t ≤ inZ t v ∧ inZ t v ≤ hiZ t := by
    have : loZ t ≤ hiZ t := by have := lo_range t; have := hi_range t; omega
    unfold inZ; (repeat' split) <;> omega
  generalize inZ t v = z at *
  rcases kinds t with rfl | rfl | rfl | rfl | rfl | rfl | rfl | rfl | rfl | hout
  case inr.inr.inr.inr.inr.inr.inr.inr.inl => omega
  case inr.inr.inr.inr.inr.inr.inr.inr.inr => omega
  all_goals
    simp [loZ, hiZ] at hr
    simp only [valZ, clipS, wordZ]
    simp
    (repeat' split) <;> omega

theorem conv_is {k t a : Int} (h1 : 1 ≤ k) (h9 : k ≤ 9) (t1 : 1 ≤ t) (t8 : t ≤ 8) (a0 : 0 ≤ a) (a1 : a < 18446744073709551616) (hn : ¬ (k = 9 ∧ Flt.nanB a.toNat = true)) :
    valZ t (convS k t a) = inZ t (nm k (clipS k a)) := by
  have w1 : ¬ (wid k = 0 ∨ wid t = 0) := by rw [wid_zero, wid_zero]; omega
  unfold convS
  rw [if_neg w1]
  by_cases hkt : k = t
  · subst hkt
    rw [if_pos rfl]
    unfold nm
    rw [if_neg (by omega)]
    symm
    refine inZ_in ?_ ?_
    · rcases kinds k with rfl | rfl | rfl | rfl | rfl | rfl | rfl | rfl | rfl | hout
      case inr.inr.inr.inr.inr.inr.inr.inr.inl => omega
      case inr.inr.inr.inr.inr.inr.inr.inr.inr => omega
      all_goals
        simp only [valZ, clipS, loZ]
        simp
        (repeat' split) <;> omega
    · rcases kinds k with rfl | rfl | rfl | rfl | rfl | rfl | rfl | rfl | rfl | hout
      case inr.inr.inr.inr.inr.inr.inr.inr.inl => omega
      case inr.inr.inr.inr.inr.inr.inr.inr.inr => omega
      all_goals
        simp only [valZ, clipS, hiZ]
        simp
        (repeat' split) <;> omega
  · rw [if_neg hkt, if_neg (by omega)]
    unfold nm
    by_cases h : k = 9
    · have hn' : Flt.nanB a.toNat = false := by
        cases e : Flt.nanB a.toNat
        · rfl
        · exact absurd ⟨h, e⟩ hn
      rw [if_pos h, if_pos h, hn', clip_nine h]
      exact (val_word t1 t8).1
    · rw [if_neg h, if_neg h]
      exact (val_word t1 t8).1

theorem conv_clip {k t a : Int} (h1 : 1 ≤ k) (h9 : k ≤ 9) (t1 : 1 ≤ t) (t8 : t ≤ 8) (a0 : 0 ≤ a) (a1 : a < 18446744073709551616) :
    clipS t (convS k t a) = convS k t a ∧ 0 ≤ convS k t a ∧ convS k t a < 18446744073709551616 := by
  have w1 : ¬ (wid k = 0 ∨ wid t = 0) := by rw [wid_zero, wid_zero]; omega
  have cr := clipS_range k a a0 a1
  unfold convS
  rw [if_neg w1]
  by_cases hkt : k = t
  · subst hkt
    rw [if_pos rfl]
    exact ⟨clip_clip a0 a1, cr⟩
  · rw [if_neg hkt, if_neg (by omega)]
    by_cases h : k = 9
    · rw [if_pos h]
      cases Flt.nanB a.toNat
      · exact (val_word t1 t8).2
      · refine ⟨?_, by simp, by simp⟩
        simp only [if_true]
        unfold clipS; (repeat' split) <;> omega
    · rw [if_neg h]
      exact (val_word t1 t8).2

theorem facts {k t a b : Int} (h1 : 1 ≤ k) (h9 : k ≤ 9) (t1 : 1 ≤ t) (t8 : t ≤ 8) (a0 : 0 ≤ a) (a1 : a < 18446744073709551616) (b0 : 0 ≤ b) (b1 : b < 18446744073709551616) :
    cmpS k a b = 2 ∨ (cmpS k a b ≠ 2 ∧ cmpS k a b ≤ 0 ∧ cmpS t (convS k t a) (convS k t b) ≤ 0) ∨ (cmpS k a b ≠ 2 ∧ 0 < cmpS k a b ∧ 0 ≤ cmpS t (convS k t a) (convS k t b)) := by
  have c1 := cmp_rk (k := k) a0 a1 b0 b1
  by_cases hn : k = 9 ∧ (Flt.nanB a.toNat = true ∨ Flt.nanB b.toNat = true)
  · rw [if_pos hn] at c1; exact Or.inl c1
  · rw [if_neg hn] at c1
    obtain ⟨x1, x2, x3⟩ := conv_clip (k := k) (t := t) h1 h9 t1 t8 a0 a1
    obtain ⟨y1, y2, y3⟩ := conv_clip (k := k) (t := t) h1 h9 t1 t8 b0 b1
    have c2 := cmp_rk (k := t) x2 x3 y2 y3
    rw [if_neg (by omega), x1, y1] at c2
    have vx := conv_is (k := k) (t := t) h1 h9 t1 t8 a0 a1 (fun h => hn ⟨h.1, Or.inl h.2⟩)
    have vy := conv_is (k := k) (t := t) h1 h9 t1 t8 b0 b1 (fun h => hn ⟨h.1, Or.inr h.2⟩)
    have rx : rk t (convS k t a) = inZ t (nm k (clipS k a)) := by unfold rk; rw [if_neg (by omega), vx]
    have ry : rk t (convS k t b) = inZ t (nm k (clipS k b)) := by unfold rk; rw [if_neg (by omega), vy]
    rw [rx, ry] at c2
    have m1 : rk k (clipS k a) ≤ rk k (clipS k b) → inZ t (nm k (clipS k a)) ≤ inZ t (nm k (clipS k b)) := fun h => in_mono (nm_mono h)
    have m2 : rk k (clipS k b) ≤ rk k (clipS k a) → inZ t (nm k (clipS k b)) ≤ inZ t (nm k (clipS k a)) := fun h => in_mono (nm_mono h)
    right
    rw [c1, c2]
    by_cases h : rk k (clipS k a) ≤ rk k (clipS k b)
    · have := m1 h
      left
      unfold cmp3
      (repeat' split) <;> omega
    · have := m2 (by omega)
      right
      unfold cmp3
      (repeat' split) <;> omega

theorem kind_of (kind n : Int) (hn : 0 < n) : -n < kind.tmod n ∧ kind.tmod n < n ∧ 0 ≤ (kind.tmod n + n).tmod n ∧ (kind.tmod n + n).tmod n < n := by
  have h1 := Int.lt_tmod_of_pos kind hn
  have h0 := Int.tmod_lt_of_pos kind hn
  have h2 := Int.tmod_nonneg (a := kind.tmod n + n) n (by omega)
  have h3 := Int.tmod_lt_of_pos (kind.tmod n + n) hn
  exact ⟨h1, h0, h2, h3⟩

set_option maxHeartbeats 3200000 in
theorem walk (kind to a b : Int) (w : World) (hk : (Lit.int .i64 kind).wf = true) (ht : (Lit.int .i64 to).wf = true) (ha : (Lit.int .u64 a).wf = true) (hb : (Lit.int .u64 b).wf = true) (hT : Tab w) :
    Calls Tryd.prog 8 #[.int .i64 kind, .int .i64 to, .agg #[.int .u64 a, .int .u64 b]] w fun e w' => e = .returned (.bool true) ∧ Below w.heap.size w w' := by
  have HA := Lib.hid (fun w hT => awake_any w hT)
  obtain ⟨a0, a1⟩ := u64_range ha
  obtain ⟨b0, b1⟩ := u64_range hb
  obtain ⟨t1, t2, y0, y1⟩ := kind_of kind 9 (by omega)
  obtain ⟨s1, s2, z0, z1⟩ := kind_of to 8 (by omega)
  obtain ⟨x, hx⟩ : ∃ x, kind.tmod 9 = x := ⟨_, rfl⟩
  rw [hx] at y0 y1 t1 t2
  obtain ⟨y, hy⟩ : ∃ y, (x + 9).tmod 9 = y := ⟨_, rfl⟩
  rw [hy] at y0 y1
  obtain ⟨k, hk1⟩ : ∃ k, 1 + y = k := ⟨_, rfl⟩
  obtain ⟨u, hu⟩ : ∃ x, to.tmod 8 = x := ⟨_, rfl⟩
  rw [hu] at z0 z1 s1 s2
  obtain ⟨z, hz⟩ : ∃ y, (u + 8).tmod 8 = y := ⟨_, rfl⟩
  rw [hz] at z0 z1
  obtain ⟨t, ht1⟩ : ∃ k, 1 + z = k := ⟨_, rfl⟩
  have wk : (Lit.int .i64 k).wf = true := wf_i64 (by omega) (by omega)
  have wt : (Lit.int .i64 t).wf = true := wf_i64 (by omega) (by omega)
  obtain ⟨x1, x2, x3⟩ := conv_clip (k := k) (t := t) (by omega) (by omega) (by omega) (by omega) a0 a1
  obtain ⟨y1', y2, y3⟩ := conv_clip (k := k) (t := t) (by omega) (by omega) (by omega) (by omega) b0 b1
  have hf := facts (k := k) (t := t) (by omega) (by omega) (by omega) (by omega) a0 a1 b0 b1
  have K1 := Lib.hid (fun w hT => compare_any k a b w wk ha hb hT)
  have K2 := Lib.hid (fun w hT => compare_any t (convS k t a) (convS k t b) w wt (wf_u64 x2 x3) (wf_u64 y2 y3) hT)
  have V1 := Lib.hid (fun w hT => convert_any k t a w wk wt ha hT)
  have V2 := Lib.hid (fun w hT => convert_any k t b w wk wt hb hT)
  have c1 := fun w hT => clip_any t (convS k t a) w wt (wf_u64 x2 x3) hT
  simp only [x1] at c1
  have C1 := Lib.hid c1
  have hB := Below.refl w.heap.size w
  replace hT : Tab (w.alloc (.cells #[.int .u64 a, .int .u64 b] 40)) := hT.below ((Below.refl _ w).alloc (Nat.le_refl _) _) hT.pos
  clear c1 x1 y1' x2 x3 y2 y3
  generalize cmpS t (convS k t a) (convS k t b) = d at *
  generalize convS k t a = p at *
  generalize convS k t b = q at *
  generalize cmpS k a b = c at *
  rcases hf with rfl | ⟨f1, f2, f3⟩ | ⟨f1, f2, f3⟩
  case' inr.inl => have g1 : (c == 2) = false := by simpa using f1
  case' inr.inr => have g1 : (c == 2) = false := by simpa using f1
  all_goals
    (try clear f1)
    go_enter Tryd.func8, Tryd.ntmps8
    go_wp2_with (first
      | (go_at_call 11; with_reducible refine (HA.out _ hT).mono ?_; rintro e v1 ⟨rfl, hb⟩; replace hB := (hB.alloc hB.size _).trans (hb.mono (by simp)); have hbk := (Blk.new w 40 #[.int .u64 a, .int .u64 b]).below hb (by simp); replace hT := hT.below hb hT.pos; have c0 := hbk.at_ 0 (.int .u64 a) rfl; have c1 := hbk.at_ 1 (.int .u64 b) rfl)
      | (go_at_call 24; with_reducible refine (K1.out _ hT).mono ?_; rintro e v2 ⟨rfl, hb⟩; replace hT := hT.below hb hT.pos; replace hB := hB.trans (hb.mono hB.size); replace hbk := hbk.below hb hbk.lt; have c0 := hbk.at_ 0 (.int .u64 a) rfl; have c1 := hbk.at_ 1 (.int .u64 b) rfl)
      | (go_at_call 22; with_reducible refine (V1.out _ hT).mono ?_; rintro e v1 ⟨rfl, rfl⟩)
      | (go_at_call 22; with_reducible refine (V2.out _ hT).mono ?_; rintro e v1 ⟨rfl, rfl⟩)
      | (go_at_call 24; with_reducible refine (K2.out _ hT).mono ?_; rintro e v1 ⟨rfl, hb⟩; replace hT := hT.below hb hT.pos; replace hB := hB.trans (hb.mono hB.size))
      | (go_at_call 18; with_reducible refine (C1.out _ hT).mono ?_; rintro e v1 ⟨rfl, rfl⟩))
  all_goals go_ret
  all_goals exact ⟨rfl, hB⟩

set_option maxRecDepth 100000 in
theorem lifted (os : Os) (started : os.Started) (H : Type) (enc : TypeId × Value → H) :
    ReturnsInHanded {} Tryd.checked os 8 .any (fun w args => (Rows.wordKeepsSpec.pre enc Tryd.prog Tryd.f8 Rows.wordKeepsRow.domain false w args ∧ laidMet Tryd.prog Rows.wordKeepsRow.laid w) ∧ sizedMet enc Tryd.prog Tryd.f8 (OpenSpec.ofChange Rows.wordKeepsSpec) false w args) (Rows.wordKeepsSpec.post enc Tryd.prog Tryd.f8 false true false false) := by
  refine returnsInHanded_of_change_and (C := Tryd.checked) (X := fun w _ => laidMet Tryd.prog Rows.wordKeepsRow.laid w) (fun _ _ _ hh h => h.of_heap hh) own started (by kernel_rfl) Tryd.func8
    (ChangeSpec.witness_at (enc := enc) (C := Tryd.checked) (os := os) (X := fun w _ => laidMet Tryd.prog Rows.wordKeepsRow.laid w) false (laidWorld os) #[.int .i64 0, .int .i64 0, .agg #[.int .u64 0, .int .u64 0]] 8 rfl (by kernel_rfl) (by kernel_rfl) (by kernel_rfl) (by kernel_rfl) (by kernel_rfl) (laid_met os _)) ?_
  intro W base args ds gs before hval0 hW hcnd _ hL _
  have hval : ∀ (j : Nat) t v, Tryd.f8.params[j]? = some t → args[j]? = some v → Value.okWide Tryd.prog W .any base t v := hval0
  have hW' := hW
  obtain ⟨p, q, hA0, hV, rfl, hfz, hnd⟩ := hW
  have hA : DataW.TrodAll enc Tryd.prog W 0 (fun _ => true) true Tryd.f8.params.toList args.toList ds p := hA0
  rw [Tryd.params8] at hA hval
  obtain ⟨v0, vs0, d0, ds0, p0, q0, hargs, rfl, rfl, h0, r0⟩ := trodAll_cons hA
  obtain ⟨v1, vs1, d1, ds1, p1, q1, rfl, rfl, rfl, h1, r1⟩ := trodAll_cons r0
  obtain ⟨v2, vs2, d2, ds2, p2, q2, rfl, rfl, rfl, h2, r2⟩ := trodAll_cons r1
  obtain ⟨rfl, rfl, rfl⟩ := trodAll_nil r2
  obtain rfl : args = #[v0, v1, v2] := by cases args; simp_all
  obtain ⟨rfl, rfl⟩ := trodVars_none hV
  have k0 := h0
  have lt0 : ∀ x ∈ p0, x.block < W.heap.size := by obtain ⟨m, hm⟩ := k0; exact DataW.trod_lt m _ _ _ hm
  obtain ⟨a0, rfl, _, _, w0⟩ := open_int Tryd.underlying3 (hval 0 3 v0 rfl rfl) h0
  have k1 := h1
  have lt1 : ∀ x ∈ p1, x.block < W.heap.size := by obtain ⟨m, hm⟩ := k1; exact DataW.trod_lt m _ _ _ hm
  obtain ⟨a1, rfl, _, _, w1⟩ := open_int Tryd.underlying3 (hval 1 3 v1 rfl rfl) h1
  have k2 := h2
  have lt2 : ∀ x ∈ p2, x.block < W.heap.size := by obtain ⟨m, hm⟩ := k2; exact DataW.trod_lt m _ _ _ hm
  obtain ⟨z2, e2, hl2, hw2⟩ := open_ints_array Tryd.underlying40 Tryd.underlying22 (by kernel_rfl) (by kernel_rfl) (hval 2 40 v2 rfl rfl) h2
  obtain ⟨a2_0, a2_1, rfl⟩ : ∃ a2_0 a2_1, z2 = [a2_0, a2_1] := by
    match z2, hl2 with
    | [a2_0, a2_1], _ => exact ⟨_, _, rfl⟩
  obtain rfl : v2 = .agg #[.int .u64 a2_0, .int .u64 a2_1] := e2
  clear hA0 hval0
  refine (walk a0 a1 a2_0 a2_1 W w0 w1 (hw2 a2_0 (by simp)) (hw2 a2_1 (by simp)) (tab_of_laid hL)).mono fun e W' ⟨he, bel⟩ => ?_
  subst he
  exact ⟨_, rfl, _, _, _, [], _, [], hW', trodAll_mk1 (shut_bool Tryd.underlying4 _), (trodAll_cons_mk (Below.trod laidOut (by kernel_rfl) (of_decide_eq_true (by kernel_rfl)) k0 bel lt0) (trodAll_cons_mk (Below.trod laidOut (by kernel_rfl) (of_decide_eq_true (by kernel_rfl)) k1 bel lt1) (trodAll_cons_mk (Below.trod laidOut (by kernel_rfl) (of_decide_eq_true (by kernel_rfl)) k2 bel lt2) trodAll_mk0))), rfl, bel.frame _, fun h => by cases h⟩
theorem over : Rows.wordKeepsRow.holds Tryd.pinned (OpenSpec.ofChange Rows.wordKeepsSpec) :=
  OpenClaim.holds_of_wide 8 Tryd.f8 rfl rfl rfl rfl rfl rfl rfl ⟨rfl, rfl, rfl, rfl, rfl⟩ rfl rfl rfl rfl rfl (by kernel_rfl) Tryd.func8 (by kernel_rfl)
    (of_decide_eq_true (by kernel_rfl)) (by unfold Func.isWrapper; first | (rw [if_pos (by decide +kernel)]; kernel_rfl) | (rw [if_neg (by decide +kernel)]; exact ⟨rfl, rfl⟩))
    (fun os started H enc _ => lifted os started H enc)
/-- The statement. -/
theorem proved : Rows.WordKeepsCardSaid :=
  Claim7.holds_tied_plain_at .later [] [.data] true _ false over (fun _ h => by cases h) (by kernel_rfl) (fun _ h => by cases h) wordKeeps_row_tie rfl ⟨rfl, rfl⟩ (by kernel_rfl) rfl
    (fun f fn hf hfn => by
      obtain rfl : f = 8 := Option.some.inj (hf.symm.trans (by kernel_rfl))
      obtain rfl : fn = Tryd.f8 := Option.some.inj (hfn.symm.trans Tryd.func8)
      refine ⟨by kernel_rfl, fun j t ht => ?_⟩
      rw [Tryd.params8] at ht
      match j, ht with
      | 0, ht =>
        obtain rfl : t = 3 := by simpa using ht.symm
        exact (by kernel_rfl : Tryd.pinned.checked.prog.wantsStandIn 3 = false)
      | 1, ht =>
        obtain rfl : t = 3 := by simpa using ht.symm
        exact (by kernel_rfl : Tryd.pinned.checked.prog.wantsStandIn 3 = false)
      | 2, ht =>
        obtain rfl : t = 40 := by simpa using ht.symm
        exact (by kernel_rfl : Tryd.pinned.checked.prog.wantsStandIn 40 = false)
      | j + 3, ht => simp at ht)
    (by kernel_rfl)
end Go.Proofs.YtgiidhmjkkgkaaaDoor.lawKeeps
