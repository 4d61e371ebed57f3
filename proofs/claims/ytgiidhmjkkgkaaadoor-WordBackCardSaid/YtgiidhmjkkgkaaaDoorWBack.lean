/- WordBack: nothing is lost into a wider kind and back; what was written is read. -/
import Derived.Test.YtgiidhmjkkgkaaaDoorWP
namespace Go.Proofs.YtgiidhmjkkgkaaaDoor.lawBack
open Go.ChangeShapes Go.WideShapes Go.ChangeAt Go.RowKit
set_option linter.unusedVariables false
set_option linter.unusedSimpArgs false

theorem and_three (n : Int) : bits .and .i64 n 3 = n % 4 := i64_and_mask n 2 3 (by omega) (by decide)

set_option maxHeartbeats 3200000 in
theorem walk (kind wider n : Int) (w : World) (hk : (Lit.int .i64 kind).wf = true) (hwd : (Lit.int .i64 wider).wf = true) (hn : (Lit.int .u64 n).wf = true) (hT : Tab w) :
    Calls Tryd.prog 6 #[.int .i64 kind, .int .i64 wider, .int .u64 n] w fun e w' => e = .returned (.bool true) ∧ Below w.heap.size w w' := by
  have HA := Lib.hid (fun w hT => awake_any w hT)
  obtain ⟨n0, n1⟩ := u64_range hn
  obtain ⟨t1, t2, y0, y1⟩ := kind_of kind 8 (by omega)
  obtain ⟨x, hx⟩ : ∃ x, kind.tmod 8 = x := ⟨_, rfl⟩
  rw [hx] at y0 y1 t1 t2
  obtain ⟨y, hy⟩ : ∃ y, (x + 8).tmod 8 = y := ⟨_, rfl⟩
  rw [hy] at y0 y1
  obtain ⟨k, hk1⟩ : ∃ k, 1 + y = k := ⟨_, rfl⟩
  have r0 : (k - 1).tmod 4 = (k - 1) % 4 := Int.tmod_eq_emod_of_nonneg (by omega)
  obtain ⟨r, hr⟩ : ∃ r, (k - 1).tmod 4 = r := ⟨_, rfl⟩
  rw [hr] at r0
  have ha3 := and_three wider
  have m0 : 0 ≤ wider % 4 ∧ wider % 4 ≤ 3 := by omega
  generalize wider % 4 = m at *
  obtain ⟨s, hs⟩ : ∃ s, 4 - r = s := ⟨_, rfl⟩
  have s1 : 1 ≤ s ∧ s ≤ 4 := by omega
  have z1 := Int.tmod_nonneg (a := m) s (by omega)
  have z2 := Int.tmod_lt_of_pos m (show 0 < s by omega)
  obtain ⟨z, hz⟩ : ∃ z, m.tmod s = z := ⟨_, rfl⟩
  rw [hz] at z1 z2
  obtain ⟨t, ht1⟩ : ∃ t, k + z = t := ⟨_, rfl⟩
  have hkt : 1 ≤ k ∧ k ≤ 8 ∧ 1 ≤ t ∧ t ≤ 8 ∧ loZ t ≤ loZ k ∧ hiZ k ≤ hiZ t := by
    refine ⟨by omega, by omega, by omega, by omega, ?_, ?_⟩
    · unfold loZ; (repeat' split) <;> omega
    · unfold hiZ; (repeat' split) <;> omega
  obtain ⟨k1, k8, t1', t8, hll, hhh⟩ := hkt
  have wk : (Lit.int .i64 k).wf = true := wf_i64 (by omega) (by omega)
  have wt : (Lit.int .i64 t).wf = true := wf_i64 (by omega) (by omega)
  obtain ⟨c0, c1⟩ := clipS_range k n n0 n1
  obtain ⟨p1, p2, p3⟩ := there_back (k := k) (t := t) k1 k8 t1' t8 hll hhh n0 n1
  obtain ⟨f1, f2⟩ := conv_range (k := k) (t := 9) c0 c1
  have C1 := Lib.hid (fun w hT => clip_any k n w wk hn hT)
  have B1 := Lib.hid (fun w hT => bytes_any k n w wk hn hT)
  obtain ⟨q1, q2⟩ := read_put (k := k) k1 (by omega) n0 n1
  have hsz : (mkb (putL n.toNat (wid k).toNat)).size ≤ 281474976710656 := by rw [mkb_size, putL_length]; have := wid_range k; omega
  have rd := fun w hT => read_any k (mkb (putL n.toNat (wid k).toNat)) w wk hsz hT
  simp only [q1, q2] at rd
  have R1 := Lib.hid rd
  have V1 := Lib.hid (fun w hT => convert_any k t (clipS k n) w wk wt (wf_u64 c0 c1) hT)
  have v2 := fun w hT => convert_any t k (convS k t (clipS k n)) w wt wk (wf_u64 p2 p3) hT
  simp only [p1] at v2
  have V2 := Lib.hid v2
  have V3 := Lib.hid (fun w hT => convert_any k 9 (clipS k n) w wk (by decide) (wf_u64 c0 c1) hT)
  have v4 := fun w hT => convert_any 9 k (convS k 9 (clipS k n)) w (by decide) wk (wf_u64 f1 f2) hT
  have hv : (convS 9 k (convS k 9 (clipS k n)) = clipS k n) ∨ ¬ (-9007199254740992 ≤ valZ k (clipS k n) ∧ valZ k (clipS k n) ≤ 9007199254740992) := by
    by_cases hh : -9007199254740992 ≤ valZ k (clipS k n) ∧ valZ k (clipS k n) ≤ 9007199254740992
    · exact Or.inl (float_back k1 k8 n0 n1 hh.1 hh.2)
    · exact Or.inr hh
  have hx1 := xor_all c0 c1
  have hB := Below.refl w.heap.size w
  clear rd v2 p1 p2 p3 q1 q2 hsz hll hhh r0
  have hval : (4 < k ∧ 9223372036854775808 ≤ clipS k n ∧ valZ k (clipS k n) = clipS k n - 18446744073709551616) ∨ (¬ (4 < k ∧ 9223372036854775808 ≤ clipS k n) ∧ valZ k (clipS k n) = clipS k n) := by
    unfold valZ
    by_cases h : 4 < k ∧ 9223372036854775808 ≤ clipS k n
    · exact Or.inl ⟨h.1, h.2, by rw [if_pos ⟨by omega, k8, h.2⟩]⟩
    · exact Or.inr ⟨h, by rw [if_neg (by omega)]⟩
  generalize valZ k (clipS k n) = v at *
  generalize convS k t (clipS k n) = g at *
  generalize convS 9 k (convS k 9 (clipS k n)) = b at *
  generalize convS k 9 (clipS k n) = f at *
  generalize mkb (putL n.toNat (wid k).toNat) = S at *
  generalize clipS k n = c at *
  have V4 := Lib.hid v4
  clear v4
  rcases hval with ⟨h4, hc, rfl⟩ | ⟨h4, rfl⟩
  · have hd : c / 9223372036854775808 = 1 := by omega
    have hN : IntKind.u64.wrap (bits BinOp.xor IntKind.u64 IntKind.u64.max c + 1) = 18446744073709551616 - c := by
      rw [show IntKind.u64.max = 18446744073709551615 by decide, hx1, IntKind.wrap_u64]; omega
    obtain ⟨N, hN2⟩ : ∃ N, 18446744073709551616 - c = N := ⟨_, rfl⟩
    rw [hN2] at hN
    clear hx1
    rcases hv with rfl | hv
    · clear hN2
      go_enter Tryd.func6, Tryd.ntmps6
      go_wp2_with (first
        | (go_at_call 11; with_reducible refine (HA.out _ hT).mono ?_; rintro e v1 ⟨rfl, hb⟩; replace hT := hT.below hb hT.pos; replace hB := hB.trans (hb.mono hB.size))
        | (go_at_call 18; with_reducible refine (C1.out _ hT).mono ?_; rintro e v1 ⟨rfl, rfl⟩)
        | (go_at_call 20; with_reducible refine (B1.out _ hT).mono ?_; rintro e v1 ⟨rfl, hb⟩; replace hT := hT.below hb hT.pos; replace hB := hB.trans (hb.mono hB.size))
        | (go_at_call 12; with_reducible refine (R1.out _ hT).mono ?_; rintro e v1 ⟨rfl, rfl⟩)
        | (go_at_call 22; with_reducible refine (V1.out _ hT).mono ?_; rintro e v1 ⟨rfl, rfl⟩)
        | (go_at_call 22; with_reducible refine (V2.out _ hT).mono ?_; rintro e v1 ⟨rfl, rfl⟩)
        | (go_at_call 22; with_reducible refine (V3.out _ hT).mono ?_; rintro e v1 ⟨rfl, rfl⟩)
        | (go_at_call 22; with_reducible refine (V4.out _ hT).mono ?_; rintro e v1 ⟨rfl, rfl⟩))
      all_goals go_ret
      all_goals exact ⟨rfl, hB⟩
    · have hbig : 9007199254740992 < N := by omega
      clear hN2 V3 V4 hv
      go_enter Tryd.func6, Tryd.ntmps6
      go_wp2_with (first
        | (go_at_call 11; with_reducible refine (HA.out _ hT).mono ?_; rintro e v1 ⟨rfl, hb⟩; replace hT := hT.below hb hT.pos; replace hB := hB.trans (hb.mono hB.size))
        | (go_at_call 18; with_reducible refine (C1.out _ hT).mono ?_; rintro e v1 ⟨rfl, rfl⟩)
        | (go_at_call 20; with_reducible refine (B1.out _ hT).mono ?_; rintro e v1 ⟨rfl, hb⟩; replace hT := hT.below hb hT.pos; replace hB := hB.trans (hb.mono hB.size))
        | (go_at_call 12; with_reducible refine (R1.out _ hT).mono ?_; rintro e v1 ⟨rfl, rfl⟩)
        | (go_at_call 22; with_reducible refine (V1.out _ hT).mono ?_; rintro e v1 ⟨rfl, rfl⟩)
        | (go_at_call 22; with_reducible refine (V2.out _ hT).mono ?_; rintro e v1 ⟨rfl, rfl⟩))
      all_goals go_ret
      all_goals exact ⟨rfl, hB⟩
  · rcases hv with rfl | hv
    · by_cases hk4 : 4 < k
      · have hd : (b / 9223372036854775808 == 1) = false := by simp; omega
        clear hx1 h4
        go_enter Tryd.func6, Tryd.ntmps6
        go_wp2_with (first
          | (go_at_call 11; with_reducible refine (HA.out _ hT).mono ?_; rintro e v1 ⟨rfl, hb⟩; replace hT := hT.below hb hT.pos; replace hB := hB.trans (hb.mono hB.size))
          | (go_at_call 18; with_reducible refine (C1.out _ hT).mono ?_; rintro e v1 ⟨rfl, rfl⟩)
          | (go_at_call 20; with_reducible refine (B1.out _ hT).mono ?_; rintro e v1 ⟨rfl, hb⟩; replace hT := hT.below hb hT.pos; replace hB := hB.trans (hb.mono hB.size))
          | (go_at_call 12; with_reducible refine (R1.out _ hT).mono ?_; rintro e v1 ⟨rfl, rfl⟩)
          | (go_at_call 22; with_reducible refine (V1.out _ hT).mono ?_; rintro e v1 ⟨rfl, rfl⟩)
          | (go_at_call 22; with_reducible refine (V2.out _ hT).mono ?_; rintro e v1 ⟨rfl, rfl⟩)
          | (go_at_call 22; with_reducible refine (V3.out _ hT).mono ?_; rintro e v1 ⟨rfl, rfl⟩)
          | (go_at_call 22; with_reducible refine (V4.out _ hT).mono ?_; rintro e v1 ⟨rfl, rfl⟩))
        all_goals go_ret
        all_goals exact ⟨rfl, hB⟩
      · clear hx1 h4
        go_enter Tryd.func6, Tryd.ntmps6
        go_wp2_with (first
          | (go_at_call 11; with_reducible refine (HA.out _ hT).mono ?_; rintro e v1 ⟨rfl, hb⟩; replace hT := hT.below hb hT.pos; replace hB := hB.trans (hb.mono hB.size))
          | (go_at_call 18; with_reducible refine (C1.out _ hT).mono ?_; rintro e v1 ⟨rfl, rfl⟩)
          | (go_at_call 20; with_reducible refine (B1.out _ hT).mono ?_; rintro e v1 ⟨rfl, hb⟩; replace hT := hT.below hb hT.pos; replace hB := hB.trans (hb.mono hB.size))
          | (go_at_call 12; with_reducible refine (R1.out _ hT).mono ?_; rintro e v1 ⟨rfl, rfl⟩)
          | (go_at_call 22; with_reducible refine (V1.out _ hT).mono ?_; rintro e v1 ⟨rfl, rfl⟩)
          | (go_at_call 22; with_reducible refine (V2.out _ hT).mono ?_; rintro e v1 ⟨rfl, rfl⟩)
          | (go_at_call 22; with_reducible refine (V3.out _ hT).mono ?_; rintro e v1 ⟨rfl, rfl⟩)
          | (go_at_call 22; with_reducible refine (V4.out _ hT).mono ?_; rintro e v1 ⟨rfl, rfl⟩))
        all_goals go_ret
        all_goals exact ⟨rfl, hB⟩
    · have hbig : 9007199254740992 < v := by omega
      by_cases hk4 : 4 < k
      · have hd : (v / 9223372036854775808 == 1) = false := by simp; omega
        clear hx1 h4 V3 V4 hv
        go_enter Tryd.func6, Tryd.ntmps6
        go_wp2_with (first
          | (go_at_call 11; with_reducible refine (HA.out _ hT).mono ?_; rintro e v1 ⟨rfl, hb⟩; replace hT := hT.below hb hT.pos; replace hB := hB.trans (hb.mono hB.size))
          | (go_at_call 18; with_reducible refine (C1.out _ hT).mono ?_; rintro e v1 ⟨rfl, rfl⟩)
          | (go_at_call 20; with_reducible refine (B1.out _ hT).mono ?_; rintro e v1 ⟨rfl, hb⟩; replace hT := hT.below hb hT.pos; replace hB := hB.trans (hb.mono hB.size))
          | (go_at_call 12; with_reducible refine (R1.out _ hT).mono ?_; rintro e v1 ⟨rfl, rfl⟩)
          | (go_at_call 22; with_reducible refine (V1.out _ hT).mono ?_; rintro e v1 ⟨rfl, rfl⟩)
          | (go_at_call 22; with_reducible refine (V2.out _ hT).mono ?_; rintro e v1 ⟨rfl, rfl⟩))
        all_goals go_ret
        all_goals exact ⟨rfl, hB⟩
      · clear hx1 h4 V3 V4 hv
        go_enter Tryd.func6, Tryd.ntmps6
        go_wp2_with (first
          | (go_at_call 11; with_reducible refine (HA.out _ hT).mono ?_; rintro e v1 ⟨rfl, hb⟩; replace hT := hT.below hb hT.pos; replace hB := hB.trans (hb.mono hB.size))
          | (go_at_call 18; with_reducible refine (C1.out _ hT).mono ?_; rintro e v1 ⟨rfl, rfl⟩)
          | (go_at_call 20; with_reducible refine (B1.out _ hT).mono ?_; rintro e v1 ⟨rfl, hb⟩; replace hT := hT.below hb hT.pos; replace hB := hB.trans (hb.mono hB.size))
          | (go_at_call 12; with_reducible refine (R1.out _ hT).mono ?_; rintro e v1 ⟨rfl, rfl⟩)
          | (go_at_call 22; with_reducible refine (V1.out _ hT).mono ?_; rintro e v1 ⟨rfl, rfl⟩)
          | (go_at_call 22; with_reducible refine (V2.out _ hT).mono ?_; rintro e v1 ⟨rfl, rfl⟩))
        all_goals go_ret
        all_goals exact ⟨rfl, hB⟩

set_option maxRecDepth 100000 in
theorem lifted (os : Os) (started : os.Started) (H : Type) (enc : TypeId × Value → H) :
    ReturnsInHanded {} Tryd.checked os 6 .any (fun w args => (Rows.wordBackSpec.pre enc Tryd.prog Tryd.f6 Rows.wordBackRow.domain false w args ∧ laidMet Tryd.prog Rows.wordBackRow.laid w) ∧ sizedMet enc Tryd.prog Tryd.f6 (OpenSpec.ofChange Rows.wordBackSpec) false w args) (Rows.wordBackSpec.post enc Tryd.prog Tryd.f6 false true false false) := by
  refine returnsInHanded_of_change_and (C := Tryd.checked) (X := fun w _ => laidMet Tryd.prog Rows.wordBackRow.laid w) (fun _ _ _ hh h => h.of_heap hh) own started (by kernel_rfl) Tryd.func6
    (ChangeSpec.witness_at (enc := enc) (C := Tryd.checked) (os := os) (X := fun w _ => laidMet Tryd.prog Rows.wordBackRow.laid w) false (laidWorld os) #[.int .i64 0, .int .i64 0, .int .u64 0] 8 rfl (by kernel_rfl) (by kernel_rfl) (by kernel_rfl) (by kernel_rfl) (by kernel_rfl) (laid_met os _)) ?_
  intro W base args ds gs before hval0 hW hcnd _ hL _
  have hval : ∀ (j : Nat) t v, Tryd.f6.params[j]? = some t → args[j]? = some v → Value.okWide Tryd.prog W .any base t v := hval0
  have hW' := hW
  obtain ⟨p, q, hA0, hV, rfl, hfz, hnd⟩ := hW
  have hA : DataW.TrodAll enc Tryd.prog W 0 (fun _ => true) true Tryd.f6.params.toList args.toList ds p := hA0
  rw [Tryd.params6] at hA hval
  obtain ⟨v0, vs0, d0, ds0, p0, q0, hargs, rfl, rfl, h0, r0⟩ := trodAll_cons hA
  obtain ⟨v1, vs1, d1, ds1, p1, q1, rfl, rfl, rfl, h1, r1⟩ := trodAll_cons r0
  obtain ⟨v2, vs2, d2, ds2, p2, q2, rfl, rfl, rfl, h2, r2⟩ := trodAll_cons r1
  obtain ⟨rfl, rfl, rfl⟩ := trodAll_nil r2
  obtain rfl : args = #[v0, v1, v2] := by cases args; simp_all
  obtain ⟨rfl, rfl⟩ := trodVars_none hV
  have k0 := h0
  have lt0 : ∀ x ∈ p0, x.block < W.heap.size := by obtain ⟨m, hm⟩ := k0; exact DataW.trod_lt m _ _ _ hm
  obtain ⟨a0, rfl, _, _, w0⟩ := open_int Tryd.underlying3 (hval 0 3 v0 rfl rfl) h0
  have k1 := h1
  have lt1 : ∀ x ∈ p1, x.block < W.heap.size := by obtain ⟨m, hm⟩ := k1; exact DataW.trod_lt m _ _ _ hm
  obtain ⟨a1, rfl, _, _, w1⟩ := open_int Tryd.underlying3 (hval 1 3 v1 rfl rfl) h1
  have k2 := h2
  have lt2 : ∀ x ∈ p2, x.block < W.heap.size := by obtain ⟨m, hm⟩ := k2; exact DataW.trod_lt m _ _ _ hm
  obtain ⟨a2, rfl, _, _, w2⟩ := open_int Tryd.underlying22 (hval 2 22 v2 rfl rfl) h2
  clear hA0 hval0
  refine (walk a0 a1 a2 W w0 w1 w2 (tab_of_laid hL)).mono fun e W' ⟨he, bel⟩ => ?_
  subst he
  exact ⟨_, rfl, _, _, _, [], _, [], hW', trodAll_mk1 (shut_bool Tryd.underlying4 _), (trodAll_cons_mk (Below.trod laidOut (by kernel_rfl) (of_decide_eq_true (by kernel_rfl)) k0 bel lt0) (trodAll_cons_mk (Below.trod laidOut (by kernel_rfl) (of_decide_eq_true (by kernel_rfl)) k1 bel lt1) (trodAll_cons_mk (Below.trod laidOut (by kernel_rfl) (of_decide_eq_true (by kernel_rfl)) k2 bel lt2) trodAll_mk0))), rfl, bel.frame _, fun h => by cases h⟩
theorem over : Rows.wordBackRow.holds Tryd.pinned (OpenSpec.ofChange Rows.wordBackSpec) :=
  OpenClaim.holds_of_wide 6 Tryd.f6 rfl rfl rfl rfl rfl rfl rfl ⟨rfl, rfl, rfl, rfl, rfl⟩ rfl rfl rfl rfl rfl (by kernel_rfl) Tryd.func6 (by kernel_rfl)
    (of_decide_eq_true (by kernel_rfl)) (by unfold Func.isWrapper; first | (rw [if_pos (by decide +kernel)]; kernel_rfl) | (rw [if_neg (by decide +kernel)]; exact ⟨rfl, rfl⟩))
    (fun os started H enc _ => lifted os started H enc)
/-- The statement. -/
theorem proved : Rows.WordBackCardSaid :=
  Claim7.holds_tied_plain_at .later [] [.data] true _ false over (fun _ h => by cases h) (by kernel_rfl) (fun _ h => by cases h) wordBack_row_tie rfl ⟨rfl, rfl⟩ (by kernel_rfl) rfl
    (fun f fn hf hfn => by
      obtain rfl : f = 6 := Option.some.inj (hf.symm.trans (by kernel_rfl))
      obtain rfl : fn = Tryd.f6 := Option.some.inj (hfn.symm.trans Tryd.func6)
      refine ⟨by kernel_rfl, fun j t ht => ?_⟩
      rw [Tryd.params6] at ht
      match j, ht with
      | 0, ht =>
        obtain rfl : t = 3 := by simpa using ht.symm
        exact (by kernel_rfl : Tryd.pinned.checked.prog.wantsStandIn 3 = false)
      | 1, ht =>
        obtain rfl : t = 3 := by simpa using ht.symm
        exact (by kernel_rfl : Tryd.pinned.checked.prog.wantsStandIn 3 = false)
      | 2, ht =>
        obtain rfl : t = 22 := by simpa using ht.symm
        exact (by kernel_rfl : Tryd.pinned.checked.prog.wantsStandIn 22 = false)
      | j + 3, ht => simp at ht)
    (by kernel_rfl)
end Go.Proofs.YtgiidhmjkkgkaaaDoor.lawBack
