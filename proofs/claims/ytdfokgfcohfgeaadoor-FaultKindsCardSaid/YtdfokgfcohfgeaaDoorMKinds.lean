/- FaultKinds: for any Perm that may be read, and any kind: a page that is not there comes of a file, if its region is of one, else as zeros. -/
import Derived.Test.YtdfokgfcohfgeaaDoorMG
namespace Go.Proofs.YtdfokgfcohfgeaaDoor.lawKinds16
open Go.RowKit Go.ChangeShapes Go.WideShapes Go.Deep
open Go.Proofs.YtdfokgfcohfgeaaDoor.l16
set_option linter.unusedVariables false
set_option linter.unusedSimpArgs false

set_option maxRecDepth 100000 in
set_option maxHeartbeats 3200000 in
theorem walk (p kind : Int) (w : World) (wp : (Lit.int .i64 p).wf = true) (wk : (Lit.int .i64 kind).wf = true) (hT : Askd w) :
    Calls Tryd.prog 8 #[.int .i64 p, .int .i64 kind] w fun e w' => e = .returned (.bool true) ∧ Below w.heap.size w w' := by
  have HA := Lib.hid (fun (v : World) (h : Askd v) => awakeM v h)
  clear wp wk
  have hP4 := hasM_or (p := bits .and .i64 p 7) (m := 4) (by decide)
  obtain ⟨P0, hP0⟩ : ∃ P0, bits .and .i64 p 7 = P0 := ⟨_, rfl⟩
  rw [hP0] at hP4
  obtain ⟨P, hP⟩ : ∃ P, bits .or .i64 P0 4 = P := ⟨_, rfl⟩
  rw [hP] at hP4
  obtain ⟨b, hP2⟩ : ∃ b, hasM P 2 = b := ⟨_, rfl⟩
  have hP2' := hP2
  obtain ⟨T, hTd⟩ : ∃ T, kind.tmod 4 = T := ⟨_, rfl⟩
  have hTb : -4 < T ∧ T < 4 := by rw [← hTd]; exact ⟨Int.lt_tmod_of_pos kind (by omega), Int.tmod_lt_of_pos kind (by omega)⟩
  have t1 : wrap64 T = T := IntWalk.wrap64_in _ (by omega)
  have t2 : IntKind.i64.wrap T = T := IntWalk.i64_in _ (by omega)
  obtain ⟨U, hU⟩ : ∃ U, T + 4 = U := ⟨_, rfl⟩
  have u1 : wrap64 U = U := IntWalk.wrap64_in _ (by omega)
  have u2 : IntKind.i64.wrap U = U := IntWalk.i64_in _ (by omega)
  obtain ⟨M, hM⟩ : ∃ M, U.tmod 4 = M := ⟨_, rfl⟩
  have hMb : 0 ≤ M ∧ M < 4 := by rw [← hM, Int.tmod_eq_emod_of_nonneg (by omega)]; omega
  have m1 : wrap64 M = M := IntWalk.wrap64_in _ (by omega)
  have m2 : IntKind.i64.wrap M = M := IntWalk.i64_in _ (by omega)
  obtain ⟨K, hK⟩ : ∃ K, 1 + M = K := ⟨_, rfl⟩
  have k1 : wrap64 K = K := IntWalk.wrap64_in _ (by omega)
  have k2 : IntKind.i64.wrap K = K := IntWalk.i64_in _ (by omega)
  clear hTb hMb
  by_cases hk1 : K = 1
  · subst hk1
    have HD := Lib.hid (fun (v : World) (h : Askd v) => decide_any ⟨0, 1, P, 1, 0, 0⟩ true Sl.zero 1 0 v h)
    have HE := Lib.hid (fun (v : World) => entry_any ⟨0, 1, P, 1, 0, 0⟩ 3 9 v)
    have HN := Lib.hid (fun (v : World) => needs_any 3 v)
    rw [show actM (alM ⟨0, 1, P, 1, 0, 0⟩ true 1) 1 Sl.zero 1 0 = 3 from by rw [show alM ⟨0, 1, P, 1, 0, 0⟩ true 1 = true from hP4]; unfold actM; simp [Sl.zero]; try omega] at HD
    rw [show (entM (hasM P 2) 3 9) = ⟨true, false, false, false, 9⟩ from by rfl] at HE
    unfold Rg.cs Sl.v Sl.zero at HD
    unfold Rg.cs Sl.v at HE
    simp only at HD HE
    clear hP4 hP2
    unfold hasM at hP2'
    go_enter Tryd.func8, Tryd.ntmps8
    go_wp2_with (first
      | (go_at_call 9; refine (HA.out _ hT).mono ?_; rintro e v1 ⟨rfl, hb⟩
         have T1 := Lib.hid ((hT.on hb).alloc (.cells #[.int .i64 0, .int .i64 1, .int .i64 P, .int .i64 1, .int .i64 0, .int .i64 0] 23))
         have B1 := Lib.hid (hb.alloc hb.size (.cells #[.int .i64 0, .int .i64 1, .int .i64 P, .int .i64 1, .int .i64 0, .int .i64 0] 23))
         have K1 := Lib.hid (Blk.new v1 23 #[.int .i64 0, .int .i64 1, .int .i64 P, .int .i64 1, .int .i64 0, .int .i64 0])
         clear hb)
      | (go_at_call 16; with_reducible refine (HD.out _ T1.out).mono ?_; rintro e v2 ⟨rfl, hb⟩
         have K2 := Lib.hid (K1.out.below hb K1.out.lt)
         have B2 := Lib.hid (B1.out.trans (hb.mono B1.out.size))
         have c0 := K2.out.at_ 0 _ rfl
         have c1 := K2.out.at_ 1 _ rfl
         have c2 := K2.out.at_ 2 _ rfl
         have c3 := K2.out.at_ 3 _ rfl
         have c4 := K2.out.at_ 4 _ rfl
         have c5 := K2.out.at_ 5 _ rfl
         clear hb)
      | (go_at_call 15; with_reducible refine (HE.out _).mono ?_; rintro e v3 ⟨rfl, hb⟩
         have K3 := Lib.hid ((K2.out.below hb K2.out.lt).alloc (.cells #[.bool true, .bool false, .bool false, .bool false, .int .i64 9] 25))
         have B3 := Lib.hid ((B2.out.trans (hb.mono B2.out.size)).alloc ((B2.out.trans (hb.mono B2.out.size)).size) (.cells #[.bool true, .bool false, .bool false, .bool false, .int .i64 9] 25))
         have d2 := K3.out.at_ 2 _ rfl
         clear hb)
      | (go_at_call 17; with_reducible refine (HN.out _).mono ?_; rintro e v4 ⟨rfl, rfl⟩))
    all_goals (go_ret; exact ⟨by simp, B3.out⟩)
  · have q1 : (K == 1) = false := by simpa using hk1
    have q2 : (K != 1) = true := by simpa using hk1
    cases b
    · have HD := Lib.hid (fun (v : World) (h : Askd v) => decide_any ⟨0, 1, P, K, (-1), 0⟩ true Sl.zero 1 0 v h)
      have HE := Lib.hid (fun (v : World) => entry_any ⟨0, 1, P, K, (-1), 0⟩ 4 9 v)
      have HN := Lib.hid (fun (v : World) => needs_any 4 v)
      rw [show actM (alM ⟨0, 1, P, K, (-1), 0⟩ true 1) K Sl.zero 1 0 = 4 from by rw [show alM ⟨0, 1, P, K, (-1), 0⟩ true 1 = true from hP4]; unfold actM; simp [Sl.zero]; try omega] at HD
      rw [show (entM (hasM P 2) 4 9) = ⟨true, false, true, false, 9⟩ from by rw [hP2]; rfl] at HE
      unfold Rg.cs Sl.v Sl.zero at HD
      unfold Rg.cs Sl.v at HE
      simp only at HD HE
      have hz : bits .and .i64 P 2 = 0 := by unfold hasM at hP2'; simpa using hP2'
      clear hP4 hP2 hP2'
      clear hk1
      go_enter Tryd.func8, Tryd.ntmps8
      go_wp2_with (first
        | (go_at_call 9; refine (HA.out _ hT).mono ?_; rintro e v1 ⟨rfl, hb⟩
           have T1 := Lib.hid ((hT.on hb).alloc (.cells #[.int .i64 0, .int .i64 1, .int .i64 P, .int .i64 K, .int .i64 (-1), .int .i64 0] 23))
           have B1 := Lib.hid (hb.alloc hb.size (.cells #[.int .i64 0, .int .i64 1, .int .i64 P, .int .i64 K, .int .i64 (-1), .int .i64 0] 23))
           have K1 := Lib.hid (Blk.new v1 23 #[.int .i64 0, .int .i64 1, .int .i64 P, .int .i64 K, .int .i64 (-1), .int .i64 0])
           clear hb)
        | (go_at_call 16; with_reducible refine (HD.out _ T1.out).mono ?_; rintro e v2 ⟨rfl, hb⟩
           have K2 := Lib.hid (K1.out.below hb K1.out.lt)
           have B2 := Lib.hid (B1.out.trans (hb.mono B1.out.size))
           have c0 := K2.out.at_ 0 _ rfl
           have c1 := K2.out.at_ 1 _ rfl
           have c2 := K2.out.at_ 2 _ rfl
           have c3 := K2.out.at_ 3 _ rfl
           have c4 := K2.out.at_ 4 _ rfl
           have c5 := K2.out.at_ 5 _ rfl
           clear hb)
        | (go_at_call 15; with_reducible refine (HE.out _).mono ?_; rintro e v3 ⟨rfl, hb⟩
           have K3 := Lib.hid ((K2.out.below hb K2.out.lt).alloc (.cells #[.bool true, .bool false, .bool true, .bool false, .int .i64 9] 25))
           have B3 := Lib.hid ((B2.out.trans (hb.mono B2.out.size)).alloc ((B2.out.trans (hb.mono B2.out.size)).size) (.cells #[.bool true, .bool false, .bool true, .bool false, .int .i64 9] 25))
           have d2 := K3.out.at_ 2 _ rfl
           clear hb)
        | (go_at_call 17; with_reducible refine (HN.out _).mono ?_; rintro e v4 ⟨rfl, rfl⟩))
      all_goals (go_ret; exact ⟨by simp, B3.out⟩)
    · have HD := Lib.hid (fun (v : World) (h : Askd v) => decide_any ⟨0, 1, P, K, (-1), 0⟩ true Sl.zero 1 0 v h)
      have HE := Lib.hid (fun (v : World) => entry_any ⟨0, 1, P, K, (-1), 0⟩ 4 9 v)
      have HN := Lib.hid (fun (v : World) => needs_any 4 v)
      rw [show actM (alM ⟨0, 1, P, K, (-1), 0⟩ true 1) K Sl.zero 1 0 = 4 from by rw [show alM ⟨0, 1, P, K, (-1), 0⟩ true 1 = true from hP4]; unfold actM; simp [Sl.zero]; try omega] at HD
      rw [show (entM (hasM P 2) 4 9) = ⟨true, true, false, false, 9⟩ from by rw [hP2]; rfl] at HE
      unfold Rg.cs Sl.v Sl.zero at HD
      unfold Rg.cs Sl.v at HE
      simp only at HD HE
      have hz : (bits .and .i64 P 2 == 0) = false := by unfold hasM at hP2'; simpa using hP2'
      have hz2 : (bits .and .i64 P 2 != 0) = true := by unfold hasM at hP2'; exact hP2'
      clear hP4 hP2 hP2'
      clear hk1
      go_enter Tryd.func8, Tryd.ntmps8
      go_wp2_with (first
        | (go_at_call 9; refine (HA.out _ hT).mono ?_; rintro e v1 ⟨rfl, hb⟩
           have T1 := Lib.hid ((hT.on hb).alloc (.cells #[.int .i64 0, .int .i64 1, .int .i64 P, .int .i64 K, .int .i64 (-1), .int .i64 0] 23))
           have B1 := Lib.hid (hb.alloc hb.size (.cells #[.int .i64 0, .int .i64 1, .int .i64 P, .int .i64 K, .int .i64 (-1), .int .i64 0] 23))
           have K1 := Lib.hid (Blk.new v1 23 #[.int .i64 0, .int .i64 1, .int .i64 P, .int .i64 K, .int .i64 (-1), .int .i64 0])
           clear hb)
        | (go_at_call 16; with_reducible refine (HD.out _ T1.out).mono ?_; rintro e v2 ⟨rfl, hb⟩
           have K2 := Lib.hid (K1.out.below hb K1.out.lt)
           have B2 := Lib.hid (B1.out.trans (hb.mono B1.out.size))
           have c0 := K2.out.at_ 0 _ rfl
           have c1 := K2.out.at_ 1 _ rfl
           have c2 := K2.out.at_ 2 _ rfl
           have c3 := K2.out.at_ 3 _ rfl
           have c4 := K2.out.at_ 4 _ rfl
           have c5 := K2.out.at_ 5 _ rfl
           clear hb)
        | (go_at_call 15; with_reducible refine (HE.out _).mono ?_; rintro e v3 ⟨rfl, hb⟩
           have K3 := Lib.hid ((K2.out.below hb K2.out.lt).alloc (.cells #[.bool true, .bool true, .bool false, .bool false, .int .i64 9] 25))
           have B3 := Lib.hid ((B2.out.trans (hb.mono B2.out.size)).alloc ((B2.out.trans (hb.mono B2.out.size)).size) (.cells #[.bool true, .bool true, .bool false, .bool false, .int .i64 9] 25))
           have d2 := K3.out.at_ 2 _ rfl
           clear hb)
        | (go_at_call 17; with_reducible refine (HN.out _).mono ?_; rintro e v4 ⟨rfl, rfl⟩))
      all_goals (go_ret; exact ⟨by simp, B3.out⟩)

set_option maxRecDepth 100000 in
theorem lifted (os : Os) (started : os.Started) (H : Type) (enc : TypeId × Value → H) :
    ReturnsInHanded {} Tryd.checked os 8 .any (fun w args => (Rows.faultKindsSpec.pre enc Tryd.prog Tryd.f8 Rows.faultKindsRow.domain false w args ∧ laidMet Tryd.prog Rows.faultKindsRow.laid w) ∧ sizedMet enc Tryd.prog Tryd.f8 (OpenSpec.ofChange Rows.faultKindsSpec) false w args) (Rows.faultKindsSpec.post enc Tryd.prog Tryd.f8 false true false false) := by
  refine returnsInHanded_of_change_and (C := Tryd.checked) (X := fun w _ => laidMet Tryd.prog Rows.faultKindsRow.laid w) (fun _ _ _ hh h => h.of_heap hh) own started (by kernel_rfl) Tryd.func8
    (ChangeSpec.witness_at (enc := enc) (C := Tryd.checked) (os := os) (X := fun w _ => laidMet Tryd.prog Rows.faultKindsRow.laid w) false (laidWorld os) #[.int .i64 0, .int .i64 0] 8 rfl (by kernel_rfl) (by kernel_rfl) (by kernel_rfl) (by kernel_rfl) (by kernel_rfl) (laid_met os _)) ?_
  intro W base args ds gs before hval0 hW hcnd _ hL _
  have hval : ∀ (j : Nat) t v, Tryd.f8.params[j]? = some t → args[j]? = some v → Value.okWide Tryd.prog W .any base t v := hval0
  have hW' := hW
  obtain ⟨p, q, hA0, hV, rfl, hfz, hnd⟩ := hW
  have hA : DataW.TrodAll enc Tryd.prog W 0 (fun _ => true) true Tryd.f8.params.toList args.toList ds p := hA0
  rw [Tryd.params8] at hA hval
  obtain ⟨v0, vs0, d0, ds0, p0, q0, hargs, rfl, rfl, h0, r0⟩ := trodAll_cons hA
  obtain ⟨v1, vs1, d1, ds1, p1, q1, rfl, rfl, rfl, h1, r1⟩ := trodAll_cons r0
  obtain ⟨rfl, rfl, rfl⟩ := trodAll_nil r1
  obtain rfl : args = #[v0, v1] := by cases args; simp_all
  obtain ⟨rfl, rfl⟩ := trodVars_none hV
  have k0 := h0
  have lt0 : ∀ x ∈ p0, x.block < W.heap.size := by obtain ⟨m, hm⟩ := k0; exact DataW.trod_lt m _ _ _ hm
  obtain ⟨a0, rfl, _, _, w0⟩ := open_int Tryd.underlying3 (hval 0 3 v0 rfl rfl) h0
  have k1 := h1
  have lt1 : ∀ x ∈ p1, x.block < W.heap.size := by obtain ⟨m, hm⟩ := k1; exact DataW.trod_lt m _ _ _ hm
  obtain ⟨a1, rfl, _, _, w1⟩ := open_int Tryd.underlying3 (hval 1 3 v1 rfl rfl) h1
  clear hA0 hval0
  refine (walk a0 a1 W w0 w1 (tab_of_laid hL)).mono fun e W' ⟨he, bel⟩ => ?_
  subst he
  exact ⟨_, rfl, _, _, _, [], _, [], hW', trodAll_mk1 (shut_bool Tryd.underlying4 _), (trodAll_cons_mk (Below.trod laidOut (by kernel_rfl) (of_decide_eq_true (by kernel_rfl)) k0 bel lt0) (trodAll_cons_mk (Below.trod laidOut (by kernel_rfl) (of_decide_eq_true (by kernel_rfl)) k1 bel lt1) trodAll_mk0)), rfl, bel.frame _, fun h => by cases h⟩
theorem over : Rows.faultKindsRow.holds Tryd.pinned (OpenSpec.ofChange Rows.faultKindsSpec) :=
  OpenClaim.holds_of_wide 8 Tryd.f8 rfl rfl rfl rfl rfl rfl rfl ⟨rfl, rfl, rfl, rfl, rfl⟩ rfl rfl rfl rfl rfl (by kernel_rfl) Tryd.func8 (by kernel_rfl)
    (of_decide_eq_true (by kernel_rfl)) (by unfold Func.isWrapper; first | (rw [if_pos (by decide +kernel)]; kernel_rfl) | (rw [if_neg (by decide +kernel)]; exact ⟨rfl, rfl⟩))
    (fun os started H enc _ => lifted os started H enc)
set_option maxRecDepth 100000 in
/-- The statement. -/
theorem proved : Rows.FaultKindsCardSaid :=
  Claim7.holds_tied_plain_at .later [] [.data] true _ false over (fun _ h => by cases h) (by kernel_rfl) (fun _ h => by cases h) faultKinds_row_tie rfl ⟨rfl, rfl⟩ (by kernel_rfl) rfl
    (fun f fn hf hfn => by
      obtain rfl : f = 8 := Option.some.inj (hf.symm.trans (by kernel_rfl))
      obtain rfl : fn = Tryd.f8 := Option.some.inj (hfn.symm.trans Tryd.func8)
      refine ⟨by kernel_rfl, fun j t ht => ?_⟩
      rw [Tryd.params8] at ht
      match j, ht with
      | 0, ht =>
        obtain rfl : t = 3 := by simpa using ht.symm
        exact (by kernel_rfl : Tryd.pinned.checked.prog.wantsStandIn 3 = false)
      | 1, ht =>
        obtain rfl : t = 3 := by simpa using ht.symm
        exact (by kernel_rfl : Tryd.pinned.checked.prog.wantsStandIn 3 = false)
      | j + 2, ht => simp at ht)
    (by kernel_rfl)
end Go.Proofs.YtdfokgfcohfgeaaDoor.lawKinds16
