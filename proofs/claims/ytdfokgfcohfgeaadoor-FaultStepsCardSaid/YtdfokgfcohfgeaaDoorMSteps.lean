/- FaultSteps: for any region, any entry that may be, or nothing, any use and any number: what is done one behind the other is as the chapter says. -/
import Derived.Test.YtdfokgfcohfgeaaDoorMH
import Derived.Deep.RegionHeld3
namespace Go.Proofs.YtdfokgfcohfgeaaDoor.lawSteps16
open Go.RowKit Go.ChangeShapes Go.WideShapes Go.Deep
open Go.Proofs.YtdfokgfcohfgeaaDoor.l16
set_option linter.unusedVariables false
set_option linter.unusedSimpArgs false

set_option maxRecDepth 100000 in
set_option maxHeartbeats 3200000 in
theorem walk (r : Rg) (s : Sl) (q : Aq) (w : World) (wr : r.Wf) (ws : (Lit.int .i64 s.n).wf = true) (wq : (Lit.int .i64 q.u).wf = true) (hT : Askd w) :
    Calls Tryd.prog 3 #[.agg r.cs, s.v, .agg q.cs] w fun e w' => e = .returned (.bool true) ∧ Below w.heap.size w w' := by
  have HA := Lib.hid (fun (v : World) (h : Askd v) => awakeM v h)
  have HTP := Lib.hid hT.pos
  have HS0 := Lib.hid (Tri.new hT r s q)
  have HM := Lib.hid (fun v => refMay_any s v)
  have HOK := Lib.hid s.orNo_ok
  obtain ⟨s', hs'⟩ : ∃ s', s.orNo = s' := ⟨_, rfl⟩
  rw [hs'] at HOK
  clear hT wr ws wq
  unfold Sl.orNo at hs'
  obtain ⟨mb, hmb⟩ : ∃ mb, s.may = mb := ⟨_, rfl⟩
  rw [hmb] at hs' HM
  clear hmb
  obtain ⟨f, t, p, k, fl, pg⟩ := r
  obtain ⟨h, sw, c, o, sn⟩ := s
  obtain ⟨th, u, z, qa, qf⟩ := q
  have H1 := Lib.hid (fun (v : World) (h : Askd v) => steps_any ⟨f, t, p, k, fl, pg⟩ th s' u z v h)
  have H2 := Lib.hid (fun (v : World) => rsteps_any ⟨f, t, p, k, fl, pg⟩ th s' u z v)
  have H3 := Lib.hid (fun A B c c' v h1 h2 => rsameM (seqM ⟨f, t, p, k, fl, pg⟩ th s' u z) A B c c' v h1 h2 (by have := seqM_len ⟨f, t, p, k, fl, pg⟩ th s' u z; omega))
  generalize seqM ⟨f, t, p, k, fl, pg⟩ th s' u z = L at *
  obtain ⟨n, hn⟩ : ∃ n, L.length = n := ⟨_, rfl⟩
  unfold IntsT at H1 H2
  rw [hn] at H1 H2 H3
  clear hn
  unfold Sl.v Rg.cs Sl.cs Aq.cs at *
  simp only at *
  cases mb
  · rw [if_neg (by decide)] at hs'
    subst hs'
    unfold Sl.zero at *
    simp only at *
    go_enter Tryd.func3, Tryd.ntmps3
    go_upto_region 5 with (first
      | (go_at_call 9; refine (HA.out _ HS0.out.tab).mono ?_; rintro e v1 ⟨rfl, hb⟩
         have HS1 := Lib.hid (HS0.out.on hb)
         obtain ⟨c0, c1, c2, c3, c4, c5, s0, s1, s2, s3, s4, q0, q1, q2⟩ := HS1.out.cells
         clear hb)
      | (go_at_call 10; refine (HM.out _).mono ?_; rintro e v2 ⟨rfl, hb⟩
         have HS2 := Lib.hid (HS1.out.on hb)
         clear c0 c1 c2 c3 c4 c5 s0 s1 s2 s3 s4 q0 q1 q2 hb
         obtain ⟨f0, f1, f2, f3, f4⟩ := HS2.out.frozen
         obtain ⟨-, -, -, -, -, -, s0, s1, s2, s3, s4, -, -, -⟩ := HS2.out.cells
         have hs3 := HS2.out.set_ HTP.out Sl.zero
         unfold Sl.zero at hs3
         simp only at hs3
         have HS3 := Lib.hid hs3
         clear hs3))
    generalize World.setCell _ _ _ = V at *
    clear f0 f1 f2 f3 f4 s0 s1 s2 s3 s4 HS2 HS1 HS0
    have HV := Lib.hid (HS3.out.drew)
    obtain ⟨c0, c1, c2, c3, c4, c5, s0, s1, s2, s3, s4, q0, q1, q2⟩ := HS3.out.cells
    clear HS3
    go_region_held3 (fun w' => w'.cell? ⟨w.heap.size, 0, none⟩ = some (.int .i64 f) ∧ w'.cell? ⟨w.heap.size, 1, none⟩ = some (.int .i64 t) ∧ w'.cell? ⟨w.heap.size, 2, none⟩ = some (.int .i64 p) ∧ w'.cell? ⟨w.heap.size, 3, none⟩ = some (.int .i64 k) ∧ w'.cell? ⟨w.heap.size, 4, none⟩ = some (.int .i64 fl) ∧ w'.cell? ⟨w.heap.size, 5, none⟩ = some (.int .i64 pg) ∧
      w'.cell? ⟨w.heap.size + 1, 0, none⟩ = some (.bool false) ∧ w'.cell? ⟨w.heap.size + 1, 1, none⟩ = some (.bool false) ∧ w'.cell? ⟨w.heap.size + 1, 2, none⟩ = some (.bool false) ∧ w'.cell? ⟨w.heap.size + 1, 3, none⟩ = some (.bool false) ∧ w'.cell? ⟨w.heap.size + 1, 4, none⟩ = some (.int .i64 0) ∧
      w'.cell? ⟨w.heap.size + 1 + 1, 0, none⟩ = some (.bool th) ∧ w'.cell? ⟨w.heap.size + 1 + 1, 1, none⟩ = some (.int .i64 u) ∧ w'.cell? ⟨w.heap.size + 1 + 1, 2, none⟩ = some (.int .i64 z))
      (first | exact ⟨c0, c1, c2, c3, c4, c5, s0, s1, s2, s3, s4, q0, q1, q2⟩)
      (first
      | (go_at_call 12; (with_reducible refine (H1.out _ HV.out.tab).mono ?_); rintro e v ⟨A1, p1, rfl, hr1, hb⟩; (try have HR2n := Lib.hid (intRow_belowM HR2.out rfl hb)); (try clear HR2); (try have HR2 := HR2n); (try clear HR2n); have HVn := Lib.hid (HV.out.on hb); clear HV c0 c1 c2 c3 c4 c5 s0 s1 s2 s3 s4 q0 q1 q2; have HV := HVn; clear HVn; obtain ⟨c0, c1, c2, c3, c4, c5, s0, s1, s2, s3, s4, q0, q1, q2⟩ := HV.out.cells; clear hb; have HR1 := Lib.hid hr1; clear hr1)
      | (go_at_call 13; (with_reducible refine (H2.out _).mono ?_); rintro e v ⟨A2, p2, rfl, hr2, hb⟩; (try have HR1n := Lib.hid (intRow_belowM HR1.out rfl hb)); (try clear HR1); (try have HR1 := HR1n); (try clear HR1n); have HVn := Lib.hid (HV.out.on hb); clear HV c0 c1 c2 c3 c4 c5 s0 s1 s2 s3 s4 q0 q1 q2; have HV := HVn; clear HVn; obtain ⟨c0, c1, c2, c3, c4, c5, s0, s1, s2, s3, s4, q0, q1, q2⟩ := HV.out.cells; clear hb; have HR2 := Lib.hid hr2; clear hr2)
      | (go_at_call 11; (with_reducible refine (H3.out _ _ _ _ _ HR1.out HR2.out).mono ?_); rintro e v ⟨rfl, hb⟩; have HVn := Lib.hid (HV.out.on hb); clear HV c0 c1 c2 c3 c4 c5 s0 s1 s2 s3 s4 q0 q1 q2; have HV := HVn; clear HVn; obtain ⟨c0, c1, c2, c3, c4, c5, s0, s1, s2, s3, s4, q0, q1, q2⟩ := HV.out.cells; clear hb))
    all_goals (go_wp2; go_ret; exact ⟨rfl, HV.out.below⟩)
  · rw [if_pos rfl] at hs'
    subst hs'
    simp only at *
    go_enter Tryd.func3, Tryd.ntmps3
    go_upto_region 5 with (first
      | (go_at_call 9; refine (HA.out _ HS0.out.tab).mono ?_; rintro e v1 ⟨rfl, hb⟩
         have HS1 := Lib.hid (HS0.out.on hb)
         obtain ⟨c0, c1, c2, c3, c4, c5, s0, s1, s2, s3, s4, q0, q1, q2⟩ := HS1.out.cells
         clear hb)
      | (go_at_call 10; refine (HM.out _).mono ?_; rintro e v2 ⟨rfl, hb⟩
         have HS2 := Lib.hid (HS1.out.on hb)
         have HS3 := Lib.hid (HS1.out.on hb)
         clear c0 c1 c2 c3 c4 c5 s0 s1 s2 s3 s4 q0 q1 q2 hb))
    clear HS1 HS0
    have HV := Lib.hid (HS3.out.drew)
    obtain ⟨c0, c1, c2, c3, c4, c5, s0, s1, s2, s3, s4, q0, q1, q2⟩ := HS3.out.cells
    clear HS3
    go_region_held3 (fun w' => w'.cell? ⟨w.heap.size, 0, none⟩ = some (.int .i64 f) ∧ w'.cell? ⟨w.heap.size, 1, none⟩ = some (.int .i64 t) ∧ w'.cell? ⟨w.heap.size, 2, none⟩ = some (.int .i64 p) ∧ w'.cell? ⟨w.heap.size, 3, none⟩ = some (.int .i64 k) ∧ w'.cell? ⟨w.heap.size, 4, none⟩ = some (.int .i64 fl) ∧ w'.cell? ⟨w.heap.size, 5, none⟩ = some (.int .i64 pg) ∧
      w'.cell? ⟨w.heap.size + 1, 0, none⟩ = some (.bool h) ∧ w'.cell? ⟨w.heap.size + 1, 1, none⟩ = some (.bool sw) ∧ w'.cell? ⟨w.heap.size + 1, 2, none⟩ = some (.bool c) ∧ w'.cell? ⟨w.heap.size + 1, 3, none⟩ = some (.bool o) ∧ w'.cell? ⟨w.heap.size + 1, 4, none⟩ = some (.int .i64 sn) ∧
      w'.cell? ⟨w.heap.size + 1 + 1, 0, none⟩ = some (.bool th) ∧ w'.cell? ⟨w.heap.size + 1 + 1, 1, none⟩ = some (.int .i64 u) ∧ w'.cell? ⟨w.heap.size + 1 + 1, 2, none⟩ = some (.int .i64 z))
      (first | exact ⟨c0, c1, c2, c3, c4, c5, s0, s1, s2, s3, s4, q0, q1, q2⟩)
      (first
      | (go_at_call 12; (with_reducible refine (H1.out _ HV.out.tab).mono ?_); rintro e v ⟨A1, p1, rfl, hr1, hb⟩; (try have HR2n := Lib.hid (intRow_belowM HR2.out rfl hb)); (try clear HR2); (try have HR2 := HR2n); (try clear HR2n); have HVn := Lib.hid (HV.out.on hb); clear HV c0 c1 c2 c3 c4 c5 s0 s1 s2 s3 s4 q0 q1 q2; have HV := HVn; clear HVn; obtain ⟨c0, c1, c2, c3, c4, c5, s0, s1, s2, s3, s4, q0, q1, q2⟩ := HV.out.cells; clear hb; have HR1 := Lib.hid hr1; clear hr1)
      | (go_at_call 13; (with_reducible refine (H2.out _).mono ?_); rintro e v ⟨A2, p2, rfl, hr2, hb⟩; (try have HR1n := Lib.hid (intRow_belowM HR1.out rfl hb)); (try clear HR1); (try have HR1 := HR1n); (try clear HR1n); have HVn := Lib.hid (HV.out.on hb); clear HV c0 c1 c2 c3 c4 c5 s0 s1 s2 s3 s4 q0 q1 q2; have HV := HVn; clear HVn; obtain ⟨c0, c1, c2, c3, c4, c5, s0, s1, s2, s3, s4, q0, q1, q2⟩ := HV.out.cells; clear hb; have HR2 := Lib.hid hr2; clear hr2)
      | (go_at_call 11; (with_reducible refine (H3.out _ _ _ _ _ HR1.out HR2.out).mono ?_); rintro e v ⟨rfl, hb⟩; have HVn := Lib.hid (HV.out.on hb); clear HV c0 c1 c2 c3 c4 c5 s0 s1 s2 s3 s4 q0 q1 q2; have HV := HVn; clear HVn; obtain ⟨c0, c1, c2, c3, c4, c5, s0, s1, s2, s3, s4, q0, q1, q2⟩ := HV.out.cells; clear hb))
    all_goals (go_wp2; go_ret; exact ⟨rfl, HV.out.below⟩)

set_option maxRecDepth 100000 in
theorem lifted (os : Os) (started : os.Started) (H : Type) (enc : TypeId × Value → H) :
    ReturnsInHanded {} Tryd.checked os 3 .any (fun w args => (Rows.faultStepsSpec.pre enc Tryd.prog Tryd.f3 Rows.faultStepsRow.domain false w args ∧ laidMet Tryd.prog Rows.faultStepsRow.laid w) ∧ sizedMet enc Tryd.prog Tryd.f3 (OpenSpec.ofChange Rows.faultStepsSpec) false w args) (Rows.faultStepsSpec.post enc Tryd.prog Tryd.f3 false true false false) := by
  refine returnsInHanded_of_change_and (C := Tryd.checked) (X := fun w _ => laidMet Tryd.prog Rows.faultStepsRow.laid w) (fun _ _ _ hh h => h.of_heap hh) own started (by kernel_rfl) Tryd.func3
    (ChangeSpec.witness_at (enc := enc) (C := Tryd.checked) (os := os) (X := fun w _ => laidMet Tryd.prog Rows.faultStepsRow.laid w) false (laidWorld os) #[zregM, zslotV, zaskV] 8 rfl (by kernel_rfl) (by kernel_rfl) (by kernel_rfl) (by kernel_rfl) (by kernel_rfl) (laid_met os _)) ?_
  intro W base args ds gs before hval0 hW hcnd _ hL _
  have hval : ∀ (j : Nat) t v, Tryd.f3.params[j]? = some t → args[j]? = some v → Value.okWide Tryd.prog W .any base t v := hval0
  have hW' := hW
  obtain ⟨p, q, hA0, hV, rfl, hfz, hnd⟩ := hW
  have hA : DataW.TrodAll enc Tryd.prog W 0 (fun _ => true) true Tryd.f3.params.toList args.toList ds p := hA0
  rw [Tryd.params3] at hA hval
  obtain ⟨v0, vs0, d0, ds0, p0, q0, hargs, rfl, rfl, h0, r0⟩ := trodAll_cons hA
  obtain ⟨v1, vs1, d1, ds1, p1, q1, rfl, rfl, rfl, h1, r1⟩ := trodAll_cons r0
  obtain ⟨v2, vs2, d2, ds2, p2, q2, rfl, rfl, rfl, h2, r2⟩ := trodAll_cons r1
  obtain ⟨rfl, rfl, rfl⟩ := trodAll_nil r2
  obtain rfl : args = #[v0, v1, v2] := by cases args; simp_all
  obtain ⟨rfl, rfl⟩ := trodVars_none hV
  have k0 := h0
  have lt0 : ∀ x ∈ p0, x.block < W.heap.size := by obtain ⟨m, hm⟩ := k0; exact DataW.trod_lt m _ _ _ hm
  obtain ⟨a0, rfl, w0⟩ := open_regionU (hval 0 23 v0 rfl rfl) h0
  have k1 := h1
  have lt1 : ∀ x ∈ p1, x.block < W.heap.size := by obtain ⟨m, hm⟩ := k1; exact DataW.trod_lt m _ _ _ hm
  obtain ⟨a1, rfl, w1⟩ := open_slot (hval 1 25 v1 rfl rfl) h1
  have k2 := h2
  have lt2 : ∀ x ∈ p2, x.block < W.heap.size := by obtain ⟨m, hm⟩ := k2; exact DataW.trod_lt m _ _ _ hm
  obtain ⟨a2, rfl, w2⟩ := open_ask (hval 2 27 v2 rfl rfl) h2
  clear hA0 hval0
  refine (walk a0 a1 a2 W w0 w1 w2 (tab_of_laid hL)).mono fun e W' ⟨he, bel⟩ => ?_
  subst he
  exact ⟨_, rfl, _, _, _, [], _, [], hW', trodAll_mk1 (shut_bool Tryd.underlying4 _), (trodAll_cons_mk (Below.trod laidOut (by kernel_rfl) (of_decide_eq_true (by kernel_rfl)) k0 bel lt0) (trodAll_cons_mk (Below.trod laidOut (by kernel_rfl) (of_decide_eq_true (by kernel_rfl)) k1 bel lt1) (trodAll_cons_mk (Below.trod laidOut (by kernel_rfl) (of_decide_eq_true (by kernel_rfl)) k2 bel lt2) trodAll_mk0))), rfl, bel.frame _, fun h => by cases h⟩
theorem over : Rows.faultStepsRow.holds Tryd.pinned (OpenSpec.ofChange Rows.faultStepsSpec) :=
  OpenClaim.holds_of_wide 3 Tryd.f3 rfl rfl rfl rfl rfl rfl rfl ⟨rfl, rfl, rfl, rfl, rfl⟩ rfl rfl rfl rfl rfl (by kernel_rfl) Tryd.func3 (by kernel_rfl)
    (of_decide_eq_true (by kernel_rfl)) (by unfold Func.isWrapper; first | (rw [if_pos (by decide +kernel)]; kernel_rfl) | (rw [if_neg (by decide +kernel)]; exact ⟨rfl, rfl⟩))
    (fun os started H enc _ => lifted os started H enc)
set_option maxRecDepth 100000 in
/-- The statement. -/
theorem proved : Rows.FaultStepsCardSaid :=
  Claim7.holds_tied_plain_at .later [] [.data] true _ false over (fun _ h => by cases h) (by kernel_rfl) (fun _ h => by cases h) faultSteps_row_tie rfl ⟨rfl, rfl⟩ (by kernel_rfl) rfl
    (fun f fn hf hfn => by
      obtain rfl : f = 3 := Option.some.inj (hf.symm.trans (by kernel_rfl))
      obtain rfl : fn = Tryd.f3 := Option.some.inj (hfn.symm.trans Tryd.func3)
      refine ⟨by kernel_rfl, fun j t ht => ?_⟩
      rw [Tryd.params3] at ht
      match j, ht with
      | 0, ht =>
        obtain rfl : t = 23 := by simpa using ht.symm
        exact (by kernel_rfl : Tryd.pinned.checked.prog.wantsStandIn 23 = false)
      | 1, ht =>
        obtain rfl : t = 25 := by simpa using ht.symm
        exact (by kernel_rfl : Tryd.pinned.checked.prog.wantsStandIn 25 = false)
      | 2, ht =>
        obtain rfl : t = 27 := by simpa using ht.symm
        exact (by kernel_rfl : Tryd.pinned.checked.prog.wantsStandIn 27 = false)
      | j + 3, ht => simp at ht)
    (by kernel_rfl)
end Go.Proofs.YtdfokgfcohfgeaaDoor.lawSteps16
