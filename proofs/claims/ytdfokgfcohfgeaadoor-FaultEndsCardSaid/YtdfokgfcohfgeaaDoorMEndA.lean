/- FaultEnds: for any region, any entry that may be, or nothing, any use and any number: no use takes more than four steps; one that is not allowed takes one, and is denied; one that is goes, and a store goes to a page that may be written. -/
import Derived.Test.YtdfokgfcohfgeaaDoorMH
import Derived.Deep.RegionHeld3
import Derived.StillTailTactics
import Derived.Deep.CutRange
namespace Go.Proofs.YtdfokgfcohfgeaaDoor.lawEnds16
open Go.RowKit Go.ChangeShapes Go.WideShapes Go.Deep
open Go.Proofs.YtdfokgfcohfgeaaDoor.l16
set_option linter.unusedVariables false
set_option linter.unusedSimpArgs false

theorem addr0M (a : Addr) : a.add 0 = a := by
  obtain ⟨b, o, s⟩ := a
  unfold Addr.add
  split <;> simp_all

set_option maxRecDepth 100000 in
set_option maxHeartbeats 3200000 in
/-- A use that is not allowed. -/
theorem walkA (r : Rg) (s : Sl) (q : Aq) (w : World) (wr : r.Wf) (ws : (Lit.int .i64 s.n).wf = true) (wq : (Lit.int .i64 q.u).wf = true) (hT : Askd w) (hno : alM r q.th q.u = false) :
    Calls Tryd.prog 4 #[.agg r.cs, s.v, .agg q.cs] w fun e w' => e = .returned (.bool true) ∧ Below w.heap.size w w' := by
  have HA := Lib.hid (fun (v : World) (h : Askd v) => awakeM v h)
  have HTP := Lib.hid hT.pos
  have HS0 := Lib.hid (Tri.new hT r s q)
  have HM := Lib.hid (fun v => refMay_any s v)
  have HOK := Lib.hid s.orNo_ok
  obtain ⟨s', hs'⟩ : ∃ s', s.orNo = s' := ⟨_, rfl⟩
  rw [hs'] at HOK
  clear hT wr ws wq
  unfold Sl.orNo at hs'
  obtain ⟨mb, hmb⟩ : ∃ mb, s.may = mb := ⟨_, rfl⟩
  rw [hmb] at hs' HM
  clear hmb
  obtain ⟨f, t, p, k, fl, pg⟩ := r
  obtain ⟨h, sw, c, o, sn⟩ := s
  obtain ⟨th, u, z, qa, qf⟩ := q
  have H1 := Lib.hid (fun (v : World) (h : Askd v) => steps_any ⟨f, t, p, k, fl, pg⟩ th s' u z v h)
  have H2 := Lib.hid (fun (v : World) (h : Askd v) => allows_any p u v h)
  simp only at hno
  rw [seqM_no hno] at H1
  unfold IntsT at H1
  simp only [List.length_cons, List.length_nil] at H1
  have hal : th = true → allowM p u = false := fun h => by
    have h1 := hno
    unfold alM at h1
    rw [h] at h1
    simpa using h1
  clear hno HOK
  unfold Sl.v Rg.cs Sl.cs Aq.cs at *
  simp only at *
  cases th
  · clear hal
    cases mb
    · rw [if_neg (by decide)] at hs'
      subst hs'
      unfold Sl.zero at *
      simp only at *
      go_enter Tryd.func4, Tryd.ntmps4
      go_upto_region 5 with (first
        | (go_at_call 9; refine (HA.out _ HS0.out.tab).mono ?_; rintro e v1 ⟨rfl, hb⟩
           have HS1 := Lib.hid (HS0.out.on hb)
           obtain ⟨c0, c1, c2, c3, c4, c5, s0, s1, s2, s3, s4, q0, q1, q2⟩ := HS1.out.cells
           clear hb)
        | (go_at_call 10; refine (HM.out _).mono ?_; rintro e v2 ⟨rfl, hb⟩
           have HS2 := Lib.hid (HS1.out.on hb)
           clear c0 c1 c2 c3 c4 c5 s0 s1 s2 s3 s4 q0 q1 q2 hb
           obtain ⟨f0, f1, f2, f3, f4⟩ := HS2.out.frozen
           obtain ⟨-, -, -, -, -, -, s0, s1, s2, s3, s4, -, -, -⟩ := HS2.out.cells
           have hs3 := HS2.out.set_ HTP.out Sl.zero
           unfold Sl.zero at hs3
           simp only at hs3
           have HS3 := Lib.hid hs3
           clear hs3))
      generalize World.setCell _ _ _ = V at *
      clear f0 f1 f2 f3 f4 s0 s1 s2 s3 s4 HS2 HS1 HS0 HA HM
      have HV := HS3
      obtain ⟨c0, c1, c2, c3, c4, c5, s0, s1, s2, s3, s4, q0, q1, q2⟩ := HS3.out.cells
      clear HS3
      go_wp2_with (first
        | (go_at_call 12; (with_reducible refine (H1.out _ HV.out.tab).mono ?_); rintro e v ⟨A1, p1, rfl, hr, hb⟩
           have HVn := Lib.hid (HV.out.on hb); clear HV c0 c1 c2 c3 c4 c5 s0 s1 s2 s3 s4 q0 q1 q2; have HV := HVn; clear HVn; obtain ⟨c0, c1, c2, c3, c4, c5, s0, s1, s2, s3, s4, q0, q1, q2⟩ := HV.out.cells
           clear hb
           obtain ⟨ad, rfl, -, d0, -⟩ := hr 0 (by simp)
           simp only [List.getElem_cons_zero] at d0
           have d1 := d0
           rw [addr0M] at d1
           clear hr)
        | (go_at_call 14; (with_reducible refine (H2.out _ HV.out.tab).mono ?_); rintro e v ⟨rfl, rfl⟩))
      all_goals (go_ret; exact ⟨by simp, HV.out.below⟩)
    · rw [if_pos rfl] at hs'
      subst hs'
      simp only at *
      go_enter Tryd.func4, Tryd.ntmps4
      go_upto_region 5 with (first
        | (go_at_call 9; refine (HA.out _ HS0.out.tab).mono ?_; rintro e v1 ⟨rfl, hb⟩
           have HS1 := Lib.hid (HS0.out.on hb)
           obtain ⟨c0, c1, c2, c3, c4, c5, s0, s1, s2, s3, s4, q0, q1, q2⟩ := HS1.out.cells
           clear hb)
        | (go_at_call 10; refine (HM.out _).mono ?_; rintro e v2 ⟨rfl, hb⟩
           have HS3 := Lib.hid (HS1.out.on hb)
           clear c0 c1 c2 c3 c4 c5 s0 s1 s2 s3 s4 q0 q1 q2 hb))
      clear HS1 HS0 HA HM
      have HV := HS3
      obtain ⟨c0, c1, c2, c3, c4, c5, s0, s1, s2, s3, s4, q0, q1, q2⟩ := HS3.out.cells
      clear HS3
      go_wp2_with (first
        | (go_at_call 12; (with_reducible refine (H1.out _ HV.out.tab).mono ?_); rintro e v ⟨A1, p1, rfl, hr, hb⟩
           have HVn := Lib.hid (HV.out.on hb); clear HV c0 c1 c2 c3 c4 c5 s0 s1 s2 s3 s4 q0 q1 q2; have HV := HVn; clear HVn; obtain ⟨c0, c1, c2, c3, c4, c5, s0, s1, s2, s3, s4, q0, q1, q2⟩ := HV.out.cells
           clear hb
           obtain ⟨ad, rfl, -, d0, -⟩ := hr 0 (by simp)
           simp only [List.getElem_cons_zero] at d0
           have d1 := d0
           rw [addr0M] at d1
           clear hr)
        | (go_at_call 14; (with_reducible refine (H2.out _ HV.out.tab).mono ?_); rintro e v ⟨rfl, rfl⟩))
      all_goals (go_ret; exact ⟨by simp, HV.out.below⟩)
  · rw [hal rfl] at H2
    clear hal
    cases mb
    · rw [if_neg (by decide)] at hs'
      subst hs'
      unfold Sl.zero at *
      simp only at *
      go_enter Tryd.func4, Tryd.ntmps4
      go_upto_region 5 with (first
        | (go_at_call 9; refine (HA.out _ HS0.out.tab).mono ?_; rintro e v1 ⟨rfl, hb⟩
           have HS1 := Lib.hid (HS0.out.on hb)
           obtain ⟨c0, c1, c2, c3, c4, c5, s0, s1, s2, s3, s4, q0, q1, q2⟩ := HS1.out.cells
           clear hb)
        | (go_at_call 10; refine (HM.out _).mono ?_; rintro e v2 ⟨rfl, hb⟩
           have HS2 := Lib.hid (HS1.out.on hb)
           clear c0 c1 c2 c3 c4 c5 s0 s1 s2 s3 s4 q0 q1 q2 hb
           obtain ⟨f0, f1, f2, f3, f4⟩ := HS2.out.frozen
           obtain ⟨-, -, -, -, -, -, s0, s1, s2, s3, s4, -, -, -⟩ := HS2.out.cells
           have hs3 := HS2.out.set_ HTP.out Sl.zero
           unfold Sl.zero at hs3
           simp only at hs3
           have HS3 := Lib.hid hs3
           clear hs3))
      generalize World.setCell _ _ _ = V at *
      clear f0 f1 f2 f3 f4 s0 s1 s2 s3 s4 HS2 HS1 HS0 HA HM
      have HV := HS3
      obtain ⟨c0, c1, c2, c3, c4, c5, s0, s1, s2, s3, s4, q0, q1, q2⟩ := HS3.out.cells
      clear HS3
      go_wp2_with (first
        | (go_at_call 12; (with_reducible refine (H1.out _ HV.out.tab).mono ?_); rintro e v ⟨A1, p1, rfl, hr, hb⟩
           have HVn := Lib.hid (HV.out.on hb); clear HV c0 c1 c2 c3 c4 c5 s0 s1 s2 s3 s4 q0 q1 q2; have HV := HVn; clear HVn; obtain ⟨c0, c1, c2, c3, c4, c5, s0, s1, s2, s3, s4, q0, q1, q2⟩ := HV.out.cells
           clear hb
           obtain ⟨ad, rfl, -, d0, -⟩ := hr 0 (by simp)
           simp only [List.getElem_cons_zero] at d0
           have d1 := d0
           rw [addr0M] at d1
           clear hr)
        | (go_at_call 14; (with_reducible refine (H2.out _ HV.out.tab).mono ?_); rintro e v ⟨rfl, rfl⟩))
      all_goals (go_ret; exact ⟨by simp, HV.out.below⟩)
    · rw [if_pos rfl] at hs'
      subst hs'
      simp only at *
      go_enter Tryd.func4, Tryd.ntmps4
      go_upto_region 5 with (first
        | (go_at_call 9; refine (HA.out _ HS0.out.tab).mono ?_; rintro e v1 ⟨rfl, hb⟩
           have HS1 := Lib.hid (HS0.out.on hb)
           obtain ⟨c0, c1, c2, c3, c4, c5, s0, s1, s2, s3, s4, q0, q1, q2⟩ := HS1.out.cells
           clear hb)
        | (go_at_call 10; refine (HM.out _).mono ?_; rintro e v2 ⟨rfl, hb⟩
           have HS3 := Lib.hid (HS1.out.on hb)
           clear c0 c1 c2 c3 c4 c5 s0 s1 s2 s3 s4 q0 q1 q2 hb))
      clear HS1 HS0 HA HM
      have HV := HS3
      obtain ⟨c0, c1, c2, c3, c4, c5, s0, s1, s2, s3, s4, q0, q1, q2⟩ := HS3.out.cells
      clear HS3
      go_wp2_with (first
        | (go_at_call 12; (with_reducible refine (H1.out _ HV.out.tab).mono ?_); rintro e v ⟨A1, p1, rfl, hr, hb⟩
           have HVn := Lib.hid (HV.out.on hb); clear HV c0 c1 c2 c3 c4 c5 s0 s1 s2 s3 s4 q0 q1 q2; have HV := HVn; clear HVn; obtain ⟨c0, c1, c2, c3, c4, c5, s0, s1, s2, s3, s4, q0, q1, q2⟩ := HV.out.cells
           clear hb
           obtain ⟨ad, rfl, -, d0, -⟩ := hr 0 (by simp)
           simp only [List.getElem_cons_zero] at d0
           have d1 := d0
           rw [addr0M] at d1
           clear hr)
        | (go_at_call 14; (with_reducible refine (H2.out _ HV.out.tab).mono ?_); rintro e v ⟨rfl, rfl⟩))
      all_goals (go_ret; exact ⟨by simp, HV.out.below⟩)
end Go.Proofs.YtdfokgfcohfgeaaDoor.lawEnds16
