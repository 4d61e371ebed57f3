/- FaultEnds: a use that is allowed. -/
import Derived.Test.YtdfokgfcohfgeaaDoorMH
import Derived.Deep.RegionHeld3
import Derived.StillTailTactics
import Derived.Deep.CutRange
namespace Go.Proofs.YtdfokgfcohfgeaaDoor.lawEnds16
open Go.RowKit Go.ChangeShapes Go.WideShapes Go.Deep
open Go.Proofs.YtdfokgfcohfgeaaDoor.l16
set_option linter.unusedVariables false
set_option linter.unusedSimpArgs false

set_option maxRecDepth 100000 in
set_option maxHeartbeats 3200000 in
/-- A use that is allowed. -/
theorem walkB (r : Rg) (s : Sl) (q : Aq) (w : World) (wr : r.Wf) (ws : (Lit.int .i64 s.n).wf = true) (wq : (Lit.int .i64 q.u).wf = true) (hT : Askd w) (hyes : alM r q.th q.u = true) :
    Calls Tryd.prog 4 #[.agg r.cs, s.v, .agg q.cs] w fun e w' => e = .returned (.bool true) ∧ Below w.heap.size w w' := by
  have HA := Lib.hid (fun (v : World) (h : Askd v) => awakeM v h)
  have HTP := Lib.hid hT.pos
  have HS0 := Lib.hid (Tri.new hT r s q)
  have HM := Lib.hid (fun v => refMay_any s v)
  have HOK := Lib.hid s.orNo_ok
  obtain ⟨s', hs'⟩ : ∃ s', s.orNo = s' := ⟨_, rfl⟩
  rw [hs'] at HOK
  clear hT wr ws wq
  unfold Sl.orNo at hs'
  obtain ⟨mb, hmb⟩ : ∃ mb, s.may = mb := ⟨_, rfl⟩
  rw [hmb] at hs' HM
  clear hmb
  obtain ⟨f, t, p, k, fl, pg⟩ := r
  obtain ⟨h, sw, c, o, sn⟩ := s
  obtain ⟨th, u, z, qa, qf⟩ := q
  simp only at hyes
  obtain rfl : th = true := by unfold alM at hyes; exact (Bool.and_eq_true_iff.1 hyes).1
  have H1 := Lib.hid (fun (v : World) (h : Askd v) => steps_any ⟨f, t, p, k, fl, pg⟩ true s' u z v h)
  have H2 := Lib.hid (fun (v : World) (h : Askd v) => allows_any p u v h)
  have HE := Lib.hid (fun (a : Int) (v : World) => entry_any ⟨f, t, p, k, fl, pg⟩ a 5 v)
  rw [show allowM p u = true from by unfold alM at hyes; simpa using hyes] at H2
  have HG := Lib.hid (seqM_goes (s := s') (n := z) hyes)
  clear hyes HOK
  generalize seqM ⟨f, t, p, k, fl, pg⟩ true s' u z = L at *
  obtain ⟨n, hn⟩ : ∃ n, L.length = n := ⟨_, rfl⟩
  unfold IntsT at H1
  rw [hn] at H1
  have HN := Lib.hid hn
  have hn1 : 1 ≤ n := by have := HG.out.pos; omega
  have hn4 : n ≤ 4 := by have := HG.out.len; omega
  clear hn
  obtain ⟨N, rfl⟩ : ∃ N, n = N + 1 := ⟨n - 1, by omega⟩
  have HLN := Lib.hid (show ∀ h : N < L.length, L[N] = 1 from fun h => by
    have h1 := HG.out.last
    rw [HN.out, Nat.add_sub_cancel, List.getElem?_eq_getElem h] at h1
    exact Option.some.inj h1)
  have e1 : ((N + 1 : Nat) : Int) - 1 = (N : Int) := by omega
  have e2 : wrap64 (N : Int) = N := IntWalk.wrap64_in _ (by omega)
  have e3 : IntKind.i64.wrap (N : Int) = N := IntWalk.i64_in _ (by omega)
  have e4 : decide (((N + 1 : Nat) : Int) < 1) = false := decide_eq_false (by omega)
  have e5 : decide (4 < ((N + 1 : Nat) : Int)) = false := decide_eq_false (by omega)
  have e6 : (0 : Int) ≤ (N : Int) := by omega
  have e7 : (N : Int) < ((N + 1 : Nat) : Int) := by omega
  unfold Sl.v Rg.cs Sl.cs Aq.cs at *
  simp only at *
  cases mb
  · rw [if_neg (by decide)] at hs'
    subst hs'
    unfold Sl.zero at *
    simp only at *
    go_enter Tryd.func4, Tryd.ntmps4
    go_upto_region 5 with (first
      | (go_at_call 9; refine (HA.out _ HS0.out.tab).mono ?_; rintro e v1 ⟨rfl, hb⟩
         have HS1 := Lib.hid (HS0.out.on hb)
         obtain ⟨c0, c1, c2, c3, c4, c5, s0, s1, s2, s3, s4, q0, q1, q2⟩ := HS1.out.cells
         clear hb)
      | (go_at_call 10; refine (HM.out _).mono ?_; rintro e v2 ⟨rfl, hb⟩
         have HS2 := Lib.hid (HS1.out.on hb)
         clear c0 c1 c2 c3 c4 c5 s0 s1 s2 s3 s4 q0 q1 q2 hb
         obtain ⟨f0, f1, f2, f3, f4⟩ := HS2.out.frozen
         obtain ⟨-, -, -, -, -, -, s0, s1, s2, s3, s4, -, -, -⟩ := HS2.out.cells
         have hs3 := HS2.out.set_ HTP.out Sl.zero
         unfold Sl.zero at hs3
         simp only at hs3
         have HS3 := Lib.hid hs3
         clear hs3))
    generalize World.setCell _ _ _ = V at *
    clear f0 f1 f2 f3 f4 s0 s1 s2 s3 s4 HS2 HS1 HS0 HA HM
    have HV := HS3
    obtain ⟨c0, c1, c2, c3, c4, c5, s0, s1, s2, s3, s4, q0, q1, q2⟩ := HS3.out.cells
    clear HS3
    go_upto_region 12 with (first
      | (go_at_call 12; (with_reducible refine (H1.out _ HV.out.tab).mono ?_); rintro e v ⟨A1, p1, rfl, hr, hb⟩
         have HVn := Lib.hid (HV.out.on hb); clear HV c0 c1 c2 c3 c4 c5 s0 s1 s2 s3 s4 q0 q1 q2; have HV := HVn; clear HVn; obtain ⟨c0, c1, c2, c3, c4, c5, s0, s1, s2, s3, s4, q0, q1, q2⟩ := HV.out.cells
         clear hb
         obtain ⟨ad, rfl, -, d0, -⟩ := hr N (by rw [HN.out]; omega)
         rw [HLN.out] at d0
         have HR := Lib.hid hr
         clear hr)
      | (go_at_call 14; (with_reducible refine (H2.out _ HV.out.tab).mono ?_); rintro e v ⟨rfl, rfl⟩))
    go_wp2_with fail
    go_loopw [12] (fun iv wr => ∃ i : Nat, i ≤ N ∧ iv = .int .i64 i ∧ Hid (Tri w w.heap.size ⟨f, t, p, k, fl, pg⟩ ⟨false, false, false, false, 0⟩ ⟨true, u, z, qa, qf⟩ wr) ∧ Hid (IntRow wr (some ad) L)) (fun iv _ => N - (intOf iv).toNat)
    case atStart => exact ⟨0, by omega, rfl, HV, HR⟩
    case round =>
      clear HV HR d0 H1 H2 c0 c1 c2 c3 c4 c5 s0 s1 s2 s3 s4 q0 q1 q2
      obtain ⟨i, hi, rfl, HV, HR⟩ := hrel
      have i0 : (0 : Int) ≤ (i : Int) := by omega
      have i1 : wrap64 ((i : Int) + 1) = (i : Int) + 1 := IntWalk.wrap64_in _ (by omega)
      have i2 : IntKind.i64.wrap ((i : Int) + 1) = (i : Int) + 1 := IntWalk.i64_in _ (by omega)
      have i3 : (i : Int) < (N : Int) + 1 := by omega
      by_cases hlt : i < N
      · have j1 : decide ((i : Int) + 1 < (N : Int) + 1) = true := decide_eq_true (by omega)
        have j2 : (i : Int) < (N : Int) := by omega
        obtain ⟨a, hLa, ha⟩ := HG.out.mid i (by rw [HN.out]; omega)
        have hil : i < L.length := by rw [HN.out]; omega
        rw [List.getElem?_eq_getElem hil] at hLa
        have HLA := Lib.hid (show ∀ h : i < L.length, L[i] = a from fun _ => Option.some.inj hLa)
        have HRA := Lib.hid (fun v (hr : IntRow v (some ad) L) => show v.cell? (ad.add i) = some (.int .i64 a) from by
          obtain ⟨ad', he, -, d, -⟩ := hr i hil
          cases he
          rw [d, HLA.out])
        clear hLa hil HLA
        have hent := ent_may (hasM p 2) ha.1 ha.2
        have HEa := Lib.hid (HE.out a)
        have a1 : (a == 1) = false := by simp; omega
        have a2 : (a == 2) = false := by simp; omega
        clear ha
        generalize entM (hasM p 2) a 5 = E at *
        have HME := Lib.hid (fun v => refMay_any E v)
        rw [hent.1] at HME
        obtain ⟨eh, ew, ec, eo, en⟩ := E
        obtain ⟨-, hent1, hent2⟩ := hent
        simp only at hent1 hent2
        subst hent1 hent2
        simp only at HEa
        unfold Sl.v at HME
        simp only at HME
        go_upto_region 15 with fail
        have d0 := HRA.out _ HR.out
        go_cut [13] from 65 to 105 (fun x W => ∃ G, x = .pointer (some ⟨G, 0, none⟩) ∧ Hid (Blk W G 25 #[.bool true, .bool ew, .bool ec, .bool eo, .int .i64 5]) ∧ Hid (Tri w w.heap.size ⟨f, t, p, k, fl, pg⟩ ⟨false, false, false, false, 0⟩ ⟨true, u, z, qa, qf⟩ W) ∧ Hid (IntRow W (some ad) L))
        case first =>
          have HVD := Lib.hid HV.out.drew
          obtain ⟨c0, c1, c2, c3, c4, c5, -, -, -, -, -, -, -, -⟩ := HV.out.cells
          have HSv := Lib.hid (fun v (hb : Below wr.heap.size wr v) => show v.cell? ⟨w.heap.size, 0, none⟩ = some (.int .i64 f) ∧ v.cell? ⟨w.heap.size, 1, none⟩ = some (.int .i64 t) ∧ v.cell? ⟨w.heap.size, 2, none⟩ = some (.int .i64 p) ∧ v.cell? ⟨w.heap.size, 3, none⟩ = some (.int .i64 k) ∧ v.cell? ⟨w.heap.size, 4, none⟩ = some (.int .i64 fl) ∧ v.cell? ⟨w.heap.size, 5, none⟩ = some (.int .i64 pg) ∧ v.cell? (ad.add i) = some (.int .i64 a) from by
            have h1 := (HV.out.on hb).cells
            exact ⟨h1.1, h1.2.1, h1.2.2.1, h1.2.2.2.1, h1.2.2.2.2.1, h1.2.2.2.2.2.1, HRA.out _ (intRow_belowM HR.out rfl hb)⟩)
          have hd0 := Lib.hid (show Below wr.heap.size wr wr.drew from (Below.refl _ _).drew)
          have hdA := Lib.hid (show Below wr.heap.size wr (wr.alloc (.cells #[.bool false, .bool false, .bool false, .bool false, .int .i64 0] 25)).drew from ((Below.refl _ _).alloc (Nat.le_refl _) _).drew)
          have hkA := Lib.hid (Blk.new wr 25 #[.bool false, .bool false, .bool false, .bool false, .int .i64 0]).drew
          have sD := Lib.hid (HSv.out _ hdA.out)
          have sE := Lib.hid (HSv.out _ hd0.out)
          go_region_held3 (fun w' => w'.cell? ⟨w.heap.size, 0, none⟩ = some (.int .i64 f) ∧ w'.cell? ⟨w.heap.size, 1, none⟩ = some (.int .i64 t) ∧ w'.cell? ⟨w.heap.size, 2, none⟩ = some (.int .i64 p) ∧ w'.cell? ⟨w.heap.size, 3, none⟩ = some (.int .i64 k) ∧ w'.cell? ⟨w.heap.size, 4, none⟩ = some (.int .i64 fl) ∧ w'.cell? ⟨w.heap.size, 5, none⟩ = some (.int .i64 pg) ∧ w'.cell? (ad.add i) = some (.int .i64 a))
            (first | with_reducible exact sW.out | with_reducible exact sF.out | with_reducible exact sA.out | with_reducible exact sV.out | with_reducible exact sD.out | with_reducible exact sE.out | with_reducible exact ⟨c0, c1, c2, c3, c4, c5, d0⟩ | exact ⟨c0, c1, c2, c3, c4, c5, d0⟩)
            (first
            | (go_at_call 15; (with_reducible refine (HEa.out _).mono ?_); rintro e v ⟨rfl, hb⟩; have hbv := Lib.hid (hd0.out.trans (hb.mono hd0.out.size)); have kx := Lib.hid (Blk.new v 25 #[.bool false, .bool false, .bool false, .bool false, .int .i64 0]); have hbA := Lib.hid (hbv.out.alloc hbv.out.size (.cells #[.bool false, .bool false, .bool false, .bool false, .int .i64 0] 25)); have sV := Lib.hid (HSv.out _ hbv.out); have sA := Lib.hid (HSv.out _ hbA.out); have sF := Lib.hid (HSv.out _ (hbv.out.alloc hbv.out.size (.cells #[.bool true, .bool ew, .bool ec, .bool eo, .int .i64 5] 25))); have hset := Lib.hid (sl_set_belowM hbA.out hbv.out.size ⟨true, ew, ec, eo, 5⟩); simp only at hset; have sW := Lib.hid (HSv.out _ hset.out); have hK := Lib.hid (sl_setM kx.out ⟨true, ew, ec, eo, 5⟩); unfold Sl.cs at hK; simp only at hK; have f0 := kx.out.frozen 0; have f1 := kx.out.frozen 1; have f2 := kx.out.frozen 2; have f3 := kx.out.frozen 3; have f4 := kx.out.frozen 4; have z0 := kx.out.at_ 0 _ rfl; have z1 := kx.out.at_ 1 _ rfl; have z2 := kx.out.at_ 2 _ rfl; have z3 := kx.out.at_ 3 _ rfl; have z4 := kx.out.at_ 4 _ rfl; clear hb)
            | (go_at_call 15; (with_reducible refine (HEa.out _).mono ?_); rintro e v ⟨rfl, hb⟩; have hbv := Lib.hid (hdA.out.trans (hb.mono hdA.out.size)); have kx := Lib.hid (hkA.out.below hb hkA.out.lt); have sV := Lib.hid (HSv.out _ hbv.out); have hset := Lib.hid (sl_set_belowM hbv.out (Nat.le_refl _) ⟨true, ew, ec, eo, 5⟩); simp only at hset; have sW := Lib.hid (HSv.out _ hset.out); have hK := Lib.hid (sl_setM kx.out ⟨true, ew, ec, eo, 5⟩); unfold Sl.cs at hK; simp only at hK; have f0 := kx.out.frozen 0; have f1 := kx.out.frozen 1; have f2 := kx.out.frozen 2; have f3 := kx.out.frozen 3; have f4 := kx.out.frozen 4; have z0 := kx.out.at_ 0 _ rfl; have z1 := kx.out.at_ 1 _ rfl; have z2 := kx.out.at_ 2 _ rfl; have z3 := kx.out.at_ 3 _ rfl; have z4 := kx.out.at_ 4 _ rfl; clear hb))
          all_goals go_wp2_with fail
          all_goals go_meet
          all_goals first
            | with_reducible exact ⟨_, rfl, hK, Lib.hid (HV.out.on hset.out), Lib.hid (intRow_belowM HR.out rfl hset.out)⟩
            | with_reducible exact ⟨_, rfl, Lib.hid (Blk.new v 25 _), Lib.hid (HV.out.on (hbv.out.alloc hbv.out.size (.cells #[.bool true, .bool ew, .bool ec, .bool eo, .int .i64 5] 25))), Lib.hid (intRow_belowM HR.out rfl (hbv.out.alloc hbv.out.size (.cells #[.bool true, .bool ew, .bool ec, .bool eo, .int .i64 5] 25)))⟩
        case rest =>
          clear HV HR d0
          obtain ⟨G, rfl, HX, HV, HR⟩ := hcut
          have x0 := HX.out.at_ 0 _ rfl
          have x1 := HX.out.at_ 1 _ rfl
          have x2 := HX.out.at_ 2 _ rfl
          have x3 := HX.out.at_ 3 _ rfl
          have x4 := HX.out.at_ 4 _ rfl
          go_wp2_with (go_at_call 10; (with_reducible refine (HME.out _).mono ?_); rintro e v2 ⟨rfl, hb⟩
                       have HXn := Lib.hid (HX.out.below hb HX.out.lt)
                       have HVn := Lib.hid (HV.out.on hb)
                       have HRn := Lib.hid (intRow_belowM HR.out rfl hb)
                       clear x0 x1 x2 x3 x4 HX HV HR hb
                       have HX := HXn
                       have HV := HVn
                       have HR := HRn
                       clear HXn HVn HRn
                       have x0 := HX.out.at_ 0 _ rfl
                       have x4 := HX.out.at_ 4 _ rfl
                       have d0 := HRA.out _ HR.out)
          go_roundw
          case rel => exact ⟨i + 1, by omega, by go_num, HV, HR⟩
          case measure => simp [intOf]; omega
      · obtain rfl : i = N := by omega
        have j1 : decide ((i : Int) + 1 < (i : Int) + 1) = false := decide_eq_false (by omega)
        obtain ⟨-, -, -, -, -, -, -, s1, -, -, -, -, q1, -⟩ := HV.out.cells
        have hst := HG.out.store
        rw [HN.out] at hst
        by_cases hu : u = 2
        · subst hu
          have hst := hst rfl
          simp only at hst
          by_cases h1 : 1 < i + 1
          · have l1 : decide (1 < (i : Int) + 1) = true := decide_eq_true (by omega)
            have l2 : (1 : Int) < (i : Int) + 1 := by omega
            clear hst
            go_wp2_with fail
            all_goals (go_ret; exact ⟨by simp, HV.out.below⟩)
          · have l1 : decide (1 < (i : Int) + 1) = false := decide_eq_false (by omega)
            have hw := hst.resolve_left h1
            clear hst
            exact absurd hw (by decide)
        · have u2 : (u == 2) = false := by simpa using hu
          have u3 : (u != 2) = true := by simpa using hu
          clear hst hu
          go_wp2_with fail
          all_goals (go_ret; exact ⟨by simp, HV.out.below⟩)
  · rw [if_pos rfl] at hs'
    subst hs'
    simp only at *
    go_enter Tryd.func4, Tryd.ntmps4
    go_upto_region 5 with (first
      | (go_at_call 9; refine (HA.out _ HS0.out.tab).mono ?_; rintro e v1 ⟨rfl, hb⟩
         have HS1 := Lib.hid (HS0.out.on hb)
         obtain ⟨c0, c1, c2, c3, c4, c5, s0, s1, s2, s3, s4, q0, q1, q2⟩ := HS1.out.cells
         clear hb)
      | (go_at_call 10; refine (HM.out _).mono ?_; rintro e v2 ⟨rfl, hb⟩
         have HS3 := Lib.hid (HS1.out.on hb)
         clear c0 c1 c2 c3 c4 c5 s0 s1 s2 s3 s4 q0 q1 q2 hb))
    clear HS1 HS0 HA HM
    have HV := HS3
    obtain ⟨c0, c1, c2, c3, c4, c5, s0, s1, s2, s3, s4, q0, q1, q2⟩ := HS3.out.cells
    clear HS3
    go_upto_region 12 with (first
      | (go_at_call 12; (with_reducible refine (H1.out _ HV.out.tab).mono ?_); rintro e v ⟨A1, p1, rfl, hr, hb⟩
         have HVn := Lib.hid (HV.out.on hb); clear HV c0 c1 c2 c3 c4 c5 s0 s1 s2 s3 s4 q0 q1 q2; have HV := HVn; clear HVn; obtain ⟨c0, c1, c2, c3, c4, c5, s0, s1, s2, s3, s4, q0, q1, q2⟩ := HV.out.cells
         clear hb
         obtain ⟨ad, rfl, -, d0, -⟩ := hr N (by rw [HN.out]; omega)
         rw [HLN.out] at d0
         have HR := Lib.hid hr
         clear hr)
      | (go_at_call 14; (with_reducible refine (H2.out _ HV.out.tab).mono ?_); rintro e v ⟨rfl, rfl⟩))
    go_wp2_with fail
    go_loopw [12] (fun iv wr => ∃ i : Nat, i ≤ N ∧ iv = .int .i64 i ∧ Hid (Tri w w.heap.size ⟨f, t, p, k, fl, pg⟩ ⟨h, sw, c, o, sn⟩ ⟨true, u, z, qa, qf⟩ wr) ∧ Hid (IntRow wr (some ad) L)) (fun iv _ => N - (intOf iv).toNat)
    case atStart => exact ⟨0, by omega, rfl, HV, HR⟩
    case round =>
      clear HV HR d0 H1 H2 c0 c1 c2 c3 c4 c5 s0 s1 s2 s3 s4 q0 q1 q2
      obtain ⟨i, hi, rfl, HV, HR⟩ := hrel
      have i0 : (0 : Int) ≤ (i : Int) := by omega
      have i1 : wrap64 ((i : Int) + 1) = (i : Int) + 1 := IntWalk.wrap64_in _ (by omega)
      have i2 : IntKind.i64.wrap ((i : Int) + 1) = (i : Int) + 1 := IntWalk.i64_in _ (by omega)
      have i3 : (i : Int) < (N : Int) + 1 := by omega
      by_cases hlt : i < N
      · have j1 : decide ((i : Int) + 1 < (N : Int) + 1) = true := decide_eq_true (by omega)
        have j2 : (i : Int) < (N : Int) := by omega
        obtain ⟨a, hLa, ha⟩ := HG.out.mid i (by rw [HN.out]; omega)
        have hil : i < L.length := by rw [HN.out]; omega
        rw [List.getElem?_eq_getElem hil] at hLa
        have HLA := Lib.hid (show ∀ h : i < L.length, L[i] = a from fun _ => Option.some.inj hLa)
        have HRA := Lib.hid (fun v (hr : IntRow v (some ad) L) => show v.cell? (ad.add i) = some (.int .i64 a) from by
          obtain ⟨ad', he, -, d, -⟩ := hr i hil
          cases he
          rw [d, HLA.out])
        clear hLa hil HLA
        have hent := ent_may (hasM p 2) ha.1 ha.2
        have HEa := Lib.hid (HE.out a)
        have a1 : (a == 1) = false := by simp; omega
        have a2 : (a == 2) = false := by simp; omega
        clear ha
        generalize entM (hasM p 2) a 5 = E at *
        have HME := Lib.hid (fun v => refMay_any E v)
        rw [hent.1] at HME
        obtain ⟨eh, ew, ec, eo, en⟩ := E
        obtain ⟨-, hent1, hent2⟩ := hent
        simp only at hent1 hent2
        subst hent1 hent2
        simp only at HEa
        unfold Sl.v at HME
        simp only at HME
        go_upto_region 15 with fail
        have d0 := HRA.out _ HR.out
        go_cut [13] from 65 to 105 (fun x W => ∃ G, x = .pointer (some ⟨G, 0, none⟩) ∧ Hid (Blk W G 25 #[.bool true, .bool ew, .bool ec, .bool eo, .int .i64 5]) ∧ Hid (Tri w w.heap.size ⟨f, t, p, k, fl, pg⟩ ⟨h, sw, c, o, sn⟩ ⟨true, u, z, qa, qf⟩ W) ∧ Hid (IntRow W (some ad) L))
        case first =>
          have HVD := Lib.hid HV.out.drew
          obtain ⟨c0, c1, c2, c3, c4, c5, -, -, -, -, -, -, -, -⟩ := HV.out.cells
          have HSv := Lib.hid (fun v (hb : Below wr.heap.size wr v) => show v.cell? ⟨w.heap.size, 0, none⟩ = some (.int .i64 f) ∧ v.cell? ⟨w.heap.size, 1, none⟩ = some (.int .i64 t) ∧ v.cell? ⟨w.heap.size, 2, none⟩ = some (.int .i64 p) ∧ v.cell? ⟨w.heap.size, 3, none⟩ = some (.int .i64 k) ∧ v.cell? ⟨w.heap.size, 4, none⟩ = some (.int .i64 fl) ∧ v.cell? ⟨w.heap.size, 5, none⟩ = some (.int .i64 pg) ∧ v.cell? (ad.add i) = some (.int .i64 a) from by
            have h1 := (HV.out.on hb).cells
            exact ⟨h1.1, h1.2.1, h1.2.2.1, h1.2.2.2.1, h1.2.2.2.2.1, h1.2.2.2.2.2.1, HRA.out _ (intRow_belowM HR.out rfl hb)⟩)
          have hd0 := Lib.hid (show Below wr.heap.size wr wr.drew from (Below.refl _ _).drew)
          have hdA := Lib.hid (show Below wr.heap.size wr (wr.alloc (.cells #[.bool false, .bool false, .bool false, .bool false, .int .i64 0] 25)).drew from ((Below.refl _ _).alloc (Nat.le_refl _) _).drew)
          have hkA := Lib.hid (Blk.new wr 25 #[.bool false, .bool false, .bool false, .bool false, .int .i64 0]).drew
          have sD := Lib.hid (HSv.out _ hdA.out)
          have sE := Lib.hid (HSv.out _ hd0.out)
          go_region_held3 (fun w' => w'.cell? ⟨w.heap.size, 0, none⟩ = some (.int .i64 f) ∧ w'.cell? ⟨w.heap.size, 1, none⟩ = some (.int .i64 t) ∧ w'.cell? ⟨w.heap.size, 2, none⟩ = some (.int .i64 p) ∧ w'.cell? ⟨w.heap.size, 3, none⟩ = some (.int .i64 k) ∧ w'.cell? ⟨w.heap.size, 4, none⟩ = some (.int .i64 fl) ∧ w'.cell? ⟨w.heap.size, 5, none⟩ = some (.int .i64 pg) ∧ w'.cell? (ad.add i) = some (.int .i64 a))
            (first | with_reducible exact sW.out | with_reducible exact sF.out | with_reducible exact sA.out | with_reducible exact sV.out | with_reducible exact sD.out | with_reducible exact sE.out | with_reducible exact ⟨c0, c1, c2, c3, c4, c5, d0⟩ | exact ⟨c0, c1, c2, c3, c4, c5, d0⟩)
            (first
            | (go_at_call 15; (with_reducible refine (HEa.out _).mono ?_); rintro e v ⟨rfl, hb⟩; have hbv := Lib.hid (hd0.out.trans (hb.mono hd0.out.size)); have kx := Lib.hid (Blk.new v 25 #[.bool false, .bool false, .bool false, .bool false, .int .i64 0]); have hbA := Lib.hid (hbv.out.alloc hbv.out.size (.cells #[.bool false, .bool false, .bool false, .bool false, .int .i64 0] 25)); have sV := Lib.hid (HSv.out _ hbv.out); have sA := Lib.hid (HSv.out _ hbA.out); have sF := Lib.hid (HSv.out _ (hbv.out.alloc hbv.out.size (.cells #[.bool true, .bool ew, .bool ec, .bool eo, .int .i64 5] 25))); have hset := Lib.hid (sl_set_belowM hbA.out hbv.out.size ⟨true, ew, ec, eo, 5⟩); simp only at hset; have sW := Lib.hid (HSv.out _ hset.out); have hK := Lib.hid (sl_setM kx.out ⟨true, ew, ec, eo, 5⟩); unfold Sl.cs at hK; simp only at hK; have f0 := kx.out.frozen 0; have f1 := kx.out.frozen 1; have f2 := kx.out.frozen 2; have f3 := kx.out.frozen 3; have f4 := kx.out.frozen 4; have z0 := kx.out.at_ 0 _ rfl; have z1 := kx.out.at_ 1 _ rfl; have z2 := kx.out.at_ 2 _ rfl; have z3 := kx.out.at_ 3 _ rfl; have z4 := kx.out.at_ 4 _ rfl; clear hb)
            | (go_at_call 15; (with_reducible refine (HEa.out _).mono ?_); rintro e v ⟨rfl, hb⟩; have hbv := Lib.hid (hdA.out.trans (hb.mono hdA.out.size)); have kx := Lib.hid (hkA.out.below hb hkA.out.lt); have sV := Lib.hid (HSv.out _ hbv.out); have hset := Lib.hid (sl_set_belowM hbv.out (Nat.le_refl _) ⟨true, ew, ec, eo, 5⟩); simp only at hset; have sW := Lib.hid (HSv.out _ hset.out); have hK := Lib.hid (sl_setM kx.out ⟨true, ew, ec, eo, 5⟩); unfold Sl.cs at hK; simp only at hK; have f0 := kx.out.frozen 0; have f1 := kx.out.frozen 1; have f2 := kx.out.frozen 2; have f3 := kx.out.frozen 3; have f4 := kx.out.frozen 4; have z0 := kx.out.at_ 0 _ rfl; have z1 := kx.out.at_ 1 _ rfl; have z2 := kx.out.at_ 2 _ rfl; have z3 := kx.out.at_ 3 _ rfl; have z4 := kx.out.at_ 4 _ rfl; clear hb))
          all_goals go_wp2_with fail
          all_goals go_meet
          all_goals first
            | with_reducible exact ⟨_, rfl, hK, Lib.hid (HV.out.on hset.out), Lib.hid (intRow_belowM HR.out rfl hset.out)⟩
            | with_reducible exact ⟨_, rfl, Lib.hid (Blk.new v 25 _), Lib.hid (HV.out.on (hbv.out.alloc hbv.out.size (.cells #[.bool true, .bool ew, .bool ec, .bool eo, .int .i64 5] 25))), Lib.hid (intRow_belowM HR.out rfl (hbv.out.alloc hbv.out.size (.cells #[.bool true, .bool ew, .bool ec, .bool eo, .int .i64 5] 25)))⟩
        case rest =>
          clear HV HR d0
          obtain ⟨G, rfl, HX, HV, HR⟩ := hcut
          have x0 := HX.out.at_ 0 _ rfl
          have x1 := HX.out.at_ 1 _ rfl
          have x2 := HX.out.at_ 2 _ rfl
          have x3 := HX.out.at_ 3 _ rfl
          have x4 := HX.out.at_ 4 _ rfl
          go_wp2_with (go_at_call 10; (with_reducible refine (HME.out _).mono ?_); rintro e v2 ⟨rfl, hb⟩
                       have HXn := Lib.hid (HX.out.below hb HX.out.lt)
                       have HVn := Lib.hid (HV.out.on hb)
                       have HRn := Lib.hid (intRow_belowM HR.out rfl hb)
                       clear x0 x1 x2 x3 x4 HX HV HR hb
                       have HX := HXn
                       have HV := HVn
                       have HR := HRn
                       clear HXn HVn HRn
                       have x0 := HX.out.at_ 0 _ rfl
                       have x4 := HX.out.at_ 4 _ rfl
                       have d0 := HRA.out _ HR.out)
          go_roundw
          case rel => exact ⟨i + 1, by omega, by go_num, HV, HR⟩
          case measure => simp [intOf]; omega
      · obtain rfl : i = N := by omega
        have j1 : decide ((i : Int) + 1 < (i : Int) + 1) = false := decide_eq_false (by omega)
        obtain ⟨-, -, -, -, -, -, -, s1, -, -, -, -, q1, -⟩ := HV.out.cells
        have hst := HG.out.store
        rw [HN.out] at hst
        by_cases hu : u = 2
        · subst hu
          have hst := hst rfl
          simp only at hst
          by_cases h1 : 1 < i + 1
          · have l1 : decide (1 < (i : Int) + 1) = true := decide_eq_true (by omega)
            have l2 : (1 : Int) < (i : Int) + 1 := by omega
            clear hst
            go_wp2_with fail
            all_goals (go_ret; exact ⟨by simp, HV.out.below⟩)
          · have l1 : decide (1 < (i : Int) + 1) = false := decide_eq_false (by omega)
            have hw := hst.resolve_left h1
            clear hst
            subst hw
            go_wp2_with fail
            all_goals (go_ret; exact ⟨by simp, HV.out.below⟩)
        · have u2 : (u == 2) = false := by simpa using hu
          have u3 : (u != 2) = true := by simpa using hu
          clear hst hu
          go_wp2_with fail
          all_goals (go_ret; exact ⟨by simp, HV.out.below⟩)
end Go.Proofs.YtdfokgfcohfgeaaDoor.lawEnds16
