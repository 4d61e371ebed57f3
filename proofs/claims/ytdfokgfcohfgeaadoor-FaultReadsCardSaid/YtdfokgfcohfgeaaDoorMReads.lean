/- FaultReads: for any region, any entry that may be, or nothing, and any number: to be read, or fetched, a page is never copied, nor made its own; it comes, if it is not there, in one step. -/
import Derived.Test.YtdfokgfcohfgeaaDoorMH
import Derived.Deep.RegionHeld3
import Derived.StillTailTactics
import Derived.Deep.CutRange
namespace Go.Proofs.YtdfokgfcohfgeaaDoor.lawReads16
open Go.RowKit Go.ChangeShapes Go.WideShapes Go.Deep
open Go.Proofs.YtdfokgfcohfgeaaDoor.l16
set_option linter.unusedVariables false
set_option linter.unusedSimpArgs false

set_option maxRecDepth 100000 in
set_option maxHeartbeats 3200000 in
theorem walk (r : Rg) (s : Sl) (q : Aq) (w : World) (wr : r.Wf) (ws : (Lit.int .i64 s.n).wf = true) (wq : (Lit.int .i64 q.u).wf = true) (hT : Askd w) :
    Calls Tryd.prog 6 #[.agg r.cs, s.v, .agg q.cs] w fun e w' => e = .returned (.bool true) ∧ Below w.heap.size w w' := by
  have HA := Lib.hid (fun (v : World) (h : Askd v) => awakeM v h)
  have HTP := Lib.hid hT.pos
  have HS0 := Lib.hid (Tri.new hT r s q)
  have HM := Lib.hid (fun v => refMay_any s v)
  have HOK := Lib.hid s.orNo_ok
  obtain ⟨s', hs'⟩ : ∃ s', s.orNo = s' := ⟨_, rfl⟩
  rw [hs'] at HOK
  clear hT wr ws wq
  unfold Sl.orNo at hs'
  obtain ⟨mb, hmb⟩ : ∃ mb, s.may = mb := ⟨_, rfl⟩
  rw [hmb] at hs' HM
  clear hmb
  obtain ⟨f, t, p, k, fl, pg⟩ := r
  obtain ⟨h, sw, c, o, sn⟩ := s
  obtain ⟨th, u, z, qa, qf⟩ := q
  have HST := Lib.hid (fun (uu : Int) (v : World) (h : Askd v) => steps_any ⟨f, t, p, k, fl, pg⟩ true s' uu z v h)
  have HAL := Lib.hid (fun (uu : Int) (v : World) (h : Askd v) => allows_any p uu v h)
  have HRDS := Lib.hid (fun (uu : Int) (h : uu ≠ 2) => seqM_reads (r := ⟨f, t, p, k, fl, pg⟩) (th := true) (s := s') (n := z) h)
  have HLEN := Lib.hid (fun (uu : Int) (h : uu ≠ 2) => show allowM p uu = true → (seqM ⟨f, t, p, k, fl, pg⟩ true s' uu z).length = if s'.h = true then 1 else 2 from fun ha => seqM_reads_len h (by unfold alM; simpa using ha) HOK.out)
  clear HOK
  unfold Sl.v Rg.cs Sl.cs Aq.cs at *
  simp only at *
  cases mb
  · rw [if_neg (by decide)] at hs'
    subst hs'
    unfold Sl.zero at *
    simp only [Bool.false_eq_true, if_false] at *
    go_enter Tryd.func6, Tryd.ntmps6
    go_upto_region 5 with (first
      | (go_at_call 9; refine (HA.out _ HS0.out.tab).mono ?_; rintro e v1 ⟨rfl, hb⟩
         have HS1 := Lib.hid (HS0.out.on hb)
         obtain ⟨c0, c1, c2, c3, c4, c5, s0, s1, s2, s3, s4, q0, q1, q2⟩ := HS1.out.cells
         clear hb)
      | (go_at_call 10; refine (HM.out _).mono ?_; rintro e v2 ⟨rfl, hb⟩
         have HS2 := Lib.hid (HS1.out.on hb)
         clear c0 c1 c2 c3 c4 c5 s0 s1 s2 s3 s4 q0 q1 q2 hb
         obtain ⟨f0, f1, f2, f3, f4⟩ := HS2.out.frozen
         obtain ⟨-, -, -, -, -, -, s0, s1, s2, s3, s4, -, -, -⟩ := HS2.out.cells
         have hs3 := HS2.out.set_ HTP.out Sl.zero
         unfold Sl.zero at hs3
         simp only at hs3
         have HS3 := Lib.hid hs3
         clear hs3))
    generalize World.setCell _ _ _ = V at *
    clear f0 f1 f2 f3 f4 s0 s1 s2 s3 s4 HS2 HS1 HS0 HA HM
    have HU0 := Lib.hid (Blk.new V 38 #[.int .i64 1, .int .i64 3])
    have HV0 := Lib.hid (HS3.out.alloc (.cells #[.int .i64 1, .int .i64 3] 38))
    clear HS3
    go_wp2_with fail
    obtain ⟨G, hG⟩ : ∃ G, V.heap.size = G := ⟨_, rfl⟩
    rw [hG] at HU0 ⊢
    clear hG
    generalize V.alloc (.cells #[.int .i64 1, .int .i64 3] 38) = X at *
    go_loopw [10] (fun iv wr => ∃ i : Nat, i ≤ 2 ∧ iv = .int .i64 i ∧ Hid (Tri w w.heap.size ⟨f, t, p, k, fl, pg⟩ ⟨false, false, false, false, 0⟩ ⟨th, u, z, qa, qf⟩ wr) ∧ Hid (Blk wr G 38 #[.int .i64 1, .int .i64 3])) (fun iv _ => 2 - (intOf iv).toNat)
    case atStart => exact ⟨0, by omega, rfl, HV0, HU0⟩
    case round =>
      clear HV0 HU0
      obtain ⟨i, hi, rfl, HV, HU⟩ := hrel
      by_cases hlt : i < 2
      · have i0 : (0 : Int) ≤ (i : Int) := by omega
        have i2 : (i : Int) < 2 := by omega
        obtain ⟨uu, hu2, huc⟩ : ∃ uu : Int, uu ≠ 2 ∧ (#[Value.int .i64 1, .int .i64 3] : Array Value)[i]? = some (.int .i64 uu) := by
          match i, hlt with
          | 0, _ => exact ⟨1, by decide, rfl⟩
          | 1, _ => exact ⟨3, by decide, rfl⟩
        have H1 := Lib.hid (HST.out uu)
        have H2 := Lib.hid (HAL.out uu)
        have HRD := Lib.hid (HRDS.out uu hu2)
        have HLN := Lib.hid (HLEN.out uu hu2)
        clear hu2
        have HLN4 := seqM_len ⟨f, t, p, k, fl, pg⟩ true ⟨false, false, false, false, 0⟩ uu z
        generalize seqM ⟨f, t, p, k, fl, pg⟩ true ⟨false, false, false, false, 0⟩ uu z = L at *
        generalize allowM p uu = al at *
        obtain ⟨n, hn⟩ : ∃ n, L.length = n := ⟨_, rfl⟩
        unfold IntsT at H1
        rw [hn] at H1 HLN
        have HN := Lib.hid hn
        have HN4 := Lib.hid (show n ≤ 4 from by rw [← hn]; exact HLN4)
        clear hn HLN4
        go_upto_region 9 with fail
        have HVD := Lib.hid HV.out.drew
        have HUD := Lib.hid HU.out.drew
        obtain ⟨c0, c1, c2, c3, c4, c5, s0, s1, s2, s3, s4, q0, q1, q2⟩ := HVD.out.cells
        have g0 := (HUD.out.cell i).trans huc
        go_still_tail 7, (by kernel_rfl)
        change wpList _ _ _ _ _ wr.drew
        generalize wr.drew = Y at *
        clear HV HU
        go_upto_region 10 with (
          go_at_call 12; (with_reducible refine (H1.out _ HVD.out.tab).mono ?_); rintro e v ⟨A1, p1, rfl, hr, hb⟩
          have HV := Lib.hid (HVD.out.on hb)
          have HU := Lib.hid (HUD.out.below hb HUD.out.lt)
          have HR := Lib.hid hr
          clear c0 c1 c2 c3 c4 c5 s0 s1 s2 s3 s4 q0 q1 q2 g0 hb hr HVD HUD)
        clear H1
        go_wp2_with fail
        have n4 := HN4.out
        go_loopw [12] (fun kv wr => ∃ k : Nat, k ≤ n ∧ kv = .int .i64 k ∧ wr = v) (fun kv _ => n - (intOf kv).toNat)
        case atStart => exact ⟨0, by omega, rfl, rfl⟩
        case round =>
          obtain ⟨j, hj, rfl, rfl⟩ := hrel
          have j0 : (0 : Int) ≤ (j : Int) := by omega
          by_cases hjn : j < n
          · have j2 : (j : Int) < (n : Int) := by omega
            have hjl : j < L.length := by rw [HN.out]; exact hjn
            obtain ⟨ad, rfl, -, d0, -⟩ := HR.out j hjl
            obtain ⟨a6, a7⟩ := HRD.out L[j] (List.getElem_mem hjl)
            generalize L[j] = a at d0 a6 a7
            have b6 : (a == 6) = false := by simpa using a6
            have b7 : (a == 7) = false := by simpa using a7
            clear hjl a6 a7
            go_wp2_with fail
            go_roundw
            case rel => exact ⟨j + 1, by omega, by go_num, by simp⟩
            case measure => simp [intOf]; omega
          · obtain rfl : j = n := by omega
            clear hjn j0 hj
            go_upto_region 15 with fail
            have HVD := Lib.hid HV.out.drew
            have HUD := Lib.hid HU.out.drew
            obtain ⟨c0, c1, c2, c3, c4, c5, s0, s1, s2, s3, s4, q0, q1, q2⟩ := HVD.out.cells
            have g0 := (HUD.out.cell i).trans huc
            go_still_tail 5, (by kernel_rfl)
            change wpList _ _ _ _ _ (World.drew _)
            generalize World.drew _ = Y at *
            clear HV HU HR HRD
            cases al
            · clear HLN
              go_wp2_with (go_at_call 14; (with_reducible refine (H2.out _ HVD.out.tab).mono ?_); rintro e v ⟨rfl, rfl⟩)
              go_roundw
              case rel => exact ⟨i + 1, by omega, by go_num, HVD, HUD⟩
              case measure => simp [intOf]; omega
            · have hln := HLN.out rfl
              have l1 : ((j : Int) != 2) = false := by simp; omega
              clear HLN
              go_wp2_with (go_at_call 14; (with_reducible refine (H2.out _ HVD.out.tab).mono ?_); rintro e v ⟨rfl, rfl⟩)
              go_roundw
              case rel => exact ⟨i + 1, by omega, by go_num, HVD, HUD⟩
              case measure => simp [intOf]; omega
      · have hi2 : i = 2 := by omega
        subst hi2
        go_wp2_with fail
        go_ret
        exact ⟨rfl, HV.out.below⟩
  · rw [if_pos rfl] at hs'
    subst hs'
    simp only at *
    cases h
    · simp only [Bool.false_eq_true, if_true, if_false] at HLEN
      go_enter Tryd.func6, Tryd.ntmps6
      go_upto_region 5 with (first
        | (go_at_call 9; refine (HA.out _ HS0.out.tab).mono ?_; rintro e v1 ⟨rfl, hb⟩
           have HS1 := Lib.hid (HS0.out.on hb)
           obtain ⟨c0, c1, c2, c3, c4, c5, s0, s1, s2, s3, s4, q0, q1, q2⟩ := HS1.out.cells
           clear hb)
        | (go_at_call 10; refine (HM.out _).mono ?_; rintro e v2 ⟨rfl, hb⟩
           have HS3 := Lib.hid (HS1.out.on hb)
           clear c0 c1 c2 c3 c4 c5 s0 s1 s2 s3 s4 q0 q1 q2 hb))
      clear HS1 HS0 HA HM
      have HU0 := Lib.hid (Blk.new v2 38 #[.int .i64 1, .int .i64 3])
      have HV0 := Lib.hid (HS3.out.alloc (.cells #[.int .i64 1, .int .i64 3] 38))
      clear HS3
      go_wp2_with fail
      obtain ⟨G, hG⟩ : ∃ G, v2.heap.size = G := ⟨_, rfl⟩
      rw [hG] at HU0 ⊢
      clear hG
      generalize v2.alloc (.cells #[.int .i64 1, .int .i64 3] 38) = X at *
      go_loopw [10] (fun iv wr => ∃ i : Nat, i ≤ 2 ∧ iv = .int .i64 i ∧ Hid (Tri w w.heap.size ⟨f, t, p, k, fl, pg⟩ ⟨false, sw, c, o, sn⟩ ⟨th, u, z, qa, qf⟩ wr) ∧ Hid (Blk wr G 38 #[.int .i64 1, .int .i64 3])) (fun iv _ => 2 - (intOf iv).toNat)
      case atStart => exact ⟨0, by omega, rfl, HV0, HU0⟩
      case round =>
        clear HV0 HU0
        obtain ⟨i, hi, rfl, HV, HU⟩ := hrel
        by_cases hlt : i < 2
        · have i0 : (0 : Int) ≤ (i : Int) := by omega
          have i2 : (i : Int) < 2 := by omega
          obtain ⟨uu, hu2, huc⟩ : ∃ uu : Int, uu ≠ 2 ∧ (#[Value.int .i64 1, .int .i64 3] : Array Value)[i]? = some (.int .i64 uu) := by
            match i, hlt with
            | 0, _ => exact ⟨1, by decide, rfl⟩
            | 1, _ => exact ⟨3, by decide, rfl⟩
          have H1 := Lib.hid (HST.out uu)
          have H2 := Lib.hid (HAL.out uu)
          have HRD := Lib.hid (HRDS.out uu hu2)
          have HLN := Lib.hid (HLEN.out uu hu2)
          clear hu2
          have HLN4 := seqM_len ⟨f, t, p, k, fl, pg⟩ true ⟨false, sw, c, o, sn⟩ uu z
          generalize seqM ⟨f, t, p, k, fl, pg⟩ true ⟨false, sw, c, o, sn⟩ uu z = L at *
          generalize allowM p uu = al at *
          obtain ⟨n, hn⟩ : ∃ n, L.length = n := ⟨_, rfl⟩
          unfold IntsT at H1
          rw [hn] at H1 HLN
          have HN := Lib.hid hn
          have HN4 := Lib.hid (show n ≤ 4 from by rw [← hn]; exact HLN4)
          clear hn HLN4
          go_upto_region 9 with fail
          have HVD := Lib.hid HV.out.drew
          have HUD := Lib.hid HU.out.drew
          obtain ⟨c0, c1, c2, c3, c4, c5, s0, s1, s2, s3, s4, q0, q1, q2⟩ := HVD.out.cells
          have g0 := (HUD.out.cell i).trans huc
          go_still_tail 7, (by kernel_rfl)
          change wpList _ _ _ _ _ wr.drew
          generalize wr.drew = Y at *
          clear HV HU
          go_upto_region 10 with (
            go_at_call 12; (with_reducible refine (H1.out _ HVD.out.tab).mono ?_); rintro e v ⟨A1, p1, rfl, hr, hb⟩
            have HV := Lib.hid (HVD.out.on hb)
            have HU := Lib.hid (HUD.out.below hb HUD.out.lt)
            have HR := Lib.hid hr
            clear c0 c1 c2 c3 c4 c5 s0 s1 s2 s3 s4 q0 q1 q2 g0 hb hr HVD HUD)
          clear H1
          go_wp2_with fail
          have n4 := HN4.out
          go_loopw [12] (fun kv wr => ∃ k : Nat, k ≤ n ∧ kv = .int .i64 k ∧ wr = v) (fun kv _ => n - (intOf kv).toNat)
          case atStart => exact ⟨0, by omega, rfl, rfl⟩
          case round =>
            obtain ⟨j, hj, rfl, rfl⟩ := hrel
            have j0 : (0 : Int) ≤ (j : Int) := by omega
            by_cases hjn : j < n
            · have j2 : (j : Int) < (n : Int) := by omega
              have hjl : j < L.length := by rw [HN.out]; exact hjn
              obtain ⟨ad, rfl, -, d0, -⟩ := HR.out j hjl
              obtain ⟨a6, a7⟩ := HRD.out L[j] (List.getElem_mem hjl)
              generalize L[j] = a at d0 a6 a7
              have b6 : (a == 6) = false := by simpa using a6
              have b7 : (a == 7) = false := by simpa using a7
              clear hjl a6 a7
              go_wp2_with fail
              go_roundw
              case rel => exact ⟨j + 1, by omega, by go_num, by simp⟩
              case measure => simp [intOf]; omega
            · obtain rfl : j = n := by omega
              clear hjn j0 hj
              go_upto_region 15 with fail
              have HVD := Lib.hid HV.out.drew
              have HUD := Lib.hid HU.out.drew
              obtain ⟨c0, c1, c2, c3, c4, c5, s0, s1, s2, s3, s4, q0, q1, q2⟩ := HVD.out.cells
              have g0 := (HUD.out.cell i).trans huc
              go_still_tail 5, (by kernel_rfl)
              change wpList _ _ _ _ _ (World.drew _)
              generalize World.drew _ = Y at *
              clear HV HU HR HRD
              cases al
              · clear HLN
                go_wp2_with (go_at_call 14; (with_reducible refine (H2.out _ HVD.out.tab).mono ?_); rintro e v ⟨rfl, rfl⟩)
                go_roundw
                case rel => exact ⟨i + 1, by omega, by go_num, HVD, HUD⟩
                case measure => simp [intOf]; omega
              · have hln := HLN.out rfl
                have l1 : ((j : Int) != 2) = false := by simp; omega
                clear HLN
                go_wp2_with (go_at_call 14; (with_reducible refine (H2.out _ HVD.out.tab).mono ?_); rintro e v ⟨rfl, rfl⟩)
                go_roundw
                case rel => exact ⟨i + 1, by omega, by go_num, HVD, HUD⟩
                case measure => simp [intOf]; omega
        · have hi2 : i = 2 := by omega
          subst hi2
          go_wp2_with fail
          go_ret
          exact ⟨rfl, HV.out.below⟩
    · simp only [Bool.false_eq_true, if_true, if_false] at HLEN
      go_enter Tryd.func6, Tryd.ntmps6
      go_upto_region 5 with (first
        | (go_at_call 9; refine (HA.out _ HS0.out.tab).mono ?_; rintro e v1 ⟨rfl, hb⟩
           have HS1 := Lib.hid (HS0.out.on hb)
           obtain ⟨c0, c1, c2, c3, c4, c5, s0, s1, s2, s3, s4, q0, q1, q2⟩ := HS1.out.cells
           clear hb)
        | (go_at_call 10; refine (HM.out _).mono ?_; rintro e v2 ⟨rfl, hb⟩
           have HS3 := Lib.hid (HS1.out.on hb)
           clear c0 c1 c2 c3 c4 c5 s0 s1 s2 s3 s4 q0 q1 q2 hb))
      clear HS1 HS0 HA HM
      have HU0 := Lib.hid (Blk.new v2 38 #[.int .i64 1, .int .i64 3])
      have HV0 := Lib.hid (HS3.out.alloc (.cells #[.int .i64 1, .int .i64 3] 38))
      clear HS3
      go_wp2_with fail
      obtain ⟨G, hG⟩ : ∃ G, v2.heap.size = G := ⟨_, rfl⟩
      rw [hG] at HU0 ⊢
      clear hG
      generalize v2.alloc (.cells #[.int .i64 1, .int .i64 3] 38) = X at *
      go_loopw [10] (fun iv wr => ∃ i : Nat, i ≤ 2 ∧ iv = .int .i64 i ∧ Hid (Tri w w.heap.size ⟨f, t, p, k, fl, pg⟩ ⟨true, sw, c, o, sn⟩ ⟨th, u, z, qa, qf⟩ wr) ∧ Hid (Blk wr G 38 #[.int .i64 1, .int .i64 3])) (fun iv _ => 2 - (intOf iv).toNat)
      case atStart => exact ⟨0, by omega, rfl, HV0, HU0⟩
      case round =>
        clear HV0 HU0
        obtain ⟨i, hi, rfl, HV, HU⟩ := hrel
        by_cases hlt : i < 2
        · have i0 : (0 : Int) ≤ (i : Int) := by omega
          have i2 : (i : Int) < 2 := by omega
          obtain ⟨uu, hu2, huc⟩ : ∃ uu : Int, uu ≠ 2 ∧ (#[Value.int .i64 1, .int .i64 3] : Array Value)[i]? = some (.int .i64 uu) := by
            match i, hlt with
            | 0, _ => exact ⟨1, by decide, rfl⟩
            | 1, _ => exact ⟨3, by decide, rfl⟩
          have H1 := Lib.hid (HST.out uu)
          have H2 := Lib.hid (HAL.out uu)
          have HRD := Lib.hid (HRDS.out uu hu2)
          have HLN := Lib.hid (HLEN.out uu hu2)
          clear hu2
          have HLN4 := seqM_len ⟨f, t, p, k, fl, pg⟩ true ⟨true, sw, c, o, sn⟩ uu z
          generalize seqM ⟨f, t, p, k, fl, pg⟩ true ⟨true, sw, c, o, sn⟩ uu z = L at *
          generalize allowM p uu = al at *
          obtain ⟨n, hn⟩ : ∃ n, L.length = n := ⟨_, rfl⟩
          unfold IntsT at H1
          rw [hn] at H1 HLN
          have HN := Lib.hid hn
          have HN4 := Lib.hid (show n ≤ 4 from by rw [← hn]; exact HLN4)
          clear hn HLN4
          go_upto_region 9 with fail
          have HVD := Lib.hid HV.out.drew
          have HUD := Lib.hid HU.out.drew
          obtain ⟨c0, c1, c2, c3, c4, c5, s0, s1, s2, s3, s4, q0, q1, q2⟩ := HVD.out.cells
          have g0 := (HUD.out.cell i).trans huc
          go_still_tail 7, (by kernel_rfl)
          change wpList _ _ _ _ _ wr.drew
          generalize wr.drew = Y at *
          clear HV HU
          go_upto_region 10 with (
            go_at_call 12; (with_reducible refine (H1.out _ HVD.out.tab).mono ?_); rintro e v ⟨A1, p1, rfl, hr, hb⟩
            have HV := Lib.hid (HVD.out.on hb)
            have HU := Lib.hid (HUD.out.below hb HUD.out.lt)
            have HR := Lib.hid hr
            clear c0 c1 c2 c3 c4 c5 s0 s1 s2 s3 s4 q0 q1 q2 g0 hb hr HVD HUD)
          clear H1
          go_wp2_with fail
          have n4 := HN4.out
          go_loopw [12] (fun kv wr => ∃ k : Nat, k ≤ n ∧ kv = .int .i64 k ∧ wr = v) (fun kv _ => n - (intOf kv).toNat)
          case atStart => exact ⟨0, by omega, rfl, rfl⟩
          case round =>
            obtain ⟨j, hj, rfl, rfl⟩ := hrel
            have j0 : (0 : Int) ≤ (j : Int) := by omega
            by_cases hjn : j < n
            · have j2 : (j : Int) < (n : Int) := by omega
              have hjl : j < L.length := by rw [HN.out]; exact hjn
              obtain ⟨ad, rfl, -, d0, -⟩ := HR.out j hjl
              obtain ⟨a6, a7⟩ := HRD.out L[j] (List.getElem_mem hjl)
              generalize L[j] = a at d0 a6 a7
              have b6 : (a == 6) = false := by simpa using a6
              have b7 : (a == 7) = false := by simpa using a7
              clear hjl a6 a7
              go_wp2_with fail
              go_roundw
              case rel => exact ⟨j + 1, by omega, by go_num, by simp⟩
              case measure => simp [intOf]; omega
            · obtain rfl : j = n := by omega
              clear hjn j0 hj
              go_upto_region 15 with fail
              have HVD := Lib.hid HV.out.drew
              have HUD := Lib.hid HU.out.drew
              obtain ⟨c0, c1, c2, c3, c4, c5, s0, s1, s2, s3, s4, q0, q1, q2⟩ := HVD.out.cells
              have g0 := (HUD.out.cell i).trans huc
              go_still_tail 5, (by kernel_rfl)
              change wpList _ _ _ _ _ (World.drew _)
              generalize World.drew _ = Y at *
              clear HV HU HR HRD
              cases al
              · clear HLN
                go_wp2_with (go_at_call 14; (with_reducible refine (H2.out _ HVD.out.tab).mono ?_); rintro e v ⟨rfl, rfl⟩)
                go_roundw
                case rel => exact ⟨i + 1, by omega, by go_num, HVD, HUD⟩
                case measure => simp [intOf]; omega
              · have hln := HLN.out rfl
                have l1 : ((j : Int) != 1) = false := by simp; omega
                clear HLN
                go_wp2_with (go_at_call 14; (with_reducible refine (H2.out _ HVD.out.tab).mono ?_); rintro e v ⟨rfl, rfl⟩)
                go_roundw
                case rel => exact ⟨i + 1, by omega, by go_num, HVD, HUD⟩
                case measure => simp [intOf]; omega
        · have hi2 : i = 2 := by omega
          subst hi2
          go_wp2_with fail
          go_ret
          exact ⟨rfl, HV.out.below⟩

set_option maxRecDepth 100000 in
theorem lifted (os : Os) (started : os.Started) (H : Type) (enc : TypeId × Value → H) :
    ReturnsInHanded {} Tryd.checked os 6 .any (fun w args => (Rows.faultReadsSpec.pre enc Tryd.prog Tryd.f6 Rows.faultReadsRow.domain false w args ∧ laidMet Tryd.prog Rows.faultReadsRow.laid w) ∧ sizedMet enc Tryd.prog Tryd.f6 (OpenSpec.ofChange Rows.faultReadsSpec) false w args) (Rows.faultReadsSpec.post enc Tryd.prog Tryd.f6 false true false false) := by
  refine returnsInHanded_of_change_and (C := Tryd.checked) (X := fun w _ => laidMet Tryd.prog Rows.faultReadsRow.laid w) (fun _ _ _ hh h => h.of_heap hh) own started (by kernel_rfl) Tryd.func6
    (ChangeSpec.witness_at (enc := enc) (C := Tryd.checked) (os := os) (X := fun w _ => laidMet Tryd.prog Rows.faultReadsRow.laid w) false (laidWorld os) #[zregM, zslotV, zaskV] 8 rfl (by kernel_rfl) (by kernel_rfl) (by kernel_rfl) (by kernel_rfl) (by kernel_rfl) (laid_met os _)) ?_
  intro W base args ds gs before hval0 hW hcnd _ hL _
  have hval : ∀ (j : Nat) t v, Tryd.f6.params[j]? = some t → args[j]? = some v → Value.okWide Tryd.prog W .any base t v := hval0
  have hW' := hW
  obtain ⟨p, q, hA0, hV, rfl, hfz, hnd⟩ := hW
  have hA : DataW.TrodAll enc Tryd.prog W 0 (fun _ => true) true Tryd.f6.params.toList args.toList ds p := hA0
  rw [Tryd.params6] at hA hval
  obtain ⟨v0, vs0, d0, ds0, p0, q0, hargs, rfl, rfl, h0, r0⟩ := trodAll_cons hA
  obtain ⟨v1, vs1, d1, ds1, p1, q1, rfl, rfl, rfl, h1, r1⟩ := trodAll_cons r0
  obtain ⟨v2, vs2, d2, ds2, p2, q2, rfl, rfl, rfl, h2, r2⟩ := trodAll_cons r1
  obtain ⟨rfl, rfl, rfl⟩ := trodAll_nil r2
  obtain rfl : args = #[v0, v1, v2] := by cases args; simp_all
  obtain ⟨rfl, rfl⟩ := trodVars_none hV
  have k0 := h0
  have lt0 : ∀ x ∈ p0, x.block < W.heap.size := by obtain ⟨m, hm⟩ := k0; exact DataW.trod_lt m _ _ _ hm
  obtain ⟨a0, rfl, w0⟩ := open_regionU (hval 0 23 v0 rfl rfl) h0
  have k1 := h1
  have lt1 : ∀ x ∈ p1, x.block < W.heap.size := by obtain ⟨m, hm⟩ := k1; exact DataW.trod_lt m _ _ _ hm
  obtain ⟨a1, rfl, w1⟩ := open_slot (hval 1 25 v1 rfl rfl) h1
  have k2 := h2
  have lt2 : ∀ x ∈ p2, x.block < W.heap.size := by obtain ⟨m, hm⟩ := k2; exact DataW.trod_lt m _ _ _ hm
  obtain ⟨a2, rfl, w2⟩ := open_ask (hval 2 27 v2 rfl rfl) h2
  clear hA0 hval0
  refine (walk a0 a1 a2 W w0 w1 w2 (tab_of_laid hL)).mono fun e W' ⟨he, bel⟩ => ?_
  subst he
  exact ⟨_, rfl, _, _, _, [], _, [], hW', trodAll_mk1 (shut_bool Tryd.underlying4 _), (trodAll_cons_mk (Below.trod laidOut (by kernel_rfl) (of_decide_eq_true (by kernel_rfl)) k0 bel lt0) (trodAll_cons_mk (Below.trod laidOut (by kernel_rfl) (of_decide_eq_true (by kernel_rfl)) k1 bel lt1) (trodAll_cons_mk (Below.trod laidOut (by kernel_rfl) (of_decide_eq_true (by kernel_rfl)) k2 bel lt2) trodAll_mk0))), rfl, bel.frame _, fun h => by cases h⟩
theorem over : Rows.faultReadsRow.holds Tryd.pinned (OpenSpec.ofChange Rows.faultReadsSpec) :=
  OpenClaim.holds_of_wide 6 Tryd.f6 rfl rfl rfl rfl rfl rfl rfl ⟨rfl, rfl, rfl, rfl, rfl⟩ rfl rfl rfl rfl rfl (by kernel_rfl) Tryd.func6 (by kernel_rfl)
    (of_decide_eq_true (by kernel_rfl)) (by unfold Func.isWrapper; first | (rw [if_pos (by decide +kernel)]; kernel_rfl) | (rw [if_neg (by decide +kernel)]; exact ⟨rfl, rfl⟩))
    (fun os started H enc _ => lifted os started H enc)
set_option maxRecDepth 100000 in
/-- The statement. -/
theorem proved : Rows.FaultReadsCardSaid :=
  Claim7.holds_tied_plain_at .later [] [.data] true _ false over (fun _ h => by cases h) (by kernel_rfl) (fun _ h => by cases h) faultReads_row_tie rfl ⟨rfl, rfl⟩ (by kernel_rfl) rfl
    (fun f fn hf hfn => by
      obtain rfl : f = 6 := Option.some.inj (hf.symm.trans (by kernel_rfl))
      obtain rfl : fn = Tryd.f6 := Option.some.inj (hfn.symm.trans Tryd.func6)
      refine ⟨by kernel_rfl, fun j t ht => ?_⟩
      rw [Tryd.params6] at ht
      match j, ht with
      | 0, ht =>
        obtain rfl : t = 23 := by simpa using ht.symm
        exact (by kernel_rfl : Tryd.pinned.checked.prog.wantsStandIn 23 = false)
      | 1, ht =>
        obtain rfl : t = 25 := by simpa using ht.symm
        exact (by kernel_rfl : Tryd.pinned.checked.prog.wantsStandIn 25 = false)
      | 2, ht =>
        obtain rfl : t = 27 := by simpa using ht.symm
        exact (by kernel_rfl : Tryd.pinned.checked.prog.wantsStandIn 27 = false)
      | j + 3, ht => simp at ht)
    (by kernel_rfl)
end Go.Proofs.YtdfokgfcohfgeaaDoor.lawReads16
