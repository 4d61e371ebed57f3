/- The reference of layer 13: All. -/
import Derived.Test.YtfoapghjloblnaaIu
import Derived.Test.YtfoapghjloblnaaIp
import Derived.Test.YtfoapghjloblnaaIx
import Derived.Maps.AppendAt
import Derived.Deep.CutRange
namespace Go.Proofs.Ytfoapghjloblnaa
open Go.RowKit Go.ChangeShapes Go.WideShapes Go.Deep
set_option linter.unusedVariables false
set_option linter.unusedSimpArgs false

theorem standI {low high : Int} {l P : List (Int × Int)} {k : Nat} (hb : BndI low high) (ht : l.all thingP = true) (h : goP low high [] (l.take k) = some P) (hk : k ≤ l.length) : StandI l P ∧ P.length = k := by
  have hlen := goP_length low high _ _ _ h
  rw [List.length_take] at hlen
  simp only [List.length_nil] at hlen
  have htk : ∀ x ∈ l.take k, thingP x = true := fun x hx => List.all_eq_true.1 ht x (List.mem_of_mem_take hx)
  have hf := goP_fol hb.2.2.2.1 htk h
  unfold BndI at hb
  refine ⟨⟨by omega, fun i hi hi2 => ?_, fun i hi => ?_⟩, by omega⟩
  · have := hf.size i hi (by rw [List.length_take]; omega)
    rw [this, List.getElem_take]
  · have h1 := hf.inr i hi
    have hil : i < (l.take k).length := by rw [List.length_take]; omega
    have h2 := hf.size i hi hil
    have h3 := thing_bounds (htk _ (List.getElem_mem hil))
    have h4 := rndP_pos h3.1 h3.2.1
    rw [← h2] at h4
    omega
set_option maxRecDepth 100000 in
set_option maxHeartbeats 6400000 in
theorem rallI (l : List (Int × Int)) (A : Option Addr) (c : Nat) (low high : Int) (w : World) (hr : WRow w A l) (hl : l.length ≤ 100) (hlw : (Lit.int .i64 low).wf = true) (hhw : (Lit.int .i64 high).wf = true) :
    Calls Try.prog 7 #[.slice A l.length c, .int .i64 low, .int .i64 high] w fun e w' => AllR l low high w w' e := by
  have HRM := Lib.hid (fun v => rroomI low high v hlw hhw)
  obtain ⟨rm, hrm⟩ : ∃ b, roomP low high = b := ⟨_, rfl⟩
  rw [hrm] at HRM
  obtain ⟨n, hn⟩ : ∃ n, l.length = n := ⟨_, rfl⟩
  rw [hn] at hl ⊢
  have HN := Lib.hid hn
  have HR := Lib.hid hr
  cases rm with
  | false =>
    have HA := Lib.hid (allP_room (l := l) hrm)
    clear hrm hr hlw hhw hn
    go_enter Try.func7, Try.ntmps7
    go_wp2_with (go_at_call 16; refine (HRM.out _).mono ?_; rintro e v ⟨rfl, hv⟩; rw [hv]; clear hv v)
    go_ret2
    exact ⟨none, 0, by rw [HA.out]; rfl, by rw [HA.out]; exact intRow_nil _ _, Below.refl _ _⟩
  | true =>
    have hb := roomP_bnd hrm
    have HB := Lib.hid hb
    have HRP := Lib.hid hrm
    clear hr hlw hhw hn hb hrm
    go_enter Try.func7, Try.ntmps7
    go_wp2_with (go_at_call 16; refine (HRM.out _).mono ?_; rintro e v ⟨rfl, hv⟩; rw [hv]; clear hv v)
    clear HRM
    go_loopw [9] (fun z wr => ∃ k : Nat, k ≤ n ∧ z = .int .i64 k ∧ Hid ((l.take k).all thingP = true) ∧ wr = w) (fun z _ => n - (intOf z).toNat)
    case atStart => exact ⟨0, Nat.zero_le _, rfl, Lib.hid (by simp), rfl⟩
    case round =>
      obtain ⟨k, hk, rfl, HT, rfl⟩ := hrel
      by_cases hlt : k < n
      · have hk1 : k < l.length := by rw [HN.out]; exact hlt
        obtain ⟨ad, rfl, -, -, -, c0, c1⟩ := HR.out.at_ hk1
        have hk0 : (0 : Int) ≤ (k : Int) := by omega
        have hk2 : (k : Int) < (n : Int) := by omega
        have HT2 := Lib.hid (fun (h : thingP l[k] = true) => all_takeI hk1 HT.out h)
        have HF := Lib.hid (fun (h : thingP l[k] = false) => show allP l low high = ([], 1) from allP_thing (all_noI hk1 h))
        generalize l[k] = x at c0 c1 HT2 HF
        clear hk1
        have HX := Lib.hid (show thingP x = (decide (1 ≤ x.1) && decide (x.1 ≤ 1099511627776) && decide (0 ≤ x.2) && decide (x.2 ≤ 1099511627776)) from rfl)
        by_cases h1 : x.1 < 1
        · have HA := Lib.hid (HF.out (by rw [HX.out]; simp; omega))
          go_wp2_with fail
          go_ret2
          exact ⟨none, 0, by rw [HA.out]; rfl, by rw [HA.out]; exact intRow_nil _ _, Below.refl _ _⟩
        · by_cases h2 : 1099511627776 < x.1
          · have HA := Lib.hid (HF.out (by rw [HX.out]; simp; omega))
            go_wp2_with fail
            go_ret2
            exact ⟨none, 0, by rw [HA.out]; rfl, by rw [HA.out]; exact intRow_nil _ _, Below.refl _ _⟩
          · by_cases h3 : x.2 < 0
            · have HA := Lib.hid (HF.out (by rw [HX.out]; simp; omega))
              go_wp2_with fail
              go_ret2
              exact ⟨none, 0, by rw [HA.out]; rfl, by rw [HA.out]; exact intRow_nil _ _, Below.refl _ _⟩
            · by_cases h4 : 1099511627776 < x.2
              · have HA := Lib.hid (HF.out (by rw [HX.out]; simp; omega))
                go_wp2_with fail
                go_ret2
                exact ⟨none, 0, by rw [HA.out]; rfl, by rw [HA.out]; exact intRow_nil _ _, Below.refl _ _⟩
              · have HTT := Lib.hid (HT2.out (by rw [HX.out]; simp; omega))
                go_wp2_with fail
                go_roundw
                case rel => exact ⟨k + 1, by omega, by go_num, HTT, by simp⟩
                case measure => simp [intOf]; omega
      · have hkn : k = n := by omega
        have hth : l.all thingP = true := by
          have h := HT.out
          rw [hkn, ← HN.out, List.take_length] at h
          exact h
        have HTH := Lib.hid hth
        have HAG := Lib.hid (allP_go HRP.out hth)
        subst hkn
        clear HT hth hlt hk
        obtain ⟨i0, hi, hz0, hz1, hz2⟩ := info_parts infoInt
        obtain ⟨R, hR⟩ : ∃ R, wr.heap.size = R := ⟨_, rfl⟩
        obtain ⟨W0, hW0⟩ : ∃ W0, wr = W0 := ⟨_, rfl⟩
        have HSZ := Lib.hid (show W0.heap.size = R from by rw [← hW0]; exact hR)
        have HFIN := Lib.hid (fun W' (h : Below R W0 W') => show Below wr.heap.size wr W' from by rw [hR, hW0]; exact h)
        have HST0 := Lib.hid (show Below R W0 wr from by rw [hW0]; exact Below.refl _ _)
        have HR0 := Lib.hid (show WRow W0 A l from by rw [← hW0]; exact HR.out)
        clear hR hW0 HR
        have hkk : ¬ ((k : Int) < (k : Int)) := by omega
        go_wp2_with fail
        clear hkk
        go_loopw [10, 11] (fun a z wr => ∃ (j : Nat) (P : List (Int × Int)) (A2 : Option Addr) (c2 : Nat), j ≤ k ∧ z = .int .i64 j ∧ a = .slice A2 j c2 ∧ Hid (goP low high [] (l.take j) = some P) ∧ Hid (wr.ownsRow R 3 1 (.slice A2 j c2) j ((P.map Prod.fst).map (Value.int .i64))) ∧ Hid (Below R W0 wr)) (fun _ z _ => k - (intOf z).toNat)
        case atStart => exact ⟨0, [], none, 0, Nat.zero_le _, rfl, rfl, Lib.hid rfl, Lib.hid ⟨rfl, .inl ⟨rfl, rfl⟩⟩, HST0⟩
        case round =>
          obtain ⟨j, P, A2, c2, hj, rfl, rfl, HG, HO, HL⟩ := hrel
          by_cases hlt : j < k
          · have hj1 : j < l.length := by rw [HN.out]; exact hlt
            obtain ⟨hst, hPl⟩ := standI (k := j) HB.out HTH.out HG.out (by omega)
            obtain ⟨ad, rfl, -, wf0, wf1, c0, c1⟩ := (HR0.out.below HSZ.out.symm HL.out).at_ hj1
            have hxt : thingP l[j] = true := List.all_eq_true.1 HTH.out l[j] (List.getElem_mem hj1)
            have hnx := goP_next (low := low) (high := high) hj1 HG.out
            have hwfP : ∀ z ∈ P.map Prod.fst, (Lit.int .i64 z).wf = true := fun z hz => by
              obtain ⟨y, hy, rfl⟩ := List.mem_map.1 hz
              obtain ⟨i, hi, rfl⟩ := List.getElem_of_mem hy
              have := hst.ok i hi
              exact wf_I (by omega) (by omega)
            have hlN := HN.out
            have hl1000 : l.length ≤ 1000 := by omega
            generalize l[j] = x at c0 c1 wf0 wf1 hxt hnx
            obtain ⟨x1, x2⟩ := x
            have hbn := thing_bounds hxt
            have hrn := rndP_pos hbn.1 hbn.2.1
            have hbb := HB.out
            have hro := fun v => rroundI x1 v wf0
            have hfi := fun v (hv : Below wr.heap.size wr v) => rfitsI l P (some ad) A2 c c2 low high x2 (rndP x1) v ((HR0.out.below HSZ.out.symm HL.out).below rfl hv) (intRow_own (B := R) (n := j) (c := c2) (own_below HO.out hv) hwfP) hst hl1000 hbb ⟨hbn.2.2.1, by have := hbn.2.2.2; omega⟩ ⟨hrn.2.1, hrn.2.2.1⟩
            have hfr := fun v (hv : Below wr.heap.size wr v) => rfreeI l P (some ad) A2 c c2 low high x1 v ((HR0.out.below HSZ.out.symm HL.out).below rfl hv) (intRow_own (B := R) (n := j) (c := c2) (own_below HO.out hv) hwfP) hst hl1000 hbb HRP.out hbn.1 hbn.2.1
            rw [hPl, hlN] at hfi hfr
            obtain ⟨n1, hn1⟩ : ∃ n1, rndP x1 = n1 := ⟨_, rfl⟩
            have hsp : stepP P low high (x1, x2) = if (decide (x2 ≠ 0) && decide (x2 % 64 = 0) && fitP P low high x2 n1) = true then some x2 else freeP P low high n1 := by
              rw [← hn1]; rfl
            have hnx2 : goP low high [] (l.take (j + 1)) = (stepP P low high (x1, x2)).map fun a => P ++ [(a, n1)] := by rw [hnx, ← hn1]
            rw [hn1] at hro hfi hfr
            obtain ⟨ft, hft⟩ : ∃ b, fitP P low high x2 n1 = b := ⟨_, rfl⟩
            rw [hft] at hfi hsp
            obtain ⟨fe, hfe⟩ : ∃ b, freeP P low high n1 = b := ⟨_, rfl⟩
            rw [hfe] at hfr hsp
            have HRO := Lib.hid hro
            have HFI := Lib.hid hfi
            have HFR := Lib.hid hfr
            have HSP := Lib.hid hsp
            have HNX := Lib.hid hnx2
            have hj0 : (0 : Int) ≤ (j : Int) := by omega
            have hj2 : (j : Int) < (k : Int) := by omega
            have e64 : Int.tmod x2 64 = x2 % 64 := Int.tmod_eq_emod_of_nonneg hbn.2.2.1
            have HPL := Lib.hid hPl
            clear hst hPl hxt hnx hwfP hlN hl1000 hbn hrn hbb hro hfi hfr hsp hnx2 hn1 hft hfe wf0 wf1 hj1
            go_upto_region 15 with (first
              | (go_at_call 18; refine (HRO.out _).mono ?_; rintro e v ⟨rfl, hv⟩; rw [hv]; clear hv v)
              | (go_at_call 17; refine (HFI.out _ (Below.refl _ _)).mono ?_; rintro e v ⟨rfl, q, rfl⟩))
            have hV : Below wr.heap.size wr (wr.drewN q) := belowD (Below.refl _ _) q
            have c0' : (wr.drewN q).cell? (ad.add (j * 2)) = some (.int .i64 x1) := c0
            generalize wr.drewN q = V at hV c0' ⊢
            have HV := Lib.hid hV
            clear hV c0 c1
            obtain ⟨lk, hlk⟩ : ∃ b, (decide (x2 ≠ 0) && decide (x2 % 64 = 0) && ft) = b := ⟨_, rfl⟩
            have HLK := Lib.hid hlk
            have hsp2 := HSP.out
            rw [hlk] at hsp2
            have HSP2 := Lib.hid hsp2
            clear hlk hsp2 HSP
            go_cut [90] from 80 to 89 (fun b wx => b = .bool (!lk) ∧ wx = V)
            case first =>
              have hlk := HLK.out
              by_cases z0 : x2 = 0
              · subst z0
                obtain rfl : lk = false := by rw [← hlk]; rfl
                go_wp2_with fail
                go_meet
                exact ⟨rfl, rfl⟩
              · have z1 : (x2 == 0) = false := by simpa using z0
                by_cases z2 : x2 % 64 = 0
                · have z3 : (x2 % 64 != 0) = false := by simpa using z2
                  have z4 : (x2 % 64 == 0) = true := by simpa using z2
                  obtain rfl : lk = ft := by rw [← hlk]; simp [z0, z2]
                  clear hlk z0
                  go_wp2_with fail
                  go_meet
                  exact ⟨rfl, rfl⟩
                · have z3 : (x2 % 64 != 0) = true := by simpa using z2
                  have z4 : (x2 % 64 == 0) = false := by simpa using z2
                  obtain rfl : lk = false := by rw [← hlk]; simp [z2]
                  obtain ⟨y, hy⟩ : ∃ y, x2 % 64 = y := ⟨_, rfl⟩
                  rw [hy] at e64 z3 z4
                  clear hlk z0 z2 hy
                  go_wp2_with fail
                  go_meet
                  exact ⟨rfl, rfl⟩
            case rest =>
              obtain ⟨hc1, hc2⟩ := hcut
              subst hc1
              rw [hc2]
              clear hc2
              cases lk with
              | true =>
                have HOV := Lib.hid (own_below HO.out HV.out)
                have HLV := Lib.hid (HL.out.trans (HV.out.mono (by have := HL.out.size; have := HSZ.out; omega)))
                have HGN := Lib.hid (show goP low high [] (l.take (j + 1)) = some (P ++ [(x2, n1)]) from by rw [HNX.out, HSP2.out]; rfl)
                have hRV : R ≤ V.heap.size := by have := HLV.out.size; have := HSZ.out; omega
                go_wp2_with (at_builtin; refine wpList_append_own _ rfl _ _ 25 rfl R 3 i0 (.int .i64 0) 1 8 Try.underlying25 hi hz0 hz1 hz2 rfl (by decide) (.slice A2 j c2) j ((P.map Prod.fst).map (Value.int .i64)) rfl (HOV.out.alloc _) ⟨V.heap.size, 0, none⟩ 1 1 [.int .i64 x2] rfl rfl (cell_oneI _ _ _) (ints_oneCell .i64 [x2]) (by unfold maxLen; omega) (by omega) (by simp; omega) ?_; intro v' w4 hown4 hgrow4 _
                             obtain ⟨A4, c4, hv4⟩ := own_slice hown4
                             subst hv4)
                have HO4 := Lib.hid (show w4.ownsRow R 3 1 (.slice A4 (j + 1) c4) (j + 1) (((P ++ [(x2, n1)]).map Prod.fst).map (Value.int .i64)) from by rw [List.map_append, List.map_append]; exact hown4)
                have HL4 := Lib.hid (show Below R W0 w4 from (HLV.out.alloc hRV (.cells #[.int .i64 x2] 3)).trans ⟨hgrow4.os, hgrow4.tape, hgrow4.output, hgrow4.size, fun i hi' => hgrow4.block i (by simp; omega) (fun e => by have := (own_lo HOV.out e.symm).1; omega)⟩)
                clear hown4 hgrow4
                go_roundw
                case rel => exact ⟨j + 1, P ++ [(x2, n1)], A4, c4, by omega, by go_num, rfl, HGN, HO4, HL4⟩
                case measure => simp [intOf]; omega
              | false =>
                have HFV := Lib.hid (HFR.out V HV.out)
                cases fe with
                | none =>
                  have HAN := Lib.hid (show allP l low high = ([], 18) from by
                    have h1 : goP low high [] (l.take (j + 1)) = none := by rw [HNX.out, HSP2.out]; rfl
                    have := HAG.out
                    rw [goP_none h1] at this
                    exact this)
                  go_wp2_with (go_at_call 19; refine HFV.out.mono ?_; rintro e v5 ⟨rfl, q5, rfl⟩)
                  go_ret2
                  refine ⟨none, 0, by rw [HAN.out]; rfl, by rw [HAN.out]; exact intRow_nil _ _, HFIN.out _ (belowD ?_ _)⟩
                  exact HL.out.trans (HV.out.mono (by have := HL.out.size; have := HSZ.out; omega))
                | some b =>
                  go_upto_region 17 with (go_at_call 19; refine HFV.out.mono ?_; rintro e v5 ⟨rfl, q5, rfl⟩)
                  have hV5 : Below wr.heap.size wr (V.drewN q5) := belowD HV.out _
                  generalize V.drewN q5 = V5 at hV5 ⊢
                  have HV5 := Lib.hid hV5
                  clear hV5
                  have HOV := Lib.hid (own_below HO.out HV5.out)
                  have HLV := Lib.hid (HL.out.trans (HV5.out.mono (by have := HL.out.size; have := HSZ.out; omega)))
                  have HGN := Lib.hid (show goP low high [] (l.take (j + 1)) = some (P ++ [(b, n1)]) from by rw [HNX.out, HSP2.out]; rfl)
                  have hRV : R ≤ V5.heap.size := by have := HLV.out.size; have := HSZ.out; omega
                  go_wp2_with (at_builtin; refine wpList_append_own _ rfl _ _ 25 rfl R 3 i0 (.int .i64 0) 1 8 Try.underlying25 hi hz0 hz1 hz2 rfl (by decide) (.slice A2 j c2) j ((P.map Prod.fst).map (Value.int .i64)) rfl (HOV.out.alloc _) ⟨V5.heap.size, 0, none⟩ 1 1 [.int .i64 b] rfl rfl (cell_oneI _ _ _) (ints_oneCell .i64 [b]) (by unfold maxLen; omega) (by omega) (by simp; omega) ?_; intro v' w4 hown4 hgrow4 _
                               obtain ⟨A4, c4, hv4⟩ := own_slice hown4
                               subst hv4)
                  have HO4 := Lib.hid (show w4.ownsRow R 3 1 (.slice A4 (j + 1) c4) (j + 1) (((P ++ [(b, n1)]).map Prod.fst).map (Value.int .i64)) from by rw [List.map_append, List.map_append]; exact hown4)
                  have HL4 := Lib.hid (show Below R W0 w4 from (HLV.out.alloc hRV (.cells #[.int .i64 b] 3)).trans ⟨hgrow4.os, hgrow4.tape, hgrow4.output, hgrow4.size, fun i hi' => hgrow4.block i (by simp; omega) (fun e => by have := (own_lo HOV.out e.symm).1; omega)⟩)
                  clear hown4 hgrow4
                  go_roundw
                  case rel => exact ⟨j + 1, P ++ [(b, n1)], A4, c4, by omega, by go_num, rfl, HGN, HO4, HL4⟩
                  case measure => simp [intOf]; omega
          · have hjk : j = k := by omega
            have hgo : goP low high [] l = some P := by
              have := HG.out
              rw [hjk, ← HN.out, List.take_length] at this
              exact this
            obtain ⟨hst, hPl⟩ := standI (k := j) HB.out HTH.out HG.out (by rw [HN.out]; omega)
            have hv := HAG.out
            rw [hgo] at hv
            have hwfP : ∀ z ∈ P.map Prod.fst, (Lit.int .i64 z).wf = true := fun z hz => by
              obtain ⟨y, hy, rfl⟩ := List.mem_map.1 hz
              obtain ⟨i, hi, rfl⟩ := List.getElem_of_mem hy
              have := hst.ok i hi
              exact wf_I (by omega) (by omega)
            have HV := Lib.hid (show allP l low high = (P.map Prod.fst, 0) from hv)
            have HX := Lib.hid (And.intro hwfP hPl)
            subst hjk
            clear hgo hst hPl hv hwfP hj
            go_wp2_with fail
            go_ret2
            refine ⟨A2, c2, by rw [HV.out]; simp [HX.out.2], ?_, HFIN.out _ HL.out⟩
            rw [HV.out]
            exact intRow_own HO.out HX.out.1
end Go.Proofs.Ytfoapghjloblnaa
