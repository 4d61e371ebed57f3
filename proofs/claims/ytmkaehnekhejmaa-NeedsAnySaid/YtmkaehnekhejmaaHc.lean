/- The reference of layer 12: Round. -/
import Derived.Test.YtmkaehnekhejmaaHb
namespace Go.Proofs.Ytmkaehnekhejmaa
open Go.RowKit
set_option linter.unusedVariables false
set_option linter.unusedSimpArgs false

theorem belowD {n : Nat} {w w' : World} (h : Below n w w') (q : Nat) : Below n w (w'.drewN q) := by
  induction q with
  | zero => rw [World.drewN_zero]; exact h
  | succ q ih => exact ih.drew
def rndZ (L : List Lb) (x z : ByteArray) : Bool := there L z && decide (x ∈ (cloW L z).N)
def rndX (L : List Lb) (x : ByteArray) : Bool := (needOf L x).any fun z => rndZ L x z
theorem rndW_X (L : List Lb) (r : ByteArray) : rndW L r = (cloW L r).N.any (rndX L) := rfl
theorem depW_cases (L : List Lb) (z x : ByteArray) : (x ∈ (cloW L z).N ∧ ∃ d : Nat, depW L z x = d) ∨ (x ∉ (cloW L z).N ∧ depW L z x = -1) := by
  by_cases h : x ∈ (cloW L z).N
  · exact .inl ⟨h, _, by unfold depW; rw [if_pos h]⟩
  · exact .inr ⟨h, by unfold depW; rw [if_neg h]⟩
theorem any_take {α : Type} {f : α → Bool} {l : List α} {k : Nat} (hk : k < l.length) (h : (l.take k).any f = false) (h1 : f l[k] = false) : (l.take (k + 1)).any f = false := by
  rw [List.take_succ_eq_append_getElem hk, List.any_append, h]
  simp [h1]
theorem any_yes {α : Type} {f : α → Bool} {l : List α} {k : Nat} (hk : k < l.length) (h1 : f l[k] = true) : l.any f = true := List.any_eq_true.2 ⟨_, List.getElem_mem hk, h1⟩
set_option maxRecDepth 100000 in
set_option maxHeartbeats 12800000 in
theorem rround_any (L : List Lb) (r : ByteArray) (A : Option Addr) (c : Nat) (w : World) (h : LibRow w A L) (hL : L.length ≤ 255) (hr : r.size ≤ maxLen) :
    Calls Try.prog 15 #[.slice A L.length c, .string r] w fun e w' => e = .returned (.bool (rndW L r)) ∧ Below w.heap.size w w' := by
  have HO := Lib.hid (of_any L r A c w h hL hr)
  have HFI := Lib.hid (fun x v (hv : Below w.heap.size w v) => find_any w L x A c v h hv (by omega))
  have HDE := Lib.hid (fun z x v (hv : Below w.heap.size w v) (hz : z.size ≤ maxLen) => rdepth_any L z x A c v (h.below rfl hv) hL hz)
  have hfew := (clo_inv L r).many
  have HNL := Lib.hid (fun x => need_le h.small.1 x)
  obtain ⟨l, hl⟩ : ∃ l, L.length = l := ⟨_, rfl⟩
  obtain ⟨rv, hrv⟩ : ∃ rv, rndW L r = rv := ⟨_, rfl⟩
  have hrX := rndW_X L r
  rw [hrv] at hrX
  obtain ⟨S, hS⟩ : ∃ S, cloW L r = S := ⟨_, rfl⟩
  obtain ⟨n, hn⟩ : ∃ n, S.N.length = n := ⟨_, rfl⟩
  obtain ⟨m, hm⟩ : ∃ n, S.M.length = n := ⟨_, rfl⟩
  unfold OfT at HO
  rw [hS, hl, hn, hm] at HO
  rw [hS] at hrX
  rw [hS, hl, hn] at hfew
  rw [hl] at hL HFI HDE ⊢
  rw [hrv]
  have HN := Lib.hid hn
  have HRX := Lib.hid hrX
  clear h hn hm hl hS hrv hrX
  go_enter Try.func15, Try.ntmps15
  go_upto_region 2 with (go_at_call 13; refine HO.out.mono ?_; rintro e w1 ⟨A1, c1, A2, c2, A3, c3, rfl, hr1, -, -, hb⟩)
  obtain ⟨G, hG⟩ : ∃ G, w1.heap.size = G := ⟨_, rfl⟩
  have hB := Blk.new w1 35 #[.slice A1 n c1, .slice A2 n c2, .slice A3 m c3]
  have hb1 : Below w1.heap.size w1 (w1.alloc (.cells #[.slice A1 n c1, .slice A2 n c2, .slice A3 m c3] 35)) := (Below.refl _ _).alloc (Nat.le_refl _) _
  generalize hW : w1.alloc (.cells #[.slice A1 n c1, .slice A2 n c2, .slice A3 m c3] 35) = W
  rw [hW] at hB hb1
  have HB := Lib.hid (hb.trans (hb1.mono hb.size))
  have HR1 := Lib.hid (strRow_belowG hr1 rfl hb1)
  rw [hG] at hB ⊢
  have HBG := Lib.hid hB
  have HV := Lib.hid (fun v (hv : Below W.heap.size W v) => show Below w.heap.size w v from HB.out.trans (hv.mono HB.out.size))
  clear hW hB hb1 hb hr1 hG
  go_wp2_with fail
  go_loopw [6] (fun z wr => ∃ k : Nat, k ≤ n ∧ z = .int .i64 k ∧ Hid ((S.N.take k).any (rndX L) = false) ∧ Hid (Below W.heap.size W wr)) (fun z _ => n - (intOf z).toNat)
  case atStart => exact ⟨0, Nat.zero_le _, rfl, Lib.hid (by simp), Lib.hid (Below.refl _ _)⟩
  case round =>
    obtain ⟨k, hk, rfl, HS, HLW⟩ := hrel
    have x0 := (HBG.out.below HLW.out HBG.out.lt).cell 0
    by_cases hlt : k < n
    · have hk1 : k < S.N.length := by rw [HN.out]; exact hlt
      obtain ⟨ad, rfl, -, c0, -⟩ := strRow_belowG HR1.out rfl HLW.out k hk1
      have hk0 : (0 : Int) ≤ (k : Int) := by omega
      have hk2 : (k : Int) < (n : Int) := by omega
      have HTK := Lib.hid (fun (h : rndX L S.N[k] = false) => any_take hk1 HS.out h)
      have HYS := Lib.hid (fun (h : rndX L S.N[k] = true) => show rv = true from by rw [HRX.out]; exact any_yes hk1 h)
      have HNM := Lib.hid (fun v (hv : Below W.heap.size W v) => show v.cell? ⟨G, 0, none⟩ = some (.slice (some ad) n c1) ∧ v.cell? (ad.add k) = some (.string S.N[k]) from by
        refine ⟨(HBG.out.below hv HBG.out.lt).cell 0, ?_⟩
        obtain ⟨ad', h1, -, c0, -⟩ := strRow_belowG HR1.out rfl hv k hk1
        injection h1 with h1
        subst h1
        exact c0)
      generalize S.N[k] = nm at c0 HTK HYS HNM
      have HVW := Lib.hid (HV.out wr HLW.out)
      obtain ⟨m2, hm2⟩ : ∃ m, (needOf L nm).length = m := ⟨_, rfl⟩
      have hml := HNL.out nm
      have HFN := Lib.hid (HFI.out nm wr HVW.out)
      unfold FindT at HFN
      rw [hm2] at hml HFN
      have HM := Lib.hid hm2
      clear hm2 hk1
      go_upto_region 6 with (go_at_call 20; refine HFN.out.mono ?_; rintro e v5 ⟨A5, c5, rfl, hr5, rfl⟩)
      have HR5 := Lib.hid hr5
      clear hr5 x0 c0 HFN
      go_wp2_with fail
      go_loopw [9] (fun z wr => ∃ j : Nat, j ≤ m2 ∧ z = .int .i64 j ∧ Hid (((needOf L nm).take j).any (rndZ L nm) = false) ∧ Hid (Below W.heap.size W wr)) (fun z _ => m2 - (intOf z).toNat)
      case atStart => exact ⟨0, Nat.zero_le _, rfl, Lib.hid (by simp), HLW⟩
      case round =>
        obtain ⟨j, hj, rfl, HSJ, HLJ⟩ := hrel
        by_cases hlj : j < m2
        · have hj1 : j < (needOf L nm).length := by rw [HM.out]; exact hlj
          obtain ⟨x0, c0⟩ := HNM.out _ HLJ.out
          have HVJ := Lib.hid (HV.out _ HLJ.out)
          obtain ⟨ad5, rfl, -, d0, hzs⟩ := strRow_belowG HR5.out rfl HVJ.out j hj1
          have hj0 : (0 : Int) ≤ (j : Int) := by omega
          have hj2 : (j : Int) < (m2 : Int) := by omega
          have HT2 := Lib.hid (fun (h : rndZ L nm (needOf L nm)[j] = false) => any_take hj1 HSJ.out h)
          have HY2 := Lib.hid (fun (h : rndZ L nm (needOf L nm)[j] = true) => HYS.out (any_yes hj1 h))
          generalize (needOf L nm)[j] = z at d0 hzs HT2 HY2
          obtain ⟨th, hth⟩ : ∃ b, there L z = b := ⟨_, rfl⟩
          have HFN := Lib.hid (HFI.out z _ HVJ.out)
          unfold FindT at HFN
          rw [hth] at HFN
          clear hj1
          cases th with
          | false =>
            have HS3 := Lib.hid (HT2.out (by unfold rndZ; rw [hth]; rfl))
            clear HT2 HY2 hth
            go_upto_region 10 with (go_at_call 20; refine HFN.out.mono ?_; rintro e v6 ⟨A6, c6, rfl, -, rfl⟩)
            go_quiet (fail)
            go_wp2_with fail
            go_roundw
            case rel => exact ⟨j + 1, by omega, by go_num, HS3, Lib.hid (belowD HLJ.out _)⟩
            case measure => simp [intOf]; omega
          | true =>
            have HDC := Lib.hid (depW_cases L z nm)
            have HDZ := Lib.hid (fun v (hv : Below w.heap.size w v) => HDE.out z nm v hv hzs)
            obtain ⟨dv, hdv⟩ : ∃ d, depW L z nm = d := ⟨_, rfl⟩
            rw [hdv] at HDC HDZ
            have hres : (dv ≥ 0 ∧ rndZ L nm z = true) ∨ (¬ dv ≥ 0 ∧ rndZ L nm z = false) := by
              rcases HDC.out with ⟨h1, d, h2⟩ | ⟨h1, h2⟩
              · exact .inl ⟨by omega, by unfold rndZ; rw [hth, decide_eq_true h1]; rfl⟩
              · exact .inr ⟨by omega, by unfold rndZ; rw [hth, decide_eq_false h1]; rfl⟩
            clear hdv HDC hth
            go_upto_region 10 with (go_at_call 20; refine HFN.out.mono ?_; rintro e v6 ⟨A6, c6, rfl, -, rfl⟩)
            obtain ⟨bv, hbv⟩ : ∃ b, decide (dv ≥ 0) = b := ⟨_, rfl⟩
            have hres2 : rndZ L nm z = bv := by
              rcases hres with ⟨h1, h2⟩ | ⟨h1, h2⟩
              · rw [← hbv, h2, decide_eq_true h1]
              · rw [← hbv, h2]; exact (decide_eq_false (p := dv ≥ 0) (by omega)).symm
            rw [hres2] at HT2 HY2
            clear hres hres2
            go_still_tail 12, (by kernel_rfl)
            change wpList _ _ _ _ _ v6.drew
            have x0' : v6.drew.cell? ⟨G, 0, none⟩ = _ := x0
            have c0' : v6.drew.cell? (ad.add k) = _ := c0
            have d0' : v6.drew.cell? (ad5.add j) = _ := d0
            have HVD := Lib.hid (belowD HVJ.out 1)
            have HLD := Lib.hid (belowD HLJ.out 1)
            go_upto_if 61 with (go_at_call 25; refine (HDZ.out _ HVD.out).mono ?_; rintro e v7 ⟨rfl, hb7⟩; have HB7 := Lib.hid hb7; clear hb7)
            all_goals
              have HB8 := Lib.hid (show Below W.heap.size W v7 from HLD.out.trans (HB7.out.mono HLD.out.size))
              cases bv with
              | true =>
                have HF := Lib.hid (HY2.out rfl)
                have HB9 := Lib.hid (HV.out v7 HB8.out)
                go_wp2_with fail
                go_ret
                exact ⟨congrArg (fun b => Ending.returned (.bool b)) HF.out.symm, HB9.out⟩
              | false =>
                have HS3 := Lib.hid (HT2.out rfl)
                go_wp2_with fail
                go_roundw
                case rel => exact ⟨j + 1, by omega, by go_num, HS3, HB8⟩
                case measure => simp [intOf]; omega
        · obtain rfl : j = m2 := by omega
          have HS4 := Lib.hid (HTK.out (by
            have := HSJ.out
            rw [List.take_of_length_le (by rw [HM.out]; exact Nat.le_refl _)] at this
            exact this))
          go_wp2_with fail
          go_roundw
          case rel => exact ⟨k + 1, by omega, by go_num, HS4, HLJ⟩
          case measure => simp [intOf]; omega
    · obtain rfl : k = n := by omega
      have HF := Lib.hid (show rv = false from by
        have := HS.out
        rw [List.take_of_length_le (by rw [HN.out]; exact Nat.le_refl _)] at this
        rw [HRX.out]; exact this)
      have HB8 := Lib.hid (HV.out wr HLW.out)
      go_wp2
      go_ret
      exact ⟨congrArg (fun b => Ending.returned (.bool b)) HF.out.symm, HB8.out⟩
end Go.Proofs.Ytmkaehnekhejmaa
