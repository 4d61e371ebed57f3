/- RegionKeeps: for any changes, to 10, of an empty row, any pages from, to and any Perm by their rests: each page of the cut row has what it had, but those cut, which are none's; each page of the protected one has what it had, but the Perm of those protected; it is done if all of them are there. -/
import Derived.Test.YtmknkdfdkanijaaUKp
namespace Go.Proofs.Ytmknkdfdkanijaa.lawKeeps
open Go.ChangeShapes Go.WideShapes Go.ChangeAt Go.RowKit Go.Deep
set_option linter.unusedVariables false
set_option linter.unusedSimpArgs false

set_option maxRecDepth 100000 in
set_option maxHeartbeats 12800000 in
theorem walkB1 (A : Option Addr) (ops : List OpU) (c : Nat) (q0 q1 q2 : Int) (w : World) (hmax : ops.length ≤ maxLen) (hn10 : ops.length ≤ 10) (hlh9 : q0 % 64 < q1 % 64) (hrow : OpRow w A ops) (w0 : (Lit.int .i64 q0).wf = true) (w1 : (Lit.int .i64 q1).wf = true) (w2 : (Lit.int .i64 q2).wf = true) :
    Calls Try.prog 4 #[.slice A ops.length c, .agg #[.int .i64 q0, .int .i64 q1, .int .i64 q2]] w fun e w' => e = .returned (.bool true) ∧ Below w.heap.size w w' := by
  have HAW := Lib.hid (fun v => awake_anyU v)
  obtain ⟨n, hn⟩ : ∃ n, ops.length = n := ⟨_, rfl⟩
  have hn2 : n ≤ 9223372036854775807 := by unfold maxLen at hmax; omega
  have HN := Lib.hid hn
  have HN10 := Lib.hid (show n ≤ 10 from by omega)
  clear hn10
  rw [hn]
  obtain ⟨W, hW⟩ : ∃ W, w.alloc (.cells #[.int .i64 q0, .int .i64 q1, .int .i64 q2] 49) = W := ⟨_, rfl⟩
  have b0 : Blk W w.heap.size 49 #[.int .i64 q0, .int .i64 q1, .int .i64 q2] := by rw [← hW]; exact Blk.new _ _ _
  have hbw : Below w.heap.size w W := by rw [← hW]; exact (Below.refl _ _).alloc (Nat.le_refl _) _
  have HQ := Lib.hid (fun (x : World) (hx : Below W.heap.size W x) => show x.cell? ⟨w.heap.size, 0, none⟩ = some (.int .i64 q0) ∧ x.cell? ⟨w.heap.size, 1, none⟩ = some (.int .i64 q1) ∧ x.cell? ⟨w.heap.size, 2, none⟩ = some (.int .i64 q2) ∧ Hid (Below w.heap.size w x) from ⟨(b0.below hx b0.lt).at_ 0 _ rfl, (b0.below hx b0.lt).at_ 1 _ rfl, (b0.below hx b0.lt).at_ 2 _ rfl, Lib.hid (hbw.trans (hx.mono hbw.size))⟩)
  have HOP := Lib.hid (fun (x : World) (hx : Below W.heap.size W x) => hrow.below rfl (hbw.trans (hx.mono hbw.size)))
  have HW := Lib.hid hW
  have e0 := i64_and63U q0
  have e1 := i64_and63U q1
  have e2 := i64_and7U q2
  obtain ⟨lo, hlo⟩ : ∃ x : Nat, q0 % 64 = (x : Int) := ⟨(q0 % 64).toNat, by omega⟩
  obtain ⟨hi, hhi⟩ : ∃ x : Nat, q1 % 64 = (x : Int) := ⟨(q1 % 64).toNat, by omega⟩
  obtain ⟨cp, hcp⟩ : ∃ x, q2 % 8 = x := ⟨_, rfl⟩
  have hbd : lo ≤ 63 ∧ hi ≤ 63 ∧ 0 ≤ cp ∧ cp ≤ 7 := by omega
  rw [hlo] at e0
  rw [hhi] at e1
  rw [hcp] at e2
  have HV := Lib.hid (And.intro e0 (And.intro e1 e2))
  have HLH := Lib.hid (show lo < hi from by omega)
  clear hlh9 e0 e1 e2 hlo hhi hcp w0 w1 w2
  clear hmax hrow hn hW b0 hbw
  go_enter Try.func4, Try.ntmps4
  go_upto_region 1 with fail
  rw [HW.out]
  go_upto_region 2 with (go_at_call 9; refine (HAW.out _).mono ?_; rintro e v1 ⟨rfl, hb1⟩)
  have HB1 := Lib.hid hb1
  clear hb1
  go_wp2
  go_loopw [6, 7] (fun lv iv wr => ∃ (i : Nat) (A' : Option Addr) (m c' : Nat), i ≤ 10 ∧ i ≤ n ∧ iv = .int .i64 i ∧ lv = .slice A' m c' ∧ Hid (∃ L, RS wr A' m c' L ∧ RowP L ∧ Below W.heap.size W wr)) (fun _ iv _ => n - (intOf iv).toNat)
  case atStart => exact ⟨0, none, 0, 0, by omega, Nat.zero_le _, rfl, rfl, Lib.hid ⟨[], RS.nil _, RowP.nil, HB1.out⟩⟩
  case round =>
    clear HB1
    obtain ⟨i, A', m, c', hi10, hin, rfl, rfl, HI⟩ := hrel
    by_cases hlt : i < n ∧ i < 10
    · obtain ⟨h1, h2⟩ := hlt
      obtain ⟨L, hrs, hrow, hbl⟩ := HI.out
      have hil : i < ops.length := by rw [HN.out]; exact h1
      obtain ⟨ad, rfl, hwf, x0, x1, x2, x3, x4, x5, x6, x7, x8, x9, x10⟩ := (HOP.out wr hbl).at_ hil
      obtain ⟨o, ho⟩ : ∃ o, ops[i] = o := ⟨_, rfl⟩
      rw [ho] at hwf x0 x1 x2 x3 x4 x5 x6 x7 x8 x9 x10
      have hsm := fun v => small_any o v
      have HOF := Lib.hid (fun (v : World) (hv : Below wr.heap.size wr v) => of_any o.small L A' m c' v (hrs.below hv) hrow.asc hwf.small)
      have HST := Lib.hid (And.intro hrs (And.intro hrow hbl))
      obtain ⟨kd, f, t, p, inn, ⟨rf, rt, rp, rk, rfl', rpg⟩⟩ := o
      unfold OpU.cs at hsm
      simp only at x0 x1 x2 x3 x4 x5 x6 x7 x8 x9 x10 hsm
      have hof := HOF.out
      unfold OpU.cs at hof
      have HSM := Lib.hid hsm
      have HOG := Lib.hid hof
      have i0 : (0 : Int) ≤ (i : Int) := by omega
      have i1 : (i : Int) < (n : Int) := by omega
      have i2 : (i : Int) < 10 := by omega
      have i3 : decide ((i : Int) < (n : Int)) = true := decide_eq_true i1
      have i4 : decide ((i : Int) < 10) = true := decide_eq_true i2
      clear hsm hof HOF hrs hrow hbl hil ho hwf
      go_upto_region 7 with (first
        | (go_at_call 10; refine (HSM.out _).mono ?_; rintro e u1 ⟨rfl, hu1⟩)
        | (go_at_call 11; refine (HOG.out _ hu1).mono ?_; rintro e u2 ⟨A2, n2, c2, en, rfl, hen, hu2⟩))
      have hbu := hu1.trans (hu2.mono hu1.size)
      have HEN := Lib.hid hen
      have HBU := Lib.hid hbu
      clear x0 x1 x2 x3 x4 x5 x6 x7 x8 x9 x10 hu1 hu2 hen hbu
      by_cases hz : en = 0
      · subst hz
        go_wp2
        go_roundw
        case rel =>
          obtain ⟨L2, h3, h4, -⟩ := HEN.out rfl
          obtain ⟨hrs, hrow, hbl⟩ := HST.out
          exact ⟨i + 1, A2, n2, c2, by omega, by omega, by go_num, rfl, Lib.hid ⟨L2, h3, h4, hbl.trans (HBU.out.mono hbl.size)⟩⟩
        case measure => simp [intOf]; omega
      · have hz2 : (en == 0) = false := by simpa using hz
        go_wp2
        go_roundw
        case rel =>
          obtain ⟨hrs, hrow, hbl⟩ := HST.out
          exact ⟨i + 1, A', m, c', by omega, by omega, by go_num, rfl, Lib.hid ⟨L, hrs.below HBU.out, hrow, hbl.trans (HBU.out.mono hbl.size)⟩⟩
        case measure => simp [intOf]; omega
    · have hnn : ((i : Int) < (n : Int) → ¬ (i : Int) < 10) := fun h1 h2 => hlt ⟨by omega, by omega⟩
      obtain ⟨L, hrs, hrow, hbl⟩ := HI.out
      have HST := Lib.hid (And.intro hrs (And.intro hrow hbl))
      have hdd : (((i : Int) < (n : Int) ∧ i < n) ∧ (¬ (i : Int) < 10 ∧ ¬ i < 10)) ∨ (¬ (i : Int) < (n : Int) ∧ ¬ i < n) := by
        by_cases h1 : (i : Int) < (n : Int)
        · have := hnn h1; exact .inl ⟨⟨h1, by omega⟩, this, by omega⟩
        · exact .inr ⟨h1, by omega⟩
      clear hrs hrow hbl hnn hlt
      rcases hdd with hdd | hdd
      · exact absurd HN10.out (by omega)
      · obtain ⟨ha1, ha2⟩ := hdd
        have ha5 : decide ((i : Int) < (n : Int)) = false := decide_eq_false ha1
        have ha6 : decide (i < n) = false := decide_eq_false ha2
        obtain ⟨HS1, HS2, HS3⟩ := HST.out
        obtain ⟨y0, y1, y2, -⟩ := HQ.out wr HS3
        obtain ⟨e0, e1, e2⟩ := HV.out
        have hcok := cutL_ok HS2.asc (a := (lo : Int)) (b := max (lo : Int) (hi : Int)) (by omega)
        have hcu := cut_any L lo hi A' m c' wr HS1 HS2.asc ⟨by omega, by omega⟩ ⟨by omega, by omega⟩
        obtain ⟨C, hC⟩ : ∃ C, cutL L (lo : Int) (max (lo : Int) (hi : Int)) = C := ⟨_, rfl⟩
        rw [hC] at hcok hcu
        have HCU := Lib.hid hcu
        have HCAS := Lib.hid hcok.1.asc
        have HCUT := Lib.hid hcok.2
        have HROW := Lib.hid HS2.asc
        obtain ⟨nC, hnC⟩ : ∃ n, C.length = n := ⟨_, rfl⟩
        clear hcok hcu hC HS1 HS2
        go_upto_region 12 with (go_at_call 22; refine HCU.out.mono ?_; rintro e X ⟨A1, rfl, hX1, hX2⟩; rw [hnC] at hX1; rw [hnC])
        clear y0 y1 y2 e0 e1 e2
        have HSC0 := Lib.hid hX1
        have HSX := Lib.hid (And.intro HST.out.1 (And.intro HS3 hX2))
        clear hX1 hX2 HS3 hnC HCU
        have hlh := HLH.out
        by_cases hcov : (hi : Int) ≤ covF L (lo : Int)
        · have g1 : (lo : Int) < (hi : Int) := by omega
          have g2 : decide ((lo : Int) < (hi : Int)) = true := decide_eq_true g1
          obtain ⟨P, hP⟩ : ∃ P, proL L lo hi cp = P := ⟨_, rfl⟩
          have hpok := proL_ok HROW.out (a := (lo : Int)) (b := (hi : Int)) (c := cp) g1 hbd.2.2
          rw [hP] at hpok
          have HPAS := Lib.hid hpok.1.asc
          have HPRO := Lib.hid hpok.2
          obtain ⟨nP, hnP⟩ : ∃ n, P.length = n := ⟨_, rfl⟩
          have HPR := Lib.hid (show Calls Try.prog 23 #[.slice A' m c', .int .i64 lo, .int .i64 hi, .int .i64 cp] X (fun e w' => ∃ A2, e = .returned (.tuple #[.slice A2 nP nP, .int .i64 0]) ∧ RS w' A2 nP nP P ∧ Below X.heap.size X w') from (protect_any L lo hi cp A' m c' X (HSX.out.1.below HSX.out.2.2) HROW.out ⟨by omega, by omega⟩ ⟨by omega, by omega⟩ hbd.2.2).mono fun e w' h => by
            rcases h with ⟨h1, -⟩ | ⟨-, h1, -⟩ | ⟨-, -, A2, h1, h2, h3⟩
            · exact absurd h1 (by omega)
            · exact absurd hcov h1
            · rw [hP, hnP] at h1 h2
              exact ⟨A2, h1, h2, h3⟩)
          have HCO := Lib.hid (fun (v : World) (hv : Below wr.heap.size wr v) => by
            have := covers_any L lo hi A' m c' v (HSX.out.1.below hv)
            rw [decide_eq_true hcov] at this
            exact this)
          clear hpok hP hnP
          obtain ⟨y0, y1, y2, -⟩ := HQ.out X (HSX.out.2.1.trans (HSX.out.2.2.mono HSX.out.2.1.size))
          obtain ⟨e0, e1, e2⟩ := HV.out
          go_upto_region 13 with (go_at_call 23; refine HPR.out.mono ?_; rintro e Y ⟨A2, rfl, hY1, hY⟩)
          have HSP := Lib.hid hY1
          clear hY1
          clear y0 y1 y2 e0 e1
          have HWY := Lib.hid (HSX.out.2.2.trans (hY.mono HSX.out.2.2.size))
          have HSL := Lib.hid (HSX.out.1.below HWY.out)
          have HSC := Lib.hid (HSC0.out.below hY)
          have HBY := Lib.hid (HSX.out.2.1.trans (HWY.out.mono HSX.out.2.1.size))
          have HQY := Lib.hid (fun (x : World) (hx : Below Y.heap.size Y x) => HQ.out x (HBY.out.trans (hx.mono HBY.out.size)))
          have HY0 := Lib.hid (Below.refl Y.heap.size Y)
          clear hY HPR HSC0
          go_wp2
          go_loopw [15] (fun pv wr => ∃ p : Nat, p ≤ 70 ∧ pv = .int .i64 p ∧ Hid (Below Y.heap.size Y wr)) (fun pv _ => 70 - (intOf pv).toNat)
          case atStart => exact ⟨0, by omega, rfl, HY0⟩
          case round =>
            obtain ⟨p, hp1, rfl, HP⟩ := hrel
            by_cases hgo : p < 70
            · have j1 : (p : Int) < 70 := by omega
              have j2 : decide ((p : Int) < 70) = true := decide_eq_true j1
              have j3 : 0 ≤ (p : Int) := by omega
              obtain ⟨⟨af, at', ap, ak, afl, apg⟩, hra⟩ : ∃ z, (findR L (p : Int)).getD zeroR = z := ⟨_, rfl⟩
              obtain ⟨x, hxa⟩ : ∃ z, (findR L (p : Int)).isSome = z := ⟨_, rfl⟩
              have hba := find_bd HROW.out (p : Int)
              rw [hra] at hba
              obtain ⟨⟨k0, k1⟩, hk0⟩ : ∃ z, (keyR ⟨af, at', ap, ak, afl, apg⟩ (p : Int)).getD (0, 0) = z := ⟨_, rfl⟩
              obtain ⟨ki, hki⟩ : ∃ z, (keyR ⟨af, at', ap, ak, afl, apg⟩ (p : Int)).isSome = z := ⟨_, rfl⟩
              have HCA := Lib.hid (fun (v : World) (hv : Below wr.heap.size wr v) => find_to L (p : Int) ((HSL.out.below HP.out).below hv) hra hxa)
              have HKA := Lib.hid (fun v => key_to hba hk0 hki v)
              have hcut := HCUT.out (p : Int)
              have hpro := HPRO.out (p : Int)
              by_cases hin : (lo : Int) ≤ (p : Int) ∧ (p : Int) < (hi : Int)
              · obtain ⟨i1, i2⟩ := hin
                have i3 : decide ((lo : Int) ≤ (p : Int)) = true := decide_eq_true i1
                have i4 : decide ((p : Int) < (hi : Int)) = true := decide_eq_true i2
                rw [if_pos (by omega)] at hcut
                obtain ⟨hyb, hrb⟩ := kn hcut
                have HCB := Lib.hid (fun (v : World) (hv : Below wr.heap.size wr v) => find_to C (p : Int) ((HSC.out.below HP.out).below hv) (hrb.trans (by rfl : zeroR = ⟨0, 0, 0, 0, 0, 0⟩)) hyb)
                have HKB := Lib.hid (fun v => key_to (f := 0) (t := 0) (pm := 0) (k := 0) (fl := 0) (pg := 0) (p := (p : Int)) (k0 := 0) (k1 := 0) (ki := false) ⟨by decide, by decide, fun h => by cases h⟩ (by simp [keyR]) (by simp [keyR]) v)
                rw [if_pos ⟨i1, i2⟩] at hpro
                obtain ⟨hzc, ⟨hc1, hc2, hc3⟩, hc4⟩ := kq hpro
                obtain ⟨⟨cf, ct, ccp, ck, cfl, cpg⟩, hrc⟩ : ∃ z, (findR P (p : Int)).getD zeroR = z := ⟨_, rfl⟩
                rw [hrc, hra] at hc2 hc3 hc4
                rw [hrc] at hc1
                simp only at hc1 hc2 hc3
                have hbc := find_bd HPAS.out (p : Int)
                rw [hrc] at hbc
                rw [hxa] at hzc
                have hc2 := hc2.symm
                have hc3 := hc3.symm
                subst hc2
                subst hc3
                have HKC0 := Lib.hid (fun v => key_to (k0 := k0) (k1 := k1) (ki := ki) hbc (by rw [hc4]; exact hk0) (by rw [hc4]; exact hki) v)
                have HCC0 := Lib.hid (fun (v : World) (hv : Below wr.heap.size wr v) => find_to P (p : Int) ((HSP.out.below HP.out).below hv) hrc hzc)
                rw [hxa] at hc1
                clear hcut hpro hzc hc4 hbc hrc hba hk0 hki hra hxa hyb hrb
                cases x
                · as_aux_lemma =>
                    clear hc1
                    have HKC := HKC0
                    have HCC := HCC0
                    clear HKC0 HCC0
                    go_upto_region 17 with (go_at_call 12; refine (HCA.out wr (Below.refl _ _)).mono ?_; rintro e x1 ⟨rfl, hx1⟩)
                    have ka := Blk.new x1 29 #[.int .i64 af, .int .i64 at', .int .i64 ap, .int .i64 ak, .int .i64 afl, .int .i64 apg]
                    have hb := hx1.alloc hx1.size (.cells #[.int .i64 af, .int .i64 at', .int .i64 ap, .int .i64 ak, .int .i64 afl, .int .i64 apg] 29)
                    generalize x1.alloc (.cells #[.int .i64 af, .int .i64 at', .int .i64 ap, .int .i64 ak, .int .i64 afl, .int .i64 apg] 29) = X1 at *
                    generalize x1.heap.size = ga at *
                    have HB1 := Lib.hid hb
                    clear hb hx1
                    go_upto_region 18 with (go_at_call 12; refine (HCB.out _ HB1.out).mono ?_; rintro e x2 ⟨rfl, hx2⟩)
                    have ka2 := (ka.below hx2 ka.lt).alloc (.cells #[.int .i64 0, .int .i64 0, .int .i64 0, .int .i64 0, .int .i64 0, .int .i64 0] 29)
                    have kb := Blk.new x2 29 #[.int .i64 0, .int .i64 0, .int .i64 0, .int .i64 0, .int .i64 0, .int .i64 0]
                    have hb := (HB1.out.trans (hx2.mono HB1.out.size)).alloc (Nat.le_trans HB1.out.size hx2.size) (.cells #[.int .i64 0, .int .i64 0, .int .i64 0, .int .i64 0, .int .i64 0, .int .i64 0] 29)
                    generalize x2.alloc (.cells #[.int .i64 0, .int .i64 0, .int .i64 0, .int .i64 0, .int .i64 0, .int .i64 0] 29) = X2 at *
                    generalize x2.heap.size = gb at *
                    clear HB1 ka hx2
                    have HB1 := Lib.hid hb
                    clear hb
                    have c0 := ka2.at_ 0 _ rfl
                    have c1 := ka2.at_ 1 _ rfl
                    have c2 := ka2.at_ 2 _ rfl
                    have c3 := ka2.at_ 3 _ rfl
                    have c4 := ka2.at_ 4 _ rfl
                    have c5 := ka2.at_ 5 _ rfl
                    have d0 := kb.at_ 0 _ rfl
                    have d1 := kb.at_ 1 _ rfl
                    have d2 := kb.at_ 2 _ rfl
                    have d3 := kb.at_ 3 _ rfl
                    have d4 := kb.at_ 4 _ rfl
                    have d5 := kb.at_ 5 _ rfl
                    go_upto_region 21 with fail
                    go_upto_region 22 with (go_at_call 16; refine (HKA.out _).mono ?_; rintro e x3 ⟨rfl, hx3⟩)
                    clear c0 c1 c2 c3 c4 c5 d0 d1 d2 d3 d4 d5
                    have ka3 := (ka2.below hx3 ka2.lt).alloc (.cells #[.int .i64 k0, .int .i64 k1] 39)
                    have kb3 := (kb.below hx3 kb.lt).alloc (.cells #[.int .i64 k0, .int .i64 k1] 39)
                    have kk := Blk.new x3 39 #[.int .i64 k0, .int .i64 k1]
                    have hb := (HB1.out.trans (hx3.mono HB1.out.size)).alloc (Nat.le_trans HB1.out.size hx3.size) (.cells #[.int .i64 k0, .int .i64 k1] 39)
                    generalize x3.alloc (.cells #[.int .i64 k0, .int .i64 k1] 39) = X3 at *
                    generalize x3.heap.size = gk at *
                    clear HB1 ka2 kb hx3
                    have HB1 := Lib.hid hb
                    clear hb
                    have d0 := kb3.at_ 0 _ rfl
                    have d1 := kb3.at_ 1 _ rfl
                    have d2 := kb3.at_ 2 _ rfl
                    have d3 := kb3.at_ 3 _ rfl
                    have d4 := kb3.at_ 4 _ rfl
                    have d5 := kb3.at_ 5 _ rfl
                    go_upto_region 23 with (go_at_call 16; refine (HKB.out _).mono ?_; rintro e x4 ⟨rfl, hx4⟩)
                    clear d0 d1 d2 d3 d4 d5
                    have ka4 := (ka3.below hx4 ka3.lt).alloc (.cells #[.int .i64 0, .int .i64 0] 39)
                    have kk4 := (kk.below hx4 kk.lt).alloc (.cells #[.int .i64 0, .int .i64 0] 39)
                    have kn4 := Blk.new x4 39 #[.int .i64 0, .int .i64 0]
                    have hb := (HB1.out.trans (hx4.mono HB1.out.size)).alloc (Nat.le_trans HB1.out.size hx4.size) (.cells #[.int .i64 0, .int .i64 0] 39)
                    generalize x4.alloc (.cells #[.int .i64 0, .int .i64 0] 39) = X4 at *
                    generalize x4.heap.size = gn at *
                    clear HB1 ka3 kb3 kk hx4
                    have HB1 := Lib.hid hb
                    clear hb
                    have m0 := kk4.at_ 0 _ rfl
                    have m1 := kk4.at_ 1 _ rfl
                    have o0 := kn4.at_ 0 _ rfl
                    have o1 := kn4.at_ 1 _ rfl
                    go_upto_region 25 with fail
                    go_upto_region 27 with (go_at_call 12; refine (HCC.out _ HB1.out).mono ?_; rintro e x5 ⟨rfl, hx5⟩)
                    clear m0 m1 o0 o1
                    have ka5 := (ka4.below hx5 ka4.lt).alloc (.cells #[.int .i64 cf, .int .i64 ct, .int .i64 ccp, .int .i64 ak, .int .i64 afl, .int .i64 cpg] 29)
                    have kk5 := (kk4.below hx5 kk4.lt).alloc (.cells #[.int .i64 cf, .int .i64 ct, .int .i64 ccp, .int .i64 ak, .int .i64 afl, .int .i64 cpg] 29)
                    have kc5 := Blk.new x5 29 #[.int .i64 cf, .int .i64 ct, .int .i64 ccp, .int .i64 ak, .int .i64 afl, .int .i64 cpg]
                    have hb := (HB1.out.trans (hx5.mono HB1.out.size)).alloc (Nat.le_trans HB1.out.size hx5.size) (.cells #[.int .i64 cf, .int .i64 ct, .int .i64 ccp, .int .i64 ak, .int .i64 afl, .int .i64 cpg] 29)
                    generalize x5.alloc (.cells #[.int .i64 cf, .int .i64 ct, .int .i64 ccp, .int .i64 ak, .int .i64 afl, .int .i64 cpg] 29) = X5 at *
                    generalize x5.heap.size = gc at *
                    clear HB1 ka4 kk4 kn4 hx5
                    have HB1 := Lib.hid hb
                    clear hb
                    have d0 := kc5.at_ 0 _ rfl
                    have d1 := kc5.at_ 1 _ rfl
                    have d2 := kc5.at_ 2 _ rfl
                    have d3 := kc5.at_ 3 _ rfl
                    have d4 := kc5.at_ 4 _ rfl
                    have d5 := kc5.at_ 5 _ rfl
                    go_upto_region 28 with (go_at_call 16; refine (HKC.out _).mono ?_; rintro e x6 ⟨rfl, hx6⟩)
                    clear d0 d1 d2 d3 d4 d5
                    have ka6 := (ka5.below hx6 ka5.lt).alloc (.cells #[.int .i64 k0, .int .i64 k1] 39)
                    have kk6 := (kk5.below hx6 kk5.lt).alloc (.cells #[.int .i64 k0, .int .i64 k1] 39)
                    have kc6 := (kc5.below hx6 kc5.lt).alloc (.cells #[.int .i64 k0, .int .i64 k1] 39)
                    have km6 := Blk.new x6 39 #[.int .i64 k0, .int .i64 k1]
                    have hb := (HB1.out.trans (hx6.mono HB1.out.size)).alloc (Nat.le_trans HB1.out.size hx6.size) (.cells #[.int .i64 k0, .int .i64 k1] 39)
                    generalize x6.alloc (.cells #[.int .i64 k0, .int .i64 k1] 39) = X6 at *
                    generalize x6.heap.size = gm at *
                    clear HB1 ka5 kk5 kc5 hx6
                    have HB1 := Lib.hid hb
                    clear hb
                    obtain ⟨z0, z1, z2, -⟩ := HQY.out X6 (HP.out.trans (HB1.out.mono HP.out.size))
                    have c0 := ka6.at_ 0 _ rfl
                    have c1 := ka6.at_ 1 _ rfl
                    have c2 := ka6.at_ 2 _ rfl
                    have c3 := ka6.at_ 3 _ rfl
                    have c4 := ka6.at_ 4 _ rfl
                    have c5 := ka6.at_ 5 _ rfl
                    have d0 := kc6.at_ 0 _ rfl
                    have d1 := kc6.at_ 1 _ rfl
                    have d2 := kc6.at_ 2 _ rfl
                    have d3 := kc6.at_ 3 _ rfl
                    have d4 := kc6.at_ 4 _ rfl
                    have d5 := kc6.at_ 5 _ rfl
                    have m0 := kk6.at_ 0 _ rfl
                    have m1 := kk6.at_ 1 _ rfl
                    have o0 := km6.at_ 0 _ rfl
                    have o1 := km6.at_ 1 _ rfl
                    go_wp2
                    clear c0 c1 c2 c3 c4 c5 d0 d1 d2 d3 d4 d5 m0 m1 o0 o1 z0 z1 z2
                    go_roundw
                    case rel => exact ⟨p + 1, by omega, by go_num, Lib.hid (HP.out.trans (HB1.out.mono HP.out.size))⟩
                    case measure => simp [intOf]; omega
                · as_aux_lemma =>
                    have hc5 := (hc1 rfl).symm
                    subst hc5
                    clear hc1
                    have HKC := HKC0
                    have HCC := HCC0
                    clear HKC0 HCC0
                    go_upto_region 17 with (go_at_call 12; refine (HCA.out wr (Below.refl _ _)).mono ?_; rintro e x1 ⟨rfl, hx1⟩)
                    have ka := Blk.new x1 29 #[.int .i64 af, .int .i64 at', .int .i64 ap, .int .i64 ak, .int .i64 afl, .int .i64 apg]
                    have hb := hx1.alloc hx1.size (.cells #[.int .i64 af, .int .i64 at', .int .i64 ap, .int .i64 ak, .int .i64 afl, .int .i64 apg] 29)
                    generalize x1.alloc (.cells #[.int .i64 af, .int .i64 at', .int .i64 ap, .int .i64 ak, .int .i64 afl, .int .i64 apg] 29) = X1 at *
                    generalize x1.heap.size = ga at *
                    have HB1 := Lib.hid hb
                    clear hb hx1
                    go_upto_region 18 with (go_at_call 12; refine (HCB.out _ HB1.out).mono ?_; rintro e x2 ⟨rfl, hx2⟩)
                    have ka2 := (ka.below hx2 ka.lt).alloc (.cells #[.int .i64 0, .int .i64 0, .int .i64 0, .int .i64 0, .int .i64 0, .int .i64 0] 29)
                    have kb := Blk.new x2 29 #[.int .i64 0, .int .i64 0, .int .i64 0, .int .i64 0, .int .i64 0, .int .i64 0]
                    have hb := (HB1.out.trans (hx2.mono HB1.out.size)).alloc (Nat.le_trans HB1.out.size hx2.size) (.cells #[.int .i64 0, .int .i64 0, .int .i64 0, .int .i64 0, .int .i64 0, .int .i64 0] 29)
                    generalize x2.alloc (.cells #[.int .i64 0, .int .i64 0, .int .i64 0, .int .i64 0, .int .i64 0, .int .i64 0] 29) = X2 at *
                    generalize x2.heap.size = gb at *
                    clear HB1 ka hx2
                    have HB1 := Lib.hid hb
                    clear hb
                    have c0 := ka2.at_ 0 _ rfl
                    have c1 := ka2.at_ 1 _ rfl
                    have c2 := ka2.at_ 2 _ rfl
                    have c3 := ka2.at_ 3 _ rfl
                    have c4 := ka2.at_ 4 _ rfl
                    have c5 := ka2.at_ 5 _ rfl
                    have d0 := kb.at_ 0 _ rfl
                    have d1 := kb.at_ 1 _ rfl
                    have d2 := kb.at_ 2 _ rfl
                    have d3 := kb.at_ 3 _ rfl
                    have d4 := kb.at_ 4 _ rfl
                    have d5 := kb.at_ 5 _ rfl
                    go_upto_region 21 with fail
                    go_upto_region 22 with (go_at_call 16; refine (HKA.out _).mono ?_; rintro e x3 ⟨rfl, hx3⟩)
                    clear c0 c1 c2 c3 c4 c5 d0 d1 d2 d3 d4 d5
                    have ka3 := (ka2.below hx3 ka2.lt).alloc (.cells #[.int .i64 k0, .int .i64 k1] 39)
                    have kb3 := (kb.below hx3 kb.lt).alloc (.cells #[.int .i64 k0, .int .i64 k1] 39)
                    have kk := Blk.new x3 39 #[.int .i64 k0, .int .i64 k1]
                    have hb := (HB1.out.trans (hx3.mono HB1.out.size)).alloc (Nat.le_trans HB1.out.size hx3.size) (.cells #[.int .i64 k0, .int .i64 k1] 39)
                    generalize x3.alloc (.cells #[.int .i64 k0, .int .i64 k1] 39) = X3 at *
                    generalize x3.heap.size = gk at *
                    clear HB1 ka2 kb hx3
                    have HB1 := Lib.hid hb
                    clear hb
                    have d0 := kb3.at_ 0 _ rfl
                    have d1 := kb3.at_ 1 _ rfl
                    have d2 := kb3.at_ 2 _ rfl
                    have d3 := kb3.at_ 3 _ rfl
                    have d4 := kb3.at_ 4 _ rfl
                    have d5 := kb3.at_ 5 _ rfl
                    go_upto_region 23 with (go_at_call 16; refine (HKB.out _).mono ?_; rintro e x4 ⟨rfl, hx4⟩)
                    clear d0 d1 d2 d3 d4 d5
                    have ka4 := (ka3.below hx4 ka3.lt).alloc (.cells #[.int .i64 0, .int .i64 0] 39)
                    have kk4 := (kk.below hx4 kk.lt).alloc (.cells #[.int .i64 0, .int .i64 0] 39)
                    have kn4 := Blk.new x4 39 #[.int .i64 0, .int .i64 0]
                    have hb := (HB1.out.trans (hx4.mono HB1.out.size)).alloc (Nat.le_trans HB1.out.size hx4.size) (.cells #[.int .i64 0, .int .i64 0] 39)
                    generalize x4.alloc (.cells #[.int .i64 0, .int .i64 0] 39) = X4 at *
                    generalize x4.heap.size = gn at *
                    clear HB1 ka3 kb3 kk hx4
                    have HB1 := Lib.hid hb
                    clear hb
                    have m0 := kk4.at_ 0 _ rfl
                    have m1 := kk4.at_ 1 _ rfl
                    have o0 := kn4.at_ 0 _ rfl
                    have o1 := kn4.at_ 1 _ rfl
                    go_upto_region 25 with fail
                    go_upto_region 27 with (go_at_call 12; refine (HCC.out _ HB1.out).mono ?_; rintro e x5 ⟨rfl, hx5⟩)
                    clear m0 m1 o0 o1
                    have ka5 := (ka4.below hx5 ka4.lt).alloc (.cells #[.int .i64 cf, .int .i64 ct, .int .i64 cp, .int .i64 ak, .int .i64 afl, .int .i64 cpg] 29)
                    have kk5 := (kk4.below hx5 kk4.lt).alloc (.cells #[.int .i64 cf, .int .i64 ct, .int .i64 cp, .int .i64 ak, .int .i64 afl, .int .i64 cpg] 29)
                    have kc5 := Blk.new x5 29 #[.int .i64 cf, .int .i64 ct, .int .i64 cp, .int .i64 ak, .int .i64 afl, .int .i64 cpg]
                    have hb := (HB1.out.trans (hx5.mono HB1.out.size)).alloc (Nat.le_trans HB1.out.size hx5.size) (.cells #[.int .i64 cf, .int .i64 ct, .int .i64 cp, .int .i64 ak, .int .i64 afl, .int .i64 cpg] 29)
                    generalize x5.alloc (.cells #[.int .i64 cf, .int .i64 ct, .int .i64 cp, .int .i64 ak, .int .i64 afl, .int .i64 cpg] 29) = X5 at *
                    generalize x5.heap.size = gc at *
                    clear HB1 ka4 kk4 kn4 hx5
                    have HB1 := Lib.hid hb
                    clear hb
                    have d0 := kc5.at_ 0 _ rfl
                    have d1 := kc5.at_ 1 _ rfl
                    have d2 := kc5.at_ 2 _ rfl
                    have d3 := kc5.at_ 3 _ rfl
                    have d4 := kc5.at_ 4 _ rfl
                    have d5 := kc5.at_ 5 _ rfl
                    go_upto_region 28 with (go_at_call 16; refine (HKC.out _).mono ?_; rintro e x6 ⟨rfl, hx6⟩)
                    clear d0 d1 d2 d3 d4 d5
                    have ka6 := (ka5.below hx6 ka5.lt).alloc (.cells #[.int .i64 k0, .int .i64 k1] 39)
                    have kk6 := (kk5.below hx6 kk5.lt).alloc (.cells #[.int .i64 k0, .int .i64 k1] 39)
                    have kc6 := (kc5.below hx6 kc5.lt).alloc (.cells #[.int .i64 k0, .int .i64 k1] 39)
                    have km6 := Blk.new x6 39 #[.int .i64 k0, .int .i64 k1]
                    have hb := (HB1.out.trans (hx6.mono HB1.out.size)).alloc (Nat.le_trans HB1.out.size hx6.size) (.cells #[.int .i64 k0, .int .i64 k1] 39)
                    generalize x6.alloc (.cells #[.int .i64 k0, .int .i64 k1] 39) = X6 at *
                    generalize x6.heap.size = gm at *
                    clear HB1 ka5 kk5 kc5 hx6
                    have HB1 := Lib.hid hb
                    clear hb
                    obtain ⟨z0, z1, z2, -⟩ := HQY.out X6 (HP.out.trans (HB1.out.mono HP.out.size))
                    have c0 := ka6.at_ 0 _ rfl
                    have c1 := ka6.at_ 1 _ rfl
                    have c2 := ka6.at_ 2 _ rfl
                    have c3 := ka6.at_ 3 _ rfl
                    have c4 := ka6.at_ 4 _ rfl
                    have c5 := ka6.at_ 5 _ rfl
                    have d0 := kc6.at_ 0 _ rfl
                    have d1 := kc6.at_ 1 _ rfl
                    have d2 := kc6.at_ 2 _ rfl
                    have d3 := kc6.at_ 3 _ rfl
                    have d4 := kc6.at_ 4 _ rfl
                    have d5 := kc6.at_ 5 _ rfl
                    have m0 := kk6.at_ 0 _ rfl
                    have m1 := kk6.at_ 1 _ rfl
                    have o0 := km6.at_ 0 _ rfl
                    have o1 := km6.at_ 1 _ rfl
                    go_wp2
                    clear c0 c1 c2 c3 c4 c5 d0 d1 d2 d3 d4 d5 m0 m1 o0 o1 z0 z1 z2
                    go_roundw
                    case rel => exact ⟨p + 1, by omega, by go_num, Lib.hid (HP.out.trans (HB1.out.mono HP.out.size))⟩
                    case measure => simp [intOf]; omega
              · have hdn : ((lo : Int) ≤ (p : Int) ∧ decide ((lo : Int) ≤ (p : Int)) = true ∧ decide ((p : Int) < (hi : Int)) = false ∧ ¬ (p : Int) < (hi : Int)) ∨ (¬ (lo : Int) ≤ (p : Int) ∧ decide ((lo : Int) ≤ (p : Int)) = false) := by
                  by_cases h : (lo : Int) ≤ (p : Int)
                  · have h2 : ¬ (p : Int) < (hi : Int) := fun h3 => hin ⟨h, h3⟩
                    exact .inl ⟨h, decide_eq_true h, decide_eq_false h2, h2⟩
                  · exact .inr ⟨h, decide_eq_false h⟩
                rw [if_neg (by omega)] at hcut
                obtain ⟨hyb, ⟨hb1, hb2, hb3⟩, hb4⟩ := kp hcut
                obtain ⟨⟨bf, bt, bp, bk, bfl, bpg⟩, hrb⟩ : ∃ z, (findR C (p : Int)).getD zeroR = z := ⟨_, rfl⟩
                rw [hrb, hra] at hb1 hb2 hb3 hb4
                simp only at hb1 hb2 hb3
                have hb1 := hb1.symm
                have hb2 := hb2.symm
                have hb3 := hb3.symm
                subst hb1
                subst hb2
                subst hb3
                have hbb := find_bd HCAS.out (p : Int)
                rw [hrb] at hbb
                rw [hxa] at hyb
                have HCB := Lib.hid (fun (v : World) (hv : Below wr.heap.size wr v) => find_to C (p : Int) ((HSC.out.below HP.out).below hv) hrb hyb)
                have HKB := Lib.hid (fun v => key_to (k0 := k0) (k1 := k1) (ki := ki) hbb (by rw [hb4]; exact hk0) (by rw [hb4]; exact hki) v)
                rw [if_neg hin] at hpro
                obtain ⟨hzc, ⟨hc1, hc2, hc3⟩, hc4⟩ := kp hpro
                clear hb4 hbb hyb hrb
                obtain ⟨⟨cf, ct, ccp, ck, cfl, cpg⟩, hrc⟩ : ∃ z, (findR P (p : Int)).getD zeroR = z := ⟨_, rfl⟩
                rw [hrc, hra] at hc2 hc3 hc4
                rw [hrc] at hc1
                rw [hra] at hc1
                simp only at hc1 hc2 hc3
                have hbc := find_bd HPAS.out (p : Int)
                rw [hrc] at hbc
                rw [hxa] at hzc
                have hc2 := hc2.symm
                have hc3 := hc3.symm
                subst hc2
                subst hc3
                have HKC0 := Lib.hid (fun v => key_to (k0 := k0) (k1 := k1) (ki := ki) hbc (by rw [hc4]; exact hk0) (by rw [hc4]; exact hki) v)
                have HCC0 := Lib.hid (fun (v : World) (hv : Below wr.heap.size wr v) => find_to P (p : Int) ((HSP.out.below HP.out).below hv) hrc hzc)
                clear hcut hpro hzc hc4 hbc hrc hba hk0 hki hra hxa hin
                rcases hdn with ⟨i1, i3, i4, i2⟩ | ⟨i1, i3⟩
                · cases x
                  · as_aux_lemma =>
                      clear hc1
                      have HKC := HKC0
                      have HCC := HCC0
                      clear HKC0 HCC0
                      go_upto_region 17 with (go_at_call 12; refine (HCA.out wr (Below.refl _ _)).mono ?_; rintro e x1 ⟨rfl, hx1⟩)
                      have ka := Blk.new x1 29 #[.int .i64 af, .int .i64 at', .int .i64 ap, .int .i64 ak, .int .i64 afl, .int .i64 apg]
                      have hb := hx1.alloc hx1.size (.cells #[.int .i64 af, .int .i64 at', .int .i64 ap, .int .i64 ak, .int .i64 afl, .int .i64 apg] 29)
                      generalize x1.alloc (.cells #[.int .i64 af, .int .i64 at', .int .i64 ap, .int .i64 ak, .int .i64 afl, .int .i64 apg] 29) = X1 at *
                      generalize x1.heap.size = ga at *
                      have HB1 := Lib.hid hb
                      clear hb hx1
                      go_upto_region 18 with (go_at_call 12; refine (HCB.out _ HB1.out).mono ?_; rintro e x2 ⟨rfl, hx2⟩)
                      have ka2 := (ka.below hx2 ka.lt).alloc (.cells #[.int .i64 bf, .int .i64 bt, .int .i64 ap, .int .i64 ak, .int .i64 afl, .int .i64 bpg] 29)
                      have kb := Blk.new x2 29 #[.int .i64 bf, .int .i64 bt, .int .i64 ap, .int .i64 ak, .int .i64 afl, .int .i64 bpg]
                      have hb := (HB1.out.trans (hx2.mono HB1.out.size)).alloc (Nat.le_trans HB1.out.size hx2.size) (.cells #[.int .i64 bf, .int .i64 bt, .int .i64 ap, .int .i64 ak, .int .i64 afl, .int .i64 bpg] 29)
                      generalize x2.alloc (.cells #[.int .i64 bf, .int .i64 bt, .int .i64 ap, .int .i64 ak, .int .i64 afl, .int .i64 bpg] 29) = X2 at *
                      generalize x2.heap.size = gb at *
                      clear HB1 ka hx2
                      have HB1 := Lib.hid hb
                      clear hb
                      have c0 := ka2.at_ 0 _ rfl
                      have c1 := ka2.at_ 1 _ rfl
                      have c2 := ka2.at_ 2 _ rfl
                      have c3 := ka2.at_ 3 _ rfl
                      have c4 := ka2.at_ 4 _ rfl
                      have c5 := ka2.at_ 5 _ rfl
                      have d0 := kb.at_ 0 _ rfl
                      have d1 := kb.at_ 1 _ rfl
                      have d2 := kb.at_ 2 _ rfl
                      have d3 := kb.at_ 3 _ rfl
                      have d4 := kb.at_ 4 _ rfl
                      have d5 := kb.at_ 5 _ rfl
                      go_upto_region 21 with fail
                      go_upto_region 22 with (go_at_call 16; refine (HKA.out _).mono ?_; rintro e x3 ⟨rfl, hx3⟩)
                      clear c0 c1 c2 c3 c4 c5 d0 d1 d2 d3 d4 d5
                      have ka3 := (ka2.below hx3 ka2.lt).alloc (.cells #[.int .i64 k0, .int .i64 k1] 39)
                      have kb3 := (kb.below hx3 kb.lt).alloc (.cells #[.int .i64 k0, .int .i64 k1] 39)
                      have kk := Blk.new x3 39 #[.int .i64 k0, .int .i64 k1]
                      have hb := (HB1.out.trans (hx3.mono HB1.out.size)).alloc (Nat.le_trans HB1.out.size hx3.size) (.cells #[.int .i64 k0, .int .i64 k1] 39)
                      generalize x3.alloc (.cells #[.int .i64 k0, .int .i64 k1] 39) = X3 at *
                      generalize x3.heap.size = gk at *
                      clear HB1 ka2 kb hx3
                      have HB1 := Lib.hid hb
                      clear hb
                      have d0 := kb3.at_ 0 _ rfl
                      have d1 := kb3.at_ 1 _ rfl
                      have d2 := kb3.at_ 2 _ rfl
                      have d3 := kb3.at_ 3 _ rfl
                      have d4 := kb3.at_ 4 _ rfl
                      have d5 := kb3.at_ 5 _ rfl
                      go_upto_region 23 with (go_at_call 16; refine (HKB.out _).mono ?_; rintro e x4 ⟨rfl, hx4⟩)
                      clear d0 d1 d2 d3 d4 d5
                      have ka4 := (ka3.below hx4 ka3.lt).alloc (.cells #[.int .i64 k0, .int .i64 k1] 39)
                      have kk4 := (kk.below hx4 kk.lt).alloc (.cells #[.int .i64 k0, .int .i64 k1] 39)
                      have kn4 := Blk.new x4 39 #[.int .i64 k0, .int .i64 k1]
                      have hb := (HB1.out.trans (hx4.mono HB1.out.size)).alloc (Nat.le_trans HB1.out.size hx4.size) (.cells #[.int .i64 k0, .int .i64 k1] 39)
                      generalize x4.alloc (.cells #[.int .i64 k0, .int .i64 k1] 39) = X4 at *
                      generalize x4.heap.size = gn at *
                      clear HB1 ka3 kb3 kk hx4
                      have HB1 := Lib.hid hb
                      clear hb
                      have m0 := kk4.at_ 0 _ rfl
                      have m1 := kk4.at_ 1 _ rfl
                      have o0 := kn4.at_ 0 _ rfl
                      have o1 := kn4.at_ 1 _ rfl
                      go_upto_region 25 with fail
                      go_upto_region 27 with (go_at_call 12; refine (HCC.out _ HB1.out).mono ?_; rintro e x5 ⟨rfl, hx5⟩)
                      clear m0 m1 o0 o1
                      have ka5 := (ka4.below hx5 ka4.lt).alloc (.cells #[.int .i64 cf, .int .i64 ct, .int .i64 ccp, .int .i64 ak, .int .i64 afl, .int .i64 cpg] 29)
                      have kk5 := (kk4.below hx5 kk4.lt).alloc (.cells #[.int .i64 cf, .int .i64 ct, .int .i64 ccp, .int .i64 ak, .int .i64 afl, .int .i64 cpg] 29)
                      have kc5 := Blk.new x5 29 #[.int .i64 cf, .int .i64 ct, .int .i64 ccp, .int .i64 ak, .int .i64 afl, .int .i64 cpg]
                      have hb := (HB1.out.trans (hx5.mono HB1.out.size)).alloc (Nat.le_trans HB1.out.size hx5.size) (.cells #[.int .i64 cf, .int .i64 ct, .int .i64 ccp, .int .i64 ak, .int .i64 afl, .int .i64 cpg] 29)
                      generalize x5.alloc (.cells #[.int .i64 cf, .int .i64 ct, .int .i64 ccp, .int .i64 ak, .int .i64 afl, .int .i64 cpg] 29) = X5 at *
                      generalize x5.heap.size = gc at *
                      clear HB1 ka4 kk4 kn4 hx5
                      have HB1 := Lib.hid hb
                      clear hb
                      have d0 := kc5.at_ 0 _ rfl
                      have d1 := kc5.at_ 1 _ rfl
                      have d2 := kc5.at_ 2 _ rfl
                      have d3 := kc5.at_ 3 _ rfl
                      have d4 := kc5.at_ 4 _ rfl
                      have d5 := kc5.at_ 5 _ rfl
                      go_upto_region 28 with (go_at_call 16; refine (HKC.out _).mono ?_; rintro e x6 ⟨rfl, hx6⟩)
                      clear d0 d1 d2 d3 d4 d5
                      have ka6 := (ka5.below hx6 ka5.lt).alloc (.cells #[.int .i64 k0, .int .i64 k1] 39)
                      have kk6 := (kk5.below hx6 kk5.lt).alloc (.cells #[.int .i64 k0, .int .i64 k1] 39)
                      have kc6 := (kc5.below hx6 kc5.lt).alloc (.cells #[.int .i64 k0, .int .i64 k1] 39)
                      have km6 := Blk.new x6 39 #[.int .i64 k0, .int .i64 k1]
                      have hb := (HB1.out.trans (hx6.mono HB1.out.size)).alloc (Nat.le_trans HB1.out.size hx6.size) (.cells #[.int .i64 k0, .int .i64 k1] 39)
                      generalize x6.alloc (.cells #[.int .i64 k0, .int .i64 k1] 39) = X6 at *
                      generalize x6.heap.size = gm at *
                      clear HB1 ka5 kk5 kc5 hx6
                      have HB1 := Lib.hid hb
                      clear hb
                      obtain ⟨z0, z1, z2, -⟩ := HQY.out X6 (HP.out.trans (HB1.out.mono HP.out.size))
                      have c0 := ka6.at_ 0 _ rfl
                      have c1 := ka6.at_ 1 _ rfl
                      have c2 := ka6.at_ 2 _ rfl
                      have c3 := ka6.at_ 3 _ rfl
                      have c4 := ka6.at_ 4 _ rfl
                      have c5 := ka6.at_ 5 _ rfl
                      have d0 := kc6.at_ 0 _ rfl
                      have d1 := kc6.at_ 1 _ rfl
                      have d2 := kc6.at_ 2 _ rfl
                      have d3 := kc6.at_ 3 _ rfl
                      have d4 := kc6.at_ 4 _ rfl
                      have d5 := kc6.at_ 5 _ rfl
                      have m0 := kk6.at_ 0 _ rfl
                      have m1 := kk6.at_ 1 _ rfl
                      have o0 := km6.at_ 0 _ rfl
                      have o1 := km6.at_ 1 _ rfl
                      go_wp2
                      clear c0 c1 c2 c3 c4 c5 d0 d1 d2 d3 d4 d5 m0 m1 o0 o1 z0 z1 z2
                      go_roundw
                      case rel => exact ⟨p + 1, by omega, by go_num, Lib.hid (HP.out.trans (HB1.out.mono HP.out.size))⟩
                      case measure => simp [intOf]; omega
                  · as_aux_lemma =>
                      have hc5 := hc1.symm
                      subst hc5
                      have HKC := HKC0
                      have HCC := HCC0
                      clear HKC0 HCC0
                      go_upto_region 17 with (go_at_call 12; refine (HCA.out wr (Below.refl _ _)).mono ?_; rintro e x1 ⟨rfl, hx1⟩)
                      have ka := Blk.new x1 29 #[.int .i64 af, .int .i64 at', .int .i64 ap, .int .i64 ak, .int .i64 afl, .int .i64 apg]
                      have hb := hx1.alloc hx1.size (.cells #[.int .i64 af, .int .i64 at', .int .i64 ap, .int .i64 ak, .int .i64 afl, .int .i64 apg] 29)
                      generalize x1.alloc (.cells #[.int .i64 af, .int .i64 at', .int .i64 ap, .int .i64 ak, .int .i64 afl, .int .i64 apg] 29) = X1 at *
                      generalize x1.heap.size = ga at *
                      have HB1 := Lib.hid hb
                      clear hb hx1
                      go_upto_region 18 with (go_at_call 12; refine (HCB.out _ HB1.out).mono ?_; rintro e x2 ⟨rfl, hx2⟩)
                      have ka2 := (ka.below hx2 ka.lt).alloc (.cells #[.int .i64 bf, .int .i64 bt, .int .i64 ap, .int .i64 ak, .int .i64 afl, .int .i64 bpg] 29)
                      have kb := Blk.new x2 29 #[.int .i64 bf, .int .i64 bt, .int .i64 ap, .int .i64 ak, .int .i64 afl, .int .i64 bpg]
                      have hb := (HB1.out.trans (hx2.mono HB1.out.size)).alloc (Nat.le_trans HB1.out.size hx2.size) (.cells #[.int .i64 bf, .int .i64 bt, .int .i64 ap, .int .i64 ak, .int .i64 afl, .int .i64 bpg] 29)
                      generalize x2.alloc (.cells #[.int .i64 bf, .int .i64 bt, .int .i64 ap, .int .i64 ak, .int .i64 afl, .int .i64 bpg] 29) = X2 at *
                      generalize x2.heap.size = gb at *
                      clear HB1 ka hx2
                      have HB1 := Lib.hid hb
                      clear hb
                      have c0 := ka2.at_ 0 _ rfl
                      have c1 := ka2.at_ 1 _ rfl
                      have c2 := ka2.at_ 2 _ rfl
                      have c3 := ka2.at_ 3 _ rfl
                      have c4 := ka2.at_ 4 _ rfl
                      have c5 := ka2.at_ 5 _ rfl
                      have d0 := kb.at_ 0 _ rfl
                      have d1 := kb.at_ 1 _ rfl
                      have d2 := kb.at_ 2 _ rfl
                      have d3 := kb.at_ 3 _ rfl
                      have d4 := kb.at_ 4 _ rfl
                      have d5 := kb.at_ 5 _ rfl
                      go_upto_region 21 with fail
                      go_upto_region 22 with (go_at_call 16; refine (HKA.out _).mono ?_; rintro e x3 ⟨rfl, hx3⟩)
                      clear c0 c1 c2 c3 c4 c5 d0 d1 d2 d3 d4 d5
                      have ka3 := (ka2.below hx3 ka2.lt).alloc (.cells #[.int .i64 k0, .int .i64 k1] 39)
                      have kb3 := (kb.below hx3 kb.lt).alloc (.cells #[.int .i64 k0, .int .i64 k1] 39)
                      have kk := Blk.new x3 39 #[.int .i64 k0, .int .i64 k1]
                      have hb := (HB1.out.trans (hx3.mono HB1.out.size)).alloc (Nat.le_trans HB1.out.size hx3.size) (.cells #[.int .i64 k0, .int .i64 k1] 39)
                      generalize x3.alloc (.cells #[.int .i64 k0, .int .i64 k1] 39) = X3 at *
                      generalize x3.heap.size = gk at *
                      clear HB1 ka2 kb hx3
                      have HB1 := Lib.hid hb
                      clear hb
                      have d0 := kb3.at_ 0 _ rfl
                      have d1 := kb3.at_ 1 _ rfl
                      have d2 := kb3.at_ 2 _ rfl
                      have d3 := kb3.at_ 3 _ rfl
                      have d4 := kb3.at_ 4 _ rfl
                      have d5 := kb3.at_ 5 _ rfl
                      go_upto_region 23 with (go_at_call 16; refine (HKB.out _).mono ?_; rintro e x4 ⟨rfl, hx4⟩)
                      clear d0 d1 d2 d3 d4 d5
                      have ka4 := (ka3.below hx4 ka3.lt).alloc (.cells #[.int .i64 k0, .int .i64 k1] 39)
                      have kk4 := (kk.below hx4 kk.lt).alloc (.cells #[.int .i64 k0, .int .i64 k1] 39)
                      have kn4 := Blk.new x4 39 #[.int .i64 k0, .int .i64 k1]
                      have hb := (HB1.out.trans (hx4.mono HB1.out.size)).alloc (Nat.le_trans HB1.out.size hx4.size) (.cells #[.int .i64 k0, .int .i64 k1] 39)
                      generalize x4.alloc (.cells #[.int .i64 k0, .int .i64 k1] 39) = X4 at *
                      generalize x4.heap.size = gn at *
                      clear HB1 ka3 kb3 kk hx4
                      have HB1 := Lib.hid hb
                      clear hb
                      have m0 := kk4.at_ 0 _ rfl
                      have m1 := kk4.at_ 1 _ rfl
                      have o0 := kn4.at_ 0 _ rfl
                      have o1 := kn4.at_ 1 _ rfl
                      go_upto_region 25 with fail
                      go_upto_region 27 with (go_at_call 12; refine (HCC.out _ HB1.out).mono ?_; rintro e x5 ⟨rfl, hx5⟩)
                      clear m0 m1 o0 o1
                      have ka5 := (ka4.below hx5 ka4.lt).alloc (.cells #[.int .i64 cf, .int .i64 ct, .int .i64 ap, .int .i64 ak, .int .i64 afl, .int .i64 cpg] 29)
                      have kk5 := (kk4.below hx5 kk4.lt).alloc (.cells #[.int .i64 cf, .int .i64 ct, .int .i64 ap, .int .i64 ak, .int .i64 afl, .int .i64 cpg] 29)
                      have kc5 := Blk.new x5 29 #[.int .i64 cf, .int .i64 ct, .int .i64 ap, .int .i64 ak, .int .i64 afl, .int .i64 cpg]
                      have hb := (HB1.out.trans (hx5.mono HB1.out.size)).alloc (Nat.le_trans HB1.out.size hx5.size) (.cells #[.int .i64 cf, .int .i64 ct, .int .i64 ap, .int .i64 ak, .int .i64 afl, .int .i64 cpg] 29)
                      generalize x5.alloc (.cells #[.int .i64 cf, .int .i64 ct, .int .i64 ap, .int .i64 ak, .int .i64 afl, .int .i64 cpg] 29) = X5 at *
                      generalize x5.heap.size = gc at *
                      clear HB1 ka4 kk4 kn4 hx5
                      have HB1 := Lib.hid hb
                      clear hb
                      have d0 := kc5.at_ 0 _ rfl
                      have d1 := kc5.at_ 1 _ rfl
                      have d2 := kc5.at_ 2 _ rfl
                      have d3 := kc5.at_ 3 _ rfl
                      have d4 := kc5.at_ 4 _ rfl
                      have d5 := kc5.at_ 5 _ rfl
                      go_upto_region 28 with (go_at_call 16; refine (HKC.out _).mono ?_; rintro e x6 ⟨rfl, hx6⟩)
                      clear d0 d1 d2 d3 d4 d5
                      have ka6 := (ka5.below hx6 ka5.lt).alloc (.cells #[.int .i64 k0, .int .i64 k1] 39)
                      have kk6 := (kk5.below hx6 kk5.lt).alloc (.cells #[.int .i64 k0, .int .i64 k1] 39)
                      have kc6 := (kc5.below hx6 kc5.lt).alloc (.cells #[.int .i64 k0, .int .i64 k1] 39)
                      have km6 := Blk.new x6 39 #[.int .i64 k0, .int .i64 k1]
                      have hb := (HB1.out.trans (hx6.mono HB1.out.size)).alloc (Nat.le_trans HB1.out.size hx6.size) (.cells #[.int .i64 k0, .int .i64 k1] 39)
                      generalize x6.alloc (.cells #[.int .i64 k0, .int .i64 k1] 39) = X6 at *
                      generalize x6.heap.size = gm at *
                      clear HB1 ka5 kk5 kc5 hx6
                      have HB1 := Lib.hid hb
                      clear hb
                      obtain ⟨z0, z1, z2, -⟩ := HQY.out X6 (HP.out.trans (HB1.out.mono HP.out.size))
                      have c0 := ka6.at_ 0 _ rfl
                      have c1 := ka6.at_ 1 _ rfl
                      have c2 := ka6.at_ 2 _ rfl
                      have c3 := ka6.at_ 3 _ rfl
                      have c4 := ka6.at_ 4 _ rfl
                      have c5 := ka6.at_ 5 _ rfl
                      have d0 := kc6.at_ 0 _ rfl
                      have d1 := kc6.at_ 1 _ rfl
                      have d2 := kc6.at_ 2 _ rfl
                      have d3 := kc6.at_ 3 _ rfl
                      have d4 := kc6.at_ 4 _ rfl
                      have d5 := kc6.at_ 5 _ rfl
                      have m0 := kk6.at_ 0 _ rfl
                      have m1 := kk6.at_ 1 _ rfl
                      have o0 := km6.at_ 0 _ rfl
                      have o1 := km6.at_ 1 _ rfl
                      go_wp2
                      clear c0 c1 c2 c3 c4 c5 d0 d1 d2 d3 d4 d5 m0 m1 o0 o1 z0 z1 z2
                      go_roundw
                      case rel => exact ⟨p + 1, by omega, by go_num, Lib.hid (HP.out.trans (HB1.out.mono HP.out.size))⟩
                      case measure => simp [intOf]; omega
                · cases x
                  · as_aux_lemma =>
                      clear hc1
                      have HKC := HKC0
                      have HCC := HCC0
                      clear HKC0 HCC0
                      go_upto_region 17 with (go_at_call 12; refine (HCA.out wr (Below.refl _ _)).mono ?_; rintro e x1 ⟨rfl, hx1⟩)
                      have ka := Blk.new x1 29 #[.int .i64 af, .int .i64 at', .int .i64 ap, .int .i64 ak, .int .i64 afl, .int .i64 apg]
                      have hb := hx1.alloc hx1.size (.cells #[.int .i64 af, .int .i64 at', .int .i64 ap, .int .i64 ak, .int .i64 afl, .int .i64 apg] 29)
                      generalize x1.alloc (.cells #[.int .i64 af, .int .i64 at', .int .i64 ap, .int .i64 ak, .int .i64 afl, .int .i64 apg] 29) = X1 at *
                      generalize x1.heap.size = ga at *
                      have HB1 := Lib.hid hb
                      clear hb hx1
                      go_upto_region 18 with (go_at_call 12; refine (HCB.out _ HB1.out).mono ?_; rintro e x2 ⟨rfl, hx2⟩)
                      have ka2 := (ka.below hx2 ka.lt).alloc (.cells #[.int .i64 bf, .int .i64 bt, .int .i64 ap, .int .i64 ak, .int .i64 afl, .int .i64 bpg] 29)
                      have kb := Blk.new x2 29 #[.int .i64 bf, .int .i64 bt, .int .i64 ap, .int .i64 ak, .int .i64 afl, .int .i64 bpg]
                      have hb := (HB1.out.trans (hx2.mono HB1.out.size)).alloc (Nat.le_trans HB1.out.size hx2.size) (.cells #[.int .i64 bf, .int .i64 bt, .int .i64 ap, .int .i64 ak, .int .i64 afl, .int .i64 bpg] 29)
                      generalize x2.alloc (.cells #[.int .i64 bf, .int .i64 bt, .int .i64 ap, .int .i64 ak, .int .i64 afl, .int .i64 bpg] 29) = X2 at *
                      generalize x2.heap.size = gb at *
                      clear HB1 ka hx2
                      have HB1 := Lib.hid hb
                      clear hb
                      have c0 := ka2.at_ 0 _ rfl
                      have c1 := ka2.at_ 1 _ rfl
                      have c2 := ka2.at_ 2 _ rfl
                      have c3 := ka2.at_ 3 _ rfl
                      have c4 := ka2.at_ 4 _ rfl
                      have c5 := ka2.at_ 5 _ rfl
                      have d0 := kb.at_ 0 _ rfl
                      have d1 := kb.at_ 1 _ rfl
                      have d2 := kb.at_ 2 _ rfl
                      have d3 := kb.at_ 3 _ rfl
                      have d4 := kb.at_ 4 _ rfl
                      have d5 := kb.at_ 5 _ rfl
                      go_upto_region 21 with fail
                      go_upto_region 22 with (go_at_call 16; refine (HKA.out _).mono ?_; rintro e x3 ⟨rfl, hx3⟩)
                      clear c0 c1 c2 c3 c4 c5 d0 d1 d2 d3 d4 d5
                      have ka3 := (ka2.below hx3 ka2.lt).alloc (.cells #[.int .i64 k0, .int .i64 k1] 39)
                      have kb3 := (kb.below hx3 kb.lt).alloc (.cells #[.int .i64 k0, .int .i64 k1] 39)
                      have kk := Blk.new x3 39 #[.int .i64 k0, .int .i64 k1]
                      have hb := (HB1.out.trans (hx3.mono HB1.out.size)).alloc (Nat.le_trans HB1.out.size hx3.size) (.cells #[.int .i64 k0, .int .i64 k1] 39)
                      generalize x3.alloc (.cells #[.int .i64 k0, .int .i64 k1] 39) = X3 at *
                      generalize x3.heap.size = gk at *
                      clear HB1 ka2 kb hx3
                      have HB1 := Lib.hid hb
                      clear hb
                      have d0 := kb3.at_ 0 _ rfl
                      have d1 := kb3.at_ 1 _ rfl
                      have d2 := kb3.at_ 2 _ rfl
                      have d3 := kb3.at_ 3 _ rfl
                      have d4 := kb3.at_ 4 _ rfl
                      have d5 := kb3.at_ 5 _ rfl
                      go_upto_region 23 with (go_at_call 16; refine (HKB.out _).mono ?_; rintro e x4 ⟨rfl, hx4⟩)
                      clear d0 d1 d2 d3 d4 d5
                      have ka4 := (ka3.below hx4 ka3.lt).alloc (.cells #[.int .i64 k0, .int .i64 k1] 39)
                      have kk4 := (kk.below hx4 kk.lt).alloc (.cells #[.int .i64 k0, .int .i64 k1] 39)
                      have kn4 := Blk.new x4 39 #[.int .i64 k0, .int .i64 k1]
                      have hb := (HB1.out.trans (hx4.mono HB1.out.size)).alloc (Nat.le_trans HB1.out.size hx4.size) (.cells #[.int .i64 k0, .int .i64 k1] 39)
                      generalize x4.alloc (.cells #[.int .i64 k0, .int .i64 k1] 39) = X4 at *
                      generalize x4.heap.size = gn at *
                      clear HB1 ka3 kb3 kk hx4
                      have HB1 := Lib.hid hb
                      clear hb
                      have m0 := kk4.at_ 0 _ rfl
                      have m1 := kk4.at_ 1 _ rfl
                      have o0 := kn4.at_ 0 _ rfl
                      have o1 := kn4.at_ 1 _ rfl
                      go_upto_region 25 with fail
                      go_upto_region 27 with (go_at_call 12; refine (HCC.out _ HB1.out).mono ?_; rintro e x5 ⟨rfl, hx5⟩)
                      clear m0 m1 o0 o1
                      have ka5 := (ka4.below hx5 ka4.lt).alloc (.cells #[.int .i64 cf, .int .i64 ct, .int .i64 ccp, .int .i64 ak, .int .i64 afl, .int .i64 cpg] 29)
                      have kk5 := (kk4.below hx5 kk4.lt).alloc (.cells #[.int .i64 cf, .int .i64 ct, .int .i64 ccp, .int .i64 ak, .int .i64 afl, .int .i64 cpg] 29)
                      have kc5 := Blk.new x5 29 #[.int .i64 cf, .int .i64 ct, .int .i64 ccp, .int .i64 ak, .int .i64 afl, .int .i64 cpg]
                      have hb := (HB1.out.trans (hx5.mono HB1.out.size)).alloc (Nat.le_trans HB1.out.size hx5.size) (.cells #[.int .i64 cf, .int .i64 ct, .int .i64 ccp, .int .i64 ak, .int .i64 afl, .int .i64 cpg] 29)
                      generalize x5.alloc (.cells #[.int .i64 cf, .int .i64 ct, .int .i64 ccp, .int .i64 ak, .int .i64 afl, .int .i64 cpg] 29) = X5 at *
                      generalize x5.heap.size = gc at *
                      clear HB1 ka4 kk4 kn4 hx5
                      have HB1 := Lib.hid hb
                      clear hb
                      have d0 := kc5.at_ 0 _ rfl
                      have d1 := kc5.at_ 1 _ rfl
                      have d2 := kc5.at_ 2 _ rfl
                      have d3 := kc5.at_ 3 _ rfl
                      have d4 := kc5.at_ 4 _ rfl
                      have d5 := kc5.at_ 5 _ rfl
                      go_upto_region 28 with (go_at_call 16; refine (HKC.out _).mono ?_; rintro e x6 ⟨rfl, hx6⟩)
                      clear d0 d1 d2 d3 d4 d5
                      have ka6 := (ka5.below hx6 ka5.lt).alloc (.cells #[.int .i64 k0, .int .i64 k1] 39)
                      have kk6 := (kk5.below hx6 kk5.lt).alloc (.cells #[.int .i64 k0, .int .i64 k1] 39)
                      have kc6 := (kc5.below hx6 kc5.lt).alloc (.cells #[.int .i64 k0, .int .i64 k1] 39)
                      have km6 := Blk.new x6 39 #[.int .i64 k0, .int .i64 k1]
                      have hb := (HB1.out.trans (hx6.mono HB1.out.size)).alloc (Nat.le_trans HB1.out.size hx6.size) (.cells #[.int .i64 k0, .int .i64 k1] 39)
                      generalize x6.alloc (.cells #[.int .i64 k0, .int .i64 k1] 39) = X6 at *
                      generalize x6.heap.size = gm at *
                      clear HB1 ka5 kk5 kc5 hx6
                      have HB1 := Lib.hid hb
                      clear hb
                      obtain ⟨z0, z1, z2, -⟩ := HQY.out X6 (HP.out.trans (HB1.out.mono HP.out.size))
                      have c0 := ka6.at_ 0 _ rfl
                      have c1 := ka6.at_ 1 _ rfl
                      have c2 := ka6.at_ 2 _ rfl
                      have c3 := ka6.at_ 3 _ rfl
                      have c4 := ka6.at_ 4 _ rfl
                      have c5 := ka6.at_ 5 _ rfl
                      have d0 := kc6.at_ 0 _ rfl
                      have d1 := kc6.at_ 1 _ rfl
                      have d2 := kc6.at_ 2 _ rfl
                      have d3 := kc6.at_ 3 _ rfl
                      have d4 := kc6.at_ 4 _ rfl
                      have d5 := kc6.at_ 5 _ rfl
                      have m0 := kk6.at_ 0 _ rfl
                      have m1 := kk6.at_ 1 _ rfl
                      have o0 := km6.at_ 0 _ rfl
                      have o1 := km6.at_ 1 _ rfl
                      go_wp2
                      clear c0 c1 c2 c3 c4 c5 d0 d1 d2 d3 d4 d5 m0 m1 o0 o1 z0 z1 z2
                      go_roundw
                      case rel => exact ⟨p + 1, by omega, by go_num, Lib.hid (HP.out.trans (HB1.out.mono HP.out.size))⟩
                      case measure => simp [intOf]; omega
                  · as_aux_lemma =>
                      have hc5 := hc1.symm
                      subst hc5
                      have HKC := HKC0
                      have HCC := HCC0
                      clear HKC0 HCC0
                      go_upto_region 17 with (go_at_call 12; refine (HCA.out wr (Below.refl _ _)).mono ?_; rintro e x1 ⟨rfl, hx1⟩)
                      have ka := Blk.new x1 29 #[.int .i64 af, .int .i64 at', .int .i64 ap, .int .i64 ak, .int .i64 afl, .int .i64 apg]
                      have hb := hx1.alloc hx1.size (.cells #[.int .i64 af, .int .i64 at', .int .i64 ap, .int .i64 ak, .int .i64 afl, .int .i64 apg] 29)
                      generalize x1.alloc (.cells #[.int .i64 af, .int .i64 at', .int .i64 ap, .int .i64 ak, .int .i64 afl, .int .i64 apg] 29) = X1 at *
                      generalize x1.heap.size = ga at *
                      have HB1 := Lib.hid hb
                      clear hb hx1
                      go_upto_region 18 with (go_at_call 12; refine (HCB.out _ HB1.out).mono ?_; rintro e x2 ⟨rfl, hx2⟩)
                      have ka2 := (ka.below hx2 ka.lt).alloc (.cells #[.int .i64 bf, .int .i64 bt, .int .i64 ap, .int .i64 ak, .int .i64 afl, .int .i64 bpg] 29)
                      have kb := Blk.new x2 29 #[.int .i64 bf, .int .i64 bt, .int .i64 ap, .int .i64 ak, .int .i64 afl, .int .i64 bpg]
                      have hb := (HB1.out.trans (hx2.mono HB1.out.size)).alloc (Nat.le_trans HB1.out.size hx2.size) (.cells #[.int .i64 bf, .int .i64 bt, .int .i64 ap, .int .i64 ak, .int .i64 afl, .int .i64 bpg] 29)
                      generalize x2.alloc (.cells #[.int .i64 bf, .int .i64 bt, .int .i64 ap, .int .i64 ak, .int .i64 afl, .int .i64 bpg] 29) = X2 at *
                      generalize x2.heap.size = gb at *
                      clear HB1 ka hx2
                      have HB1 := Lib.hid hb
                      clear hb
                      have c0 := ka2.at_ 0 _ rfl
                      have c1 := ka2.at_ 1 _ rfl
                      have c2 := ka2.at_ 2 _ rfl
                      have c3 := ka2.at_ 3 _ rfl
                      have c4 := ka2.at_ 4 _ rfl
                      have c5 := ka2.at_ 5 _ rfl
                      have d0 := kb.at_ 0 _ rfl
                      have d1 := kb.at_ 1 _ rfl
                      have d2 := kb.at_ 2 _ rfl
                      have d3 := kb.at_ 3 _ rfl
                      have d4 := kb.at_ 4 _ rfl
                      have d5 := kb.at_ 5 _ rfl
                      go_upto_region 21 with fail
                      go_upto_region 22 with (go_at_call 16; refine (HKA.out _).mono ?_; rintro e x3 ⟨rfl, hx3⟩)
                      clear c0 c1 c2 c3 c4 c5 d0 d1 d2 d3 d4 d5
                      have ka3 := (ka2.below hx3 ka2.lt).alloc (.cells #[.int .i64 k0, .int .i64 k1] 39)
                      have kb3 := (kb.below hx3 kb.lt).alloc (.cells #[.int .i64 k0, .int .i64 k1] 39)
                      have kk := Blk.new x3 39 #[.int .i64 k0, .int .i64 k1]
                      have hb := (HB1.out.trans (hx3.mono HB1.out.size)).alloc (Nat.le_trans HB1.out.size hx3.size) (.cells #[.int .i64 k0, .int .i64 k1] 39)
                      generalize x3.alloc (.cells #[.int .i64 k0, .int .i64 k1] 39) = X3 at *
                      generalize x3.heap.size = gk at *
                      clear HB1 ka2 kb hx3
                      have HB1 := Lib.hid hb
                      clear hb
                      have d0 := kb3.at_ 0 _ rfl
                      have d1 := kb3.at_ 1 _ rfl
                      have d2 := kb3.at_ 2 _ rfl
                      have d3 := kb3.at_ 3 _ rfl
                      have d4 := kb3.at_ 4 _ rfl
                      have d5 := kb3.at_ 5 _ rfl
                      go_upto_region 23 with (go_at_call 16; refine (HKB.out _).mono ?_; rintro e x4 ⟨rfl, hx4⟩)
                      clear d0 d1 d2 d3 d4 d5
                      have ka4 := (ka3.below hx4 ka3.lt).alloc (.cells #[.int .i64 k0, .int .i64 k1] 39)
                      have kk4 := (kk.below hx4 kk.lt).alloc (.cells #[.int .i64 k0, .int .i64 k1] 39)
                      have kn4 := Blk.new x4 39 #[.int .i64 k0, .int .i64 k1]
                      have hb := (HB1.out.trans (hx4.mono HB1.out.size)).alloc (Nat.le_trans HB1.out.size hx4.size) (.cells #[.int .i64 k0, .int .i64 k1] 39)
                      generalize x4.alloc (.cells #[.int .i64 k0, .int .i64 k1] 39) = X4 at *
                      generalize x4.heap.size = gn at *
                      clear HB1 ka3 kb3 kk hx4
                      have HB1 := Lib.hid hb
                      clear hb
                      have m0 := kk4.at_ 0 _ rfl
                      have m1 := kk4.at_ 1 _ rfl
                      have o0 := kn4.at_ 0 _ rfl
                      have o1 := kn4.at_ 1 _ rfl
                      go_upto_region 25 with fail
                      go_upto_region 27 with (go_at_call 12; refine (HCC.out _ HB1.out).mono ?_; rintro e x5 ⟨rfl, hx5⟩)
                      clear m0 m1 o0 o1
                      have ka5 := (ka4.below hx5 ka4.lt).alloc (.cells #[.int .i64 cf, .int .i64 ct, .int .i64 ap, .int .i64 ak, .int .i64 afl, .int .i64 cpg] 29)
                      have kk5 := (kk4.below hx5 kk4.lt).alloc (.cells #[.int .i64 cf, .int .i64 ct, .int .i64 ap, .int .i64 ak, .int .i64 afl, .int .i64 cpg] 29)
                      have kc5 := Blk.new x5 29 #[.int .i64 cf, .int .i64 ct, .int .i64 ap, .int .i64 ak, .int .i64 afl, .int .i64 cpg]
                      have hb := (HB1.out.trans (hx5.mono HB1.out.size)).alloc (Nat.le_trans HB1.out.size hx5.size) (.cells #[.int .i64 cf, .int .i64 ct, .int .i64 ap, .int .i64 ak, .int .i64 afl, .int .i64 cpg] 29)
                      generalize x5.alloc (.cells #[.int .i64 cf, .int .i64 ct, .int .i64 ap, .int .i64 ak, .int .i64 afl, .int .i64 cpg] 29) = X5 at *
                      generalize x5.heap.size = gc at *
                      clear HB1 ka4 kk4 kn4 hx5
                      have HB1 := Lib.hid hb
                      clear hb
                      have d0 := kc5.at_ 0 _ rfl
                      have d1 := kc5.at_ 1 _ rfl
                      have d2 := kc5.at_ 2 _ rfl
                      have d3 := kc5.at_ 3 _ rfl
                      have d4 := kc5.at_ 4 _ rfl
                      have d5 := kc5.at_ 5 _ rfl
                      go_upto_region 28 with (go_at_call 16; refine (HKC.out _).mono ?_; rintro e x6 ⟨rfl, hx6⟩)
                      clear d0 d1 d2 d3 d4 d5
                      have ka6 := (ka5.below hx6 ka5.lt).alloc (.cells #[.int .i64 k0, .int .i64 k1] 39)
                      have kk6 := (kk5.below hx6 kk5.lt).alloc (.cells #[.int .i64 k0, .int .i64 k1] 39)
                      have kc6 := (kc5.below hx6 kc5.lt).alloc (.cells #[.int .i64 k0, .int .i64 k1] 39)
                      have km6 := Blk.new x6 39 #[.int .i64 k0, .int .i64 k1]
                      have hb := (HB1.out.trans (hx6.mono HB1.out.size)).alloc (Nat.le_trans HB1.out.size hx6.size) (.cells #[.int .i64 k0, .int .i64 k1] 39)
                      generalize x6.alloc (.cells #[.int .i64 k0, .int .i64 k1] 39) = X6 at *
                      generalize x6.heap.size = gm at *
                      clear HB1 ka5 kk5 kc5 hx6
                      have HB1 := Lib.hid hb
                      clear hb
                      obtain ⟨z0, z1, z2, -⟩ := HQY.out X6 (HP.out.trans (HB1.out.mono HP.out.size))
                      have c0 := ka6.at_ 0 _ rfl
                      have c1 := ka6.at_ 1 _ rfl
                      have c2 := ka6.at_ 2 _ rfl
                      have c3 := ka6.at_ 3 _ rfl
                      have c4 := ka6.at_ 4 _ rfl
                      have c5 := ka6.at_ 5 _ rfl
                      have d0 := kc6.at_ 0 _ rfl
                      have d1 := kc6.at_ 1 _ rfl
                      have d2 := kc6.at_ 2 _ rfl
                      have d3 := kc6.at_ 3 _ rfl
                      have d4 := kc6.at_ 4 _ rfl
                      have d5 := kc6.at_ 5 _ rfl
                      have m0 := kk6.at_ 0 _ rfl
                      have m1 := kk6.at_ 1 _ rfl
                      have o0 := km6.at_ 0 _ rfl
                      have o1 := km6.at_ 1 _ rfl
                      go_wp2
                      clear c0 c1 c2 c3 c4 c5 d0 d1 d2 d3 d4 d5 m0 m1 o0 o1 z0 z1 z2
                      go_roundw
                      case rel => exact ⟨p + 1, by omega, by go_num, Lib.hid (HP.out.trans (HB1.out.mono HP.out.size))⟩
                      case measure => simp [intOf]; omega
            · obtain rfl : p = 70 := by omega
              have HBF := Lib.hid (HBY.out.trans (HP.out.mono HBY.out.size))
              have hco := HCO.out _ (HWY.out.trans (HP.out.mono HWY.out.size))
              go_wp2_with (go_at_call 19; refine hco.mono ?_; rintro e Z ⟨rfl, hZ⟩)
              obtain ⟨-, -, -, HBZ⟩ := HQ.out Z (HBF.out.trans (hZ.mono HBF.out.size))
              go_ret
              exact ⟨rfl, HBZ.out⟩
        · have g1 : (lo : Int) < (hi : Int) := by omega
          have g2 : decide ((lo : Int) < (hi : Int)) = true := decide_eq_true g1
          have HPR := Lib.hid (show Calls Try.prog 23 #[.slice A' m c', .int .i64 lo, .int .i64 hi, .int .i64 cp] X (fun e w' => e = .returned (.tuple #[.slice none 0 0, .int .i64 12]) ∧ Below X.heap.size X w') from (protect_any L lo hi cp A' m c' X (HSX.out.1.below HSX.out.2.2) HROW.out ⟨by omega, by omega⟩ ⟨by omega, by omega⟩ hbd.2.2).mono fun e w' h => by
            rcases h with ⟨h1, -⟩ | ⟨-, -, h1, h2⟩ | ⟨-, h1, -⟩
            · exact absurd h1 (by omega)
            · exact ⟨h1, h2⟩
            · exact absurd h1 hcov)
          have HCO := Lib.hid (fun (v : World) (hv : Below wr.heap.size wr v) => by
            have := covers_any L lo hi A' m c' v (HSX.out.1.below hv)
            rw [decide_eq_false hcov] at this
            exact this)
          obtain ⟨y0, y1, y2, -⟩ := HQ.out X (HSX.out.2.1.trans (HSX.out.2.2.mono HSX.out.2.1.size))
          obtain ⟨e0, e1, e2⟩ := HV.out
          go_upto_region 13 with (go_at_call 23; refine HPR.out.mono ?_; rintro e Y ⟨rfl, hY⟩)
          clear y0 y1 y2 e0 e1
          have HWY := Lib.hid (HSX.out.2.2.trans (hY.mono HSX.out.2.2.size))
          have HSL := Lib.hid (HSX.out.1.below HWY.out)
          have HSC := Lib.hid (HSC0.out.below hY)
          have HBY := Lib.hid (HSX.out.2.1.trans (HWY.out.mono HSX.out.2.1.size))
          have HQY := Lib.hid (fun (x : World) (hx : Below Y.heap.size Y x) => HQ.out x (HBY.out.trans (hx.mono HBY.out.size)))
          have HY0 := Lib.hid (Below.refl Y.heap.size Y)
          clear hY HPR HSC0
          clear e2
          go_wp2
          go_loopw [15] (fun pv wr => ∃ p : Nat, p ≤ 70 ∧ pv = .int .i64 p ∧ Hid (Below Y.heap.size Y wr)) (fun pv _ => 70 - (intOf pv).toNat)
          case atStart => exact ⟨0, by omega, rfl, HY0⟩
          case round =>
            obtain ⟨p, hp1, rfl, HP⟩ := hrel
            by_cases hgo : p < 70
            · have j1 : (p : Int) < 70 := by omega
              have j2 : decide ((p : Int) < 70) = true := decide_eq_true j1
              have j3 : 0 ≤ (p : Int) := by omega
              obtain ⟨⟨af, at', ap, ak, afl, apg⟩, hra⟩ : ∃ z, (findR L (p : Int)).getD zeroR = z := ⟨_, rfl⟩
              obtain ⟨x, hxa⟩ : ∃ z, (findR L (p : Int)).isSome = z := ⟨_, rfl⟩
              have hba := find_bd HROW.out (p : Int)
              rw [hra] at hba
              obtain ⟨⟨k0, k1⟩, hk0⟩ : ∃ z, (keyR ⟨af, at', ap, ak, afl, apg⟩ (p : Int)).getD (0, 0) = z := ⟨_, rfl⟩
              obtain ⟨ki, hki⟩ : ∃ z, (keyR ⟨af, at', ap, ak, afl, apg⟩ (p : Int)).isSome = z := ⟨_, rfl⟩
              have HCA := Lib.hid (fun (v : World) (hv : Below wr.heap.size wr v) => find_to L (p : Int) ((HSL.out.below HP.out).below hv) hra hxa)
              have HKA := Lib.hid (fun v => key_to hba hk0 hki v)
              have hcut := HCUT.out (p : Int)
              by_cases hin : (lo : Int) ≤ (p : Int) ∧ (p : Int) < (hi : Int)
              · obtain ⟨i1, i2⟩ := hin
                have i3 : decide ((lo : Int) ≤ (p : Int)) = true := decide_eq_true i1
                have i4 : decide ((p : Int) < (hi : Int)) = true := decide_eq_true i2
                rw [if_pos (by omega)] at hcut
                obtain ⟨hyb, hrb⟩ := kn hcut
                have HCB := Lib.hid (fun (v : World) (hv : Below wr.heap.size wr v) => find_to C (p : Int) ((HSC.out.below HP.out).below hv) (hrb.trans (by rfl : zeroR = ⟨0, 0, 0, 0, 0, 0⟩)) hyb)
                have HKB := Lib.hid (fun v => key_to (f := 0) (t := 0) (pm := 0) (k := 0) (fl := 0) (pg := 0) (p := (p : Int)) (k0 := 0) (k1 := 0) (ki := false) ⟨by decide, by decide, fun h => by cases h⟩ (by simp [keyR]) (by simp [keyR]) v)
                clear hcut hba hk0 hki hra hxa hyb hrb
                cases x
                · as_aux_lemma =>
                    go_upto_region 17 with (go_at_call 12; refine (HCA.out wr (Below.refl _ _)).mono ?_; rintro e x1 ⟨rfl, hx1⟩)
                    have ka := Blk.new x1 29 #[.int .i64 af, .int .i64 at', .int .i64 ap, .int .i64 ak, .int .i64 afl, .int .i64 apg]
                    have hb := hx1.alloc hx1.size (.cells #[.int .i64 af, .int .i64 at', .int .i64 ap, .int .i64 ak, .int .i64 afl, .int .i64 apg] 29)
                    generalize x1.alloc (.cells #[.int .i64 af, .int .i64 at', .int .i64 ap, .int .i64 ak, .int .i64 afl, .int .i64 apg] 29) = X1 at *
                    generalize x1.heap.size = ga at *
                    have HB1 := Lib.hid hb
                    clear hb hx1
                    go_upto_region 18 with (go_at_call 12; refine (HCB.out _ HB1.out).mono ?_; rintro e x2 ⟨rfl, hx2⟩)
                    have ka2 := (ka.below hx2 ka.lt).alloc (.cells #[.int .i64 0, .int .i64 0, .int .i64 0, .int .i64 0, .int .i64 0, .int .i64 0] 29)
                    have kb := Blk.new x2 29 #[.int .i64 0, .int .i64 0, .int .i64 0, .int .i64 0, .int .i64 0, .int .i64 0]
                    have hb := (HB1.out.trans (hx2.mono HB1.out.size)).alloc (Nat.le_trans HB1.out.size hx2.size) (.cells #[.int .i64 0, .int .i64 0, .int .i64 0, .int .i64 0, .int .i64 0, .int .i64 0] 29)
                    generalize x2.alloc (.cells #[.int .i64 0, .int .i64 0, .int .i64 0, .int .i64 0, .int .i64 0, .int .i64 0] 29) = X2 at *
                    generalize x2.heap.size = gb at *
                    clear HB1 ka hx2
                    have HB1 := Lib.hid hb
                    clear hb
                    have c0 := ka2.at_ 0 _ rfl
                    have c1 := ka2.at_ 1 _ rfl
                    have c2 := ka2.at_ 2 _ rfl
                    have c3 := ka2.at_ 3 _ rfl
                    have c4 := ka2.at_ 4 _ rfl
                    have c5 := ka2.at_ 5 _ rfl
                    have d0 := kb.at_ 0 _ rfl
                    have d1 := kb.at_ 1 _ rfl
                    have d2 := kb.at_ 2 _ rfl
                    have d3 := kb.at_ 3 _ rfl
                    have d4 := kb.at_ 4 _ rfl
                    have d5 := kb.at_ 5 _ rfl
                    go_upto_region 21 with fail
                    go_upto_region 22 with (go_at_call 16; refine (HKA.out _).mono ?_; rintro e x3 ⟨rfl, hx3⟩)
                    clear c0 c1 c2 c3 c4 c5 d0 d1 d2 d3 d4 d5
                    have ka3 := (ka2.below hx3 ka2.lt).alloc (.cells #[.int .i64 k0, .int .i64 k1] 39)
                    have kb3 := (kb.below hx3 kb.lt).alloc (.cells #[.int .i64 k0, .int .i64 k1] 39)
                    have kk := Blk.new x3 39 #[.int .i64 k0, .int .i64 k1]
                    have hb := (HB1.out.trans (hx3.mono HB1.out.size)).alloc (Nat.le_trans HB1.out.size hx3.size) (.cells #[.int .i64 k0, .int .i64 k1] 39)
                    generalize x3.alloc (.cells #[.int .i64 k0, .int .i64 k1] 39) = X3 at *
                    generalize x3.heap.size = gk at *
                    clear HB1 ka2 kb hx3
                    have HB1 := Lib.hid hb
                    clear hb
                    have d0 := kb3.at_ 0 _ rfl
                    have d1 := kb3.at_ 1 _ rfl
                    have d2 := kb3.at_ 2 _ rfl
                    have d3 := kb3.at_ 3 _ rfl
                    have d4 := kb3.at_ 4 _ rfl
                    have d5 := kb3.at_ 5 _ rfl
                    go_upto_region 23 with (go_at_call 16; refine (HKB.out _).mono ?_; rintro e x4 ⟨rfl, hx4⟩)
                    clear d0 d1 d2 d3 d4 d5
                    have ka4 := (ka3.below hx4 ka3.lt).alloc (.cells #[.int .i64 0, .int .i64 0] 39)
                    have kk4 := (kk.below hx4 kk.lt).alloc (.cells #[.int .i64 0, .int .i64 0] 39)
                    have kn4 := Blk.new x4 39 #[.int .i64 0, .int .i64 0]
                    have hb := (HB1.out.trans (hx4.mono HB1.out.size)).alloc (Nat.le_trans HB1.out.size hx4.size) (.cells #[.int .i64 0, .int .i64 0] 39)
                    generalize x4.alloc (.cells #[.int .i64 0, .int .i64 0] 39) = X4 at *
                    generalize x4.heap.size = gn at *
                    clear HB1 ka3 kb3 kk hx4
                    have HB1 := Lib.hid hb
                    clear hb
                    have m0 := kk4.at_ 0 _ rfl
                    have m1 := kk4.at_ 1 _ rfl
                    have o0 := kn4.at_ 0 _ rfl
                    have o1 := kn4.at_ 1 _ rfl
                    go_wp2
                    clear m0 m1 o0 o1
                    go_roundw
                    case rel => exact ⟨p + 1, by omega, by go_num, Lib.hid (HP.out.trans (HB1.out.mono HP.out.size))⟩
                    case measure => simp [intOf]; omega
                · as_aux_lemma =>
                    go_upto_region 17 with (go_at_call 12; refine (HCA.out wr (Below.refl _ _)).mono ?_; rintro e x1 ⟨rfl, hx1⟩)
                    have ka := Blk.new x1 29 #[.int .i64 af, .int .i64 at', .int .i64 ap, .int .i64 ak, .int .i64 afl, .int .i64 apg]
                    have hb := hx1.alloc hx1.size (.cells #[.int .i64 af, .int .i64 at', .int .i64 ap, .int .i64 ak, .int .i64 afl, .int .i64 apg] 29)
                    generalize x1.alloc (.cells #[.int .i64 af, .int .i64 at', .int .i64 ap, .int .i64 ak, .int .i64 afl, .int .i64 apg] 29) = X1 at *
                    generalize x1.heap.size = ga at *
                    have HB1 := Lib.hid hb
                    clear hb hx1
                    go_upto_region 18 with (go_at_call 12; refine (HCB.out _ HB1.out).mono ?_; rintro e x2 ⟨rfl, hx2⟩)
                    have ka2 := (ka.below hx2 ka.lt).alloc (.cells #[.int .i64 0, .int .i64 0, .int .i64 0, .int .i64 0, .int .i64 0, .int .i64 0] 29)
                    have kb := Blk.new x2 29 #[.int .i64 0, .int .i64 0, .int .i64 0, .int .i64 0, .int .i64 0, .int .i64 0]
                    have hb := (HB1.out.trans (hx2.mono HB1.out.size)).alloc (Nat.le_trans HB1.out.size hx2.size) (.cells #[.int .i64 0, .int .i64 0, .int .i64 0, .int .i64 0, .int .i64 0, .int .i64 0] 29)
                    generalize x2.alloc (.cells #[.int .i64 0, .int .i64 0, .int .i64 0, .int .i64 0, .int .i64 0, .int .i64 0] 29) = X2 at *
                    generalize x2.heap.size = gb at *
                    clear HB1 ka hx2
                    have HB1 := Lib.hid hb
                    clear hb
                    have c0 := ka2.at_ 0 _ rfl
                    have c1 := ka2.at_ 1 _ rfl
                    have c2 := ka2.at_ 2 _ rfl
                    have c3 := ka2.at_ 3 _ rfl
                    have c4 := ka2.at_ 4 _ rfl
                    have c5 := ka2.at_ 5 _ rfl
                    have d0 := kb.at_ 0 _ rfl
                    have d1 := kb.at_ 1 _ rfl
                    have d2 := kb.at_ 2 _ rfl
                    have d3 := kb.at_ 3 _ rfl
                    have d4 := kb.at_ 4 _ rfl
                    have d5 := kb.at_ 5 _ rfl
                    go_upto_region 21 with fail
                    go_upto_region 22 with (go_at_call 16; refine (HKA.out _).mono ?_; rintro e x3 ⟨rfl, hx3⟩)
                    clear c0 c1 c2 c3 c4 c5 d0 d1 d2 d3 d4 d5
                    have ka3 := (ka2.below hx3 ka2.lt).alloc (.cells #[.int .i64 k0, .int .i64 k1] 39)
                    have kb3 := (kb.below hx3 kb.lt).alloc (.cells #[.int .i64 k0, .int .i64 k1] 39)
                    have kk := Blk.new x3 39 #[.int .i64 k0, .int .i64 k1]
                    have hb := (HB1.out.trans (hx3.mono HB1.out.size)).alloc (Nat.le_trans HB1.out.size hx3.size) (.cells #[.int .i64 k0, .int .i64 k1] 39)
                    generalize x3.alloc (.cells #[.int .i64 k0, .int .i64 k1] 39) = X3 at *
                    generalize x3.heap.size = gk at *
                    clear HB1 ka2 kb hx3
                    have HB1 := Lib.hid hb
                    clear hb
                    have d0 := kb3.at_ 0 _ rfl
                    have d1 := kb3.at_ 1 _ rfl
                    have d2 := kb3.at_ 2 _ rfl
                    have d3 := kb3.at_ 3 _ rfl
                    have d4 := kb3.at_ 4 _ rfl
                    have d5 := kb3.at_ 5 _ rfl
                    go_upto_region 23 with (go_at_call 16; refine (HKB.out _).mono ?_; rintro e x4 ⟨rfl, hx4⟩)
                    clear d0 d1 d2 d3 d4 d5
                    have ka4 := (ka3.below hx4 ka3.lt).alloc (.cells #[.int .i64 0, .int .i64 0] 39)
                    have kk4 := (kk.below hx4 kk.lt).alloc (.cells #[.int .i64 0, .int .i64 0] 39)
                    have kn4 := Blk.new x4 39 #[.int .i64 0, .int .i64 0]
                    have hb := (HB1.out.trans (hx4.mono HB1.out.size)).alloc (Nat.le_trans HB1.out.size hx4.size) (.cells #[.int .i64 0, .int .i64 0] 39)
                    generalize x4.alloc (.cells #[.int .i64 0, .int .i64 0] 39) = X4 at *
                    generalize x4.heap.size = gn at *
                    clear HB1 ka3 kb3 kk hx4
                    have HB1 := Lib.hid hb
                    clear hb
                    have m0 := kk4.at_ 0 _ rfl
                    have m1 := kk4.at_ 1 _ rfl
                    have o0 := kn4.at_ 0 _ rfl
                    have o1 := kn4.at_ 1 _ rfl
                    go_wp2
                    clear m0 m1 o0 o1
                    go_roundw
                    case rel => exact ⟨p + 1, by omega, by go_num, Lib.hid (HP.out.trans (HB1.out.mono HP.out.size))⟩
                    case measure => simp [intOf]; omega
              · have hdn : ((lo : Int) ≤ (p : Int) ∧ decide ((lo : Int) ≤ (p : Int)) = true ∧ decide ((p : Int) < (hi : Int)) = false ∧ ¬ (p : Int) < (hi : Int)) ∨ (¬ (lo : Int) ≤ (p : Int) ∧ decide ((lo : Int) ≤ (p : Int)) = false) := by
                  by_cases h : (lo : Int) ≤ (p : Int)
                  · have h2 : ¬ (p : Int) < (hi : Int) := fun h3 => hin ⟨h, h3⟩
                    exact .inl ⟨h, decide_eq_true h, decide_eq_false h2, h2⟩
                  · exact .inr ⟨h, decide_eq_false h⟩
                rw [if_neg (by omega)] at hcut
                obtain ⟨hyb, ⟨hb1, hb2, hb3⟩, hb4⟩ := kp hcut
                obtain ⟨⟨bf, bt, bp, bk, bfl, bpg⟩, hrb⟩ : ∃ z, (findR C (p : Int)).getD zeroR = z := ⟨_, rfl⟩
                rw [hrb, hra] at hb1 hb2 hb3 hb4
                simp only at hb1 hb2 hb3
                have hb1 := hb1.symm
                have hb2 := hb2.symm
                have hb3 := hb3.symm
                subst hb1
                subst hb2
                subst hb3
                have hbb := find_bd HCAS.out (p : Int)
                rw [hrb] at hbb
                rw [hxa] at hyb
                have HCB := Lib.hid (fun (v : World) (hv : Below wr.heap.size wr v) => find_to C (p : Int) ((HSC.out.below HP.out).below hv) hrb hyb)
                have HKB := Lib.hid (fun v => key_to (k0 := k0) (k1 := k1) (ki := ki) hbb (by rw [hb4]; exact hk0) (by rw [hb4]; exact hki) v)
                clear hb4 hbb hyb hrb
                clear hcut hba hk0 hki hra hxa hin
                rcases hdn with ⟨i1, i3, i4, i2⟩ | ⟨i1, i3⟩
                · cases x
                  · as_aux_lemma =>
                      go_upto_region 17 with (go_at_call 12; refine (HCA.out wr (Below.refl _ _)).mono ?_; rintro e x1 ⟨rfl, hx1⟩)
                      have ka := Blk.new x1 29 #[.int .i64 af, .int .i64 at', .int .i64 ap, .int .i64 ak, .int .i64 afl, .int .i64 apg]
                      have hb := hx1.alloc hx1.size (.cells #[.int .i64 af, .int .i64 at', .int .i64 ap, .int .i64 ak, .int .i64 afl, .int .i64 apg] 29)
                      generalize x1.alloc (.cells #[.int .i64 af, .int .i64 at', .int .i64 ap, .int .i64 ak, .int .i64 afl, .int .i64 apg] 29) = X1 at *
                      generalize x1.heap.size = ga at *
                      have HB1 := Lib.hid hb
                      clear hb hx1
                      go_upto_region 18 with (go_at_call 12; refine (HCB.out _ HB1.out).mono ?_; rintro e x2 ⟨rfl, hx2⟩)
                      have ka2 := (ka.below hx2 ka.lt).alloc (.cells #[.int .i64 bf, .int .i64 bt, .int .i64 ap, .int .i64 ak, .int .i64 afl, .int .i64 bpg] 29)
                      have kb := Blk.new x2 29 #[.int .i64 bf, .int .i64 bt, .int .i64 ap, .int .i64 ak, .int .i64 afl, .int .i64 bpg]
                      have hb := (HB1.out.trans (hx2.mono HB1.out.size)).alloc (Nat.le_trans HB1.out.size hx2.size) (.cells #[.int .i64 bf, .int .i64 bt, .int .i64 ap, .int .i64 ak, .int .i64 afl, .int .i64 bpg] 29)
                      generalize x2.alloc (.cells #[.int .i64 bf, .int .i64 bt, .int .i64 ap, .int .i64 ak, .int .i64 afl, .int .i64 bpg] 29) = X2 at *
                      generalize x2.heap.size = gb at *
                      clear HB1 ka hx2
                      have HB1 := Lib.hid hb
                      clear hb
                      have c0 := ka2.at_ 0 _ rfl
                      have c1 := ka2.at_ 1 _ rfl
                      have c2 := ka2.at_ 2 _ rfl
                      have c3 := ka2.at_ 3 _ rfl
                      have c4 := ka2.at_ 4 _ rfl
                      have c5 := ka2.at_ 5 _ rfl
                      have d0 := kb.at_ 0 _ rfl
                      have d1 := kb.at_ 1 _ rfl
                      have d2 := kb.at_ 2 _ rfl
                      have d3 := kb.at_ 3 _ rfl
                      have d4 := kb.at_ 4 _ rfl
                      have d5 := kb.at_ 5 _ rfl
                      go_upto_region 21 with fail
                      go_upto_region 22 with (go_at_call 16; refine (HKA.out _).mono ?_; rintro e x3 ⟨rfl, hx3⟩)
                      clear c0 c1 c2 c3 c4 c5 d0 d1 d2 d3 d4 d5
                      have ka3 := (ka2.below hx3 ka2.lt).alloc (.cells #[.int .i64 k0, .int .i64 k1] 39)
                      have kb3 := (kb.below hx3 kb.lt).alloc (.cells #[.int .i64 k0, .int .i64 k1] 39)
                      have kk := Blk.new x3 39 #[.int .i64 k0, .int .i64 k1]
                      have hb := (HB1.out.trans (hx3.mono HB1.out.size)).alloc (Nat.le_trans HB1.out.size hx3.size) (.cells #[.int .i64 k0, .int .i64 k1] 39)
                      generalize x3.alloc (.cells #[.int .i64 k0, .int .i64 k1] 39) = X3 at *
                      generalize x3.heap.size = gk at *
                      clear HB1 ka2 kb hx3
                      have HB1 := Lib.hid hb
                      clear hb
                      have d0 := kb3.at_ 0 _ rfl
                      have d1 := kb3.at_ 1 _ rfl
                      have d2 := kb3.at_ 2 _ rfl
                      have d3 := kb3.at_ 3 _ rfl
                      have d4 := kb3.at_ 4 _ rfl
                      have d5 := kb3.at_ 5 _ rfl
                      go_upto_region 23 with (go_at_call 16; refine (HKB.out _).mono ?_; rintro e x4 ⟨rfl, hx4⟩)
                      clear d0 d1 d2 d3 d4 d5
                      have ka4 := (ka3.below hx4 ka3.lt).alloc (.cells #[.int .i64 k0, .int .i64 k1] 39)
                      have kk4 := (kk.below hx4 kk.lt).alloc (.cells #[.int .i64 k0, .int .i64 k1] 39)
                      have kn4 := Blk.new x4 39 #[.int .i64 k0, .int .i64 k1]
                      have hb := (HB1.out.trans (hx4.mono HB1.out.size)).alloc (Nat.le_trans HB1.out.size hx4.size) (.cells #[.int .i64 k0, .int .i64 k1] 39)
                      generalize x4.alloc (.cells #[.int .i64 k0, .int .i64 k1] 39) = X4 at *
                      generalize x4.heap.size = gn at *
                      clear HB1 ka3 kb3 kk hx4
                      have HB1 := Lib.hid hb
                      clear hb
                      have m0 := kk4.at_ 0 _ rfl
                      have m1 := kk4.at_ 1 _ rfl
                      have o0 := kn4.at_ 0 _ rfl
                      have o1 := kn4.at_ 1 _ rfl
                      go_wp2
                      clear m0 m1 o0 o1
                      go_roundw
                      case rel => exact ⟨p + 1, by omega, by go_num, Lib.hid (HP.out.trans (HB1.out.mono HP.out.size))⟩
                      case measure => simp [intOf]; omega
                  · as_aux_lemma =>
                      go_upto_region 17 with (go_at_call 12; refine (HCA.out wr (Below.refl _ _)).mono ?_; rintro e x1 ⟨rfl, hx1⟩)
                      have ka := Blk.new x1 29 #[.int .i64 af, .int .i64 at', .int .i64 ap, .int .i64 ak, .int .i64 afl, .int .i64 apg]
                      have hb := hx1.alloc hx1.size (.cells #[.int .i64 af, .int .i64 at', .int .i64 ap, .int .i64 ak, .int .i64 afl, .int .i64 apg] 29)
                      generalize x1.alloc (.cells #[.int .i64 af, .int .i64 at', .int .i64 ap, .int .i64 ak, .int .i64 afl, .int .i64 apg] 29) = X1 at *
                      generalize x1.heap.size = ga at *
                      have HB1 := Lib.hid hb
                      clear hb hx1
                      go_upto_region 18 with (go_at_call 12; refine (HCB.out _ HB1.out).mono ?_; rintro e x2 ⟨rfl, hx2⟩)
                      have ka2 := (ka.below hx2 ka.lt).alloc (.cells #[.int .i64 bf, .int .i64 bt, .int .i64 ap, .int .i64 ak, .int .i64 afl, .int .i64 bpg] 29)
                      have kb := Blk.new x2 29 #[.int .i64 bf, .int .i64 bt, .int .i64 ap, .int .i64 ak, .int .i64 afl, .int .i64 bpg]
                      have hb := (HB1.out.trans (hx2.mono HB1.out.size)).alloc (Nat.le_trans HB1.out.size hx2.size) (.cells #[.int .i64 bf, .int .i64 bt, .int .i64 ap, .int .i64 ak, .int .i64 afl, .int .i64 bpg] 29)
                      generalize x2.alloc (.cells #[.int .i64 bf, .int .i64 bt, .int .i64 ap, .int .i64 ak, .int .i64 afl, .int .i64 bpg] 29) = X2 at *
                      generalize x2.heap.size = gb at *
                      clear HB1 ka hx2
                      have HB1 := Lib.hid hb
                      clear hb
                      have c0 := ka2.at_ 0 _ rfl
                      have c1 := ka2.at_ 1 _ rfl
                      have c2 := ka2.at_ 2 _ rfl
                      have c3 := ka2.at_ 3 _ rfl
                      have c4 := ka2.at_ 4 _ rfl
                      have c5 := ka2.at_ 5 _ rfl
                      have d0 := kb.at_ 0 _ rfl
                      have d1 := kb.at_ 1 _ rfl
                      have d2 := kb.at_ 2 _ rfl
                      have d3 := kb.at_ 3 _ rfl
                      have d4 := kb.at_ 4 _ rfl
                      have d5 := kb.at_ 5 _ rfl
                      go_upto_region 21 with fail
                      go_upto_region 22 with (go_at_call 16; refine (HKA.out _).mono ?_; rintro e x3 ⟨rfl, hx3⟩)
                      clear c0 c1 c2 c3 c4 c5 d0 d1 d2 d3 d4 d5
                      have ka3 := (ka2.below hx3 ka2.lt).alloc (.cells #[.int .i64 k0, .int .i64 k1] 39)
                      have kb3 := (kb.below hx3 kb.lt).alloc (.cells #[.int .i64 k0, .int .i64 k1] 39)
                      have kk := Blk.new x3 39 #[.int .i64 k0, .int .i64 k1]
                      have hb := (HB1.out.trans (hx3.mono HB1.out.size)).alloc (Nat.le_trans HB1.out.size hx3.size) (.cells #[.int .i64 k0, .int .i64 k1] 39)
                      generalize x3.alloc (.cells #[.int .i64 k0, .int .i64 k1] 39) = X3 at *
                      generalize x3.heap.size = gk at *
                      clear HB1 ka2 kb hx3
                      have HB1 := Lib.hid hb
                      clear hb
                      have d0 := kb3.at_ 0 _ rfl
                      have d1 := kb3.at_ 1 _ rfl
                      have d2 := kb3.at_ 2 _ rfl
                      have d3 := kb3.at_ 3 _ rfl
                      have d4 := kb3.at_ 4 _ rfl
                      have d5 := kb3.at_ 5 _ rfl
                      go_upto_region 23 with (go_at_call 16; refine (HKB.out _).mono ?_; rintro e x4 ⟨rfl, hx4⟩)
                      clear d0 d1 d2 d3 d4 d5
                      have ka4 := (ka3.below hx4 ka3.lt).alloc (.cells #[.int .i64 k0, .int .i64 k1] 39)
                      have kk4 := (kk.below hx4 kk.lt).alloc (.cells #[.int .i64 k0, .int .i64 k1] 39)
                      have kn4 := Blk.new x4 39 #[.int .i64 k0, .int .i64 k1]
                      have hb := (HB1.out.trans (hx4.mono HB1.out.size)).alloc (Nat.le_trans HB1.out.size hx4.size) (.cells #[.int .i64 k0, .int .i64 k1] 39)
                      generalize x4.alloc (.cells #[.int .i64 k0, .int .i64 k1] 39) = X4 at *
                      generalize x4.heap.size = gn at *
                      clear HB1 ka3 kb3 kk hx4
                      have HB1 := Lib.hid hb
                      clear hb
                      have m0 := kk4.at_ 0 _ rfl
                      have m1 := kk4.at_ 1 _ rfl
                      have o0 := kn4.at_ 0 _ rfl
                      have o1 := kn4.at_ 1 _ rfl
                      go_wp2
                      clear m0 m1 o0 o1
                      go_roundw
                      case rel => exact ⟨p + 1, by omega, by go_num, Lib.hid (HP.out.trans (HB1.out.mono HP.out.size))⟩
                      case measure => simp [intOf]; omega
                · cases x
                  · as_aux_lemma =>
                      go_upto_region 17 with (go_at_call 12; refine (HCA.out wr (Below.refl _ _)).mono ?_; rintro e x1 ⟨rfl, hx1⟩)
                      have ka := Blk.new x1 29 #[.int .i64 af, .int .i64 at', .int .i64 ap, .int .i64 ak, .int .i64 afl, .int .i64 apg]
                      have hb := hx1.alloc hx1.size (.cells #[.int .i64 af, .int .i64 at', .int .i64 ap, .int .i64 ak, .int .i64 afl, .int .i64 apg] 29)
                      generalize x1.alloc (.cells #[.int .i64 af, .int .i64 at', .int .i64 ap, .int .i64 ak, .int .i64 afl, .int .i64 apg] 29) = X1 at *
                      generalize x1.heap.size = ga at *
                      have HB1 := Lib.hid hb
                      clear hb hx1
                      go_upto_region 18 with (go_at_call 12; refine (HCB.out _ HB1.out).mono ?_; rintro e x2 ⟨rfl, hx2⟩)
                      have ka2 := (ka.below hx2 ka.lt).alloc (.cells #[.int .i64 bf, .int .i64 bt, .int .i64 ap, .int .i64 ak, .int .i64 afl, .int .i64 bpg] 29)
                      have kb := Blk.new x2 29 #[.int .i64 bf, .int .i64 bt, .int .i64 ap, .int .i64 ak, .int .i64 afl, .int .i64 bpg]
                      have hb := (HB1.out.trans (hx2.mono HB1.out.size)).alloc (Nat.le_trans HB1.out.size hx2.size) (.cells #[.int .i64 bf, .int .i64 bt, .int .i64 ap, .int .i64 ak, .int .i64 afl, .int .i64 bpg] 29)
                      generalize x2.alloc (.cells #[.int .i64 bf, .int .i64 bt, .int .i64 ap, .int .i64 ak, .int .i64 afl, .int .i64 bpg] 29) = X2 at *
                      generalize x2.heap.size = gb at *
                      clear HB1 ka hx2
                      have HB1 := Lib.hid hb
                      clear hb
                      have c0 := ka2.at_ 0 _ rfl
                      have c1 := ka2.at_ 1 _ rfl
                      have c2 := ka2.at_ 2 _ rfl
                      have c3 := ka2.at_ 3 _ rfl
                      have c4 := ka2.at_ 4 _ rfl
                      have c5 := ka2.at_ 5 _ rfl
                      have d0 := kb.at_ 0 _ rfl
                      have d1 := kb.at_ 1 _ rfl
                      have d2 := kb.at_ 2 _ rfl
                      have d3 := kb.at_ 3 _ rfl
                      have d4 := kb.at_ 4 _ rfl
                      have d5 := kb.at_ 5 _ rfl
                      go_upto_region 21 with fail
                      go_upto_region 22 with (go_at_call 16; refine (HKA.out _).mono ?_; rintro e x3 ⟨rfl, hx3⟩)
                      clear c0 c1 c2 c3 c4 c5 d0 d1 d2 d3 d4 d5
                      have ka3 := (ka2.below hx3 ka2.lt).alloc (.cells #[.int .i64 k0, .int .i64 k1] 39)
                      have kb3 := (kb.below hx3 kb.lt).alloc (.cells #[.int .i64 k0, .int .i64 k1] 39)
                      have kk := Blk.new x3 39 #[.int .i64 k0, .int .i64 k1]
                      have hb := (HB1.out.trans (hx3.mono HB1.out.size)).alloc (Nat.le_trans HB1.out.size hx3.size) (.cells #[.int .i64 k0, .int .i64 k1] 39)
                      generalize x3.alloc (.cells #[.int .i64 k0, .int .i64 k1] 39) = X3 at *
                      generalize x3.heap.size = gk at *
                      clear HB1 ka2 kb hx3
                      have HB1 := Lib.hid hb
                      clear hb
                      have d0 := kb3.at_ 0 _ rfl
                      have d1 := kb3.at_ 1 _ rfl
                      have d2 := kb3.at_ 2 _ rfl
                      have d3 := kb3.at_ 3 _ rfl
                      have d4 := kb3.at_ 4 _ rfl
                      have d5 := kb3.at_ 5 _ rfl
                      go_upto_region 23 with (go_at_call 16; refine (HKB.out _).mono ?_; rintro e x4 ⟨rfl, hx4⟩)
                      clear d0 d1 d2 d3 d4 d5
                      have ka4 := (ka3.below hx4 ka3.lt).alloc (.cells #[.int .i64 k0, .int .i64 k1] 39)
                      have kk4 := (kk.below hx4 kk.lt).alloc (.cells #[.int .i64 k0, .int .i64 k1] 39)
                      have kn4 := Blk.new x4 39 #[.int .i64 k0, .int .i64 k1]
                      have hb := (HB1.out.trans (hx4.mono HB1.out.size)).alloc (Nat.le_trans HB1.out.size hx4.size) (.cells #[.int .i64 k0, .int .i64 k1] 39)
                      generalize x4.alloc (.cells #[.int .i64 k0, .int .i64 k1] 39) = X4 at *
                      generalize x4.heap.size = gn at *
                      clear HB1 ka3 kb3 kk hx4
                      have HB1 := Lib.hid hb
                      clear hb
                      have m0 := kk4.at_ 0 _ rfl
                      have m1 := kk4.at_ 1 _ rfl
                      have o0 := kn4.at_ 0 _ rfl
                      have o1 := kn4.at_ 1 _ rfl
                      go_wp2
                      clear m0 m1 o0 o1
                      go_roundw
                      case rel => exact ⟨p + 1, by omega, by go_num, Lib.hid (HP.out.trans (HB1.out.mono HP.out.size))⟩
                      case measure => simp [intOf]; omega
                  · as_aux_lemma =>
                      go_upto_region 17 with (go_at_call 12; refine (HCA.out wr (Below.refl _ _)).mono ?_; rintro e x1 ⟨rfl, hx1⟩)
                      have ka := Blk.new x1 29 #[.int .i64 af, .int .i64 at', .int .i64 ap, .int .i64 ak, .int .i64 afl, .int .i64 apg]
                      have hb := hx1.alloc hx1.size (.cells #[.int .i64 af, .int .i64 at', .int .i64 ap, .int .i64 ak, .int .i64 afl, .int .i64 apg] 29)
                      generalize x1.alloc (.cells #[.int .i64 af, .int .i64 at', .int .i64 ap, .int .i64 ak, .int .i64 afl, .int .i64 apg] 29) = X1 at *
                      generalize x1.heap.size = ga at *
                      have HB1 := Lib.hid hb
                      clear hb hx1
                      go_upto_region 18 with (go_at_call 12; refine (HCB.out _ HB1.out).mono ?_; rintro e x2 ⟨rfl, hx2⟩)
                      have ka2 := (ka.below hx2 ka.lt).alloc (.cells #[.int .i64 bf, .int .i64 bt, .int .i64 ap, .int .i64 ak, .int .i64 afl, .int .i64 bpg] 29)
                      have kb := Blk.new x2 29 #[.int .i64 bf, .int .i64 bt, .int .i64 ap, .int .i64 ak, .int .i64 afl, .int .i64 bpg]
                      have hb := (HB1.out.trans (hx2.mono HB1.out.size)).alloc (Nat.le_trans HB1.out.size hx2.size) (.cells #[.int .i64 bf, .int .i64 bt, .int .i64 ap, .int .i64 ak, .int .i64 afl, .int .i64 bpg] 29)
                      generalize x2.alloc (.cells #[.int .i64 bf, .int .i64 bt, .int .i64 ap, .int .i64 ak, .int .i64 afl, .int .i64 bpg] 29) = X2 at *
                      generalize x2.heap.size = gb at *
                      clear HB1 ka hx2
                      have HB1 := Lib.hid hb
                      clear hb
                      have c0 := ka2.at_ 0 _ rfl
                      have c1 := ka2.at_ 1 _ rfl
                      have c2 := ka2.at_ 2 _ rfl
                      have c3 := ka2.at_ 3 _ rfl
                      have c4 := ka2.at_ 4 _ rfl
                      have c5 := ka2.at_ 5 _ rfl
                      have d0 := kb.at_ 0 _ rfl
                      have d1 := kb.at_ 1 _ rfl
                      have d2 := kb.at_ 2 _ rfl
                      have d3 := kb.at_ 3 _ rfl
                      have d4 := kb.at_ 4 _ rfl
                      have d5 := kb.at_ 5 _ rfl
                      go_upto_region 21 with fail
                      go_upto_region 22 with (go_at_call 16; refine (HKA.out _).mono ?_; rintro e x3 ⟨rfl, hx3⟩)
                      clear c0 c1 c2 c3 c4 c5 d0 d1 d2 d3 d4 d5
                      have ka3 := (ka2.below hx3 ka2.lt).alloc (.cells #[.int .i64 k0, .int .i64 k1] 39)
                      have kb3 := (kb.below hx3 kb.lt).alloc (.cells #[.int .i64 k0, .int .i64 k1] 39)
                      have kk := Blk.new x3 39 #[.int .i64 k0, .int .i64 k1]
                      have hb := (HB1.out.trans (hx3.mono HB1.out.size)).alloc (Nat.le_trans HB1.out.size hx3.size) (.cells #[.int .i64 k0, .int .i64 k1] 39)
                      generalize x3.alloc (.cells #[.int .i64 k0, .int .i64 k1] 39) = X3 at *
                      generalize x3.heap.size = gk at *
                      clear HB1 ka2 kb hx3
                      have HB1 := Lib.hid hb
                      clear hb
                      have d0 := kb3.at_ 0 _ rfl
                      have d1 := kb3.at_ 1 _ rfl
                      have d2 := kb3.at_ 2 _ rfl
                      have d3 := kb3.at_ 3 _ rfl
                      have d4 := kb3.at_ 4 _ rfl
                      have d5 := kb3.at_ 5 _ rfl
                      go_upto_region 23 with (go_at_call 16; refine (HKB.out _).mono ?_; rintro e x4 ⟨rfl, hx4⟩)
                      clear d0 d1 d2 d3 d4 d5
                      have ka4 := (ka3.below hx4 ka3.lt).alloc (.cells #[.int .i64 k0, .int .i64 k1] 39)
                      have kk4 := (kk.below hx4 kk.lt).alloc (.cells #[.int .i64 k0, .int .i64 k1] 39)
                      have kn4 := Blk.new x4 39 #[.int .i64 k0, .int .i64 k1]
                      have hb := (HB1.out.trans (hx4.mono HB1.out.size)).alloc (Nat.le_trans HB1.out.size hx4.size) (.cells #[.int .i64 k0, .int .i64 k1] 39)
                      generalize x4.alloc (.cells #[.int .i64 k0, .int .i64 k1] 39) = X4 at *
                      generalize x4.heap.size = gn at *
                      clear HB1 ka3 kb3 kk hx4
                      have HB1 := Lib.hid hb
                      clear hb
                      have m0 := kk4.at_ 0 _ rfl
                      have m1 := kk4.at_ 1 _ rfl
                      have o0 := kn4.at_ 0 _ rfl
                      have o1 := kn4.at_ 1 _ rfl
                      go_wp2
                      clear m0 m1 o0 o1
                      go_roundw
                      case rel => exact ⟨p + 1, by omega, by go_num, Lib.hid (HP.out.trans (HB1.out.mono HP.out.size))⟩
                      case measure => simp [intOf]; omega
            · obtain rfl : p = 70 := by omega
              have HBF := Lib.hid (HBY.out.trans (HP.out.mono HBY.out.size))
              have hco := HCO.out _ (HWY.out.trans (HP.out.mono HWY.out.size))
              go_wp2_with (go_at_call 19; refine hco.mono ?_; rintro e Z ⟨rfl, hZ⟩)
              obtain ⟨-, -, -, HBZ⟩ := HQ.out Z (HBF.out.trans (hZ.mono HBF.out.size))
              go_ret
              exact ⟨rfl, HBZ.out⟩
end Go.Proofs.Ytmknkdfdkanijaa.lawKeeps
