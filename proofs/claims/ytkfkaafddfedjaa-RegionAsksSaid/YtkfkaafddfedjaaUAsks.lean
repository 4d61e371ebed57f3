/- RegionAsks: for any changes, to 15, of an empty row and any numbers: Find, Gap, Key, Covers and Pages tell what the document's tell. -/
import Derived.Test.YtkfkaafddfedjaaVJ
namespace Go.Proofs.Ytkfkaafddfedjaa.lawAsks
open Go.ChangeShapes Go.WideShapes Go.ChangeAt Go.RowKit Go.Deep
set_option linter.unusedVariables false
set_option linter.unusedSimpArgs false

theorem find_to (L : List Rg) (p : Int) {A : Option Addr} {n c : Nat} {v : World} (h : RS v A n c L) {f t pm k fl pg : Int} {x : Bool} (h0 : (findR L p).getD zeroR = ⟨f, t, pm, k, fl, pg⟩) (h1 : (findR L p).isSome = x) :
    Calls Try.prog 7 #[.slice A n c, .int .i64 p] v fun e w' => e = .returned (.tuple #[.agg #[.int .i64 f, .int .i64 t, .int .i64 pm, .int .i64 k, .int .i64 fl, .int .i64 pg], .bool x]) ∧ Below v.heap.size v w' := by
  have := find_any L p A n c v h
  rw [h0, h1] at this
  exact this
theorem rfind_to (L : List Rg) (p : Int) {A : Option Addr} {n c : Nat} {v : World} (h : RS v A n c L) {f t pm k fl pg : Int} {x : Bool} (h0 : (findR L p).getD zeroR = ⟨f, t, pm, k, fl, pg⟩) (h1 : (findR L p).isSome = x) :
    Calls Try.prog 8 #[.slice A n c, .int .i64 p] v fun e w' => e = .returned (.tuple #[.agg #[.int .i64 f, .int .i64 t, .int .i64 pm, .int .i64 k, .int .i64 fl, .int .i64 pg], .bool x]) ∧ Below v.heap.size v w' := by
  have := rfind_any L p A n c v h
  rw [h0, h1] at this
  exact this
theorem key_to {f t pm k fl pg p k0 k1 : Int} {ki : Bool} (hb : (⟨f, t, pm, k, fl, pg⟩ : Rg).Bd) (h0 : (keyR ⟨f, t, pm, k, fl, pg⟩ p).getD (0, 0) = (k0, k1)) (h1 : (keyR ⟨f, t, pm, k, fl, pg⟩ p).isSome = ki) (v : World) :
    Calls Try.prog 11 #[.agg #[.int .i64 f, .int .i64 t, .int .i64 pm, .int .i64 k, .int .i64 fl, .int .i64 pg], .int .i64 p] v fun e w' => e = .returned (.tuple #[.agg #[.int .i64 k0, .int .i64 k1], .bool ki]) ∧ Below v.heap.size v w' := by
  have := key_any ⟨f, t, pm, k, fl, pg⟩ p v hb
  unfold keyV at this
  rw [h0, h1] at this
  exact this
theorem rkey_to {f t pm k fl pg p k0 k1 : Int} {ki : Bool} (hb : (⟨f, t, pm, k, fl, pg⟩ : Rg).Bd) (h0 : (keyR ⟨f, t, pm, k, fl, pg⟩ p).getD (0, 0) = (k0, k1)) (h1 : (keyR ⟨f, t, pm, k, fl, pg⟩ p).isSome = ki) (v : World) :
    Calls Try.prog 12 #[.agg #[.int .i64 f, .int .i64 t, .int .i64 pm, .int .i64 k, .int .i64 fl, .int .i64 pg], .int .i64 p] v fun e w' => e = .returned (.tuple #[.agg #[.int .i64 k0, .int .i64 k1], .bool ki]) ∧ Below v.heap.size v w' := by
  have := rkey_any ⟨f, t, pm, k, fl, pg⟩ p v hb
  unfold keyV at this
  rw [h0, h1] at this
  exact this
theorem find_bd {L : List Rg} (h : Asc L) (p : Int) : ((findR L p).getD zeroR).Bd := by
  cases hf : findR L p with
  | none => exact ⟨by decide, by decide, fun h => by cases h⟩
  | some r => exact (h.may r (findR_some hf).2.1).bd

set_option maxRecDepth 100000 in
set_option maxHeartbeats 12800000 in
theorem walk (A : Option Addr) (ops : List OpU) (c : Nat) (q0 q1 q2 q3 : Int) (w : World) (hmax : ops.length ≤ maxLen) (hrow : OpRow w A ops) (w0 : (Lit.int .i64 q0).wf = true) (w1 : (Lit.int .i64 q1).wf = true) (w2 : (Lit.int .i64 q2).wf = true) (w3 : (Lit.int .i64 q3).wf = true) :
    Calls Try.prog 3 #[.slice A ops.length c, .agg #[.int .i64 q0, .int .i64 q1, .int .i64 q2, .int .i64 q3]] w fun e w' => e = .returned (.bool true) ∧ Below w.heap.size w w' := by
  have HAW := Lib.hid (fun v => awake_anyU v)
  obtain ⟨n, hn⟩ : ∃ n, ops.length = n := ⟨_, rfl⟩
  have hn2 : n ≤ 9223372036854775807 := by unfold maxLen at hmax; omega
  have HN := Lib.hid hn
  rw [hn]
  obtain ⟨W, hW⟩ : ∃ W, w.alloc (.cells #[.int .i64 q0, .int .i64 q1, .int .i64 q2, .int .i64 q3] 23) = W := ⟨_, rfl⟩
  have b0 : Blk W w.heap.size 23 #[.int .i64 q0, .int .i64 q1, .int .i64 q2, .int .i64 q3] := by rw [← hW]; exact Blk.new _ _ _
  have hbw : Below w.heap.size w W := by rw [← hW]; exact (Below.refl _ _).alloc (Nat.le_refl _) _
  have HQ := Lib.hid (fun (x : World) (hx : Below W.heap.size W x) => show x.cell? ⟨w.heap.size, 0, none⟩ = some (.int .i64 q0) ∧ x.cell? ⟨w.heap.size, 1, none⟩ = some (.int .i64 q1) ∧ x.cell? ⟨w.heap.size, 2, none⟩ = some (.int .i64 q2) ∧ x.cell? ⟨w.heap.size, 3, none⟩ = some (.int .i64 q3) ∧ Hid (Below w.heap.size w x) from ⟨(b0.below hx b0.lt).at_ 0 _ rfl, (b0.below hx b0.lt).at_ 1 _ rfl, (b0.below hx b0.lt).at_ 2 _ rfl, (b0.below hx b0.lt).at_ 3 _ rfl, Lib.hid (hbw.trans (hx.mono hbw.size))⟩)
  have HOP := Lib.hid (fun (x : World) (hx : Below W.heap.size W x) => hrow.below rfl (hbw.trans (hx.mono hbw.size)))
  have HW := Lib.hid hW
  have HWF := Lib.hid (And.intro w1 (And.intro w2 w3))
  clear w0 w1 w2 w3
  clear hmax hrow hn hW b0 hbw
  go_enter Try.func3, Try.ntmps3
  go_upto_region 1 with fail
  rw [HW.out]
  go_upto_region 2 with (go_at_call 4; refine (HAW.out _).mono ?_; rintro e v1 ⟨rfl, hb1⟩)
  have HB1 := Lib.hid hb1
  clear hb1
  go_wp2
  go_loopw [6, 7] (fun lv iv wr => ∃ (i : Nat) (A' : Option Addr) (m c' : Nat), i ≤ 15 ∧ i ≤ n ∧ iv = .int .i64 i ∧ lv = .slice A' m c' ∧ Hid (∃ L, RS wr A' m c' L ∧ RowP L ∧ Below W.heap.size W wr)) (fun _ iv _ => n - (intOf iv).toNat)
  case atStart => exact ⟨0, none, 0, 0, by omega, Nat.zero_le _, rfl, rfl, Lib.hid ⟨[], RS.nil _, RowP.nil, HB1.out⟩⟩
  case round =>
    clear HB1
    obtain ⟨i, A', m, c', hi10, hin, rfl, rfl, HI⟩ := hrel
    by_cases hlt : i < n ∧ i < 15
    · obtain ⟨h1, h2⟩ := hlt
      obtain ⟨L, hrs, hrow, hbl⟩ := HI.out
      have hil : i < ops.length := by rw [HN.out]; exact h1
      obtain ⟨ad, rfl, hwf, x0, x1, x2, x3, x4, x5, x6, x7, x8, x9, x10⟩ := (HOP.out wr hbl).at_ hil
      obtain ⟨o, ho⟩ : ∃ o, ops[i] = o := ⟨_, rfl⟩
      rw [ho] at hwf x0 x1 x2 x3 x4 x5 x6 x7 x8 x9 x10
      have hsm := fun v => small_any o v
      have HOF := Lib.hid (fun (v : World) (hv : Below wr.heap.size wr v) => of_any o.small L A' m c' v (hrs.below hv) hrow.asc hwf.small)
      have HST := Lib.hid (And.intro hrs (And.intro hrow hbl))
      obtain ⟨kd, f, t, p, inn, ⟨rf, rt, rp, rk, rfl', rpg⟩⟩ := o
      unfold OpU.cs at hsm
      simp only at x0 x1 x2 x3 x4 x5 x6 x7 x8 x9 x10 hsm
      have hof := HOF.out
      unfold OpU.cs at hof
      have HSM := Lib.hid hsm
      have HOG := Lib.hid hof
      have i0 : (0 : Int) ≤ (i : Int) := by omega
      have i1 : (i : Int) < (n : Int) := by omega
      have i2 : (i : Int) < 15 := by omega
      have i3 : decide ((i : Int) < (n : Int)) = true := decide_eq_true i1
      have i4 : decide ((i : Int) < 15) = true := decide_eq_true i2
      clear hsm hof HOF hrs hrow hbl hil ho hwf
      go_upto_region 7 with (first
        | (go_at_call 5; refine (HSM.out _).mono ?_; rintro e u1 ⟨rfl, hu1⟩)
        | (go_at_call 6; refine (HOG.out _ hu1).mono ?_; rintro e u2 ⟨A2, n2, c2, en, rfl, hen, hu2⟩))
      have hbu := hu1.trans (hu2.mono hu1.size)
      have HEN := Lib.hid hen
      have HBU := Lib.hid hbu
      clear x0 x1 x2 x3 x4 x5 x6 x7 x8 x9 x10 hu1 hu2 hen hbu
      by_cases hz : en = 0
      · subst hz
        go_wp2
        go_roundw
        case rel =>
          obtain ⟨L2, h3, h4, -⟩ := HEN.out rfl
          obtain ⟨hrs, hrow, hbl⟩ := HST.out
          exact ⟨i + 1, A2, n2, c2, by omega, by omega, by go_num, rfl, Lib.hid ⟨L2, h3, h4, hbl.trans (HBU.out.mono hbl.size)⟩⟩
        case measure => simp [intOf]; omega
      · have hz2 : (en == 0) = false := by simpa using hz
        go_wp2
        go_roundw
        case rel =>
          obtain ⟨hrs, hrow, hbl⟩ := HST.out
          exact ⟨i + 1, A', m, c', by omega, by omega, by go_num, rfl, Lib.hid ⟨L, hrs.below HBU.out, hrow, hbl.trans (HBU.out.mono hbl.size)⟩⟩
        case measure => simp [intOf]; omega
    · have hnn : ((i : Int) < (n : Int) → ¬ (i : Int) < 15) := fun h1 h2 => hlt ⟨by omega, by omega⟩
      obtain ⟨L, hrs, hrow, hbl⟩ := HI.out
      have HST := Lib.hid (And.intro hrs (And.intro hrow hbl))
      have hdd : (((i : Int) < (n : Int) ∧ i < n) ∧ (¬ (i : Int) < 15 ∧ ¬ i < 15)) ∨ (¬ (i : Int) < (n : Int) ∧ ¬ i < n) := by
        by_cases h1 : (i : Int) < (n : Int)
        · have := hnn h1; exact .inl ⟨⟨h1, by omega⟩, this, by omega⟩
        · exact .inr ⟨h1, by omega⟩
      clear hrs hrow hbl hnn hlt
      rcases hdd with hdd | hdd
      · obtain ⟨⟨ha1, ha2⟩, ha3, ha4⟩ := hdd
        have ha5 : decide ((i : Int) < (n : Int)) = true := decide_eq_true ha1
        have ha6 : decide (i < n) = true := decide_eq_true ha2
        have ha7 : decide ((i : Int) < 15) = false := decide_eq_false ha3
        have ha8 : decide (i < 15) = false := decide_eq_false ha4
        obtain ⟨HS1, HS2, HS3⟩ := HST.out
        obtain ⟨⟨af, at', ap, ak, afl, apg⟩, hra⟩ : ∃ z, (findR L q0).getD zeroR = z := ⟨_, rfl⟩
        obtain ⟨x, hxa⟩ : ∃ z, (findR L q0).isSome = z := ⟨_, rfl⟩
        have hba := find_bd HS2.asc q0
        rw [hra] at hba
        obtain ⟨⟨k0, k1⟩, hk0⟩ : ∃ z, (keyR ⟨af, at', ap, ak, afl, apg⟩ q0).getD (0, 0) = z := ⟨_, rfl⟩
        obtain ⟨ki, hki⟩ : ∃ z, (keyR ⟨af, at', ap, ak, afl, apg⟩ q0).isSome = z := ⟨_, rfl⟩
        obtain ⟨gv, hgv⟩ : ∃ z, (gapO L q1 q2 q3).getD 0 = z := ⟨_, rfl⟩
        obtain ⟨gi, hgi⟩ : ∃ z, (gapO L q1 q2 q3).isSome = z := ⟨_, rfl⟩
        obtain ⟨cv, hcv⟩ : ∃ z, decide (q2 ≤ covF L q1) = z := ⟨_, rfl⟩
        obtain ⟨PL, hPL⟩ : ∃ z, pagesL L = z := ⟨_, rfl⟩
        have HRL := Lib.hid (fun (v : World) (hv : Below wr.heap.size wr v) => HS1.below hv)
        have HF1 := Lib.hid (fun (v : World) (hv : Below wr.heap.size wr v) => find_to L q0 (HRL.out v hv) hra hxa)
        have HF2 := Lib.hid (fun (v : World) (hv : Below wr.heap.size wr v) => rfind_to L q0 (HRL.out v hv) hra hxa)
        have HK1 := Lib.hid (fun (v : World) => key_to hba hk0 hki v)
        have HK2 := Lib.hid (fun (v : World) => rkey_to hba hk0 hki v)
        have HG1 := Lib.hid (fun (v : World) (hv : Below wr.heap.size wr v) => show Calls Try.prog 9 #[.slice A' m c', .int .i64 q1, .int .i64 q2, .int .i64 q3] v (fun e w' => e = .returned (.tuple #[.int .i64 gv, .bool gi]) ∧ Below v.heap.size v w') from by
          have := gap_any L q1 q2 q3 A' m c' v (HRL.out v hv) HS2.asc HWF.out.1 HWF.out.2.1 HWF.out.2.2
          rw [hgv, hgi] at this
          exact this)
        have HG2 := Lib.hid (fun (v : World) (hv : Below wr.heap.size wr v) => show Calls Try.prog 10 #[.slice A' m c', .int .i64 q1, .int .i64 q2, .int .i64 q3] v (fun e w' => e = .returned (.tuple #[.int .i64 gv, .bool gi]) ∧ Below v.heap.size v w') from by
          have := rgap_any L q1 q2 q3 A' m c' v (HRL.out v hv) HS2.asc HWF.out.1 HWF.out.2.1 HWF.out.2.2
          rw [hgv, hgi] at this
          exact this)
        have HC1 := Lib.hid (fun (v : World) (hv : Below wr.heap.size wr v) => show Calls Try.prog 14 #[.slice A' m c', .int .i64 q1, .int .i64 q2] v (fun e w' => e = .returned (.bool cv) ∧ Below v.heap.size v w') from by
          have := covers_any L q1 q2 A' m c' v (HRL.out v hv)
          rw [hcv] at this
          exact this)
        have HC2 := Lib.hid (fun (v : World) (hv : Below wr.heap.size wr v) => show Calls Try.prog 15 #[.slice A' m c', .int .i64 q1, .int .i64 q2] v (fun e w' => e = .returned (.bool cv) ∧ Below v.heap.size v w') from by
          have := rcovers_any L q1 q2 A' m c' v (HRL.out v hv) HS2.asc
          rw [hcv] at this
          exact this)
        have HPG := Lib.hid (fun (v : World) (hv : Below wr.heap.size wr v) => show Calls Try.prog 16 #[.slice A' m c'] v (fun e w' => e = .returned (.int .i64 PL) ∧ Below v.heap.size v w') from by
          have := pages_any L A' m c' v (HRL.out v hv) HS2.asc
          rw [hPL] at this
          exact this)
        have HSP := Lib.hid (fun (v : World) (hv : Below wr.heap.size wr v) => rspread_any L A' m c' v (HRL.out v hv) HS2.asc)
        have HCN := Lib.hid (show cntL L 4096 = PL from by rw [pages_cnt HS2.asc]; exact hPL)
        have HQW := Lib.hid (fun (v : World) (hv : Below wr.heap.size wr v) => HQ.out v (HS3.trans (hv.mono HS3.size)))
        obtain ⟨y0, y1, y2, y3, -⟩ := HQ.out wr HS3
        clear HS1 HS2 HS3 hra hxa hba hk0 hki hgv hgi hcv hPL
        go_upto_region 10 with (go_at_call 7; refine (HF1.out wr (Below.refl _ _)).mono ?_; rintro e x1 ⟨rfl, hx1⟩)
        clear y0 y1 y2 y3
        have ka := Blk.new x1 29 #[.int .i64 af, .int .i64 at', .int .i64 ap, .int .i64 ak, .int .i64 afl, .int .i64 apg]
        have hb := hx1.alloc hx1.size (.cells #[.int .i64 af, .int .i64 at', .int .i64 ap, .int .i64 ak, .int .i64 afl, .int .i64 apg] 29)
        generalize x1.alloc (.cells #[.int .i64 af, .int .i64 at', .int .i64 ap, .int .i64 ak, .int .i64 afl, .int .i64 apg] 29) = X1 at *
        generalize x1.heap.size = ga at *
        clear hx1
        have HB1 := Lib.hid hb
        clear hb
        obtain ⟨y0, y1, y2, y3, -⟩ := HQW.out X1 HB1.out
        go_upto_region 11 with (go_at_call 8; refine (HF2.out _ HB1.out).mono ?_; rintro e x2 ⟨rfl, hx2⟩)
        clear y0 y1 y2 y3
        have ka2 := (ka.below hx2 ka.lt).alloc (.cells #[.int .i64 af, .int .i64 at', .int .i64 ap, .int .i64 ak, .int .i64 afl, .int .i64 apg] 29)
        have kb := Blk.new x2 29 #[.int .i64 af, .int .i64 at', .int .i64 ap, .int .i64 ak, .int .i64 afl, .int .i64 apg]
        have hb := (HB1.out.trans (hx2.mono HB1.out.size)).alloc (Nat.le_trans HB1.out.size hx2.size) (.cells #[.int .i64 af, .int .i64 at', .int .i64 ap, .int .i64 ak, .int .i64 afl, .int .i64 apg] 29)
        generalize x2.alloc (.cells #[.int .i64 af, .int .i64 at', .int .i64 ap, .int .i64 ak, .int .i64 afl, .int .i64 apg] 29) = X2 at *
        generalize x2.heap.size = gb at *
        clear HB1 ka hx2
        have HB1 := Lib.hid hb
        clear hb
        obtain ⟨y0, y1, y2, y3, -⟩ := HQW.out X2 HB1.out
        go_upto_region 12 with (go_at_call 9; refine (HG1.out _ HB1.out).mono ?_; rintro e x3 ⟨rfl, hx3⟩)
        clear y0 y1 y2 y3
        have hb := HB1.out.trans (hx3.mono HB1.out.size)
        obtain ⟨y0, y1, y2, y3, -⟩ := HQW.out x3 hb
        go_upto_region 13 with (go_at_call 10; refine (HG2.out _ hb).mono ?_; rintro e x4 ⟨rfl, hx4⟩)
        clear y0 y1 y2 y3
        have hb4 := hb.trans (hx4.mono hb.size)
        have ka4 := (ka2.below hx3 ka2.lt).below hx4 (ka2.below hx3 ka2.lt).lt
        have kb4 := (kb.below hx3 kb.lt).below hx4 (kb.below hx3 kb.lt).lt
        clear HB1 hx3 hx4 hb ka2 kb
        have HB1 := Lib.hid hb4
        clear hb4
        obtain ⟨y0, y1, y2, y3, -⟩ := HQW.out x4 HB1.out
        have c0 := ka4.at_ 0 _ rfl
        have c1 := ka4.at_ 1 _ rfl
        have c2 := ka4.at_ 2 _ rfl
        have c3 := ka4.at_ 3 _ rfl
        have c4 := ka4.at_ 4 _ rfl
        have c5 := ka4.at_ 5 _ rfl
        go_upto_region 14 with (go_at_call 11; refine (HK1.out _).mono ?_; rintro e x5 ⟨rfl, hx5⟩)
        clear y0 y1 y2 y3 c0 c1 c2 c3 c4 c5
        have ka5 := (ka4.below hx5 ka4.lt).alloc (.cells #[.int .i64 k0, .int .i64 k1] 39)
        have kb5 := (kb4.below hx5 kb4.lt).alloc (.cells #[.int .i64 k0, .int .i64 k1] 39)
        have kk := Blk.new x5 39 #[.int .i64 k0, .int .i64 k1]
        have hb := (HB1.out.trans (hx5.mono HB1.out.size)).alloc (Nat.le_trans HB1.out.size hx5.size) (.cells #[.int .i64 k0, .int .i64 k1] 39)
        generalize x5.alloc (.cells #[.int .i64 k0, .int .i64 k1] 39) = X5 at *
        generalize x5.heap.size = gk at *
        clear HB1 ka4 kb4 hx5
        have HB1 := Lib.hid hb
        clear hb
        obtain ⟨y0, y1, y2, y3, -⟩ := HQW.out X5 HB1.out
        have c0 := kb5.at_ 0 _ rfl
        have c1 := kb5.at_ 1 _ rfl
        have c2 := kb5.at_ 2 _ rfl
        have c3 := kb5.at_ 3 _ rfl
        have c4 := kb5.at_ 4 _ rfl
        have c5 := kb5.at_ 5 _ rfl
        go_upto_region 15 with (go_at_call 12; refine (HK2.out _).mono ?_; rintro e x6 ⟨rfl, hx6⟩)
        clear y0 y1 y2 y3 c0 c1 c2 c3 c4 c5
        have ka6 := (ka5.below hx6 ka5.lt).alloc (.cells #[.int .i64 k0, .int .i64 k1] 39)
        have kb6 := (kb5.below hx6 kb5.lt).alloc (.cells #[.int .i64 k0, .int .i64 k1] 39)
        have kk6 := (kk.below hx6 kk.lt).alloc (.cells #[.int .i64 k0, .int .i64 k1] 39)
        have kn6 := Blk.new x6 39 #[.int .i64 k0, .int .i64 k1]
        have hb := (HB1.out.trans (hx6.mono HB1.out.size)).alloc (Nat.le_trans HB1.out.size hx6.size) (.cells #[.int .i64 k0, .int .i64 k1] 39)
        generalize x6.alloc (.cells #[.int .i64 k0, .int .i64 k1] 39) = X6 at *
        generalize x6.heap.size = gn at *
        clear HB1 ka5 kb5 kk hx6
        have HB1 := Lib.hid hb
        clear hb
        go_upto_region 17 with (go_at_call 13; refine (HSP.out _ HB1.out).mono ?_; rintro e X7 ⟨ad, f, rfl, ho, hsp, hlo, hx7⟩)
        obtain ⟨g, rfl⟩ : ∃ g, ad = ⟨g, 0, none⟩ := ⟨_, ho.where_⟩
        have HIS := Lib.hid (fun (p : Nat) (hp : p < 4096) => show X7.cell? ⟨g, p * 7 + 6, none⟩ = some (.bool (atL L p).isSome) from by rw [← hsp.2 p hp]; exact (ho.sevenL hp).c6)
        have hb := HB1.out.trans (hx7.mono HB1.out.size)
        have ka7 := ka6.below hx7 ka6.lt
        have kb7 := kb6.below hx7 kb6.lt
        have kk7 := kk6.below hx7 kk6.lt
        have kn7 := kn6.below hx7 kn6.lt
        have HB7 := Lib.hid hb
        have HC9 := Lib.hid (fun (x : World) (hx : Below X7.heap.size X7 x) => show x.cell? ⟨w.heap.size, 1, none⟩ = some (.int .i64 q1) ∧ x.cell? ⟨w.heap.size, 2, none⟩ = some (.int .i64 q2) ∧ x.cell? ⟨ga, 0, none⟩ = some (.int .i64 af) ∧ x.cell? ⟨ga, 1, none⟩ = some (.int .i64 at') ∧ x.cell? ⟨ga, 2, none⟩ = some (.int .i64 ap) ∧ x.cell? ⟨ga, 3, none⟩ = some (.int .i64 ak) ∧ x.cell? ⟨ga, 4, none⟩ = some (.int .i64 afl) ∧ x.cell? ⟨ga, 5, none⟩ = some (.int .i64 apg) ∧ x.cell? ⟨gb, 0, none⟩ = some (.int .i64 af) ∧ x.cell? ⟨gb, 1, none⟩ = some (.int .i64 at') ∧ x.cell? ⟨gb, 2, none⟩ = some (.int .i64 ap) ∧ x.cell? ⟨gb, 3, none⟩ = some (.int .i64 ak) ∧ x.cell? ⟨gb, 4, none⟩ = some (.int .i64 afl) ∧ x.cell? ⟨gb, 5, none⟩ = some (.int .i64 apg) ∧ x.cell? ⟨gk, 0, none⟩ = some (.int .i64 k0) ∧ x.cell? ⟨gk, 1, none⟩ = some (.int .i64 k1) ∧ x.cell? ⟨gn, 0, none⟩ = some (.int .i64 k0) ∧ x.cell? ⟨gn, 1, none⟩ = some (.int .i64 k1) from by
          obtain ⟨y0, y1, y2, y3, -⟩ := HQW.out x (HB7.out.trans (hx.mono HB7.out.size))
          have ka8 := ka7.below hx ka7.lt
          have kb8 := kb7.below hx kb7.lt
          have kk8 := kk7.below hx kk7.lt
          have kn8 := kn7.below hx kn7.lt
          exact ⟨y1, y2, ka8.at_ 0 _ rfl, ka8.at_ 1 _ rfl, ka8.at_ 2 _ rfl, ka8.at_ 3 _ rfl, ka8.at_ 4 _ rfl, ka8.at_ 5 _ rfl, kb8.at_ 0 _ rfl, kb8.at_ 1 _ rfl, kb8.at_ 2 _ rfl, kb8.at_ 3 _ rfl, kb8.at_ 4 _ rfl, kb8.at_ 5 _ rfl, kk8.at_ 0 _ rfl, kk8.at_ 1 _ rfl, kn8.at_ 0 _ rfl, kn8.at_ 1 _ rfl⟩)
        clear HB1 ho hsp hlo hx7 hb ka6 kb6 kk6 kn6 ka7 kb7 kk7 kn7 HF1 HF2 HG1 HG2 HK1 HK2 HSP HRL
        go_wp2
        go_loopw [22, 24] (fun pv xv wq => ∃ p : Nat, p ≤ 4096 ∧ xv = .int .i64 p ∧ pv = .int .i64 (cntL L p) ∧ wq = X7) (fun _ xv _ => 4096 - (intOf xv).toNat)
        case atStart => exact ⟨0, by omega, rfl, rfl, rfl⟩
        case round =>
          obtain ⟨p, hp, rfl, rfl, rfl⟩ := hrel
          have hcb := cnt_bd L p
          by_cases hpl : p < 4096
          · have hs := HIS.out p hpl
            have hcs : cntL L (p + 1) = cntL L p + (if (atL L (p : Int)).isSome then (1 : Int) else 0) := rfl
            obtain ⟨s, hse⟩ : ∃ s, (atL L (p : Int)).isSome = s := ⟨_, rfl⟩
            rw [hse] at hs hcs
            obtain ⟨cn, hcn⟩ : ∃ z, cntL L p = z := ⟨_, rfl⟩
            rw [hcn] at hcs hcb ⊢
            have w1 : wrap64 (cn + 1) = cn + 1 := IntWalk.wrap64_in _ (by omega)
            have w2 : IntKind.i64.wrap (cn + 1) = cn + 1 := IntWalk.i64_in _ (by omega)
            have j0 : (0 : Int) ≤ (p : Int) := by clear w1 w2; omega
            have j1 : (p : Int) < 4096 := by clear w1 w2; omega
            have HCS := Lib.hid hcs
            clear hse hcn hcb hcs
            cases s
            all_goals
              go_wp2
              clear w1 w2 hs j0 j1
              go_roundw
              case rel => exact ⟨p + 1, by omega, by go_num, by rw [HCS.out]; simp, by simp⟩
              case measure => simp [intOf]; omega
          · obtain rfl : p = 4096 := by omega
            rw [HCN.out]
            clear hcb hpl
            obtain ⟨s0, s1, s2, s3, s4, s5, s6, s7, s8, s9, s10, s11, s12, s13, s14, s15, s16, s17⟩ := HC9.out wr (Below.refl _ _)
            have HD1 := Lib.hid (show ∀ (Z u x : World), Below Z.heap.size Z u → Below u.heap.size u x → Below Z.heap.size Z x from fun Z u x h1 h2 => h1.trans (h2.mono h1.size))
            have HPA := Lib.hid (fun (v : World) (hv : Below wr.heap.size wr v) => HC1.out v (HB7.out.trans (hv.mono HB7.out.size)))
            have HPB := Lib.hid (fun (v : World) (hv : Below wr.heap.size wr v) => HC2.out v (HB7.out.trans (hv.mono HB7.out.size)))
            have HPC := Lib.hid (fun (v : World) (hv : Below wr.heap.size wr v) => HPG.out v (HB7.out.trans (hv.mono HB7.out.size)))
            have HX9 := Lib.hid (Below.refl wr.heap.size wr)
            clear HC1 HC2 HPG HIS
            go_upto_region 22 with fail
            go_region_held3 (fun x => x.cell? ⟨w.heap.size, 1, none⟩ = some (.int .i64 q1) ∧ x.cell? ⟨w.heap.size, 2, none⟩ = some (.int .i64 q2) ∧ x.cell? ⟨ga, 0, none⟩ = some (.int .i64 af) ∧ x.cell? ⟨ga, 1, none⟩ = some (.int .i64 at') ∧ x.cell? ⟨ga, 2, none⟩ = some (.int .i64 ap) ∧ x.cell? ⟨ga, 3, none⟩ = some (.int .i64 ak) ∧ x.cell? ⟨ga, 4, none⟩ = some (.int .i64 afl) ∧ x.cell? ⟨ga, 5, none⟩ = some (.int .i64 apg) ∧ x.cell? ⟨gb, 0, none⟩ = some (.int .i64 af) ∧ x.cell? ⟨gb, 1, none⟩ = some (.int .i64 at') ∧ x.cell? ⟨gb, 2, none⟩ = some (.int .i64 ap) ∧ x.cell? ⟨gb, 3, none⟩ = some (.int .i64 ak) ∧ x.cell? ⟨gb, 4, none⟩ = some (.int .i64 afl) ∧ x.cell? ⟨gb, 5, none⟩ = some (.int .i64 apg) ∧ x.cell? ⟨gk, 0, none⟩ = some (.int .i64 k0) ∧ x.cell? ⟨gk, 1, none⟩ = some (.int .i64 k1) ∧ x.cell? ⟨gn, 0, none⟩ = some (.int .i64 k0) ∧ x.cell? ⟨gn, 1, none⟩ = some (.int .i64 k1))
                (first | exact ⟨s0, s1, s2, s3, s4, s5, s6, s7, s8, s9, s10, s11, s12, s13, s14, s15, s16, s17⟩ | exact HC9.out _ HX9.out | exact HC9.out _ HX9.out.drew)
                (first
                | (first | go_at_call 14 | go_at_call 15 | go_at_call 16); (first | with_reducible refine (HPA.out _ HX9.out).mono ?_ | with_reducible refine (HPB.out _ HX9.out).mono ?_ | with_reducible refine (HPC.out _ HX9.out).mono ?_ | with_reducible refine (HPA.out _ HX9.out.drew).mono ?_ | with_reducible refine (HPB.out _ HX9.out.drew).mono ?_ | with_reducible refine (HPC.out _ HX9.out.drew).mono ?_); rintro e v9 ⟨rfl, hb⟩; have hx := (show Below wr.heap.size wr v9 from by first | exact HD1.out _ _ _ HX9.out hb | exact HD1.out _ _ _ HX9.out.drew hb); clear s0 s1 s2 s3 s4 s5 s6 s7 s8 s9 s10 s11 s12 s13 s14 s15 s16 s17 HX9; have HX9 := Lib.hid hx; obtain ⟨s0, s1, s2, s3, s4, s5, s6, s7, s8, s9, s10, s11, s12, s13, s14, s15, s16, s17⟩ := HC9.out v9 hx; clear hb hx)
            go_wp2
            go_ret
            exact ⟨by simp, (HQW.out _ (HB7.out.trans (HX9.out.mono HB7.out.size))).2.2.2.2.out⟩
      · obtain ⟨ha1, ha2⟩ := hdd
        have ha5 : decide ((i : Int) < (n : Int)) = false := decide_eq_false ha1
        have ha6 : decide (i < n) = false := decide_eq_false ha2
        obtain ⟨HS1, HS2, HS3⟩ := HST.out
        obtain ⟨⟨af, at', ap, ak, afl, apg⟩, hra⟩ : ∃ z, (findR L q0).getD zeroR = z := ⟨_, rfl⟩
        obtain ⟨x, hxa⟩ : ∃ z, (findR L q0).isSome = z := ⟨_, rfl⟩
        have hba := find_bd HS2.asc q0
        rw [hra] at hba
        obtain ⟨⟨k0, k1⟩, hk0⟩ : ∃ z, (keyR ⟨af, at', ap, ak, afl, apg⟩ q0).getD (0, 0) = z := ⟨_, rfl⟩
        obtain ⟨ki, hki⟩ : ∃ z, (keyR ⟨af, at', ap, ak, afl, apg⟩ q0).isSome = z := ⟨_, rfl⟩
        obtain ⟨gv, hgv⟩ : ∃ z, (gapO L q1 q2 q3).getD 0 = z := ⟨_, rfl⟩
        obtain ⟨gi, hgi⟩ : ∃ z, (gapO L q1 q2 q3).isSome = z := ⟨_, rfl⟩
        obtain ⟨cv, hcv⟩ : ∃ z, decide (q2 ≤ covF L q1) = z := ⟨_, rfl⟩
        obtain ⟨PL, hPL⟩ : ∃ z, pagesL L = z := ⟨_, rfl⟩
        have HRL := Lib.hid (fun (v : World) (hv : Below wr.heap.size wr v) => HS1.below hv)
        have HF1 := Lib.hid (fun (v : World) (hv : Below wr.heap.size wr v) => find_to L q0 (HRL.out v hv) hra hxa)
        have HF2 := Lib.hid (fun (v : World) (hv : Below wr.heap.size wr v) => rfind_to L q0 (HRL.out v hv) hra hxa)
        have HK1 := Lib.hid (fun (v : World) => key_to hba hk0 hki v)
        have HK2 := Lib.hid (fun (v : World) => rkey_to hba hk0 hki v)
        have HG1 := Lib.hid (fun (v : World) (hv : Below wr.heap.size wr v) => show Calls Try.prog 9 #[.slice A' m c', .int .i64 q1, .int .i64 q2, .int .i64 q3] v (fun e w' => e = .returned (.tuple #[.int .i64 gv, .bool gi]) ∧ Below v.heap.size v w') from by
          have := gap_any L q1 q2 q3 A' m c' v (HRL.out v hv) HS2.asc HWF.out.1 HWF.out.2.1 HWF.out.2.2
          rw [hgv, hgi] at this
          exact this)
        have HG2 := Lib.hid (fun (v : World) (hv : Below wr.heap.size wr v) => show Calls Try.prog 10 #[.slice A' m c', .int .i64 q1, .int .i64 q2, .int .i64 q3] v (fun e w' => e = .returned (.tuple #[.int .i64 gv, .bool gi]) ∧ Below v.heap.size v w') from by
          have := rgap_any L q1 q2 q3 A' m c' v (HRL.out v hv) HS2.asc HWF.out.1 HWF.out.2.1 HWF.out.2.2
          rw [hgv, hgi] at this
          exact this)
        have HC1 := Lib.hid (fun (v : World) (hv : Below wr.heap.size wr v) => show Calls Try.prog 14 #[.slice A' m c', .int .i64 q1, .int .i64 q2] v (fun e w' => e = .returned (.bool cv) ∧ Below v.heap.size v w') from by
          have := covers_any L q1 q2 A' m c' v (HRL.out v hv)
          rw [hcv] at this
          exact this)
        have HC2 := Lib.hid (fun (v : World) (hv : Below wr.heap.size wr v) => show Calls Try.prog 15 #[.slice A' m c', .int .i64 q1, .int .i64 q2] v (fun e w' => e = .returned (.bool cv) ∧ Below v.heap.size v w') from by
          have := rcovers_any L q1 q2 A' m c' v (HRL.out v hv) HS2.asc
          rw [hcv] at this
          exact this)
        have HPG := Lib.hid (fun (v : World) (hv : Below wr.heap.size wr v) => show Calls Try.prog 16 #[.slice A' m c'] v (fun e w' => e = .returned (.int .i64 PL) ∧ Below v.heap.size v w') from by
          have := pages_any L A' m c' v (HRL.out v hv) HS2.asc
          rw [hPL] at this
          exact this)
        have HSP := Lib.hid (fun (v : World) (hv : Below wr.heap.size wr v) => rspread_any L A' m c' v (HRL.out v hv) HS2.asc)
        have HCN := Lib.hid (show cntL L 4096 = PL from by rw [pages_cnt HS2.asc]; exact hPL)
        have HQW := Lib.hid (fun (v : World) (hv : Below wr.heap.size wr v) => HQ.out v (HS3.trans (hv.mono HS3.size)))
        obtain ⟨y0, y1, y2, y3, -⟩ := HQ.out wr HS3
        clear HS1 HS2 HS3 hra hxa hba hk0 hki hgv hgi hcv hPL
        go_upto_region 10 with (go_at_call 7; refine (HF1.out wr (Below.refl _ _)).mono ?_; rintro e x1 ⟨rfl, hx1⟩)
        clear y0 y1 y2 y3
        have ka := Blk.new x1 29 #[.int .i64 af, .int .i64 at', .int .i64 ap, .int .i64 ak, .int .i64 afl, .int .i64 apg]
        have hb := hx1.alloc hx1.size (.cells #[.int .i64 af, .int .i64 at', .int .i64 ap, .int .i64 ak, .int .i64 afl, .int .i64 apg] 29)
        generalize x1.alloc (.cells #[.int .i64 af, .int .i64 at', .int .i64 ap, .int .i64 ak, .int .i64 afl, .int .i64 apg] 29) = X1 at *
        generalize x1.heap.size = ga at *
        clear hx1
        have HB1 := Lib.hid hb
        clear hb
        obtain ⟨y0, y1, y2, y3, -⟩ := HQW.out X1 HB1.out
        go_upto_region 11 with (go_at_call 8; refine (HF2.out _ HB1.out).mono ?_; rintro e x2 ⟨rfl, hx2⟩)
        clear y0 y1 y2 y3
        have ka2 := (ka.below hx2 ka.lt).alloc (.cells #[.int .i64 af, .int .i64 at', .int .i64 ap, .int .i64 ak, .int .i64 afl, .int .i64 apg] 29)
        have kb := Blk.new x2 29 #[.int .i64 af, .int .i64 at', .int .i64 ap, .int .i64 ak, .int .i64 afl, .int .i64 apg]
        have hb := (HB1.out.trans (hx2.mono HB1.out.size)).alloc (Nat.le_trans HB1.out.size hx2.size) (.cells #[.int .i64 af, .int .i64 at', .int .i64 ap, .int .i64 ak, .int .i64 afl, .int .i64 apg] 29)
        generalize x2.alloc (.cells #[.int .i64 af, .int .i64 at', .int .i64 ap, .int .i64 ak, .int .i64 afl, .int .i64 apg] 29) = X2 at *
        generalize x2.heap.size = gb at *
        clear HB1 ka hx2
        have HB1 := Lib.hid hb
        clear hb
        obtain ⟨y0, y1, y2, y3, -⟩ := HQW.out X2 HB1.out
        go_upto_region 12 with (go_at_call 9; refine (HG1.out _ HB1.out).mono ?_; rintro e x3 ⟨rfl, hx3⟩)
        clear y0 y1 y2 y3
        have hb := HB1.out.trans (hx3.mono HB1.out.size)
        obtain ⟨y0, y1, y2, y3, -⟩ := HQW.out x3 hb
        go_upto_region 13 with (go_at_call 10; refine (HG2.out _ hb).mono ?_; rintro e x4 ⟨rfl, hx4⟩)
        clear y0 y1 y2 y3
        have hb4 := hb.trans (hx4.mono hb.size)
        have ka4 := (ka2.below hx3 ka2.lt).below hx4 (ka2.below hx3 ka2.lt).lt
        have kb4 := (kb.below hx3 kb.lt).below hx4 (kb.below hx3 kb.lt).lt
        clear HB1 hx3 hx4 hb ka2 kb
        have HB1 := Lib.hid hb4
        clear hb4
        obtain ⟨y0, y1, y2, y3, -⟩ := HQW.out x4 HB1.out
        have c0 := ka4.at_ 0 _ rfl
        have c1 := ka4.at_ 1 _ rfl
        have c2 := ka4.at_ 2 _ rfl
        have c3 := ka4.at_ 3 _ rfl
        have c4 := ka4.at_ 4 _ rfl
        have c5 := ka4.at_ 5 _ rfl
        go_upto_region 14 with (go_at_call 11; refine (HK1.out _).mono ?_; rintro e x5 ⟨rfl, hx5⟩)
        clear y0 y1 y2 y3 c0 c1 c2 c3 c4 c5
        have ka5 := (ka4.below hx5 ka4.lt).alloc (.cells #[.int .i64 k0, .int .i64 k1] 39)
        have kb5 := (kb4.below hx5 kb4.lt).alloc (.cells #[.int .i64 k0, .int .i64 k1] 39)
        have kk := Blk.new x5 39 #[.int .i64 k0, .int .i64 k1]
        have hb := (HB1.out.trans (hx5.mono HB1.out.size)).alloc (Nat.le_trans HB1.out.size hx5.size) (.cells #[.int .i64 k0, .int .i64 k1] 39)
        generalize x5.alloc (.cells #[.int .i64 k0, .int .i64 k1] 39) = X5 at *
        generalize x5.heap.size = gk at *
        clear HB1 ka4 kb4 hx5
        have HB1 := Lib.hid hb
        clear hb
        obtain ⟨y0, y1, y2, y3, -⟩ := HQW.out X5 HB1.out
        have c0 := kb5.at_ 0 _ rfl
        have c1 := kb5.at_ 1 _ rfl
        have c2 := kb5.at_ 2 _ rfl
        have c3 := kb5.at_ 3 _ rfl
        have c4 := kb5.at_ 4 _ rfl
        have c5 := kb5.at_ 5 _ rfl
        go_upto_region 15 with (go_at_call 12; refine (HK2.out _).mono ?_; rintro e x6 ⟨rfl, hx6⟩)
        clear y0 y1 y2 y3 c0 c1 c2 c3 c4 c5
        have ka6 := (ka5.below hx6 ka5.lt).alloc (.cells #[.int .i64 k0, .int .i64 k1] 39)
        have kb6 := (kb5.below hx6 kb5.lt).alloc (.cells #[.int .i64 k0, .int .i64 k1] 39)
        have kk6 := (kk.below hx6 kk.lt).alloc (.cells #[.int .i64 k0, .int .i64 k1] 39)
        have kn6 := Blk.new x6 39 #[.int .i64 k0, .int .i64 k1]
        have hb := (HB1.out.trans (hx6.mono HB1.out.size)).alloc (Nat.le_trans HB1.out.size hx6.size) (.cells #[.int .i64 k0, .int .i64 k1] 39)
        generalize x6.alloc (.cells #[.int .i64 k0, .int .i64 k1] 39) = X6 at *
        generalize x6.heap.size = gn at *
        clear HB1 ka5 kb5 kk hx6
        have HB1 := Lib.hid hb
        clear hb
        go_upto_region 17 with (go_at_call 13; refine (HSP.out _ HB1.out).mono ?_; rintro e X7 ⟨ad, f, rfl, ho, hsp, hlo, hx7⟩)
        obtain ⟨g, rfl⟩ : ∃ g, ad = ⟨g, 0, none⟩ := ⟨_, ho.where_⟩
        have HIS := Lib.hid (fun (p : Nat) (hp : p < 4096) => show X7.cell? ⟨g, p * 7 + 6, none⟩ = some (.bool (atL L p).isSome) from by rw [← hsp.2 p hp]; exact (ho.sevenL hp).c6)
        have hb := HB1.out.trans (hx7.mono HB1.out.size)
        have ka7 := ka6.below hx7 ka6.lt
        have kb7 := kb6.below hx7 kb6.lt
        have kk7 := kk6.below hx7 kk6.lt
        have kn7 := kn6.below hx7 kn6.lt
        have HB7 := Lib.hid hb
        have HC9 := Lib.hid (fun (x : World) (hx : Below X7.heap.size X7 x) => show x.cell? ⟨w.heap.size, 1, none⟩ = some (.int .i64 q1) ∧ x.cell? ⟨w.heap.size, 2, none⟩ = some (.int .i64 q2) ∧ x.cell? ⟨ga, 0, none⟩ = some (.int .i64 af) ∧ x.cell? ⟨ga, 1, none⟩ = some (.int .i64 at') ∧ x.cell? ⟨ga, 2, none⟩ = some (.int .i64 ap) ∧ x.cell? ⟨ga, 3, none⟩ = some (.int .i64 ak) ∧ x.cell? ⟨ga, 4, none⟩ = some (.int .i64 afl) ∧ x.cell? ⟨ga, 5, none⟩ = some (.int .i64 apg) ∧ x.cell? ⟨gb, 0, none⟩ = some (.int .i64 af) ∧ x.cell? ⟨gb, 1, none⟩ = some (.int .i64 at') ∧ x.cell? ⟨gb, 2, none⟩ = some (.int .i64 ap) ∧ x.cell? ⟨gb, 3, none⟩ = some (.int .i64 ak) ∧ x.cell? ⟨gb, 4, none⟩ = some (.int .i64 afl) ∧ x.cell? ⟨gb, 5, none⟩ = some (.int .i64 apg) ∧ x.cell? ⟨gk, 0, none⟩ = some (.int .i64 k0) ∧ x.cell? ⟨gk, 1, none⟩ = some (.int .i64 k1) ∧ x.cell? ⟨gn, 0, none⟩ = some (.int .i64 k0) ∧ x.cell? ⟨gn, 1, none⟩ = some (.int .i64 k1) from by
          obtain ⟨y0, y1, y2, y3, -⟩ := HQW.out x (HB7.out.trans (hx.mono HB7.out.size))
          have ka8 := ka7.below hx ka7.lt
          have kb8 := kb7.below hx kb7.lt
          have kk8 := kk7.below hx kk7.lt
          have kn8 := kn7.below hx kn7.lt
          exact ⟨y1, y2, ka8.at_ 0 _ rfl, ka8.at_ 1 _ rfl, ka8.at_ 2 _ rfl, ka8.at_ 3 _ rfl, ka8.at_ 4 _ rfl, ka8.at_ 5 _ rfl, kb8.at_ 0 _ rfl, kb8.at_ 1 _ rfl, kb8.at_ 2 _ rfl, kb8.at_ 3 _ rfl, kb8.at_ 4 _ rfl, kb8.at_ 5 _ rfl, kk8.at_ 0 _ rfl, kk8.at_ 1 _ rfl, kn8.at_ 0 _ rfl, kn8.at_ 1 _ rfl⟩)
        clear HB1 ho hsp hlo hx7 hb ka6 kb6 kk6 kn6 ka7 kb7 kk7 kn7 HF1 HF2 HG1 HG2 HK1 HK2 HSP HRL
        go_wp2
        go_loopw [22, 24] (fun pv xv wq => ∃ p : Nat, p ≤ 4096 ∧ xv = .int .i64 p ∧ pv = .int .i64 (cntL L p) ∧ wq = X7) (fun _ xv _ => 4096 - (intOf xv).toNat)
        case atStart => exact ⟨0, by omega, rfl, rfl, rfl⟩
        case round =>
          obtain ⟨p, hp, rfl, rfl, rfl⟩ := hrel
          have hcb := cnt_bd L p
          by_cases hpl : p < 4096
          · have hs := HIS.out p hpl
            have hcs : cntL L (p + 1) = cntL L p + (if (atL L (p : Int)).isSome then (1 : Int) else 0) := rfl
            obtain ⟨s, hse⟩ : ∃ s, (atL L (p : Int)).isSome = s := ⟨_, rfl⟩
            rw [hse] at hs hcs
            obtain ⟨cn, hcn⟩ : ∃ z, cntL L p = z := ⟨_, rfl⟩
            rw [hcn] at hcs hcb ⊢
            have w1 : wrap64 (cn + 1) = cn + 1 := IntWalk.wrap64_in _ (by omega)
            have w2 : IntKind.i64.wrap (cn + 1) = cn + 1 := IntWalk.i64_in _ (by omega)
            have j0 : (0 : Int) ≤ (p : Int) := by clear w1 w2; omega
            have j1 : (p : Int) < 4096 := by clear w1 w2; omega
            have HCS := Lib.hid hcs
            clear hse hcn hcb hcs
            cases s
            all_goals
              go_wp2
              clear w1 w2 hs j0 j1
              go_roundw
              case rel => exact ⟨p + 1, by omega, by go_num, by rw [HCS.out]; simp, by simp⟩
              case measure => simp [intOf]; omega
          · obtain rfl : p = 4096 := by omega
            rw [HCN.out]
            clear hcb hpl
            obtain ⟨s0, s1, s2, s3, s4, s5, s6, s7, s8, s9, s10, s11, s12, s13, s14, s15, s16, s17⟩ := HC9.out wr (Below.refl _ _)
            have HD1 := Lib.hid (show ∀ (Z u x : World), Below Z.heap.size Z u → Below u.heap.size u x → Below Z.heap.size Z x from fun Z u x h1 h2 => h1.trans (h2.mono h1.size))
            have HPA := Lib.hid (fun (v : World) (hv : Below wr.heap.size wr v) => HC1.out v (HB7.out.trans (hv.mono HB7.out.size)))
            have HPB := Lib.hid (fun (v : World) (hv : Below wr.heap.size wr v) => HC2.out v (HB7.out.trans (hv.mono HB7.out.size)))
            have HPC := Lib.hid (fun (v : World) (hv : Below wr.heap.size wr v) => HPG.out v (HB7.out.trans (hv.mono HB7.out.size)))
            have HX9 := Lib.hid (Below.refl wr.heap.size wr)
            clear HC1 HC2 HPG HIS
            go_upto_region 22 with fail
            go_region_held3 (fun x => x.cell? ⟨w.heap.size, 1, none⟩ = some (.int .i64 q1) ∧ x.cell? ⟨w.heap.size, 2, none⟩ = some (.int .i64 q2) ∧ x.cell? ⟨ga, 0, none⟩ = some (.int .i64 af) ∧ x.cell? ⟨ga, 1, none⟩ = some (.int .i64 at') ∧ x.cell? ⟨ga, 2, none⟩ = some (.int .i64 ap) ∧ x.cell? ⟨ga, 3, none⟩ = some (.int .i64 ak) ∧ x.cell? ⟨ga, 4, none⟩ = some (.int .i64 afl) ∧ x.cell? ⟨ga, 5, none⟩ = some (.int .i64 apg) ∧ x.cell? ⟨gb, 0, none⟩ = some (.int .i64 af) ∧ x.cell? ⟨gb, 1, none⟩ = some (.int .i64 at') ∧ x.cell? ⟨gb, 2, none⟩ = some (.int .i64 ap) ∧ x.cell? ⟨gb, 3, none⟩ = some (.int .i64 ak) ∧ x.cell? ⟨gb, 4, none⟩ = some (.int .i64 afl) ∧ x.cell? ⟨gb, 5, none⟩ = some (.int .i64 apg) ∧ x.cell? ⟨gk, 0, none⟩ = some (.int .i64 k0) ∧ x.cell? ⟨gk, 1, none⟩ = some (.int .i64 k1) ∧ x.cell? ⟨gn, 0, none⟩ = some (.int .i64 k0) ∧ x.cell? ⟨gn, 1, none⟩ = some (.int .i64 k1))
                (first | exact ⟨s0, s1, s2, s3, s4, s5, s6, s7, s8, s9, s10, s11, s12, s13, s14, s15, s16, s17⟩ | exact HC9.out _ HX9.out | exact HC9.out _ HX9.out.drew)
                (first
                | (first | go_at_call 14 | go_at_call 15 | go_at_call 16); (first | with_reducible refine (HPA.out _ HX9.out).mono ?_ | with_reducible refine (HPB.out _ HX9.out).mono ?_ | with_reducible refine (HPC.out _ HX9.out).mono ?_ | with_reducible refine (HPA.out _ HX9.out.drew).mono ?_ | with_reducible refine (HPB.out _ HX9.out.drew).mono ?_ | with_reducible refine (HPC.out _ HX9.out.drew).mono ?_); rintro e v9 ⟨rfl, hb⟩; have hx := (show Below wr.heap.size wr v9 from by first | exact HD1.out _ _ _ HX9.out hb | exact HD1.out _ _ _ HX9.out.drew hb); clear s0 s1 s2 s3 s4 s5 s6 s7 s8 s9 s10 s11 s12 s13 s14 s15 s16 s17 HX9; have HX9 := Lib.hid hx; obtain ⟨s0, s1, s2, s3, s4, s5, s6, s7, s8, s9, s10, s11, s12, s13, s14, s15, s16, s17⟩ := HC9.out v9 hx; clear hb hx)
            go_wp2
            go_ret
            exact ⟨by simp, (HQW.out _ (HB7.out.trans (HX9.out.mono HB7.out.size))).2.2.2.2.out⟩

set_option maxRecDepth 100000 in
theorem lifted (os : Os) (started : os.Started) (H : Type) (enc : TypeId × Value → H) :
    ReturnsInHanded {} Try.checked os 3 .any (Rows.regionAsksSpec.pre6 enc Try.prog Try.f3 Rows.regionAsksRow.domain false) (Rows.regionAsksSpec.post enc Try.prog Try.f3 false true false false) := by
  refine returnsInHanded_of_change (C := Try.checked) own started (by kernel_rfl) Try.func3
    (ChangeSpec.witness6 (enc := enc) (C := Try.checked) false ⟨#[], #[.slice none 0 0, .agg #[.int .i64 0, .int .i64 0, .int .i64 0, .int .i64 0]], []⟩ 8 (by kernel_rfl) (by kernel_rfl) (by kernel_rfl) (by kernel_rfl)) ?_
  intro W base args ds gs before hval0 hW hcnd _
  have hval : ∀ (j : Nat) t v, Try.f3.params[j]? = some t → args[j]? = some v → Value.okWide Try.prog W .any base t v := hval0
  have hW' := hW
  obtain ⟨p, q, hA0, hV, rfl, hfz, hnd⟩ := hW
  have hA : DataW.TrodAll enc Try.prog W 0 (fun _ => true) true Try.f3.params.toList args.toList ds p := hA0
  rw [Try.params3] at hA hval
  obtain ⟨v0, vs0, d0, ds0, p0, q0, hargs, rfl, rfl, h0, r0⟩ := trodAll_cons hA
  obtain ⟨v1, vs1, d1, ds1, p1, q1, rfl, rfl, rfl, h1, r1⟩ := trodAll_cons r0
  obtain ⟨rfl, rfl, rfl⟩ := trodAll_nil r1
  obtain rfl : args = #[v0, v1] := by cases args; simp_all
  obtain ⟨rfl, rfl⟩ := trodVars_none hV
  have k0 := h0
  have lt0 : ∀ x ∈ p0, x.block < W.heap.size := by obtain ⟨m, hm⟩ := k0; exact DataW.trod_lt m _ _ _ hm
  obtain ⟨LA0, Ll0, Lc0, rfl, Lm0, Lr0⟩ := open_opsU (hval 0 22 v0 rfl rfl) h0
  have k1 := h1
  have lt1 : ∀ x ∈ p1, x.block < W.heap.size := by obtain ⟨m, hm⟩ := k1; exact DataW.trod_lt m _ _ _ hm
  obtain ⟨z1, e1, hl1, hw1⟩ := open_ints_array Try.underlying23 Try.underlying3 (by kernel_rfl) (by kernel_rfl) (hval 1 23 v1 rfl rfl) h1
  obtain ⟨a1_0, a1_1, a1_2, a1_3, rfl⟩ : ∃ a1_0 a1_1 a1_2 a1_3, z1 = [a1_0, a1_1, a1_2, a1_3] := by
    match z1, hl1 with
    | [a1_0, a1_1, a1_2, a1_3], _ => exact ⟨_, _, _, _, rfl⟩
  obtain rfl : v1 = .agg #[.int .i64 a1_0, .int .i64 a1_1, .int .i64 a1_2, .int .i64 a1_3] := e1
  clear hA0 hval0
  refine (walk LA0 Ll0 Lc0 a1_0 a1_1 a1_2 a1_3 W Lm0 Lr0 (hw1 a1_0 (by simp)) (hw1 a1_1 (by simp)) (hw1 a1_2 (by simp)) (hw1 a1_3 (by simp))).mono fun e W' ⟨he, bel⟩ => ?_
  subst he
  exact ⟨_, rfl, _, _, _, [], _, [], hW', trodAll_mk1 (shut_bool Try.underlying4 _), (trodAll_cons_mk (Below.trod laidOut (by kernel_rfl) (of_decide_eq_true (by kernel_rfl)) k0 bel lt0) (trodAll_cons_mk (Below.trod laidOut (by kernel_rfl) (of_decide_eq_true (by kernel_rfl)) k1 bel lt1) trodAll_mk0)), rfl, bel.frame _, fun h => by cases h⟩
theorem over : Rows.regionAsksRow.holds Try.pinned (OpenSpec.ofChange Rows.regionAsksSpec) :=
  OpenClaim.holds_of_wide 3 Try.f3 rfl rfl rfl rfl rfl rfl rfl ⟨rfl, rfl, rfl, rfl, rfl⟩ rfl rfl rfl rfl rfl (by kernel_rfl) Try.func3 (by kernel_rfl)
    (of_decide_eq_true (by kernel_rfl)) (by unfold Func.isWrapper; first | (rw [if_pos (by decide +kernel)]; kernel_rfl) | (rw [if_neg (by decide +kernel)]; exact ⟨rfl, rfl⟩))
    (fun os started H enc _ => lifted os started H enc)
/-- The statement. -/
theorem proved : Rows.RegionAsksSaid := over
end Go.Proofs.Ytkfkaafddfedjaa.lawAsks
