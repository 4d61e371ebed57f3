/- RadixLast: for any pages and numbers, and whichever of them are dropped: a page's entry is the one that was set last. -/
import Derived.Test.YtbidlabhekiijaaDoorQJ
namespace Go.Proofs.YtbidlabhekiijaaDoor.lawLast
open Go.ChangeShapes Go.WideShapes Go.ChangeAt Go.RowKit
set_option linter.unusedVariables false
set_option linter.unusedSimpArgs false

/-- A slice of pairs of ints. -/
def PairRow (w : World) (A : Option Addr) (l : List (Int × Int)) : Prop := ∀ i (hi : i < l.length), ∃ ad, A = some ad ∧ ad.block < w.heap.size ∧ w.cell? (ad.add (i * 2)) = some (.int .i64 l[i].1) ∧ w.cell? (ad.add (i * 2 + 1)) = some (.int .i64 l[i].2)
set_option maxRecDepth 100000 in
theorem openPairs7 {H : Type} {enc : TypeId × Value → H} {w : World} {base : Nat} {spare : Nat → Bool} {held : Bool} {r : Reach} {b0 : Nat} {v : Value} {d : DataW H} {ps : List MemPlace}
    (hv : Value.okWide Tryd.prog w r b0 56 v) (h : DataW.Trod enc Tryd.prog w base spare held 56 v d ps) : ∃ A l c, v = .slice A (List.length l) c ∧ l.length ≤ maxLen ∧ PairRow w A l := by
  have hc2 : Tryd.prog.cellsOf 59 = 2 := by kernel_rfl
  have hc1 : Tryd.prog.cellsOf 3 = 1 := by kernel_rfl
  obtain ⟨A, n, c, rfl, hn, hi⟩ := open_row_n Tryd.underlying56 hv h (by rw [hc2]; omega)
  obtain ⟨zs, hl, hz⟩ := list_of (Q := fun i (z : Int × Int) => ∃ ad, A = some ad ∧ ad.block < w.heap.size ∧ w.cell? (ad.add (i * 2)) = some (.int .i64 z.1) ∧ w.cell? (ad.add (i * 2 + 1)) = some (.int .i64 z.2)) n (fun i h => by
    obtain ⟨ad, rfl, hb, fuel, cs, y, hlen, hat, hy⟩ := hi i h
    rw [hc2] at hlen hat
    obtain ⟨xs, m, _, _, _, hxl, hel⟩ := DataW.trod_array Tryd.underlying59 hy
    match cs, hlen with
    | [c0, c1], _ =>
      have h0 := hel 0 (by omega)
      have h1 := hel 1 (by omega)
      rw [hc1, List.getElem?_eq_getElem (by omega)] at h0 h1
      obtain ⟨z0, e0, _, w0⟩ := DataW.trod_int Tryd.underlying3 h0
      obtain ⟨z1, e1, _, w1⟩ := DataW.trod_int Tryd.underlying3 h1
      simp at e0 e1
      subst e0 e1
      exact ⟨(z0, z1), ad, rfl, hb, by simpa using hat 0 (by omega), by simpa using hat 1 (by omega)⟩)
  subst hl
  exact ⟨A, zs, c, rfl, hn, hz⟩
/-- A slice of yes and no. -/
def BoolRow (w : World) (A : Option Addr) (l : List Bool) : Prop := ∀ i (hi : i < l.length), ∃ ad, A = some ad ∧ ad.block < w.heap.size ∧ w.cell? (ad.add i) = some (.bool l[i])
set_option maxRecDepth 100000 in
theorem openBools7 {H : Type} {enc : TypeId × Value → H} {w : World} {base : Nat} {spare : Nat → Bool} {held : Bool} {r : Reach} {b0 : Nat} {v : Value} {d : DataW H} {ps : List MemPlace}
    (hv : Value.okWide Tryd.prog w r b0 57 v) (h : DataW.Trod enc Tryd.prog w base spare held 57 v d ps) : ∃ A l c, v = .slice A (List.length l) c ∧ l.length ≤ maxLen ∧ BoolRow w A l := by
  have hc1 : Tryd.prog.cellsOf 4 = 1 := by kernel_rfl
  obtain ⟨A, n, c, rfl, hn, hi⟩ := open_row_n Tryd.underlying57 hv h (by rw [hc1]; omega)
  obtain ⟨zs, hl, hz⟩ := list_of (Q := fun i (z : Bool) => ∃ ad, A = some ad ∧ ad.block < w.heap.size ∧ w.cell? (ad.add i) = some (.bool z)) n (fun i h => by
    obtain ⟨ad, rfl, hb, fuel, cs, y, hlen, hat, hy⟩ := hi i h
    obtain ⟨z, rfl, _⟩ := DataW.trod_bool Tryd.underlying4 hy
    have := hat 0 (by rw [hc1]; omega)
    rw [hc1, Nat.mul_one] at this
    exact ⟨z, ad, rfl, hb, this⟩)
  subst hl
  exact ⟨A, zs, c, rfl, hn, hz⟩

set_option maxRecDepth 100000 in
set_option maxHeartbeats 1600000 in
theorem walk (A : Option Addr) (l : List (Int × Int)) (c : Nat) (A' : Option Addr) (dl : List Bool) (c' : Nat) (w : World) (hm : l.length ≤ maxLen) (hz : PairRow w A l) (hm' : dl.length ≤ maxLen) (hz' : BoolRow w A' dl) (hT : Tab w) :
    Calls Tryd.prog 5 #[.slice A l.length c, .slice A' dl.length c'] w fun e w' => e = .returned (.bool true) ∧ Below w.heap.size w w' := by
  unfold maxLen at hm hm'
  have HA := Lib.hid (fun w hT => awake7_any w hT)
  have HN := Lib.hid (fun v (hb : Below w.heap.size w v) (hT' : Tab v) => show Calls Tryd.prog 16 #[.int .i64 200] v _ from pw_new hb hT' hT.pos 200 (by omega) (by omega))
  have HM := Lib.hid (fun (v : World) p h g (s : Pw w v p h g (newP 200)) => tw_new (N := 200) (by omega) s)
  unfold PwMade at HN
  unfold TwMade at HM
  have HZ := Lib.hid hz
  have HZ' := Lib.hid hz'
  have HB := Lib.hid (Below.refl w.heap.size w)
  clear hz hz'
  go_enter Tryd.func5, Tryd.ntmps5
  go_wp2_with (first
    | (go_at_call 10; refine (HA.out _ hT).mono ?_; rintro e v0 ⟨rfl, hb⟩; have hB := HB.out.trans hb; replace hT := hT.below hb hT.pos; clear hb)
    | (go_at_call 16; refine (HN.out _ hB hT).mono ?_; rintro e v1 ⟨p, h, g, rfl, hS⟩; clear hB)
    | (go_at_call 17; refine (HM.out _ _ _ _ hS).mono ?_; rintro e v2 ⟨t, rfl, hS2⟩; clear hS))
  have HS := Lib.hid hS2
  have HLT : Hid (∃ B, (t < B ∧ p < B ∧ h < B ∧ g < B) ∧ w.heap.size ≤ B ∧ ∀ x, (t < x ∧ p < x ∧ h < x ∧ g < x) → B ≤ x) := Lib.hid ⟨max (max t p) (max h g) + 1, by omega, by have := hS2.wt; omega, fun x hx => by omega⟩
  replace HLT := HLT.out
  obtain ⟨B, hBB⟩ := HLT
  have HLT := Lib.hid hBB
  clear hS2 hT HN HM HA HB hBB
  go_loopw [9, 10, 11] (fun pv wv i wr => ∃ (k : Nat) (M : Nat → Sl) (PS : List Nat) (WS : List Int), k ≤ l.length ∧ k ≤ 30 ∧ i = .int .i64 k ∧ PS.length ≤ k ∧ Tw w wr t p h g 200 M ∧ cnt7 M ≤ 1 + 3 * k ∧ Ms M PS WS ∧ Rm wr B pv wv PS WS) (fun _ _ i _ => l.length - (intOf i).toNat)
  case atStart => exact ⟨0, m0, [], [], Nat.zero_le _, by omega, rfl, by simp, HS.out, by rw [cnt7_zero]; omega, ⟨rfl, fun j h => by simp at h, fun j h => by simp at h⟩, Rm.start _ _⟩
  case round =>
    clear HS
    obtain ⟨k, M, PS, WS, hk, hk30, rfl, hpl, hS, hcn, hMs, hRm⟩ := hrel
    by_cases hlt : k < l.length ∧ k < 30
    · obtain ⟨hk1, hk2⟩ := hlt
      have d30 : decide ((k : Int) < 30) = true := decide_eq_true (by omega)
      obtain ⟨ad, rfl, hab, hc0, hc1⟩ := HZ.out k hk1
      have hbk : ∀ i, (ad.add i).block < w.heap.size := fun i => by rw [show (ad.add i).block = ad.block by unfold Addr.add; split <;> rfl]; exact hab
      replace hc0 := (hS.bel.cell (hbk _)).trans hc0
      have hc2 : wr.cell? { block := (ad.add (k * 2)).block, off := (ad.add (k * 2)).off + 1, spot := none } = some (.int .i64 l[k].2) := by
        show wr.cell? ((ad.add (k * 2)).add 1) = _
        rw [Go.Deep.add_add]
        exact (hS.bel.cell (hbk _)).trans hc1
      clear hbk hc1 hab
      obtain ⟨K, hK, hK4, hKx⟩ := and_page l[k].1
      obtain ⟨n, hn, hn4, hnx⟩ := and_mask (x := l[k].2) 20 1048575 (by omega) (by decide)
      simp only [show ((1048575 : Nat) : Int) = 1048575 from rfl] at hn
      clear hKx hnx
      generalize l[k].1 = z0 at *
      generalize l[k].2 = z1 at *
      obtain ⟨nb, hnb⟩ : ∃ nb, (n % 2 == 1) = nb := ⟨_, rfl⟩
      have hb1 : bits .and .i64 (n : Int) 1 = ((n % 2 : Nat) : Int) := by
        have := i64_and_mask (n : Int) 1 1 (by omega) (by decide)
        rw [show ((1 : Nat) : Int) = 1 from rfl] at this
        rw [this]
        omega
      have hb2 : (((n % 2 : Nat) : Int) == 1) = nb := by
        rw [← hnb]
        have h2 := Nat.mod_two_eq_zero_or_one n
        rcases h2 with h2 | h2 <;> rw [h2] <;> rfl
      have hsl : slN n = ⟨true, nb, false, false, (n : Nat)⟩ := by unfold slN; rw [hnb]
      have hput := tw_put hS (k := k) (P := K) (x := slN n) hK4 (slN_may (by omega)) hcn (by omega)
      have hvv : (slN n).v = .agg #[.bool true, .bool nb, .bool false, .bool false, .int .i64 (n : Nat)] := by rw [hsl]; rfl
      rw [hvv] at hput
      have HST := Lib.hid hput
      obtain ⟨r2, hr2⟩ : ∃ r2, n % 2 = r2 := ⟨_, rfl⟩
      rw [hr2] at hb1 hb2
      have HR := Lib.hid (And.intro hMs (And.intro hRm (And.intro hpl hS.lts)))
      have HSL := Lib.hid (And.intro hsl hn4)
      clear hS hcn hMs hRm hpl hput hvv hsl hnb hr2
      go_upto_region 17 with (go_at_call 24; refine HST.out.mono ?_; rintro e v5 ⟨rfl, hS5, hc5, hb5⟩; have HS5 := Lib.hid (And.intro hS5 (And.intro hc5 hb5)); clear hS5 hc5 hb5)
      obtain ⟨Ap, cp, rfl⟩ := own_sl7 HR.out.2.1.pag
      obtain ⟨Aw, cw, rfl⟩ := own_sl7 HR.out.2.1.wnt
      have hwl : WS.length = PS.length := HR.out.1.len
      have HR5 := Lib.hid (HR.out.2.1.but HS5.out.2.2 (fun j hj e => by have := HLT.out; omega))
      have hMs' := fun WS' (u : Upd PS WS WS' K n PS.length) => HR.out.1.set u (by have := HSL.out.2; omega)
      have HMS := Lib.hid (And.intro hMs' HR.out.2.2.1)
      have hzero : slN n ≠ Sl.zero := Sl.may_ne (slN_may (by have := HSL.out.2; omega))
      have HM2 := Lib.hid (And.intro (show setM M K (slN n) K = slN n from setM_same _ _ _) hzero)
      have hnn : n < 1048576 := by have := HSL.out.2; omega
      clear HR hc0 hc2 HST hzero hMs'
      generalize hM2d : setM M K (slN n) = M2 at *
      have HM2D := Lib.hid hM2d
      clear hM2d
      rw [hwl] at HR5 ⊢
      have hpl := HMS.out.2
      generalize hLd : PS.length = LP at *
      go_loopw [14, 15] (fun th_ jj wx => ∃ (j : Nat) (th : Bool) (WS2 : List Int), j ≤ LP ∧ jj = .int .i64 j ∧ th_ = .bool th ∧ Upd PS WS WS2 K n j ∧ (th = true ↔ ∃ i, ∃ hi : i < PS.length, i < j ∧ PS[i] = K) ∧ Rm wx B (.slice Ap LP cp) (.slice Aw LP cw) PS WS2 ∧ Tw w wx t p h g 200 M2) (fun _ jj _ => LP - (intOf jj).toNat)
      case atStart => exact ⟨0, false, WS, Nat.zero_le _, rfl, rfl, Upd.start _ _ _ _, ⟨fun h => Bool.noConfusion h, fun ⟨i, _, h, _⟩ => by omega⟩, HR5.out, HS5.out.1⟩
      case round =>
        clear HR5
        obtain ⟨j, th, WS2, hj, rfl, rfl, hU, hth, hR2, hS2⟩ := hrel
        by_cases hjl : j < LP
        · obtain ⟨gp, cp2, e1, hBp, hgp, x0⟩ := hR2.page_at (j := j) (by omega)
          obtain ⟨gw, cw2, e2, hBw, hgw, y0, y1⟩ := hR2.want_at (j := j) (by rw [hU.len, hwl]; omega)
          have e1' : Ap = some ⟨gp, 0, none⟩ := by injection e1
          subst e1'
          obtain ⟨old, yo⟩ : ∃ old, wr.cell? ⟨gw, j, none⟩ = some (.int .i64 old) := ⟨_, y0⟩
          clear y0
          have e2' : Aw = some ⟨gw, 0, none⟩ := by injection e2
          subst e2'
          have hj8 : (j : Int) < (LP : Int) := by omega
          by_cases hjk : PS[j]'(by omega) = K
          · have hU2 := hU.put (by omega) hjk
            have hth2 : (true = true ↔ ∃ i, ∃ hi : i < PS.length, i < j + 1 ∧ PS[i] = K) := ⟨fun _ => ⟨j, by omega, by omega, hjk⟩, fun _ => rfl⟩
            have hwl2 : WS2.length = LP := by rw [hU.len, hwl]
            have hR3 := (show Rm wr B _ (.slice (some ⟨gw, 0, none⟩) WS2.length cw) PS WS2 by rw [hwl2]; exact hR2).store j (n : Nat)
            rw [hwl2] at hR3
            have hS3 := hS2.thru (S := (· = gw)) ((But.refl (· = gw) _).setCell (p := ⟨gw, j, none⟩) (.inl rfl) (.int .i64 (n : Nat))) (fun x e => by have := HLT.out; omega)
            have HX := Lib.hid (And.intro hU2 (And.intro hth2 (And.intro hR3 hS3)))
            rw [hjk] at x0
            clear hU2 hth2 hR3 hS3 hU hth hR2 hS2 hjk
            go_wp2
            go_roundw
            case rel => exact ⟨j + 1, true, _, by omega, by go_num, rfl, HX.out.1, HX.out.2.1, HX.out.2.2.1, HX.out.2.2.2⟩
            case measure => simp [intOf]; omega
          · have hU2 := hU.skip (by omega) hjk
            have hth2 : (th = true ↔ ∃ i, ∃ hi : i < PS.length, i < j + 1 ∧ PS[i] = K) := by
              rw [hth]
              exact ⟨fun ⟨i, h1, h2, h3⟩ => ⟨i, h1, by omega, h3⟩, fun ⟨i, h1, h2, h3⟩ => ⟨i, h1, by
                rcases Nat.lt_or_ge i j with h4 | h4
                · exact h4
                · have e5 : i = j := by omega
                  subst e5
                  exact absurd h3 hjk, h3⟩⟩
            have HX := Lib.hid (And.intro hU2 (And.intro hth2 (And.intro hR2 hS2)))
            generalize PS[j]'(by omega) = pj at *
            have hne : ((pj : Int) == (K : Int)) = false := by simpa using (by omega : (pj : Int) ≠ (K : Int))
            have hne2 : (pj == K) = false := by simpa using hjk
            clear hU2 hth2 hU hth hR2 hS2 yo y1
            go_wp2
            go_roundw
            case rel => exact ⟨j + 1, th, _, by omega, by go_num, rfl, HX.out.1, HX.out.2.1, HX.out.2.2.1, HX.out.2.2.2⟩
            case measure => simp [intOf]; omega
        · obtain rfl : j = LP := by omega
          have hMs2 := HMS.out.1 WS2 hU
          have hwl2 : WS2.length = j := by rw [hU.len, hwl]
          have hkk : M2 K = slN n := HM2.out.1
          have HQ := Lib.hid (And.intro hMs2 (And.intro hR2 (And.intro hS2 (And.intro hwl2 (And.intro hkk hLd)))))
          obtain ⟨i0, hi, hz0, hz1, hz2⟩ := info_parts infoInt7
          clear hU hth hR2 hS2 hMs2 hwl2 hkk hwl HMS HM2 HM2D
          go_upto_if 83 with fail
          go_cut [9, 10] from 35 to 185 (fun pv wv wx => ∃ (P2 : List Nat) (W2 : List Int), Rm wx B pv wv P2 W2 ∧ Ms M2 P2 W2 ∧ P2.length ≤ k + 1 ∧ Tw w wx t p h g 200 M2)
          case first =>
            cases th
            · have HOWN := Lib.hid (own_below HQ.out.2.1.pag ((Below.refl _ _).alloc (Nat.le_refl _) (.cells #[.int .i64 (K : Nat)] 3)))
              have hBs : B ≤ wr.heap.size := HLT.out.2.2 _ HQ.out.2.2.1.lts
              have hLd' := hLd
              go_wp2_with (at_builtin; refine Hid.out ?_)
              refine Lib.hid ?_
              refine wpList_append_own_at _ rfl _ _ 58 rfl B 3 i0 _ 1 8 Tryd.underlying58 hi hz0 hz1 hz2 rfl (by decide) (.slice Ap j cp) PS.length _ rfl HOWN.out ⟨wr.heap.size, 0, none⟩ 1 1 [.int .i64 (K : Nat)] rfl (by rfl) (cell_one_new _ _ _) (by simp [Value.oneCell']) (by unfold maxLen; omega) (by omega) (by simp; omega) ?_
              intro v' w1 hown1 hgrow1 _ hat1
              have hR1 := HQ.out.2.1.push1 hown1 hgrow1 hat1
              have hS1 := HQ.out.2.2.1.push hgrow1 HQ.out.2.1.pag HLT.out.1 HLT.out.2.1
              obtain ⟨A1, c1, rfl⟩ := own_sl7 hown1
              have HOWN2 := Lib.hid (own_below hR1.wnt ((Below.refl _ _).alloc (Nat.le_refl _) (.cells #[.int .i64 (n : Nat)] 3)))
              have hBs1 : B ≤ w1.heap.size := HLT.out.2.2 _ hS1.lts
              have hwl2 := HQ.out.2.2.2.1
              have HR1 := Lib.hid hR1
              have HS1 := Lib.hid hS1
              clear hown1 hgrow1 hat1 HOWN hR1 hS1
              go_wp2_with (at_builtin; refine Hid.out ?_)
              refine Lib.hid ?_
              refine wpList_append_own_at _ rfl _ _ 58 rfl B 3 i0 _ 1 8 Tryd.underlying58 hi hz0 hz1 hz2 rfl (by decide) (.slice Aw j cw) WS2.length _ rfl HOWN2.out ⟨w1.heap.size, 0, none⟩ 1 1 [.int .i64 (n : Nat)] rfl (by rfl) (cell_one_new _ _ _) (by simp [Value.oneCell']) (by unfold maxLen; omega) (by omega) (by simp; omega) ?_
              intro v2' w2 hown2 hgrow2 _ hat2
              have hR2 := HR1.out.push2 hown2 hgrow2 hat2
              have hS2 := HS1.out.push hgrow2 HR1.out.wnt HLT.out.1 HLT.out.2.1
              obtain ⟨A2, c2, rfl⟩ := own_sl7 hown2
              have HF := Lib.hid (And.intro hR2 hS2)
              clear hown2 hgrow2 hat2 HOWN2 hR2 hS2
              go_wp2
              go_meet
              refine ⟨PS ++ [K], WS2 ++ [(n : Int)], by have h9 := HF.out.1; rw [hLd, hwl2] at h9; exact h9, HQ.out.1.push hK4 HQ.out.2.2.2.2.1 hnn, by simp; omega, HF.out.2⟩
            · go_wp2
              go_meet
              exact ⟨PS, WS2, HQ.out.2.1, HQ.out.1, by have := HQ.out.2.2.2.2.2; omega, HQ.out.2.2.1⟩
          case rest =>
            obtain ⟨P2, W2, hR2, hMs2, hp2, hS2⟩ := hcut
            obtain ⟨Ap2, cp2, rfl⟩ := own_sl7 hR2.pag
            obtain ⟨Aw2, cw2, rfl⟩ := own_sl7 hR2.wnt
            rw [hMs2.len] at hR2 ⊢
            have hW2 := hMs2.len
            generalize hLQ : P2.length = LQ at *
            have HQ2 := Lib.hid (And.intro hMs2 (And.intro hR2 (And.intro hS2 hp2)))
            have HW2 := Lib.hid (And.intro hW2 hLQ)
            have hLQb : LQ ≤ 31 := by omega
            clear hW2 hLQ
            have HC := Lib.hid (And.intro HS5.out.2.1 HQ.out.2.2.2.2.1)
            clear hR2 hMs2 hp2 hS2 HQ HS5 hb1 hb2
            go_upto_region 25 with fail
            go_cut [101] from 35 to 185 (fun v wx => ∃ b, v = .bool b ∧ wx = wc)
            case first =>
              by_cases hd : k < dl.length
              · obtain ⟨ad2, rfl, hab, hc0⟩ := HZ'.out k hd
                replace hc0 := (HQ2.out.2.2.1.bel.cell (p := ad2.add k) (by rw [show (ad2.add k).block = ad2.block by unfold Addr.add; split <;> rfl]; exact hab)).trans hc0
                have hd8 : (k : Int) < (dl.length : Int) := by omega
                generalize dl[k] = db at *
                go_wp2
                go_meet
                exact ⟨_, rfl, rfl⟩
              · have hd8 : ¬ (k : Int) < (dl.length : Int) := by omega
                go_wp2
                go_meet
                exact ⟨_, rfl, rfl⟩
            case rest =>
              obtain ⟨b, rfl, rfl⟩ := hcut
              go_upto_if 101 with fail
              go_cut [16, 17, 18] from 35 to 185 (fun _ _ _ wx => ∃ (M3 : Nat → Sl) (W3 : List Int), Rm wx B (.slice Ap2 LQ cp2) (.slice Aw2 LQ cw2) P2 W3 ∧ Ms M3 P2 W3 ∧ Tw w wx t p h g 200 M3 ∧ cnt7 M3 ≤ 1 + 3 * (k + 1))
              case first =>
                cases b
                · go_wp2
                  go_meet
                  exact ⟨M2, W2, HQ2.out.2.1, HQ2.out.1, HQ2.out.2.2.1, HC.out.1⟩
                · have hgp := gt_page (M := M2) hK4 (by rw [HC.out.2]; exact Sl.may_ne (slN_may (by omega)))
                  have hdr := tw_drop HQ2.out.2.2.1 (K : Nat)
                  rw [hgp.1, hgp.2.1, hgp.2.2, HC.out.2, HSL.out.1] at hdr
                  unfold Sl.v at hdr
                  simp only at hdr
                  have HDR := Lib.hid hdr
                  have hcd := cnt7_drop M2 K
                  have HCD := Lib.hid hcd
                  generalize hM3d : setM M2 K Sl.zero = M3 at *
                  have HM3 := Lib.hid hM3d
                  clear hgp hdr hcd hM3d
                  go_upto_region 30 with (go_at_call 19; refine HDR.out.mono ?_; rintro e v6 ⟨rfl, hS6, hb6⟩
                                          have hS7 := hS6.alloc (.cells #[.bool true, .bool nb, .bool false, .bool false, .int .i64 (n : Nat)] 23)
                                          have hR7 := (HQ2.out.2.1.but hb6 (fun j hj e => by have := HLT.out.1; omega)).alloc (.cells #[.bool true, .bool nb, .bool false, .bool false, .int .i64 (n : Nat)] 23)
                                          have HV := Lib.hid (And.intro hS7 hR7)
                                          clear hS6 hb6 hS7 hR7)
                  obtain ⟨V, hV⟩ : ∃ V, v6.alloc (.cells #[.bool true, .bool nb, .bool false, .bool false, .int .i64 (n : Nat)] 23) = V := ⟨_, rfl⟩
                  rw [hV] at HV ⊢
                  clear hV
                  go_loopw [18] (fun jj wx => ∃ (j : Nat) (WS3 : List Int), j ≤ LQ ∧ jj = .int .i64 j ∧ Upd P2 W2 WS3 K (-1) j ∧ Rm wx B (.slice Ap2 LQ cp2) (.slice Aw2 LQ cw2) P2 WS3 ∧ Tw w wx t p h g 200 M3) (fun jj _ => LQ - (intOf jj).toNat)
                  case atStart => exact ⟨0, W2, Nat.zero_le _, rfl, Upd.start _ _ _ _, HV.out.2, HV.out.1⟩
                  case round =>
                    clear HV
                    obtain ⟨j, WS3, hj, rfl, hU, hR2, hS2⟩ := hrel
                    have hwe := HW2.out
                    by_cases hjl : j < LQ
                    · obtain ⟨gp, cp9, e1, hBp, hgp, x0⟩ := hR2.page_at (j := j) (by omega)
                      obtain ⟨gw, cw9, e2, hBw, hgw, y0, y1⟩ := hR2.want_at (j := j) (by rw [hU.len]; omega)
                      have e1' : Ap2 = some ⟨gp, 0, none⟩ := by injection e1
                      subst e1'
                      obtain ⟨old, yo⟩ : ∃ old, wr.cell? ⟨gw, j, none⟩ = some (.int .i64 old) := ⟨_, y0⟩
                      clear y0
                      have e2' : Aw2 = some ⟨gw, 0, none⟩ := by injection e2
                      subst e2'
                      have hj8 : (j : Int) < (LQ : Int) := by omega
                      by_cases hjk : P2[j]'(by omega) = K
                      · have hU2 := hU.put (by omega) hjk
                        have hwl2 : WS3.length = LQ := by rw [hU.len]; omega
                        have hR3 := (show Rm wr B _ (.slice (some ⟨gw, 0, none⟩) WS3.length cw2) P2 WS3 by rw [hwl2]; exact hR2).store j (-1)
                        rw [hwl2] at hR3
                        have hS3 := hS2.thru (S := (· = gw)) ((But.refl (· = gw) _).setCell (p := ⟨gw, j, none⟩) (.inl rfl) (.int .i64 (-1))) (fun x e => by have := HLT.out.1; have := HLT.out.2.1; omega)
                        have HX := Lib.hid (And.intro hU2 (And.intro hR3 hS3))
                        rw [hjk] at x0
                        clear hU2 hR3 hS3 hU hR2 hS2 hjk hwe e1 e2
                        go_wp2
                        go_roundw
                        case rel => exact ⟨j + 1, _, by omega, by go_num, HX.out.1, HX.out.2.1, HX.out.2.2⟩
                        case measure => simp [intOf]; omega
                      · have hU2 := hU.skip (by omega) hjk
                        have HX := Lib.hid (And.intro hU2 (And.intro hR2 hS2))
                        generalize P2[j]'(by omega) = pj at *
                        have hne : ((pj : Int) == (K : Int)) = false := by simpa using (by omega : (pj : Int) ≠ (K : Int))
                        have hne2 : (pj == K) = false := by simpa using hjk
                        clear hU2 hU hR2 hS2 yo y1 hwe e1 e2
                        go_wp2
                        go_roundw
                        case rel => exact ⟨j + 1, _, by omega, by go_num, HX.out.1, HX.out.2.1, HX.out.2.2⟩
                        case measure => simp [intOf]; omega
                    · obtain rfl : j = LQ := by omega
                      have HX := Lib.hid (And.intro (show Ms M3 P2 WS3 by rw [← HM3.out]; exact HQ2.out.1.drop (by rw [hwe.2]; exact hU)) (And.intro hR2 hS2))
                      clear hU hR2 hS2 hwe
                      go_wp2
                      go_meet
                      exact ⟨M3, WS3, HX.out.2.1, HX.out.1, HX.out.2.2, by have := HCD.out; have := HC.out.1; omega⟩
              case rest =>
                obtain ⟨M3, W3, hR3, hMs3, hS3, hc3⟩ := hcut
                have HM4 := Lib.hid (And.intro hMs3 (And.intro hc3 (And.intro HW2.out.2 HQ2.out.2.2.2)))
                clear hMs3 hc3 HQ2 HW2 HC HSL
                have HI := Lib.hid (And.intro hR3 hS3)
                clear hR3 hS3
                go_upto_region 35 with fail
                go_loopw [19] (fun jj wx => ∃ j : Nat, j ≤ LQ ∧ jj = .int .i64 j ∧ Rm wx B (.slice Ap2 LQ cp2) (.slice Aw2 LQ cw2) P2 W3 ∧ Tw w wx t p h g 200 M3) (fun jj _ => LQ - (intOf jj).toNat)
                case atStart => exact ⟨0, Nat.zero_le _, rfl, HI.out.1, HI.out.2⟩
                case round =>
                  clear HI
                  obtain ⟨j, hj, rfl, hR3, hS3⟩ := hrel
                  by_cases hjl : j < LQ
                  · have hwl : W3.length = LQ := by rw [HM4.out.1.len]; exact HM4.out.2.2.1
                    obtain ⟨gp, cp9, e1, hBp, hgp, x0⟩ := hR3.page_at (j := j) (by rw [HM4.out.2.2.1]; exact hjl)
                    obtain ⟨gw, cw9, e2, hBw, hgw, y0, y1⟩ := hR3.want_at (j := j) (by rw [hwl]; exact hjl)
                    have hmean := HM4.out.1.ok j (by rw [HM4.out.2.2.1]; exact hjl)
                    have hp4 := HM4.out.1.lt j (by rw [HM4.out.2.2.1]; exact hjl)
                    have e1' : Ap2 = some ⟨gp, 0, none⟩ := by injection e1
                    subst e1'
                    have e2' : Aw2 = some ⟨gw, 0, none⟩ := by injection e2
                    subst e2'
                    have hj8 : (j : Int) < (LQ : Int) := by omega
                    generalize P2[j]'(by rw [HM4.out.2.2.1]; exact hjl) = pj at *
                    generalize W3[j]'(by rw [hwl]; exact hjl) = xj at *
                    clear y1 e1 e2
                    rcases hmean with ⟨rfl, hz⟩ | ⟨m, rfl, hm2, hz⟩
                    · have hgn := gt_none (M := M3) hp4 hz
                      have hgt := tw_get hS3 (pj : Nat)
                      rw [hgn.1, hgn.2.1] at hgt
                      unfold Sl.v Sl.zero at hgt
                      simp only at hgt
                      have HG := Lib.hid hgt
                      have HI := Lib.hid (And.intro hR3 (And.intro hS3 hgw))
                      clear hgn hgt hR3 hS3 hz
                      go_upto_region 38 with (go_at_call 21; refine HG.out.mono ?_; rintro e v9 ⟨rfl, hb9⟩; have HB9 := Lib.hid hb9; clear hb9)
                      have hbV := HB9.out.alloc HB9.out.size (.cells #[.bool false, .bool false, .bool false, .bool false, .int .i64 0] 23)
                      replace y0 := (hbV.cell (p := ⟨gw, j, none⟩) HI.out.2.2).trans y0
                      have HV := Lib.hid (And.intro (HI.out.1.on hbV) (HI.out.2.1.on hbV))
                      obtain ⟨V, hV⟩ : ∃ V, v9.alloc (.cells #[.bool false, .bool false, .bool false, .bool false, .int .i64 0] 23) = V := ⟨_, rfl⟩
                      rw [hV] at HV y0 ⊢
                      clear hV hbV HB9 HI HG
                      go_quiet (fail)
                      go_wp2
                      go_roundw
                      case rel => exact ⟨j + 1, by omega, by go_num, HV.out.1.drewN _, HV.out.2.drewN _⟩
                      case measure => simp [intOf]; omega
                    · have hgn := gt_page (M := M3) hp4 (by rw [hz]; exact Sl.may_ne (slN_may (by omega)))
                      have hgt := tw_get hS3 (pj : Nat)
                      rw [hgn.1, hgn.2.1, hz] at hgt
                      obtain ⟨mb, hmb⟩ : ∃ mb, (m % 2 == 1) = mb := ⟨_, rfl⟩
                      have hb1 : bits .and .i64 (m : Int) 1 = ((m % 2 : Nat) : Int) := by
                        have := i64_and_mask (m : Int) 1 1 (by omega) (by decide)
                        rw [show ((1 : Nat) : Int) = 1 from rfl] at this
                        rw [this]
                        omega
                      have hb2 : (((m % 2 : Nat) : Int) == 1) = mb := by
                        rw [← hmb]
                        have h2 := Nat.mod_two_eq_zero_or_one m
                        rcases h2 with h2 | h2 <;> rw [h2] <;> rfl
                      unfold slN Sl.v at hgt
                      simp only at hgt
                      rw [hmb] at hgt
                      obtain ⟨r2', hr2⟩ : ∃ r2', m % 2 = r2' := ⟨_, rfl⟩
                      rw [hr2] at hb1 hb2
                      have HG := Lib.hid hgt
                      have HI := Lib.hid (And.intro hR3 (And.intro hS3 hgw))
                      have hm0 : ¬ (m : Int) < 0 := by omega
                      have hm1 : decide ((m : Int) < 0) = false := decide_eq_false hm0
                      have hm3 : decide (0 ≤ (m : Int)) = true := decide_eq_true (by omega)
                      have hm4 : (0 : Int) ≤ (m : Int) := by omega
                      clear hgn hgt hR3 hS3 hz hmb hr2
                      go_upto_region 38 with (go_at_call 21; refine HG.out.mono ?_; rintro e v9 ⟨rfl, hb9⟩; have HB9 := Lib.hid hb9; clear hb9)
                      have hbV := HB9.out.alloc HB9.out.size (.cells #[.bool true, .bool mb, .bool false, .bool false, .int .i64 (m : Nat)] 23)
                      have kV := Blk.new v9 23 #[.bool true, .bool mb, .bool false, .bool false, .int .i64 (m : Nat)]
                      replace y0 := (hbV.cell (p := ⟨gw, j, none⟩) HI.out.2.2).trans y0
                      have HV := Lib.hid (And.intro (HI.out.1.on hbV) (HI.out.2.1.on hbV))
                      obtain ⟨V, hV⟩ : ∃ V, v9.alloc (.cells #[.bool true, .bool mb, .bool false, .bool false, .int .i64 (m : Nat)] 23) = V := ⟨_, rfl⟩
                      obtain ⟨bb, hbb⟩ : ∃ bb, v9.heap.size = bb := ⟨_, rfl⟩
                      rw [hV] at HV y0 kV ⊢
                      rw [hbb] at kV ⊢
                      have z1 : V.cell? ⟨bb, 1, none⟩ = some (.bool mb) := kV.at_ 1 _ rfl
                      have z4 : V.cell? ⟨bb, 4, none⟩ = some (.int .i64 (m : Nat)) := kV.at_ 4 _ rfl
                      clear hV hbV HB9 HI HG kV hbb
                      go_quiet (fail)
                      go_wp2
                      go_roundw
                      case rel => exact ⟨j + 1, by omega, by go_num, HV.out.1.drewN _, HV.out.2.drewN _⟩
                      case measure => simp [intOf]; omega
                  · obtain rfl : j = LQ := by omega
                    have HX := Lib.hid (And.intro hR3 hS3)
                    clear hR3 hS3
                    go_wp2
                    go_roundw
                    case rel => exact ⟨k + 1, M3, P2, W3, by omega, by omega, by go_num, by have := HM4.out.2.2; omega, HX.out.2, HM4.out.2.1, HM4.out.1, HX.out.1⟩
                    case measure => simp [intOf]; omega
    · have HCL := Lib.hid (tw_close hS)
      unfold ClosedT at HCL
      clear hS hcn hMs hRm
      by_cases hkl : k < l.length
      · have h30 : decide ((k : Int) < 30) = false := decide_eq_false (by omega)
        go_wp2_with (first
          | (go_at_call 31; refine HCL.out.mono ?_; rintro e v3 ⟨u, rfl, _, _, _, Y, hY, hf⟩; have HFR := Lib.hid ((pw_free hY).mono (R' := fun e v' => e = .returned (.int .i64 200) ∧ v3 = v') fun e v' ⟨he, hv⟩ => ⟨by rw [he, hf]; rfl, hv⟩); have HBL := Lib.hid hY.bel; clear hY hf)
          | (go_at_call 30; refine HFR.out.mono ?_; rintro e v4 ⟨rfl, rfl⟩))
        go_ret
        exact ⟨rfl, HBL.out⟩
      · have hkl8 : ¬ (k : Int) < (l.length : Int) := by omega
        go_wp2_with (first
          | (go_at_call 31; refine HCL.out.mono ?_; rintro e v3 ⟨u, rfl, _, _, _, Y, hY, hf⟩; have HFR := Lib.hid ((pw_free hY).mono (R' := fun e v' => e = .returned (.int .i64 200) ∧ v3 = v') fun e v' ⟨he, hv⟩ => ⟨by rw [he, hf]; rfl, hv⟩); have HBL := Lib.hid hY.bel; clear hY hf)
          | (go_at_call 30; refine HFR.out.mono ?_; rintro e v4 ⟨rfl, rfl⟩))
        go_ret
        exact ⟨rfl, HBL.out⟩

set_option maxRecDepth 100000 in
theorem lifted (os : Os) (started : os.Started) (H : Type) (enc : TypeId × Value → H) :
    ReturnsInHanded {} Tryd.checked os 5 .any (fun w args => (Rows.radixLastSpec.pre enc Tryd.prog Tryd.f5 Rows.radixLastRow.domain false w args ∧ laidMet Tryd.prog Rows.radixLastRow.laid w) ∧ sizedMet enc Tryd.prog Tryd.f5 (OpenSpec.ofChange Rows.radixLastSpec) false w args) (Rows.radixLastSpec.post enc Tryd.prog Tryd.f5 false true false false) := by
  refine returnsInHanded_of_change_and (C := Tryd.checked) (X := fun w _ => laidMet Tryd.prog Rows.radixLastRow.laid w) (fun _ _ _ hh h => h.of_heap hh) own started (by kernel_rfl) Tryd.func5
    (ChangeSpec.witness_at (enc := enc) (C := Tryd.checked) (os := os) (X := fun w _ => laidMet Tryd.prog Rows.radixLastRow.laid w) false (laidWorld os) #[.slice none 0 0, .slice none 0 0] 8 rfl (by kernel_rfl) (by kernel_rfl) (by kernel_rfl) (by kernel_rfl) (by kernel_rfl) (laid_met os _)) ?_
  intro W base args ds gs before hval0 hW hcnd _ hL _
  have hval : ∀ (j : Nat) t v, Tryd.f5.params[j]? = some t → args[j]? = some v → Value.okWide Tryd.prog W .any base t v := hval0
  have hW' := hW
  obtain ⟨p, q, hA0, hV, rfl, hfz, hnd⟩ := hW
  have hA : DataW.TrodAll enc Tryd.prog W 0 (fun _ => true) true Tryd.f5.params.toList args.toList ds p := hA0
  rw [Tryd.params5] at hA hval
  obtain ⟨v0, vs0, d0, ds0, p0, q0, hargs, rfl, rfl, h0, r0⟩ := trodAll_cons hA
  obtain ⟨v1, vs1, d1, ds1, p1, q1, rfl, rfl, rfl, h1, r1⟩ := trodAll_cons r0
  obtain ⟨rfl, rfl, rfl⟩ := trodAll_nil r1
  obtain rfl : args = #[v0, v1] := by cases args; simp_all
  obtain ⟨rfl, rfl⟩ := trodVars_none hV
  have k0 := h0
  have lt0 : ∀ x ∈ p0, x.block < W.heap.size := by obtain ⟨m, hm⟩ := k0; exact DataW.trod_lt m _ _ _ hm
  obtain ⟨LA0, Ll0, Lc0, rfl, Lm0, Lr0⟩ := openPairs7 (hval 0 56 v0 rfl rfl) h0
  have k1 := h1
  have lt1 : ∀ x ∈ p1, x.block < W.heap.size := by obtain ⟨m, hm⟩ := k1; exact DataW.trod_lt m _ _ _ hm
  obtain ⟨LA1, Ll1, Lc1, rfl, Lm1, Lr1⟩ := openBools7 (hval 1 57 v1 rfl rfl) h1
  clear hA0 hval0
  refine (walk LA0 Ll0 Lc0 LA1 Ll1 Lc1 W Lm0 Lr0 Lm1 Lr1 (tab_of_laid hL)).mono fun e W' ⟨he, bel⟩ => ?_
  subst he
  exact ⟨_, rfl, _, _, _, [], _, [], hW', trodAll_mk1 (shut_bool Tryd.underlying4 _), (trodAll_cons_mk (Below.trod laidOut (by kernel_rfl) (of_decide_eq_true (by kernel_rfl)) k0 bel lt0) (trodAll_cons_mk (Below.trod laidOut (by kernel_rfl) (of_decide_eq_true (by kernel_rfl)) k1 bel lt1) trodAll_mk0)), rfl, bel.frame _, fun h => by cases h⟩
theorem over : Rows.radixLastRow.holds Tryd.pinned (OpenSpec.ofChange Rows.radixLastSpec) :=
  OpenClaim.holds_of_wide 5 Tryd.f5 rfl rfl rfl rfl rfl rfl rfl ⟨rfl, rfl, rfl, rfl, rfl⟩ rfl rfl rfl rfl rfl (by kernel_rfl) Tryd.func5 (by kernel_rfl)
    (of_decide_eq_true (by kernel_rfl)) (by unfold Func.isWrapper; first | (rw [if_pos (by decide +kernel)]; kernel_rfl) | (rw [if_neg (by decide +kernel)]; exact ⟨rfl, rfl⟩))
    (fun os started H enc _ => lifted os started H enc)
set_option maxRecDepth 100000 in
/-- The statement. -/
theorem proved : Rows.RadixLastCardSaid :=
  Claim7.holds_tied_plain_at .later [] [.data] true _ false over (fun _ h => by cases h) (by kernel_rfl) (fun _ h => by cases h) radixLast_row_tie rfl ⟨rfl, rfl⟩ (by kernel_rfl) rfl
    (fun f fn hf hfn => by
      obtain rfl : f = 5 := Option.some.inj (hf.symm.trans (by kernel_rfl))
      obtain rfl : fn = Tryd.f5 := Option.some.inj (hfn.symm.trans Tryd.func5)
      refine ⟨by kernel_rfl, fun j t ht => ?_⟩
      rw [Tryd.params5] at ht
      match j, ht with
      | 0, ht =>
        obtain rfl : t = 56 := by simpa using ht.symm
        exact (by kernel_rfl : Tryd.pinned.checked.prog.wantsStandIn 56 = false)
      | 1, ht =>
        obtain rfl : t = 57 := by simpa using ht.symm
        exact (by kernel_rfl : Tryd.pinned.checked.prog.wantsStandIn 57 = false)
      | j + 2, ht => simp at ht)
    (by kernel_rfl)
end Go.Proofs.YtbidlabhekiijaaDoor.lawLast
