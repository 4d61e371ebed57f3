/- The reference of layer 7: Get. -/
import Derived.Test.YtbidlabhekiijaaDoorQK
namespace Go.Proofs.YtbidlabhekiijaaDoor
open Go.RowKit
set_option linter.unusedVariables false
set_option linter.unusedSimpArgs false

set_option maxRecDepth 100000 in
set_option maxHeartbeats 800000 in
theorem rget_any {w : World} {r B : Nat} {v : Value} {M : Nat → Sl} (hr : Blk w r 40 #[v]) (h : SRow w B v (spotsF M)) (pg : Int) :
    Calls Tryd.prog 22 #[.pointer (some ⟨r, 0, none⟩), .int .i64 pg] w fun e w' => e = .returned (.tuple #[(gtS' M pg).v, .int .i64 (gtE' M pg)]) ∧ Below w.heap.size w w' := by
  obtain ⟨A, c, rfl⟩ := h.len
  have hB := (Below.refl w.heap.size w).alloc (Nat.le_refl _) (.cells Sl.zero.cs 23)
  have k0 := Blk.new w 23 Sl.zero.cs
  have hr1 := hr.alloc (.cells Sl.zero.cs 23)
  have h1 := h.alloc (.cells Sl.zero.cs 23)
  have hlen := spotsF_length M
  have hsl := spotsF_len M
  rw [hlen] at h1 hsl hr1
  clear hr h
  by_cases hin : 0 ≤ pg ∧ pg < 4096
  · obtain ⟨P, rfl⟩ : ∃ P : Nat, pg = P := ⟨pg.toNat, by omega⟩
    obtain ⟨W0, hW0⟩ : ∃ W0, w.alloc (.cells Sl.zero.cs 23) = W0 := ⟨_, rfl⟩
    rw [hW0] at hB k0 hr1 h1
    have q0 : W0.cell? ⟨r, 0, none⟩ = some (.slice A (pagesF M 0).length c) := hr1.at_ 0 _ rfl
    have HK := Lib.hid (And.intro k0 (And.intro hB h1))
    obtain ⟨f0, f1, f2, f3, f4⟩ := k0.sf
    obtain ⟨x0, x1, x2, x3, x4⟩ := k0.sl
    simp only [Sl.zero] at x0 x1 x2 x3 x4
    have d1 : ¬ (P : Int) < 0 := by omega
    have d2 : ¬ (4095 : Int) < (P : Int) := by omega
    have d3 : decide ((P : Int) < 0) = false := decide_eq_false d1
    have d4 : decide ((4095 : Int) < (P : Int)) = false := decide_eq_false d2
    obtain ⟨LN, hLN⟩ : ∃ LN, (pagesF M 0).length = LN := ⟨_, rfl⟩
    have HL := Lib.hid (And.intro hLN hlen)
    rw [hLN] at hsl q0 HK
    unfold Sl.cs Sl.zero at hW0
    simp only at hW0
    clear hB k0 hr1 h1 hLN hlen
    go_enter Tryd.func22, Tryd.ntmps22
    go_wp2
    go_loopw [6] (fun ii wx => ∃ i : Nat, i ≤ LN ∧ ii = .int .i64 i ∧ wx = W0 ∧ ∀ j (hj : j < (pagesF M 0).length), j < i → (pagesF M 0)[j] ≠ P) (fun ii _ => LN - (intOf ii).toNat)
    case atStart => exact ⟨0, Nat.zero_le _, rfl, rfl, fun j _ h => absurd h (Nat.not_lt_zero _)⟩
    case round =>
      obtain ⟨i, hi, rfl, rfl, hno⟩ := hrel
      by_cases hil : i < LN
      · have hi8 : (i : Int) < (LN : Int) := by omega
        have hil1 : i < (pagesF M 0).length := by rw [HL.out.1]; exact hil
        obtain ⟨g, o, R, rfl, _, hg, hR, y0, y1, y2, y3, y4, y5⟩ := HK.out.2.2.at_ (i := i) (by rw [HL.out.2]; exact hil1)
        rw [spotsF_at] at y0 y1 y2 y3 y4 y5
        simp only at y0 y1 y2 y3 y4 y5
        have hne := page_ne hil1
        by_cases hp : (pagesF M 0)[i] = P
        · rw [hp] at y0 y1 y2 y3 y4 y5 hne
          have hE : gtE' M (P : Nat) = 0 := by unfold gtE'; rw [if_pos hin, if_neg (by simpa using hne)]
          have hS : gtS' M (P : Nat) = M P := by unfold gtS'; rw [if_pos hin]; rfl
          have HE := Lib.hid (And.intro hE hS)
          clear hE hS hne hno
          generalize hz : M P = z at *
          obtain ⟨za, zb, zc, zd, zn⟩ := z
          simp only at y1 y2 y3 y4 y5
          have HF := Lib.hid (And.intro (sl_set (show Blk wr w.heap.size 23 Sl.zero.cs from HK.out.1) ⟨za, zb, zc, zd, zn⟩) (sl_set_below HK.out.2.1 (Nat.le_refl _) ⟨za, zb, zc, zd, zn⟩))
          clear hp hz
          go_wp2
          have hRf := HF.out.1
          have hBf := HF.out.2
          simp only [Sl.cs] at hRf hBf
          generalize World.setCell _ _ _ = W5 at *
          refine bodyPost_ret (results_cell_row_tmp rfl _ _ w.heap.size 23 _ (0, 0) _ rfl hRf Tryd.underlying23 rfl (by kernel_rfl)) rfl ⟨by rw [HE.out.1, HE.out.2]; rfl, hBf⟩
        · have hno2 : ∀ j (hj : j < (pagesF M 0).length), j < i + 1 → (pagesF M 0)[j] ≠ P := fun j hj h => by
            rcases Nat.lt_or_ge j i with h2 | h2
            · exact hno j hj h2
            · have e : j = i := by omega
              subst e
              exact hp
          have HN := Lib.hid hno2
          have hp2 : ((((pagesF M 0)[i] : Nat) : Int) == (P : Int)) = false := by simpa using (by omega : (((pagesF M 0)[i] : Nat) : Int) ≠ (P : Int))
          have hp3 : ((pagesF M 0)[i] == P) = false := by simpa using hp
          generalize (pagesF M 0)[i] = pk at *
          clear hno hno2 y1 y2 y3 y4 y5 hne
          go_wp2
          go_roundw
          case rel => exact ⟨i + 1, by omega, by go_num, by first | rfl | trivial, HN.out⟩
          case measure => simp [intOf]; omega
      · obtain rfl : i = LN := by omega
        have hz : M P = Sl.zero := Classical.byContradiction fun hne => by
          obtain ⟨j, hj, e⟩ := List.mem_iff_getElem.1 (mem_pagesF.2 ⟨by omega, hne, by omega⟩ : P ∈ pagesF M 0)
          exact hno j hj (by rw [← HL.out.1]; exact hj) e
        have hE : gtE' M (P : Nat) = 12 := by unfold gtE'; rw [if_pos hin, if_pos (by simpa using hz)]
        have hS : gtS' M (P : Nat) = Sl.zero := by unfold gtS'; rw [if_pos hin]; exact hz
        have HE := Lib.hid (And.intro hE hS)
        have HF := Lib.hid (And.intro (sl_set (show Blk wr w.heap.size 23 Sl.zero.cs from HK.out.1) Sl.zero) (sl_set_below HK.out.2.1 (Nat.le_refl _) Sl.zero))
        clear hE hS hz hno
        go_wp2
        have hRf := HF.out.1
        have hBf := HF.out.2
        simp only [Sl.cs, Sl.zero] at hRf hBf
        generalize World.setCell _ _ _ = W5 at *
        refine bodyPost_ret (results_cell_row_tmp rfl _ _ w.heap.size 23 _ (0, 0) _ rfl hRf Tryd.underlying23 rfl (by kernel_rfl)) rfl ⟨by rw [HE.out.1, HE.out.2]; rfl, hBf⟩
  · have hE : gtE' M pg = 14 := by unfold gtE'; rw [if_neg hin]
    have hS : gtS' M pg = Sl.zero := by unfold gtS'; rw [if_neg hin]
    rw [hE, hS]
    have HF := Lib.hid (And.intro k0 hB)
    unfold Sl.v Sl.cs Sl.zero at *
    simp only at *
    clear hr1 h1 hE hS k0 hB hlen
    by_cases hneg : pg < 0
    · have d3 : decide (pg < 0) = true := decide_eq_true hneg
      clear hin
      go_enter Tryd.func22, Tryd.ntmps22
      go_wp2
      refine bodyPost_ret (results_cell_row_tmp rfl _ _ w.heap.size 23 _ (0, 0) _ rfl HF.out.1 Tryd.underlying23 rfl (by kernel_rfl)) rfl ⟨rfl, HF.out.2⟩
    · have d3 : decide (pg < 0) = false := decide_eq_false hneg
      have d5 : 4095 < pg := by omega
      have d4 : decide (4095 < pg) = true := decide_eq_true d5
      clear hin
      go_enter Tryd.func22, Tryd.ntmps22
      go_wp2
      refine bodyPost_ret (results_cell_row_tmp rfl _ _ w.heap.size 23 _ (0, 0) _ rfl HF.out.1 Tryd.underlying23 rfl (by kernel_rfl)) rfl ⟨rfl, HF.out.2⟩
end Go.Proofs.YtbidlabhekiijaaDoor

/- The reference of layer 7: Drop. -/
namespace Go.Proofs.YtbidlabhekiijaaDoor
open Go.RowKit
set_option linter.unusedVariables false
set_option linter.unusedSimpArgs false

theorem SRow.weaken {w : World} {B B' : Nat} {v : Value} {L : List (Nat × Sl)} (h : SRow w B v L) (hB : B' ≤ B) : SRow w B' v L := by
  obtain ⟨A, c, hv, h⟩ := h
  refine ⟨A, c, hv, fun i hi => ?_⟩
  obtain ⟨g, o, hA, hg, r⟩ := h i hi
  exact ⟨g, o, hA, Nat.le_trans hB hg, r⟩
/-- What Drop of the reference leaves. -/
def RDrop (w : World) (r B : Nat) (M : Nat → Sl) (pg : Int) (e : Ending) (w' : World) : Prop :=
  e = .returned (.tuple #[(gtS' M pg).v, .int .i64 (gtE' M pg)]) ∧ But (· = r) w w' ∧ ∃ v', Blk w' r 40 #[v'] ∧ SRow w' B v' (spotsF (drM7 M pg))
set_option maxRecDepth 100000 in
set_option maxHeartbeats 800000 in
theorem rdrop_any {w : World} {r B : Nat} {v : Value} {M : Nat → Sl} (hr : Blk w r 40 #[v]) (h : SRow w B v (spotsF M)) (hB : B ≤ w.heap.size) (hrB : r < B) (pg : Int) :
    Calls Tryd.prog 20 #[.pointer (some ⟨r, 0, none⟩), .int .i64 pg] w (RDrop w r B M pg) := by
  unfold RDrop
  have HH := Lib.hid h
  have b0 := (Below.refl w.heap.size w).alloc (Nat.le_refl _) (.cells Sl.zero.cs 23)
  have k0 := Blk.new w 23 Sl.zero.cs
  have r0 := hr.alloc (.cells Sl.zero.cs 23)
  have h0 := h.alloc (.cells Sl.zero.cs 23)
  obtain ⟨W0, hW0⟩ : ∃ W0, w.alloc (.cells Sl.zero.cs 23) = W0 := ⟨_, rfl⟩
  rw [hW0] at b0 k0 r0 h0
  have hlt := hr.lt
  have HG := Lib.hid (rget_any r0 h0 pg)
  have HK := Lib.hid (And.intro k0 (And.intro b0 (And.intro r0 h0)))
  unfold Sl.cs Sl.zero at hW0
  simp only at hW0
  clear hr h b0 k0 r0 h0
  obtain ⟨z, hz⟩ : ∃ z, gtS' M pg = z := ⟨_, rfl⟩
  obtain ⟨E, hE⟩ : ∃ E, gtE' M pg = E := ⟨_, rfl⟩
  rw [hz, hE] at HG ⊢
  have HZ := Lib.hid (And.intro hz hE)
  clear hz hE
  obtain ⟨za, zb, zc, zd, zn⟩ := z
  have HWO := Lib.hid (fun (V : World) (v : Value) (hr : Blk V r 40 #[v]) (h : SRow V B v (spotsF M)) => rwithout_any hr h (spotsF_len M) pg)
  unfold Sl.v at HG ⊢
  simp only at HG ⊢
  go_enter Tryd.func20, Tryd.ntmps20
  go_upto_region 2 with (go_at_call 22; refine HG.out.mono ?_; rintro e v1 ⟨rfl, hb1⟩; have HB1 := Lib.hid hb1; clear hb1)
  have hbV := HB1.out.alloc HB1.out.size (.cells #[.bool za, .bool zb, .bool zc, .bool zd, .int .i64 zn] 23)
  have kV := Blk.new v1 23 #[.bool za, .bool zb, .bool zc, .bool zd, .int .i64 zn]
  obtain ⟨V, hV⟩ : ∃ V, v1.alloc (.cells #[.bool za, .bool zb, .bool zc, .bool zd, .int .i64 zn] 23) = V := ⟨_, rfl⟩
  obtain ⟨bb, hbb⟩ : ∃ bb, v1.heap.size = bb := ⟨_, rfl⟩
  have hle := HB1.out.size
  have hw0 : w.heap.size < W0.heap.size := HK.out.1.lt
  rw [hV] at hbV kV ⊢
  rw [hbb] at kV hle ⊢
  have HV := Lib.hid (And.intro (HK.out.1.below hbV HK.out.1.lt) (And.intro (HK.out.2.1.trans (hbV.mono (Nat.le_of_lt hw0))) (And.intro (HK.out.2.2.1.below hbV HK.out.2.2.1.lt) (And.intro (HK.out.2.2.2.below hbV) kV))))
  clear hbV kV hV hbb HK HB1 HG hW0
  by_cases hE0 : E = 0
  · subst hE0
    have hin : 0 ≤ pg ∧ pg < 4096 := Classical.byContradiction fun hc => by
      have := HZ.out.2
      unfold gtE' at this
      rw [if_neg hc] at this
      cases this
    obtain ⟨P, rfl⟩ : ∃ P : Nat, pg = P := ⟨pg.toNat, by omega⟩
    have hdm : drM7 M (P : Nat) = setM M P Sl.zero := by unfold drM7; rw [if_pos HZ.out.2]; rfl
    have hwo := woL_drop M P
    have hcall := HWO.out V v HV.out.2.2.1 HV.out.2.2.2.1
    rw [hwo] at hcall
    have HDM := Lib.hid hdm
    have HCALL := Lib.hid hcall
    clear hcall hwo hdm hin HWO
    have kr0 : V.cell? ⟨r, 0, none⟩ = some v := HV.out.2.2.1.at_ 0 _ rfl
    go_wp2_with (go_at_call 38; refine Hid.out ?_)
    refine Lib.hid ?_
    refine HCALL.out.mono ?_
    rintro e v3 ⟨v', rfl, ho, hb⟩
    obtain ⟨A', c', rfl⟩ := own_sl7 ho
    have hVs : w.heap.size < V.heap.size := HV.out.1.lt
    have kr3 := HV.out.2.2.1.below hb HV.out.2.2.1.lt
    have c0 := kr3.at_ 0 _ rfl
    have g0 := kr3.frozen 0
    have krX : Blk _ _ _ #[.slice A' (spotsF (setM M P Sl.zero)).length c'] := kr3.set_ 0 (.slice A' (spotsF (setM M P Sl.zero)).length c')
    have kb := (HV.out.2.2.2.2.below hb HV.out.2.2.2.2.lt).far (p := ⟨r, 0, none⟩) (show bb ≠ r by omega) (.slice A' (spotsF (setM M P Sl.zero)).length c')
    have kw := (HV.out.1.below hb HV.out.1.lt).far (p := ⟨r, 0, none⟩) (show w.heap.size ≠ r by omega) (.slice A' (spotsF (setM M P Sl.zero)).length c')
    have hbut := ((But.of_below (S := (· = r)) HV.out.2.1).trans (But.of_below hb)).setCell (p := ⟨r, 0, none⟩) (.inl rfl) (.slice A' (spotsF (setM M P Sl.zero)).length c')
    have hrow := (SRow.of_own ho).but ((But.refl (· = r) v3).setCell (p := ⟨r, 0, none⟩) (.inl rfl) (.slice A' (spotsF (setM M P Sl.zero)).length c')) (fun g hg e => by omega)
    obtain ⟨X, hX⟩ : ∃ X, v3.setCell ⟨r, 0, none⟩ (.slice A' (spotsF (setM M P Sl.zero)).length c') = X := ⟨_, rfl⟩
    rw [hX] at krX kb kw hbut hrow
    obtain ⟨y0, y1, y2, y3, y4⟩ := kw.sl
    obtain ⟨f0, f1, f2, f3, f4⟩ := kw.sf
    simp only [Sl.zero] at y0 y1 y2 y3 y4
    have x0 : X.cell? ⟨bb, 0, none⟩ = some (.bool za) := kb.at_ 0 _ rfl
    have x1 : X.cell? ⟨bb, 1, none⟩ = some (.bool zb) := kb.at_ 1 _ rfl
    have x2 : X.cell? ⟨bb, 2, none⟩ = some (.bool zc) := kb.at_ 2 _ rfl
    have x3 : X.cell? ⟨bb, 3, none⟩ = some (.bool zd) := kb.at_ 3 _ rfl
    have x4 : X.cell? ⟨bb, 4, none⟩ = some (.int .i64 zn) := kb.at_ 4 _ rfl
    have HF := Lib.hid (And.intro (sl_set kw ⟨za, zb, zc, zd, zn⟩) (And.intro (sl_set_but hbut (.inr (Nat.le_refl _)) ⟨za, zb, zc, zd, zn⟩) (And.intro (sl_set_far krX (show r ≠ w.heap.size by omega) ⟨za, zb, zc, zd, zn⟩) ((hrow.but (sl_set_but (S := (· = w.heap.size)) (But.refl _ _) (.inl rfl) ⟨za, zb, zc, zd, zn⟩) (fun g hg e => by omega)).weaken (show B ≤ V.heap.size by omega)))))
    clear kr3 krX kb kw hbut hrow ho hb
    go_wp2
    have h1 := HF.out.1
    have h2 := HF.out.2
    simp only [Sl.cs] at h1 h2
    generalize World.setCell _ _ _ = W5 at *
    refine bodyPost_ret (results_cell_row_tmp rfl _ _ w.heap.size 23 _ (0, 0) _ rfl h1 Tryd.underlying23 rfl (by kernel_rfl)) rfl ⟨rfl, h2.1, _, h2.2.1, by rw [HDM.out]; exact h2.2.2⟩
  · have hdm : drM7 M pg = M := by unfold drM7; rw [if_neg (by rw [HZ.out.2]; exact hE0)]
    have HDM := Lib.hid hdm
    have hEe : (E == 0) = false := by simpa using hE0
    have hVs : w.heap.size < V.heap.size := HV.out.1.lt
    have kw := HV.out.1
    obtain ⟨y0, y1, y2, y3, y4⟩ := kw.sl
    obtain ⟨f0, f1, f2, f3, f4⟩ := kw.sf
    simp only [Sl.zero] at y0 y1 y2 y3 y4
    have x0 : V.cell? ⟨bb, 0, none⟩ = some (.bool za) := HV.out.2.2.2.2.at_ 0 _ rfl
    have x1 : V.cell? ⟨bb, 1, none⟩ = some (.bool zb) := HV.out.2.2.2.2.at_ 1 _ rfl
    have x2 : V.cell? ⟨bb, 2, none⟩ = some (.bool zc) := HV.out.2.2.2.2.at_ 2 _ rfl
    have x3 : V.cell? ⟨bb, 3, none⟩ = some (.bool zd) := HV.out.2.2.2.2.at_ 3 _ rfl
    have x4 : V.cell? ⟨bb, 4, none⟩ = some (.int .i64 zn) := HV.out.2.2.2.2.at_ 4 _ rfl
    have HF := Lib.hid (And.intro (sl_set kw ⟨za, zb, zc, zd, zn⟩) (And.intro (sl_set_but (But.of_below (S := (· = r)) HV.out.2.1) (.inr (Nat.le_refl _)) ⟨za, zb, zc, zd, zn⟩) (And.intro (sl_set_far HV.out.2.2.1 (show r ≠ w.heap.size by omega) ⟨za, zb, zc, zd, zn⟩) (HV.out.2.2.2.1))))
    clear kw hdm HWO
    go_wp2
    have h1 := HF.out.1
    have h2 := HF.out.2
    simp only [Sl.cs] at h1 h2
    generalize World.setCell _ _ _ = W5 at *
    refine bodyPost_ret (results_cell_row_tmp rfl _ _ w.heap.size 23 _ (0, 0) _ rfl h1 Tryd.underlying23 rfl (by kernel_rfl)) rfl ⟨rfl, h2.1, _, h2.2.1, by rw [HDM.out]; exact HH.out.but h2.1 (fun g hg e => by omega)⟩
end Go.Proofs.YtbidlabhekiijaaDoor

/- RadixPlays: a script that comes in; what page is meant. -/
namespace Go.Proofs.YtbidlabhekiijaaDoor
open Go.RowKit Go.ChangeShapes Go.WideShapes Go.Deep
set_option linter.unusedVariables false
set_option linter.unusedSimpArgs false

/-- A call of a script. -/
structure Op7 where
  kind : Int
  page : Int
  inn : Bool
  s : Sl
def Op7.cs (o : Op7) : List Value := [.int .i64 o.kind, .int .i64 o.page, .bool o.inn, .bool o.s.h, .bool o.s.w, .bool o.s.c, .bool o.s.o, .int .i64 o.s.n]
def Op7.v (o : Op7) : Value := .agg o.cs.toArray
/-- A slice of calls. -/
def OpRow7 (w : World) (A : Option Addr) (l : List Op7) : Prop := ∀ i (hi : i < l.length), ∃ ad, A = some ad ∧ ad.block < w.heap.size ∧ (∀ j u, l[i].cs[j]? = some u → w.cell? (ad.add (i * 8 + j)) = some u) ∧ (Lit.int .i64 l[i].kind).wf = true ∧ (Lit.int .i64 l[i].page).wf = true ∧ (Lit.int .i64 l[i].s.n).wf = true
set_option maxRecDepth 100000 in
theorem openOps7 {H : Type} {enc : TypeId × Value → H} {w : World} {base : Nat} {spare : Nat → Bool} {held : Bool} {r : Reach} {b0 : Nat} {v : Value} {d : DataW H} {ps : List MemPlace}
    (hv : Value.okWide Tryd.prog w r b0 30 v) (h : DataW.Trod enc Tryd.prog w base spare held 30 v d ps) : ∃ A l c, v = .slice A (List.length l) c ∧ l.length ≤ maxLen ∧ OpRow7 w A l := by
  have hc8 : Tryd.prog.cellsOf 42 = 8 := by kernel_rfl
  have hc5 : Tryd.prog.cellsOf 23 = 5 := by kernel_rfl
  have hc1 : Tryd.prog.cellsOf 3 = 1 := by kernel_rfl
  have hb1 : Tryd.prog.cellsOf 4 = 1 := by kernel_rfl
  obtain ⟨A, n, c, rfl, hn, hi⟩ := open_row_n Tryd.underlying30 hv h (by rw [hc8]; omega)
  obtain ⟨zs, hl, hz⟩ := list_of (Q := fun i (z : Op7) => ∃ ad, A = some ad ∧ ad.block < w.heap.size ∧ (∀ j u, z.cs[j]? = some u → w.cell? (ad.add (i * 8 + j)) = some u) ∧ (Lit.int .i64 z.kind).wf = true ∧ (Lit.int .i64 z.page).wf = true ∧ (Lit.int .i64 z.s.n).wf = true) n (fun i h => by
    obtain ⟨ad, rfl, hb, fuel, cs, y, hlen, hat, hy⟩ := hi i h
    rw [hc8] at hlen hat
    obtain ⟨xs, m, _, _, _, hxl, hel⟩ := DataW.trod_struct Tryd.underlying42 hy
    have hxl4 : xs.length = 4 := hxl
    match cs, hlen with
    | [c0, c1, c2, c3, c4, c5, c6, c7], _ =>
      have e0 : DataW.trod enc Tryd.prog w base spare held m 3 (([c0, c1, c2, c3, c4, c5, c6, c7].drop 0).take 1) = xs[0]? := by have := hel 0 _ rfl; rw [← hc1]; exact this
      have e1 : DataW.trod enc Tryd.prog w base spare held m 3 (([c0, c1, c2, c3, c4, c5, c6, c7].drop 1).take 1) = xs[1]? := by have := hel 1 _ rfl; rw [← hc1]; exact this
      have e2 : DataW.trod enc Tryd.prog w base spare held m 4 (([c0, c1, c2, c3, c4, c5, c6, c7].drop 2).take 1) = xs[2]? := by have := hel 2 _ rfl; rw [← hb1]; exact this
      have e3 : DataW.trod enc Tryd.prog w base spare held m 23 (([c0, c1, c2, c3, c4, c5, c6, c7].drop 3).take 5) = xs[3]? := by have := hel 3 _ rfl; rw [← hc5]; exact this
      rw [List.getElem?_eq_getElem (by omega)] at e0 e1 e2 e3
      obtain ⟨k0, f0, _, w0⟩ := DataW.trod_int Tryd.underlying3 e0
      obtain ⟨k1, f1, _, w1⟩ := DataW.trod_int Tryd.underlying3 e1
      obtain ⟨k2, f2, _⟩ := DataW.trod_bool Tryd.underlying4 e2
      obtain ⟨ys, m2, _, _, _, hyl, hel2⟩ := DataW.trod_struct Tryd.underlying23 e3
      have hyl5 : ys.length = 5 := hyl
      have g0 : DataW.trod enc Tryd.prog w base spare held m2 4 [c3] = ys[0]? := by have := hel2 0 _ rfl; rw [show [c3] = (((([c0, c1, c2, c3, c4, c5, c6, c7].drop 3).take 5).drop 0).take 1) from rfl, ← hb1]; exact this
      have g1 : DataW.trod enc Tryd.prog w base spare held m2 4 [c4] = ys[1]? := by have := hel2 1 _ rfl; rw [show [c4] = (((([c0, c1, c2, c3, c4, c5, c6, c7].drop 3).take 5).drop 1).take 1) from rfl, ← hb1]; exact this
      have g2 : DataW.trod enc Tryd.prog w base spare held m2 4 [c5] = ys[2]? := by have := hel2 2 _ rfl; rw [show [c5] = (((([c0, c1, c2, c3, c4, c5, c6, c7].drop 3).take 5).drop 2).take 1) from rfl, ← hb1]; exact this
      have g3 : DataW.trod enc Tryd.prog w base spare held m2 4 [c6] = ys[3]? := by have := hel2 3 _ rfl; rw [show [c6] = (((([c0, c1, c2, c3, c4, c5, c6, c7].drop 3).take 5).drop 3).take 1) from rfl, ← hb1]; exact this
      have g4 : DataW.trod enc Tryd.prog w base spare held m2 3 [c7] = ys[4]? := by have := hel2 4 _ rfl; rw [show [c7] = (((([c0, c1, c2, c3, c4, c5, c6, c7].drop 3).take 5).drop 4).take 1) from rfl, ← hc1]; exact this
      rw [List.getElem?_eq_getElem (by omega)] at g0 g1 g2 g3 g4
      obtain ⟨s0, h0, _⟩ := DataW.trod_bool Tryd.underlying4 g0
      obtain ⟨s1, h1, _⟩ := DataW.trod_bool Tryd.underlying4 g1
      obtain ⟨s2, h2, _⟩ := DataW.trod_bool Tryd.underlying4 g2
      obtain ⟨s3, h3, _⟩ := DataW.trod_bool Tryd.underlying4 g3
      obtain ⟨s4, h4, _, w4⟩ := DataW.trod_int Tryd.underlying3 g4
      replace f0 : [c0] = [Value.int .i64 k0] := f0
      replace f1 : [c1] = [Value.int .i64 k1] := f1
      replace f2 : [c2] = [Value.bool k2] := f2
      cases f0
      cases f1
      cases f2
      cases h0
      cases h1
      cases h2
      cases h3
      cases h4
      refine ⟨⟨k0, k1, k2, ⟨s0, s1, s2, s3, s4⟩⟩, ad, rfl, hb, fun j u hj => ?_, w0, w1, w4⟩
      have hjl : j < 8 := (List.getElem?_eq_some_iff.1 hj).1
      rw [hat j hjl]
      exact hj)
  subst hl
  exact ⟨A, zs, c, rfl, hn, hz⟩
/-- The page that is meant. -/
def Op7.pg (o : Op7) : Int := if o.inn then bits .and .i64 o.page 4095 else o.page
set_option maxRecDepth 100000 in
set_option maxHeartbeats 400000 in
theorem opage_any (o : Op7) (w : World) : Calls Tryd.prog 18 #[o.v] w fun e w' => e = .returned (.int .i64 o.pg) ∧ Below w.heap.size w w' := by
  have hB := (Below.refl w.heap.size w).alloc (Nat.le_refl _) (.cells o.cs.toArray 42)
  have HB := Lib.hid hB
  clear hB
  obtain ⟨kd, pg, inn, ⟨a, b, c, d, n⟩⟩ := o
  unfold Op7.v Op7.pg
  unfold Op7.cs at *
  simp only [List.toArray] at *
  cases inn
  · rw [if_neg (by decide)]
    go_enter Tryd.func18, Tryd.ntmps18
    go_wp2
    go_ret
    exact ⟨rfl, HB.out⟩
  · rw [if_pos rfl]
    obtain ⟨K, hK⟩ : ∃ K, bits .and .i64 pg 4095 = K := ⟨_, rfl⟩
    rw [hK]
    go_enter Tryd.func18, Tryd.ntmps18
    go_wp2
    go_ret
    exact ⟨rfl, HB.out⟩
end Go.Proofs.YtbidlabhekiijaaDoor
