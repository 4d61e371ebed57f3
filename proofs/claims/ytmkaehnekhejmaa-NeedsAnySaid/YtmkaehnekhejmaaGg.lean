/- Package needs: gather. -/
import Derived.Test.YtmkaehnekhejmaaGf
import Derived.StillTailTactics
namespace Go.Proofs.Ytmkaehnekhejmaa
open Go.RowKit
set_option linter.unusedVariables false
set_option linter.unusedSimpArgs false

theorem LbAt.below {w w' : World} {ad : Addr} {i : Nat} {b : Lb} {An : Option Addr} {cn : Nat} (h : LbAt w ad i b An cn) (hlt : ad.block < w.heap.size) {n : Nat} (hn : n = w.heap.size) (hb : Below n w w') : LbAt w' ad i b An cn := by
  refine ⟨(hb.cell ?_).trans h.c0, (hb.cell ?_).trans h.c1, strRow_belowG h.row hn hb, h.nm, h.len⟩
  · rw [addr_blockG]; omega
  · show (ad.add (i * 2)).block < n
    rw [addr_blockG]; omega
/-- What grows while a closure is gone over. -/
structure Bd (s : Wk) (g : Nat) : Prop where
  d : ∀ a ∈ s.D, a ≤ g
  nm : s.N.length + s.M.length ≤ 1 + g * 100000
theorem meet1_D (L : List Lb) (d : Nat) (s : Wk) (x : ByteArray) : ∀ a ∈ (meet1 L d s x).D, a ∈ s.D ∨ a = d := by
  unfold meet1
  split <;> split <;> simp_all
theorem meetL_D (L : List Lb) (d : Nat) : ∀ (l : List ByteArray) (s : Wk), ∀ a ∈ (meetL L d s l).D, a ∈ s.D ∨ a = d
  | [], s, a, h => .inl h
  | x :: l, s, a, h => by
    rcases meetL_D L d l (meet1 L d s x) a h with h1 | h1
    · exact meet1_D L d s x a h1
    · exact .inr h1
theorem Bd.start (L : List Lb) (r : ByteArray) : Bd (startW L r) 0 := by
  have h1 := meet1_size L 0 ⟨[], [], []⟩ r
  refine ⟨fun a ha => ?_, by have := h1.1; simp at this; unfold startW; omega⟩
  rcases meet1_D L 0 ⟨[], [], []⟩ r a ha with h | h
  · simp at h
  · omega
theorem need_le {L : List Lb} (h : ∀ b ∈ L, b.need.length ≤ 100000) (x : ByteArray) : (needOf L x).length ≤ 100000 := by
  unfold needOf
  cases hq : findL L x with
  | none => simp
  | some b => exact h b (List.mem_of_find?_eq_some hq)
theorem Bd.step {L : List Lb} {s : Wk} {g : Nat} (h : Bd s g) (hn : ∀ b ∈ L, b.need.length ≤ 100000) (hg : g < s.D.length) : Bd (stepW L (s, g)).1 (g + 1) := by
  have e : s.D.getD g 0 = s.D[g] := by rw [List.getD_eq_getElem?_getD, List.getElem?_eq_getElem hg]; rfl
  have h1 := h.d _ (List.getElem_mem hg)
  have h2 := meetL_size L (s.D.getD g 0 + 1) (needOf L (s.N.getD g default)) s
  have h3 := need_le hn (s.N.getD g default)
  have h4 := h.nm
  refine ⟨fun a ha => ?_, ?_⟩
  · rcases meetL_D L _ _ s a ha with h5 | h5
    · exact Nat.le_succ_of_le (h.d a h5)
    · rw [h5, e]; omega
  · show (meetL L (s.D.getD g 0 + 1) s (needOf L (s.N.getD g default))).N.length + (meetL L (s.D.getD g 0 + 1) s (needOf L (s.N.getD g default))).M.length ≤ _
    rw [Nat.add_mul]
    omega
theorem Inv.ok {L : List Lb} {r : ByteArray} {s : Wk} {g : Nat} (h : Inv L r s g) : WOk L s := ⟨h.nd, h.th, h.mis⟩

theorem Cl.off {S : Nat → Prop} {lo pc MC : Nat} {L : List Lb} {v1 v2 v3 : Value} {s : Wk} {w w' : World} (h : Cl lo pc MC L v1 v2 v3 s w) (hb : But S w w') (h1 : ¬ S pc) (h2 : ¬ S MC) (h3 : ∀ k, S k → k < lo) : Cl lo pc MC L v1 v2 v3 s w' :=
  ⟨h.blk.but hb h1, h.rows.but hb h3, h.map.but hb h2, Nat.le_trans h.lt hb.size⟩
/-- What goOver writes to. -/
def GS (lo pc MC pg : Nat) (k : Nat) : Prop := k = pc ∨ k = MC ∨ k = pg ∨ lo ≤ k
/-- Where goOver stands. -/
structure Go1 (wk : World) (lo pc MC pg : Nat) (L : List Lb) (r : ByteArray) (x : Wk × Nat) (w : World) : Prop where
  cl : ∃ v1 v2 v3, Cl lo pc MC L v1 v2 v3 x.1 w
  gone : Blk w pg 3 #[.int .i64 (x.2 : Nat)]
  but : But (GS lo pc MC pg) wk w
  inv : Inv L r x.1 x.2
  bd : Bd x.1 x.2

set_option maxRecDepth 100000 in
set_option maxHeartbeats 3200000 in
theorem goOver_any (w0 wk : World) (lo pc MC pg pf MF nF po pm pl : Nat) (L : List Lb) (r : ByteArray) (A : Option Addr) (c : Nat)
    (hp1 : pc < lo) (hp2 : MC < lo) (hp3 : pc ≠ MC) (hg1 : pg < lo) (hg2 : pg ≠ pc) (hg3 : pg ≠ MC) (hL : L.length ≤ 255) (hR0 : LibRow w0 A L) (hN : ∀ b ∈ L, b.need.length ≤ 100000)
    (HK : ∀ v, But (GS lo pc MC pg) wk v → Below w0.heap.size w0 v ∧ v.cell? ⟨pf, 0, none⟩ = some (.map (some MF)) ∧ MapS MF nF (firstF L) v ∧ v.cell? ⟨pl, 0, none⟩ = some (.slice A L.length c) ∧
      v.cell? ⟨pm, 0, none⟩ = some (.func (.func 27) #[] #[.pointer (some ⟨pc, 0, none⟩), .pointer (some ⟨pf, 0, none⟩)]) ∧
      v.cell? ⟨po, 0, none⟩ = some (.func (.func 28) #[] #[.pointer (some ⟨pg, 0, none⟩), .pointer (some ⟨pc, 0, none⟩), .pointer (some ⟨po, 0, none⟩), .pointer (some ⟨pm, 0, none⟩), .pointer (some ⟨pl, 0, none⟩)])) :
    ∀ (p : Nat), p ≤ 60 → ∀ (x : Wk × Nat) (w : World), Go1 wk lo pc MC pg L r x w →
    Calls Try.prog 28 #[.int .i64 p, .pointer (some ⟨pg, 0, none⟩), .pointer (some ⟨pc, 0, none⟩), .pointer (some ⟨po, 0, none⟩), .pointer (some ⟨pm, 0, none⟩), .pointer (some ⟨pl, 0, none⟩)] w
      fun e w' => e = .returned (.tuple #[]) ∧ Go1 wk lo pc MC pg L r (runW L (2 ^ p) x) w' := by
  intro p
  induction p with
  | zero =>
    intro _ x w h
    obtain ⟨s, g⟩ := x
    obtain ⟨⟨v1, v2, v3, hcl⟩, hgo, hbt, hinv, hbd⟩ := h
    simp only at hcl hgo hinv hbd
    have hle := hinv.le
    have hmany := hinv.many
    have hlen := hinv.len
    by_cases hgq : g = s.N.length
    · have hst : runW L (2 ^ 0) (s, g) = (s, g) := runW_stop (by simp only; omega)
      have HF := Lib.hid (show Go1 wk lo pc MC pg L r (s, g) w from ⟨⟨v1, v2, v3, hcl⟩, hgo, hbt, hinv, hbd⟩)
      rw [hst]
      obtain ⟨A1, cc1, hu1, -⟩ := own_atG hcl.rows.a
      rw [nints_length, List.length_map, ← hgq] at hu1
      subst hu1
      have x0 := hcl.blk.cell 0
      have g0 := hgo.cell 0
      clear hinv hbd hcl hgo hbt hmany hle hst HK hR0 hgq hlen
      go_enter Try.func28, Try.ntmps28
      go_wp2
      go_end0
      exact ⟨rfl, HF.out⟩
    · have hlt : g < s.N.length := by omega
      have hstep := hinv.step hlt
      have hbs := hbd.step hN (by omega)
      have hrun : runW L (2 ^ 0) (s, g) = stepW L (s, g) := by
        show (if g < s.N.length then runW L 0 (stepW L (s, g)) else (s, g)) = _
        rw [if_pos hlt]
        rfl
      rw [hrun]
      have eN : s.N.getD g default = s.N[g] := by rw [List.getD_eq_getElem?_getD, List.getElem?_eq_getElem hlt]; rfl
      have eD : s.D.getD g 0 = s.D[g]'(by omega) := by rw [List.getD_eq_getElem?_getD, List.getElem?_eq_getElem (by omega)]; rfl
      obtain ⟨hpl, -, hneed⟩ := there_pos (hinv.th _ (List.getElem_mem hlt))
      obtain ⟨ad, An, cn, rfl, hblt, hLb⟩ := hR0 _ hpl
      have hdle := hbd.d _ (List.getElem_mem (show g < s.D.length by omega))
      have hsw : stepW L (s, g) = (meetL L (s.D[g]'(by omega) + 1) s L[posL L s.N[g]].need, g + 1) := by unfold stepW; simp only; rw [eN, eD, hneed]
      have hbw := (But.refl (· = pg) w).setCell (p := ⟨pg, 0, none⟩) (.inl rfl) (.int .i64 ((g + 1 : Nat) : Int))
      have hgo2 := hgo.set_ 0 (.int .i64 ((g + 1 : Nat) : Int))
      obtain ⟨A1, cc1, hu1, hr1⟩ := own_atG hcl.rows.a
      obtain ⟨A2, cc2, hu2, hr2⟩ := own_atG hcl.rows.b
      have HT := Lib.hid (show ∀ W1, w.setCell ⟨pg, 0, none⟩ (.int .i64 ((g + 1 : Nat) : Int)) = W1 → Cl lo pc MC L v1 v2 v3 s W1 ∧ Blk W1 pg 3 #[.int .i64 ((g + 1 : Nat) : Int)] ∧ But (GS lo pc MC pg) wk W1 from fun W1 hW => by
        subst hW
        exact ⟨hcl.off hbw (by omega) (by omega) (fun k hk => by have hk : k = pg := hk; omega), hgo2, hbt.setCell (.inl (.inr (.inr (.inl rfl)))) _⟩)
      rw [nints_length, List.length_map] at hu1
      rw [nints_length, hlen] at hu2
      subst hu1 hu2
      have x0 := hcl.blk.cell 0
      have g0 := hgo.cell 0
      have gf := hgo.frozen 0
      have hgb : ((g : Int) == (s.N.length : Int)) = false := by simp; omega
      have hg1 : ((g + 1 : Nat) : Int) = (g : Int) + 1 := by omega
      have hgw : IntKind.i64.wrap ((g : Int) + 1) = ((g + 1 : Nat) : Int) := by rw [← hg1]; exact IntWalk.i64_in _ (by omega)
      have HK2 := Lib.hid HK
      obtain ⟨dg, hdg⟩ : ∃ dg, s.D[g]'(by omega) = dg := ⟨_, rfl⟩
      obtain ⟨pp, hpp⟩ : ∃ pp, posL L s.N[g] = pp := ⟨_, rfl⟩
      have HDG := Lib.hid (And.intro (show (nints s.D)[g]? = some (.int .i64 (dg : Int)) from by simp [nints, hdg, show g < s.D.length by omega]) (show (nints (s.N.map (posL L)))[g]? = some (.int .i64 (pp : Int)) from by simp [nints, hpp, hlt]))
      obtain ⟨nd, hnd⟩ : ∃ nd, L[posL L s.N[g]].need = nd := ⟨_, rfl⟩
      obtain ⟨bn, hbn⟩ : ∃ bn, L[posL L s.N[g]] = bn := ⟨_, rfl⟩
      rw [hbn] at hLb
      have hnd2 : bn.need = nd := by rw [← hbn]; exact hnd
      rw [hpp] at hLb
      have hndl : nd.length ≤ 100000 := by rw [← hnd2]; exact hLb.len
      have hpl2 : pp < L.length := by rw [← hpp]; exact hpl
      rw [hnd, hdg] at hsw
      rw [hdg] at hdle
      rw [hsw]
      rw [hsw] at hstep hbs
      simp only at hstep hbs
      obtain ⟨q, hq⟩ : ∃ q, s.N.length = q := ⟨_, rfl⟩
      obtain ⟨n, hn⟩ : ∃ n, L.length = n := ⟨_, rfl⟩
      rw [hq] at x0 hgb hlt hmany hle
      rw [hn] at hL hpl2 hmany
      have HQ := Lib.hid (And.intro hq hn)
      have hq255 : q ≤ 255 := by omega
      have hg255 : g < 255 := by omega
      have hd1 : IntKind.i64.wrap ((dg : Int) + 1) = ((dg + 1 : Nat) : Int) := by rw [show (dg : Int) + 1 = ((dg + 1 : Nat) : Int) by omega]; exact IntWalk.i64_in _ (by omega)
      have hdl : dg + 1 ≤ 100000 := by omega
      have HH := Lib.hid (And.intro hinv (And.intro hbd (And.intro hstep hbs)))
      have HLEN := Lib.hid hlen
      obtain ⟨G1, hG1⟩ : ∃ G1, g + 1 = G1 := ⟨_, rfl⟩
      obtain ⟨D1, hD1⟩ : ∃ D1, dg + 1 = D1 := ⟨_, rfl⟩
      rw [hD1] at hd1 hdl HH
      rw [hG1] at hgw HT HH
      rw [hG1, hD1]
      have hgm : IntKind.i64.wrap ((G1 : Int) - 1) = (g : Int) := by rw [show (G1 : Int) - 1 = (g : Int) by omega]; exact IntWalk.i64_in _ (by omega)
      have HM := Lib.hid (And.intro (show s.N.length + s.M.length ≤ 100000000 from by have := hbd.nm; omega) (show ∀ b ∈ L, b.need.length ≤ 100000 from hN))
      clear hsw hdg hpp hnd hbn hq hlen hinv hbd hcl hgo hbt hrun HK hR0 hbw hgo2 hstep hbs hneed eN eD hr1 hr2 hN hgq hpl hg1 hD1
      rename_i hg1a
      have HLB := Lib.hid (And.intro hLb hnd2)
      have hgg : g < q := hlt
      clear hLb hnd2
      go_enter Try.func28, Try.ntmps28
      go_wp2_with fail
      generalize hW : w.setCell ⟨pg, 0, none⟩ (.int .i64 ((G1 : Nat) : Int)) = W1
      obtain ⟨cl1, go1, bt1⟩ := HT.out W1 hW
      rw [HQ.out.1] at cl1
      obtain ⟨hb1, k1, k2, k3, k4, k5⟩ := HK2.out W1 bt1
      obtain ⟨A1', cc1', hu1, hr1⟩ := own_atG cl1.rows.a
      obtain ⟨A2', cc2', hu2, hr2⟩ := own_atG cl1.rows.b
      injection hu1 with ha1 hb1' hc1'
      injection hu2 with ha2 hb2' hc2'
      subst ha1 ha2
      clear hb1' hb2' hc1' hc2'
      obtain ⟨ad1, ha1, -, -, r1⟩ := hr1 g (by rw [nints_length, List.length_map, HQ.out.1]; exact hgg)
      obtain ⟨ad2, ha2, -, -, r2⟩ := hr2 g (by rw [nints_length, HLEN.out, HQ.out.1]; exact hgg)
      subst ha1 ha2
      rw [(List.getElem?_eq_some_iff.1 HDG.out.2).2] at r1
      rw [(List.getElem?_eq_some_iff.1 HDG.out.1).2] at r2
      have lb1 := HLB.out.1.below hblt rfl hb1
      obtain ⟨c0, c1, hrow, -, -⟩ := lb1
      rw [HLB.out.2] at c1
      rw [HQ.out.2] at k3
      have x0 := cl1.blk.cell 0
      have x1 := cl1.blk.cell 1
      have g0 := go1.cell 0
      have HME := Lib.hid (fun (v : World) (hbv : But (GS lo pc MC pg) wk v) (hcv : Cl lo pc MC L (.slice (some ad1) q cc1) (.slice (some ad2) q cc2) v3 s v) =>
        meet_any lo pc pf MC MF nF L s _ _ _ nd An cn D1 v hcv HH.out.1.ok HLEN.out hp1 hp2 hp3
          (fun u hu => by
            have hbu := (HK2.out u (hbv.trans (hu.mono (fun k hk => by rcases hk with h | h | h; exact .inl h; exact .inr (.inl h); exact .inr (.inr (.inr h)))))).1
            have := (HLB.out.1.below hblt rfl hbu).row
            rw [HLB.out.2] at this
            exact this)
          (fun u hu => by
            have hbu := HK2.out u (hbv.trans (hu.mono (fun k hk => by rcases hk with h | h | h; exact .inl h; exact .inr (.inl h); exact .inr (.inr (.inr h)))))
            exact ⟨hbu.2.1, hbu.2.2.1⟩)
          hndl HM.out.1 hdl (by rw [HQ.out.2]; omega))
      have HC1 := Lib.hid (And.intro cl1 (And.intro go1 bt1))
      obtain ⟨N1, hN1⟩ : ∃ N1, nd.length = N1 := ⟨_, rfl⟩
      rw [hN1] at c1 HME
      have hgi : (0 : Int) ≤ (g : Int) := by omega
      have hgi2 : (g : Int) < (q : Int) := by omega
      have hpi : (0 : Int) ≤ (pp : Int) := by omega
      have hpi2 : (pp : Int) < (n : Int) := by omega
      clear hW HT k1 k2 k5 hb1 bt1 go1 cl1 hr1 hr2 hrow c0 HDG hgw gf hgb hN1
      go_still_tail 18, (by kernel_rfl)
      change wpList _ _ _ _ _ W1.drew
      generalize hW2 : W1.drew = W2 at *
      have HC2 := Lib.hid (show Cl lo pc MC L (.slice (some ad1) q cc1) (.slice (some ad2) q cc2) v3 s W2 ∧ Blk W2 pg 3 #[.int .i64 ((G1 : Nat) : Int)] ∧ But (GS lo pc MC pg) wk W2 from by
        subst hW2
        exact ⟨HC1.out.1.off ((But.refl (fun _ => False) W1).drewN 1) (fun h => h) (fun h => h) (fun _ h => h.elim), HC1.out.2.1, HC1.out.2.2.drewN 1⟩)
      clear hW2 HC1
      go_wp2_with (go_at_call 27; refine (HME.out _ HC2.out.2.2 HC2.out.1).mono ?_; rintro e w3 ⟨rfl, ⟨u1, u2, u3, hcl3⟩, hbt3⟩)
      go_end0
      refine ⟨rfl, ⟨u1, u2, u3, hcl3⟩, ?_, HC2.out.2.2.trans (hbt3.mono (fun k hk => by rcases hk with h | h | h; exact .inl h; exact .inr (.inl h); exact .inr (.inr (.inr h)))), HH.out.2.2.1, HH.out.2.2.2⟩
      exact HC2.out.2.1.but hbt3 (fun h => by rcases h with h | h | h <;> omega)
  | succ p ih =>
    intro hp x w h
    have IH := Lib.hid (ih (by omega))
    have H := Lib.hid h
    obtain ⟨hb0, -, -, -, -, co⟩ := HK w h.but
    obtain ⟨⟨v1, v2, v3, hcl⟩, hgo, hbt, hinv, hbd⟩ := h
    obtain ⟨s, g⟩ := x
    simp only at hcl hgo hinv hbd
    obtain ⟨A1, cc1, hu1, -⟩ := own_atG hcl.rows.a
    rw [nints_length, List.length_map] at hu1
    subst hu1
    have x0 := hcl.blk.cell 0
    have g0 := hgo.cell 0
    have hle := hinv.le
    have hmany := hinv.many
    obtain ⟨q, hq⟩ : ∃ q, s.N.length = q := ⟨_, rfl⟩
    rw [hq] at x0 hle hmany
    by_cases hgq : g = q
    · have hst : runW L (2 ^ (p + 1)) (s, g) = (s, g) := runW_stop (by simp only; omega)
      rw [hst]
      clear ih hinv hbd hcl hgo hbt hmany hle hst HK hR0 IH hq co hb0
      subst hgq
      have hpp : ∃ P : Nat, p + 1 = P := ⟨_, rfl⟩
      obtain ⟨P, hP⟩ := hpp
      rw [hP]
      clear hP
      go_enter Try.func28, Try.ntmps28
      go_wp2
      go_end0
      exact ⟨rfl, H.out⟩
    · have hgb : ((g : Int) == (q : Int)) = false := by simp; omega
      obtain ⟨P, hP⟩ : ∃ P : Nat, p + 1 = P := ⟨_, rfl⟩
      have hP0 : 0 < P := by omega
      have hP2 : (0 : Int) < (P : Int) := by omega
      have hP1 : (P : Int) - 1 = (p : Int) := by omega
      have hpw : IntKind.i64.wrap ((P : Int) - 1) = (p : Int) := by rw [hP1]; exact IntWalk.i64_in _ (by omega)
      have hadd : runW L (2 ^ (p + 1)) (s, g) = runW L (2 ^ p) (runW L (2 ^ p) (s, g)) := by rw [← runW_add]; congr 1; rw [Nat.pow_succ]; omega
      rw [hadd, hP]
      have HK2 := Lib.hid HK
      clear ih hinv hbd hcl hgo hbt hmany hle HK hR0 hq hadd hP hb0 hP1
      go_enter Try.func28, Try.ntmps28
      go_upto_region 5 with (go_at_call 28; refine (IH.out _ _ H.out).mono ?_; rintro e w1 ⟨rfl, h1⟩)
      obtain ⟨-, -, -, -, -, co1⟩ := HK2.out w1 h1.but
      have H1 := Lib.hid h1
      clear h1 co x0 g0
      go_wp2_with (go_at_call 28; refine (IH.out _ _ H1.out).mono ?_; rintro e w2 ⟨rfl, h2⟩)
      go_end0
      exact ⟨rfl, h2⟩
end Go.Proofs.Ytmkaehnekhejmaa
