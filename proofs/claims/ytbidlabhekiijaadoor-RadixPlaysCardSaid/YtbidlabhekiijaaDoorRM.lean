/- Package radix: Set. -/
import Derived.Test.YtbidlabhekiijaaDoorRL
namespace Go.Proofs.YtbidlabhekiijaaDoor
open Go.RowKit
set_option linter.unusedVariables false
set_option linter.unusedSimpArgs false

/-- What is left of a table: with these entries. -/
def Left7 (w w' : World) (t p h g : Nat) (X : Pol) (root : Nat) (M : Nat → Sl) (R : Nat → Int) (RS : Nat → ByteArray) : Prop :=
  But (fun j => j = h ∨ j = g) w w' ∧ ∃ Y G, Td w' t p h g Y root ∧ Y.H.length = X.H.length ∧ Own7 Y root M G R RS
/-- What Set tells; the entries behind it. -/
noncomputable def stE' (M : Nat → Sl) (free : Nat) (pg : Int) (s : Sl) : Int := if 0 ≤ pg ∧ pg < 4096 then (if s.may then (if 4 - kn M pg.toNat ≤ free then 0 else 18) else 1) else 14
noncomputable def stM' (M : Nat → Sl) (free : Nat) (pg : Int) (s : Sl) : Nat → Sl := if stE' M free pg s = 0 then setM M pg.toNat s else M

set_option maxRecDepth 100000 in
set_option maxHeartbeats 3200000 in
theorem set1_any {w : World} {t p h g : Nat} {X : Pol} {root : Nat} {M : Nat → Sl} {F : Nat → Nat → Nat} {R : Nat → Int} {RS : Nat → ByteArray} (a : Td w t p h g X root) (T : Own7 X root M F R RS) (P : Nat) (hP : P < 4096) (s : Sl) (c1 c2 : Nat)
    (k1 : Blk w c1 23 s.cs) (k2 : Blk w c2 33 #[.pointer (some ⟨t, 0, none⟩)]) (n1 : c1 ≠ h ∧ c1 ≠ g) (n2 : c2 ≠ h ∧ c2 ≠ g) :
    Calls Tryd.prog 42 #[wayV (wayT F P (kn M P)) (digI P), .int .i64 (kn M P : Nat), .pointer (some ⟨c1, 0, none⟩), .pointer (some ⟨c2, 0, none⟩)] w fun e w' =>
      ∃ r : Int, e = .returned (.int .i64 r) ∧ r = stE' M (freeN X.H) P s ∧ Left7 w w' t p h g X root (stM' M (freeN X.H) P s) R RS := by
  have hin : (0 : Int) ≤ (P : Int) ∧ (P : Int) < 4096 := by omega
  have hm := may_any s
  have hgw := fun (W : World) (b : Td W t p h g X root) => grow_any b T P hP
  have hB := (But.refl (fun j => j = h ∨ j = g) w).alloc (.cells (wayC (wayT F P (kn M P)) (digI P)) 80)
  have j0 := Blk.new w 80 (wayC (wayT F P (kn M P)) (digI P))
  have j1 := k1.alloc (.cells (wayC (wayT F P (kn M P)) (digI P)) 80)
  have j2 := k2.alloc (.cells (wayC (wayT F P (kn M P)) (digI P)) 80)
  have a1 := a.alloc (.cells (wayC (wayT F P (kn M P)) (digI P)) 80)
  have hlts := a.lts
  have l1 := k1.lt
  have l2 := k2.lt
  obtain ⟨sh, sw, sc, so, sn⟩ := s
  generalize hsd : Sl.mk sh sw sc so sn = sd at *
  have hcs : sd.cs = #[.bool sh, .bool sw, .bool sc, .bool so, .int .i64 sn] := by rw [← hsd]; rfl
  have hv : sd.v = .agg #[.bool sh, .bool sw, .bool sc, .bool so, .int .i64 sn] := by rw [← hsd]; rfl
  rw [hcs] at j1 hm
  rw [hv] at hm
  by_cases hmay : sd.may = true
  · rw [hmay] at hm
    have HM : Hid (∀ W, Calls Tryd.prog 32 #[.agg #[.bool sh, .bool sw, .bool sc, .bool so, .int .i64 sn]] W fun e w' => e = .returned (.bool true) ∧ Below W.heap.size W w') := Lib.hid fun W => (hm W).mono fun e w' ⟨he, hw⟩ => ⟨he, by rw [hw]; exact (Below.refl _ _).alloc (Nat.le_refl _) _⟩
    have HG := Lib.hid hgw
    have HW := Lib.hid (And.intro j0 (And.intro j1 (And.intro j2 (And.intro hB a1))))
    have HN := Lib.hid (And.intro n1 (And.intro n2 (And.intro hlts (And.intro l1 l2))))
    have HT := Lib.hid (And.intro T (And.intro hP (And.intro hmay (And.intro hin hv))))
    have x0 := j1.at_ 0 _ rfl
    have x1 := j1.at_ 1 _ rfl
    have x2 := j1.at_ 2 _ rfl
    have x3 := j1.at_ 3 _ rfl
    have x4 := j1.at_ 4 _ rfl
    clear hm hgw j0 j1 j2 hB a1 n1 n2 hlts l1 l2 T hP hmay hin hsd hcs hv k1 k2 a
    unfold wayV at HG
    unfold wayV
    unfold wayC at *
    generalize hWA : w.alloc (.cells #[.int .i64 (wayT F P (kn M P) 0), .int .i64 (digI P 0), .int .i64 (wayT F P (kn M P) 1), .int .i64 (digI P 1), .int .i64 (wayT F P (kn M P) 2), .int .i64 (digI P 2), .int .i64 (wayT F P (kn M P) 3), .int .i64 (digI P 3)] 80) = WA at *
    by_cases hfr : 4 - kn M P ≤ freeN X.H
    · have e1 : stE' M (freeN X.H) P sd = 0 := by unfold stE'; rw [if_pos HT.out.2.2.2.1, if_pos HT.out.2.2.1, if_pos (by simpa using hfr)]
      have e2 : stM' M (freeN X.H) P sd = setM M P sd := by unfold stM'; rw [e1, if_pos rfl]; rfl
      rw [e1, e2]
      have HGY : Hid (∀ W, Td W t p h g X root → Calls Tryd.prog 43 #[.pointer (some ⟨t, 0, none⟩), .agg #[.int .i64 (wayT F P (kn M P) 0), .int .i64 (digI P 0), .int .i64 (wayT F P (kn M P) 1), .int .i64 (digI P 1), .int .i64 (wayT F P (kn M P) 2), .int .i64 (digI P 2), .int .i64 (wayT F P (kn M P) 3), .int .i64 (digI P 3)], .int .i64 (kn M P : Nat)] W fun e w' =>
          ∃ G Y, e = .returned (.tuple #[.agg #[.int .i64 (wayT G P 4 0), .int .i64 (digI P 0), .int .i64 (wayT G P 4 1), .int .i64 (digI P 1), .int .i64 (wayT G P 4 2), .int .i64 (digI P 2), .int .i64 (wayT G P 4 3), .int .i64 (digI P 3)], .int .i64 0]) ∧ But (fun j => j = h ∨ j = g) W w' ∧ Td w' t p h g Y root ∧ Y.H.length = X.H.length ∧ Putting Y R RS M F G P (kn M P) 4) :=
        Lib.hid fun W b => (HG.out W b).mono fun e w' ⟨hb, Y, hY, hl, hc⟩ => by
          rcases hc with ⟨_, G, he, hp⟩ | ⟨hn, _⟩
          · exact ⟨G, Y, he, hb, hY, hl, hp⟩
          · exact absurd hfr hn
      clear e1 e2 hfr HG
      go_enter Tryd.func42, Tryd.ntmps42
      go_wp2_with (first
      | (go_at_call 32; (refine (HM.out _).mono ?_); rintro e v1 ⟨rfl, hb1⟩
         have HW1 := Lib.hid (And.intro (HW.out.1.below hb1 HW.out.1.lt) (And.intro (HW.out.2.1.below hb1 HW.out.2.1.lt) (And.intro (HW.out.2.2.1.below hb1 HW.out.2.2.1.lt) (And.intro (HW.out.2.2.2.1.trans (But.of_below hb1)) (HW.out.2.2.2.2.on hb1)))))
         have y2 := HW1.out.2.2.1.at_ 0 _ rfl
         have j0 := HW1.out.1
         have q0 := j0.at_ 0 _ rfl
         have q1 := j0.at_ 1 _ rfl
         have q2 := j0.at_ 2 _ rfl
         have q3 := j0.at_ 3 _ rfl
         have q4 := j0.at_ 4 _ rfl
         have q5 := j0.at_ 5 _ rfl
         have q6 := j0.at_ 6 _ rfl
         have q7 := j0.at_ 7 _ rfl
         clear hb1 x0 x1 x2 x3 x4 j0)
      | (go_at_call 43; (refine (HGY.out _ HW1.out.2.2.2.2).mono ?_); rintro e v2 ⟨G, Y, rfl, hb2, ha2, hl2, hp2⟩
         have h0 := HW1.out.1.but hb2 (by have := HN.out; omega)
         have h1 := HW1.out.2.1.but hb2 (by have := HN.out; omega)
         have h2 := HW1.out.2.2.1.but hb2 (by have := HN.out; omega)
         clear q0 q1 q2 q3 q4 q5 q6 q7 y2
         have q0 := h0.at_ 0 _ rfl
         have q1 := h0.at_ 1 _ rfl
         have q2 := h0.at_ 2 _ rfl
         have q3 := h0.at_ 3 _ rfl
         have q4 := h0.at_ 4 _ rfl
         have q5 := h0.at_ 5 _ rfl
         have q6 := h0.at_ 6 _ rfl
         have q7 := h0.at_ 7 _ rfl
         have u0 := h0.frozen 0
         have u1 := h0.frozen 1
         have u2 := h0.frozen 2
         have u3 := h0.frozen 3
         have u4 := h0.frozen 4
         have u5 := h0.frozen 5
         have u6 := h0.frozen 6
         have u7 := h0.frozen 7
         have hs := way_set h0 (.int .i64 (wayT G P 4 0)) (.int .i64 (digI P 0)) (.int .i64 (wayT G P 4 1)) (.int .i64 (digI P 1)) (.int .i64 (wayT G P 4 2)) (.int .i64 (digI P 2)) (.int .i64 (wayT G P 4 3)) (.int .i64 (digI P 3))
         have hsb := way_set_but (w := v2) (g := w.heap.size) (.int .i64 (wayT G P 4 0)) (.int .i64 (digI P 0)) (.int .i64 (wayT G P 4 1)) (.int .i64 (digI P 1)) (.int .i64 (wayT G P 4 2)) (.int .i64 (digI P 2)) (.int .i64 (wayT G P 4 3)) (.int .i64 (digI P 3))
         have s6 := hs.at_ 6 _ rfl
         have s7 := hs.at_ 7 _ rfl
         have t1 := h1.but hsb (by have := HN.out; omega)
         have t2 := h2.but hsb (by have := HN.out; omega)
         have x0 := t1.at_ 0 _ rfl
         have x1 := t1.at_ 1 _ rfl
         have x2 := t1.at_ 2 _ rfl
         have x3 := t1.at_ 3 _ rfl
         have x4 := t1.at_ 4 _ rfl
         have y2 := t2.at_ 0 _ rfl
         have ta := ha2.thru hsb (by have := HN.out; omega) (by have := HN.out; omega) (by have := HN.out; omega) (by have := HN.out; omega) (by have := HN.out; omega)
         have HV := Lib.hid (And.intro ((HW1.out.2.2.2.1.trans hb2).thru hsb (fun j e => .inr (by omega))) (And.intro ta (And.intro hl2 hp2)))
         have HWR := Lib.hid (twrite_any ta (wayT G P 4 3) (by rw [show wayT G P 4 3 = ((G 3 (pre P 3) : Nat) : Int) from if_pos (by omega)]; have := hp2.lay.lt 3 _ (by omega) (grow_way rfl HT.out.2.1 (by omega)); have := ta.pl.len; exact wf_i64 (by omega) (by omega)) (dig P 3) (dig_lt P 3) sd)
         clear h0 h1 h2 hs hsb t1 t2 ta hb2 ha2 hl2 hp2)
      | (go_at_call 44; (refine (show Calls _ _ #[.pointer (some ⟨t, 0, none⟩), .agg #[.int .i64 (wayT G P 4 3), .int .i64 (digI P 3)], .agg #[.bool sh, .bool sw, .bool sc, .bool so, .int .i64 sn]] _ _ from (by rw [← HT.out.2.2.2.2]; exact HWR.out)).mono ?_); rintro e v3 ⟨rfl, hb3, ha3⟩
         have HV3 := Lib.hid (And.intro hb3 ha3)
         clear hb3 ha3))
      go_ret
      have hd := HV.out.2.2.2.done HV.out.2.1.pl.fit HT.out.1.ents HT.out.1.root rfl HT.out.2.1 HT.out.2.2.1
      have e3 : wayT G P 4 3 = ((G 3 (pre P 3) : Nat) : Int) := if_pos (by omega)
      refine ⟨_, rfl, by rw [e3]; exact hd.2.1, HV.out.1.trans (HV3.out.1.mono fun _ e => .inr e), _, G, HV3.out.2, ?_, ?_⟩
      · rw [e3, hd.1]; exact HV.out.2.2.1
      · rw [e3]; exact hd.2.2
    · have e1 : stE' M (freeN X.H) P sd = 18 := by unfold stE'; rw [if_pos HT.out.2.2.2.1, if_pos HT.out.2.2.1, if_neg (by simpa using hfr)]
      have e2 : stM' M (freeN X.H) P sd = M := by unfold stM'; rw [e1, if_neg (by decide)]
      rw [e1, e2]
      have HGN : Hid (∀ W, Td W t p h g X root → Calls Tryd.prog 43 #[.pointer (some ⟨t, 0, none⟩), .agg #[.int .i64 (wayT F P (kn M P) 0), .int .i64 (digI P 0), .int .i64 (wayT F P (kn M P) 1), .int .i64 (digI P 1), .int .i64 (wayT F P (kn M P) 2), .int .i64 (digI P 2), .int .i64 (wayT F P (kn M P) 3), .int .i64 (digI P 3)], .int .i64 (kn M P : Nat)] W fun e w' =>
          ∃ (T' D' : Nat → Int), e = .returned (.tuple #[.agg #[.int .i64 (T' 0), .int .i64 (D' 0), .int .i64 (T' 1), .int .i64 (D' 1), .int .i64 (T' 2), .int .i64 (D' 2), .int .i64 (T' 3), .int .i64 (D' 3)], .int .i64 18]) ∧ Left7 W w' t p h g X root M R RS) :=
        Lib.hid fun W b => (HG.out W b).mono fun e w' ⟨hb, Y, hY, hl, hc⟩ => by
          rcases hc with ⟨hy, _⟩ | ⟨_, T', D', he, ho⟩
          · exact absurd hy hfr
          · exact ⟨T', D', he, hb, Y, F, hY, hl, ho⟩
      clear e1 e2 hfr HG
      go_enter Tryd.func42, Tryd.ntmps42
      go_wp2_with (first
      | (go_at_call 32; (refine (HM.out _).mono ?_); rintro e v1 ⟨rfl, hb1⟩
         have HW1 := Lib.hid (And.intro (HW.out.1.below hb1 HW.out.1.lt) (And.intro (HW.out.2.1.below hb1 HW.out.2.1.lt) (And.intro (HW.out.2.2.1.below hb1 HW.out.2.2.1.lt) (And.intro (HW.out.2.2.2.1.trans (But.of_below hb1)) (HW.out.2.2.2.2.on hb1)))))
         have y2 := HW1.out.2.2.1.at_ 0 _ rfl
         have j0 := HW1.out.1
         have q0 := j0.at_ 0 _ rfl
         have q1 := j0.at_ 1 _ rfl
         have q2 := j0.at_ 2 _ rfl
         have q3 := j0.at_ 3 _ rfl
         have q4 := j0.at_ 4 _ rfl
         have q5 := j0.at_ 5 _ rfl
         have q6 := j0.at_ 6 _ rfl
         have q7 := j0.at_ 7 _ rfl
         clear hb1 x0 x1 x2 x3 x4 j0)
      | (go_at_call 43; (refine (HGN.out _ HW1.out.2.2.2.2).mono ?_); rintro e v2 ⟨T', D', rfl, hb2, Y, G, ha2, hl2, ho2⟩
         have h0 := HW1.out.1.but hb2 (by have := HN.out; omega)
         clear q0 q1 q2 q3 q4 q5 q6 q7 y2
         have q0 := h0.at_ 0 _ rfl
         have q1 := h0.at_ 1 _ rfl
         have q2 := h0.at_ 2 _ rfl
         have q3 := h0.at_ 3 _ rfl
         have q4 := h0.at_ 4 _ rfl
         have q5 := h0.at_ 5 _ rfl
         have q6 := h0.at_ 6 _ rfl
         have q7 := h0.at_ 7 _ rfl
         have u0 := h0.frozen 0
         have u1 := h0.frozen 1
         have u2 := h0.frozen 2
         have u3 := h0.frozen 3
         have u4 := h0.frozen 4
         have u5 := h0.frozen 5
         have u6 := h0.frozen 6
         have u7 := h0.frozen 7
         have hsb := way_set_but (w := v2) (g := w.heap.size) (.int .i64 (T' 0)) (.int .i64 (D' 0)) (.int .i64 (T' 1)) (.int .i64 (D' 1)) (.int .i64 (T' 2)) (.int .i64 (D' 2)) (.int .i64 (T' 3)) (.int .i64 (D' 3))
         have HV := Lib.hid (And.intro ((HW1.out.2.2.2.1.trans hb2).thru hsb (fun j e => .inr (by omega))) (And.intro (ha2.thru hsb (by have := HN.out; omega) (by have := HN.out; omega) (by have := HN.out; omega) (by have := HN.out; omega) (by have := HN.out; omega)) (And.intro hl2 ho2)))
         clear h0 hsb hb2 ha2 hl2 ho2))
      go_ret
      exact ⟨18, rfl, rfl, HV.out.1, Y, G, HV.out.2⟩
  · have hm0 : sd.may = false := by simpa using hmay
    have e1 : stE' M (freeN X.H) P sd = 1 := by unfold stE'; rw [if_pos hin, if_neg hmay]
    have e2 : stM' M (freeN X.H) P sd = M := by unfold stM'; rw [e1, if_neg (by decide)]
    rw [hm0] at hm
    rw [e1, e2]
    have HM := Lib.hid hm
    have HR : Hid (Left7 w ((w.alloc (.cells (wayC (wayT F P (kn M P)) (digI P)) 80)).alloc (.cells #[.bool sh, .bool sw, .bool sc, .bool so, .int .i64 sn] 23)) t p h g X root M R RS) := Lib.hid ⟨hB.alloc _, X, F, a1.alloc _, rfl, T⟩
    have x0 := j1.at_ 0 _ rfl
    have x1 := j1.at_ 1 _ rfl
    have x2 := j1.at_ 2 _ rfl
    have x3 := j1.at_ 3 _ rfl
    have x4 := j1.at_ 4 _ rfl
    clear hm hgw j0 j1 j2 hB a1 T hmay hm0 e1 e2 hin k1 k2 a hlts hsd hcs hv
    unfold wayV
    unfold wayC at *
    go_enter Tryd.func42, Tryd.ntmps42
    go_wp2_with (go_at_call 32; (refine (HM.out _).mono ?_); rintro e v1 ⟨rfl, rfl⟩)
    go_ret
    exact ⟨1, rfl, rfl, HR.out⟩
end Go.Proofs.YtbidlabhekiijaaDoor

/- Package radix: Set, whole. -/
namespace Go.Proofs.YtbidlabhekiijaaDoor
open Go.RowKit
set_option linter.unusedVariables false
set_option linter.unusedSimpArgs false

theorem with_set {w : World} {t p h g : Nat} {X : Pol} {root : Nat} {M : Nat → Sl} {F : Nat → Nat → Nat} {R : Nat → Int} {RS : Nat → ByteArray} (a : Td w t p h g X root) (T : Own7 X root M F R RS) (pg : Int) (s : Sl) (c1 c2 : Nat)
    (k1 : Blk w c1 23 s.cs) (k2 : Blk w c2 33 #[.pointer (some ⟨t, 0, none⟩)]) (n1 : c1 ≠ h ∧ c1 ≠ g) (n2 : c2 ≠ h ∧ c2 ≠ g) :
    Calls Tryd.prog 41 #[.pointer (some ⟨t, 0, none⟩), .int .i64 pg, .func (.func 42) #[] #[.pointer (some ⟨c1, 0, none⟩), .pointer (some ⟨c2, 0, none⟩)]] w fun e w' =>
      e = .returned (.int .i64 (stE' M (freeN X.H) pg s)) ∧ Left7 w w' t p h g X root (stM' M (freeN X.H) pg s) R RS := by
  by_cases hin : 0 ≤ pg ∧ pg < 4096
  · obtain ⟨P, rfl⟩ : ∃ P : Nat, pg = P := ⟨pg.toNat, by omega⟩
    have hP : P < 4096 := by omega
    refine twith_set a T.tbl P hP c1 c2 _ (Lib.hid fun w1 hb => ?_)
    refine (set1_any (a.on hb) T P hP s c1 c2 (k1.below hb k1.lt) (k2.below hb k2.lt) n1 n2).mono fun e w' ⟨r, he, hr, hb', hl⟩ => ⟨r, he, ?_⟩
    rw [hr]
    exact ⟨rfl, (But.of_below hb).trans hb', hl⟩
  · have e1 : stE' M (freeN X.H) pg s = 14 := by unfold stE'; rw [if_neg hin]
    have e2 : stM' M (freeN X.H) pg s = M := by unfold stM'; rw [e1, if_neg (by decide)]
    rw [e1, e2]
    exact (twith_far t pg _ w (by omega)).mono fun e w' ⟨he, hw⟩ => by subst hw; exact ⟨he, But.refl _ _, X, F, a, rfl, T⟩

theorem set_cells (w : World) (u : Value) (s : Sl) : let W := (w.alloc (.cells #[u] 33)).alloc (.cells s.cs 23)
    Blk W w.heap.size 33 #[u] ∧ Blk W (w.heap.size + 1) 23 s.cs ∧ Below w.heap.size w W := by
  intro W
  have k0 := (Blk.new w 33 #[u]).alloc (.cells s.cs 23)
  have k1 := Blk.new (w.alloc (.cells #[u] 33)) 23 s.cs
  simp only [World.size_alloc] at k1
  exact ⟨k0, k1, ((Below.refl _ w).alloc (Nat.le_refl _) _).alloc (by simp) _⟩
set_option maxRecDepth 100000 in
set_option maxHeartbeats 1600000 in
theorem tset_of (tp : Option Addr) (pg : Int) (s : Sl) (w : World) (E : Int) (Q : World → Prop)
    (hW : Hid (∀ W c1 c2, Below w.heap.size w W → Blk W c1 23 s.cs → Blk W c2 33 #[.pointer tp] → w.heap.size ≤ c1 → w.heap.size ≤ c2 →
      Calls Tryd.prog 41 #[.pointer tp, .int .i64 pg, .func (.func 42) #[] #[.pointer (some ⟨c1, 0, none⟩), .pointer (some ⟨c2, 0, none⟩)]] W fun e w' =>
        e = .returned (.int .i64 E) ∧ Q w')) :
    Calls Tryd.prog 24 #[.pointer tp, .int .i64 pg, s.v] w fun e w' => e = .returned (.int .i64 E) ∧ Q w' := by
  have hmf : ∀ (fn : Fn) (first cap : Array Value) (w : World), (Instr.makeFunc fn first cap).run Tryd.prog w = .ok (.func fn first cap) w := fun _ _ _ _ => rfl
  obtain ⟨k0, k1, hB⟩ := set_cells w (.pointer tp) s
  obtain ⟨W0, hW0⟩ : ∃ W0, (w.alloc (.cells #[.pointer tp] 33)).alloc (.cells s.cs 23) = W0 := ⟨_, rfl⟩
  rw [hW0] at k0 k1 hB
  have HU := Lib.hid (hW.out W0 (w.heap.size + 1) w.heap.size hB k1 k0 (by omega) (by omega))
  have c0 := k0.at_ 0 _ rfl
  clear k0 k1 hB hW
  obtain ⟨sh, sw, sc, so, sn⟩ := s
  unfold Sl.v
  unfold Sl.cs at hW0
  simp only at hW0 ⊢
  go_enter Tryd.func24, Tryd.ntmps24
  go_wp2_with (go_at_call 41; (refine HU.out.mono ?_); rintro e v1 ⟨rfl, hQ⟩)
  go_ret
  exact ⟨rfl, hQ⟩

theorem tset_any {w : World} {t p h g : Nat} {X : Pol} {root : Nat} {M : Nat → Sl} {F : Nat → Nat → Nat} {R : Nat → Int} {RS : Nat → ByteArray} (a : Td w t p h g X root) (T : Own7 X root M F R RS) (pg : Int) (s : Sl) :
    Calls Tryd.prog 24 #[.pointer (some ⟨t, 0, none⟩), .int .i64 pg, s.v] w fun e w' => e = .returned (.int .i64 (stE' M (freeN X.H) pg s)) ∧ Left7 w w' t p h g X root (stM' M (freeN X.H) pg s) R RS :=
  tset_of _ pg s w _ (fun w' => Left7 w w' t p h g X root (stM' M (freeN X.H) pg s) R RS) (Lib.hid fun W c1 c2 hb k1 k2 l1 l2 =>
    (with_set (a.on hb) T pg s c1 c2 k1 k2 (by have := a.lts; omega) (by have := a.lts; omega)).mono fun e w' ⟨he, hb', hl⟩ => ⟨he, (But.of_below hb).trans hb', hl⟩)
theorem tset_closed (t : Nat) (r : Int) (P : Nat) (hP : P < 4096) (s : Sl) (w : World) (hc : Blk w t 63 #[.pointer none, .int .i64 r]) :
    Calls Tryd.prog 24 #[.pointer (some ⟨t, 0, none⟩), .int .i64 (P : Nat), s.v] w fun e w' => e = .returned (.int .i64 13) ∧ Below w.heap.size w w' :=
  tset_of _ P s w _ (fun w' => Below w.heap.size w w') (Lib.hid fun W c1 c2 hb k1 k2 l1 l2 =>
    (twith_closed t P hP _ W ((hc.below hb hc.lt).at_ 0 _ rfl)).mono fun e w' ⟨he, hw⟩ => by subst hw; exact ⟨he, hb⟩)
end Go.Proofs.YtbidlabhekiijaaDoor
