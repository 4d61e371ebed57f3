/- Package radix: Nodes, Close. -/
import Derived.Test.YtbidlabhekiijaaDoorQA
namespace Go.Proofs.YtbidlabhekiijaaDoor
open Go.RowKit Go.Shelf
set_option linter.unusedVariables false
set_option linter.unusedSimpArgs false

theorem own_but7 {S : Nat → Prop} {w w' : World} {B e size n : Nat} {v : Value} {xs : List Value} (h : w.ownsRow B e size v n xs) (hb : But S w w') (hS : ∀ k, B ≤ k → ¬ S k) : w'.ownsRow B e size v n xs := by
  obtain ⟨h1, h2⟩ := h
  refine ⟨h1, ?_⟩
  rcases h2 with h2 | ⟨g, cap, cur, rfl, hB, hg, r⟩
  · exact .inl h2
  · exact .inr ⟨g, cap, cur, rfl, hB, (hb.block g (Array.getElem?_eq_some_iff.1 hg).1 (hS g hB)).trans hg, r⟩

/-- What tables tells, by frames. -/
theorem nodeL_eq {M : Nat → Sl} {F : Nat → Nat → Nat} {root : Nat} (hM : Ents M) (hr : F 0 0 = root) : nodeL M F (root : Nat) (trav M 0 4 0 0) = (nodes7 M).map fun x => Value.int .i64 (F x.1 x.2 : Nat) := by
  unfold nodeL nodes7
  rw [List.map_cons, hr]
  congr 1
  refine List.map_congr_left fun x hx => ?_
  have h := (mem_stems (j := x.1) (r := x.2) hM).1 hx
  rw [ent_live h.2.1 h.2.2]

theorem ownsRow_form7 {w : World} {B e size n : Nat} {v : Value} {xs : List Value} (h : w.ownsRow B e size v n xs) (hn : 0 < n) : ∃ g c, v = .slice (some ⟨g, 0, none⟩) n c := by
  rcases h.2 with ⟨_, h0⟩ | ⟨g, cap, cur, rfl, _⟩
  · omega
  · exact ⟨g, cap, rfl⟩
theorem tnodes_any {w : World} {t p h g : Nat} {X : Pol} {root : Nat} {M : Nat → Sl} {F : Nat → Nat → Nat} {R : Nat → Int} {RS : Nat → ByteArray} (a : Td w t p h g X (root : Nat)) (T : Own7 X root M F R RS) :
    Calls Tryd.prog 29 #[.pointer (some ⟨t, 0, none⟩)] w fun e w' => e = .returned (.int .i64 (cnt7 M : Nat)) ∧ Below w.heap.size w w' := by
  have HT := Lib.hid (tables_of a (tells_open a T.tbl) (trav_len M 0))
  have hc := stems_cnt M
  go_enter Tryd.func29, Tryd.ntmps29
  go_wp2_with (go_at_call 46; refine HT.out.mono ?_; rintro e v1 ⟨v, rfl, ho, hb⟩; obtain ⟨A', c', rfl⟩ := own_sl7 ho; have HB := Lib.hid hb; clear ho hb)
  go_ret
  exact ⟨by rw [← hc]; rfl, HB.out⟩
theorem tnodes_none (a : Option Addr) (w : World) (hC : Hid (Calls Tryd.prog 58 #[.pointer a] w fun e w' => e = .returned (.bool true) ∧ w = w')) :
    Calls Tryd.prog 29 #[.pointer a] w fun e w' => e = .returned (.int .i64 0) ∧ w = w' := by
  have HT := Lib.hid (tables_none a w hC)
  go_enter Tryd.func29, Tryd.ntmps29
  go_wp2_with (go_at_call 46; refine HT.out.mono ?_; rintro e v1 ⟨rfl, rfl⟩)
  go_ret
  exact ⟨rfl, rfl⟩

/-- What All tells of a table. -/
noncomputable def spots7 (M : Nat → Sl) (F : Nat → Nat → Nat) : List Value := ((pagesF M 0).map fun p => (4, p)).flatMap (spotL M F)
/-- What Close leaves. -/
def Closed7 (w : World) (t p h g : Nat) (X : Pol) (M : Nat → Sl) (F : Nat → Nat → Nat) (R : Nat → Int) (e : Ending) (w' : World) : Prop :=
  ∃ v, e = .returned v ∧ w'.ownsRow w.heap.size 47 6 v (pagesF M 0).length (spots7 M F) ∧ But (fun j => j = t ∨ j = h) w w' ∧ Blk w' t 63 #[.pointer none, .int .i64 0] ∧
    ∃ Y, Pl w' p h g Y ∧ Y.H.length = X.H.length ∧ (∀ f, f < X.H.length → Y.H.getD f 0 = R f) ∧ Tab w'
theorem drop_succ_cons {α : Type} {l : List α} {k : Nat} (hk : k < l.length) : l.drop k = l[k] :: l.drop (k + 1) := List.drop_eq_getElem_cons hk
/-- A table's frame is given back. -/
theorem close_call {W : World} {t p h g : Nat} {Y : Pol} {root : Int} {R : Nat → Int} {RS : Nat → ByteArray} {F : Nat → Nat → Nat} {E : Nat → Nat → Sl} {ns : List (Nat × Nat)} {k : Nat} (a : Td W t p h g Y root) (L : Lay Y R RS F (fun i q => (i, q) ∈ ns.drop k) E) (hk : k < ns.length) (hn : ns.Nodup) (h4 : ∀ x ∈ ns, x.1 < 4) :
    Calls Tryd.prog 48 #[.pointer (some ⟨p, 0, none⟩), .int .i64 (F ns[k].1 ns[k].2 : Nat)] W fun e w' => e = .returned (.int .i64 0) ∧ But (· = h) W w' ∧ ∃ Z, Td w' t p h g Z root ∧ Lay Z R RS F (fun i q => (i, q) ∈ ns.drop (k + 1)) E ∧ Z.H.length = Y.H.length := by
  have hin : (ns[k].1, ns[k].2) ∈ ns.drop k := by rw [drop_succ_cons hk]; exact List.mem_cons_self ..
  have hi : ns[k].1 < 4 := h4 _ (List.getElem_mem hk)
  have e := addX_drop (L.lt _ _ hi hin) (L.one _ _ hi hin)
  have hnd : (ns.drop k).Nodup := List.Nodup.sublist (List.drop_sublist ..) hn
  rw [drop_succ_cons hk, List.nodup_cons] at hnd
  refine (pdrop_any a.pl _).mono ?_
  rintro e' w' ⟨he, hb, hp⟩
  rw [e.2] at he
  refine ⟨he, hb, _, a.buth hb hp, ?_, by rw [e.1]; simp [Pol.drF]⟩
  rw [e.1]
  refine (L.drop hi hin).congr (fun j r hj => ?_) (fun _ _ _ => rfl) (fun _ _ _ _ => rfl)
  rw [drop_succ_cons hk, List.mem_cons]
  constructor
  · intro h
    refine ⟨.inr h, ?_⟩
    rintro ⟨e1, e2⟩
    exact hnd.1 (by rw [e1, e2] at h; exact h)
  · rintro ⟨h | h, hne⟩
    · exact absurd ⟨congrArg Prod.fst h, congrArg Prod.snd h⟩ hne
    · exact h

set_option maxRecDepth 100000 in
set_option maxHeartbeats 1600000 in
theorem tclose_any {w : World} {t p h g : Nat} {X : Pol} {root : Nat} {M : Nat → Sl} {F : Nat → Nat → Nat} {R : Nat → Int} {RS : Nat → ByteArray} (a : Td w t p h g X (root : Nat)) (T : Own7 X root M F R RS) :
    Calls Tryd.prog 31 #[.pointer (some ⟨t, 0, none⟩)] w (Closed7 w t p h g X M F R) := by
  have hal := all_of (tells_open a T.tbl) (trav_len M 0)
  rw [leafs_trav] at hal
  have HAL := Lib.hid hal
  have HTB := Lib.hid (fun (W : World) (b : Td W t p h g X (root : Nat)) => tables_of b (tells_open b T.tbl) (trav_len M 0))
  have hnl := nodeL_eq T.ents T.root
  have hlen := stems_cnt M
  have hnn := nodes7_nodup T.ents
  have hn4 := fun x (hx : x ∈ nodes7 M) => nodes7_lt T.ents hx
  have hlay : Lay X R RS F (fun i q => (i, q) ∈ (nodes7 M).drop 0) (ent M F) := T.lay.congr (fun i q hi => mem_nodes7 T.ents hi) (fun _ _ _ => rfl) (fun _ _ _ _ => rfl)
  have hcl := nodes7_len M
  unfold AllTold at HAL
  unfold NodesTold at HTB
  rw [hnl, hlen, ← hcl] at HTB
  have hbig : (nodes7 M).length ≤ 10000 := by
    rw [hcl]
    have := lvN_le M 1
    have := lvN_le M 2
    have := lvN_le M 3
    unfold cnt7
    omega
  have hn0 : 0 < (nodes7 M).length := by rw [hcl]; exact cnt7_pos M
  generalize hns : nodes7 M = ns at *
  have HN := Lib.hid (And.intro hnn (And.intro hn4 hlay))
  have HA := Lib.hid a
  have hlts := Lib.hid a.lts
  clear hal hnl hlen hnn hn4 hlay hcl hns a
  rw [List.length_map] at HAL
  go_enter Tryd.func31, Tryd.ntmps31
  go_wp2_with (first
    | (go_at_call 28; refine HAL.out.mono ?_; rintro e v1 ⟨v, rfl, ho, hb⟩; obtain ⟨A', c', rfl⟩ := own_sl7 ho
       have HO := Lib.hid ho; have HB := Lib.hid hb; have HA1 := Lib.hid (HA.out.on hb); clear ho hb)
    | (go_at_call 46; refine (HTB.out _ HA1.out).mono ?_; rintro e v2 ⟨u, rfl, ho, hb⟩; obtain ⟨g2, c2, rfl⟩ := ownsRow_form7 ho hn0
       have HO2 := Lib.hid (own_below HO.out hb); have HN2 := Lib.hid ho; have HB2 := Lib.hid (HB.out.trans (hb.mono HB.out.size)); have HA2 := Lib.hid (HA1.out.on hb); clear ho hb))
  go_loopw [11] (fun ii wr => ∃ (k : Nat) (Y : Pol), k ≤ ns.length ∧ ii = .int .i64 k ∧ Lay Y R RS F (fun i q => (i, q) ∈ ns.drop k) (ent M F) ∧ Td wr t p h g Y (root : Nat) ∧ Y.H.length = X.H.length ∧ But (· = h) v2 wr) (fun ii _ => ns.length - (intOf ii).toNat)
  case atStart => exact ⟨0, X, Nat.zero_le _, rfl, HN.out.2.2, HA2.out, rfl, But.refl _ _⟩
  case round =>
    obtain ⟨k, Y, hkn, rfl, hL, hT, hl, hb⟩ := hrel
    by_cases hlt : k < ns.length
    · have hcd := close_call hT hL hlt HN.out.1 HN.out.2.1
      have hrow := own_but7 HN2.out hb (fun j hj e => by have := hlts.out; have := HB.out.size; omega)
      have x0 := hrow.cellAt k (by rw [Nat.mul_one]; exact hlt)
      rw [List.getElem?_map, List.getElem?_eq_getElem hlt] at x0
      simp only [Option.map_some] at x0
      have x1 := hT.head.at_ 0 _ rfl
      have HCD := Lib.hid hcd
      have HW := Lib.hid (And.intro hb hl)
      have hk8 : (k : Int) < (ns.length : Int) := by omega
      clear hcd hrow hL hT hl hb
      generalize ((F ns[k].1 ns[k].2 : Nat) : Int) = Z at *
      go_wp2_with (go_at_call 48; refine HCD.out.mono ?_; rintro e v3 ⟨rfl, hb3, Z3, hT3, hL3, hl3⟩; have HX := Lib.hid (And.intro hb3 (And.intro hT3 (And.intro hL3 hl3))); clear hb3 hT3 hL3 hl3)
      go_roundw
      case rel => exact ⟨k + 1, Z3, by omega, by go_num, HX.out.2.2.1, HX.out.2.1, HX.out.2.2.2.trans HW.out.2, HW.out.1.trans HX.out.1⟩
      case measure => simp [intOf]; omega
    · obtain rfl : k = ns.length := by omega
      have hw : Blk wr t 63 #[.pointer (some ⟨p, 0, none⟩), .int .i64 (root : Nat)] := hT.head
      have x0 := hw.at_ 0 _ rfl
      have x1 := hw.at_ 1 _ rfl
      have f0 := hw.frozen 0
      have f1 := hw.frozen 1
      have hs2 : Blk _ _ _ #[.pointer none, .int .i64 0] := (hw.set_ 0 (.pointer none)).set_ 1 (.int .i64 0)
      have hl2 := hlts.out
      have hpl := (hT.pl.far (q := ⟨t, 0, none⟩) (Ne.symm hT.tp) (Ne.symm hT.th) (Ne.symm hT.tg) (.pointer none)).far (q := ⟨t, 1, none⟩) (Ne.symm hT.tp) (Ne.symm hT.th) (Ne.symm hT.tg) (.int .i64 0)
      have htw : t ≠ 0 := fun e => by
        have h0 := hT.tab 0 (by omega)
        have x2 := x0
        rw [e] at x2
        rw [x2] at h0
        cases h0
      have hbt := ((But.refl (· = t) wr).setCell (p := ⟨t, 0, none⟩) (.inl rfl) (.pointer none)).setCell (p := ⟨t, 1, none⟩) (.inl rfl) (.int .i64 0)
      have htb := hT.tab.but hbt (fun e => htw e.symm)
      have hO := own_but7 (own_but7 HO2.out hb (fun j hj e => by omega)) hbt (fun j hj e => by omega)
      have hB := ((But.of_below (S := fun j => j = t ∨ j = h) HB2.out).trans (hb.mono fun _ e => .inr e)).trans (hbt.mono fun _ e => .inl e)
      have hfr : ∀ f, f < X.H.length → Y.H.getD f 0 = R f := fun f hf => hL.rest f (by rw [hl]; exact hf) fun i q hi hq => by simp at hq
      have HF := Lib.hid (And.intro hO (And.intro hB (And.intro hs2 (And.intro hpl (And.intro hl (And.intro hfr htb))))))
      clear hw hs2 hpl hbt htb hO hB hfr hL hT hl hb hl2
      go_wp2
      go_ret
      exact ⟨_, rfl, HF.out.1, HF.out.2.1, HF.out.2.2.1, Y, HF.out.2.2.2⟩

theorem tclose_none (w : World) : Calls Tryd.prog 31 #[.pointer none] w fun e w' => (∃ A c, e = .returned (.slice A 0 c)) ∧ Below w.heap.size w w' := by
  have HAL := Lib.hid (all_of (tells_nil w 0 (fun _ => Sl.zero) (fun _ _ => 0)) (Nat.zero_le _))
  have HTB := Lib.hid (fun W : World => tables_none none W (Lib.hid (closed_nil W)))
  unfold AllTold at HAL
  go_enter Tryd.func31, Tryd.ntmps31
  go_wp2_with (first
    | (go_at_call 28; refine HAL.out.mono ?_; rintro e v1 ⟨v, rfl, ho, hb⟩; obtain ⟨A', c', rfl⟩ := own_sl7 ho; have HB := Lib.hid hb; clear ho hb)
    | (go_at_call 46; refine (HTB.out _).mono ?_; rintro e v2 ⟨rfl, rfl⟩))
  go_loopw [11] (fun ii wr => ii = .int .i64 0 ∧ wr = v1) (fun _ _ => 0)
  case atStart => exact ⟨rfl, rfl⟩
  case round =>
    obtain ⟨rfl, rfl⟩ := hrel
    go_wp2
    go_ret
    exact ⟨⟨_, _, rfl⟩, HB.out⟩
theorem tclose_zero {w : World} {t : Nat} (hc : Blk w t 63 #[.pointer none, .int .i64 0]) : Calls Tryd.prog 31 #[.pointer (some ⟨t, 0, none⟩)] w fun e w' => (∃ A c, e = .returned (.slice A 0 c)) ∧ But (· = t) w w' ∧ Blk w' t 63 #[.pointer none, .int .i64 0] := by
  have HAL := Lib.hid (all_of (tells_zero hc 0 (fun _ => Sl.zero) (fun _ _ => 0)) (Nat.zero_le _))
  have HTB := Lib.hid (fun (W : World) (hb : Below w.heap.size w W) => tables_none (some ⟨t, 0, none⟩) W (Lib.hid (closed_zero t W ((hc.below hb hc.lt).at_ 0 _ rfl))))
  have HC := Lib.hid hc
  unfold AllTold at HAL
  clear hc
  go_enter Tryd.func31, Tryd.ntmps31
  go_wp2_with (first
    | (go_at_call 28; refine HAL.out.mono ?_; rintro e v1 ⟨v, rfl, ho, hb⟩; obtain ⟨A', c', rfl⟩ := own_sl7 ho; have HB := Lib.hid hb; clear ho hb)
    | (go_at_call 46; refine (HTB.out _ HB.out).mono ?_; rintro e v2 ⟨rfl, rfl⟩))
  go_loopw [11] (fun ii wr => ii = .int .i64 0 ∧ wr = v1) (fun _ _ => 0)
  case atStart => exact ⟨rfl, rfl⟩
  case round =>
    obtain ⟨rfl, rfl⟩ := hrel
    have hw := HC.out.below HB.out HC.out.lt
    have x0 := hw.at_ 0 _ rfl
    have x1 := hw.at_ 1 _ rfl
    have f0 := hw.frozen 0
    have f1 := hw.frozen 1
    have hs2 : Blk _ _ _ #[.pointer none, .int .i64 0] := (hw.set_ 0 (.pointer none)).set_ 1 (.int .i64 0)
    have hbt := ((But.of_below (S := (· = t)) HB.out).setCell (p := ⟨t, 0, none⟩) (.inl rfl) (.pointer none)).setCell (p := ⟨t, 1, none⟩) (.inl rfl) (.int .i64 0)
    have HF := Lib.hid (And.intro hbt hs2)
    clear hw hs2 hbt
    go_wp2
    go_ret
    exact ⟨⟨_, _, rfl⟩, HF.out.1, HF.out.2⟩
end Go.Proofs.YtbidlabhekiijaaDoor

/- Layer 7: what the laws share: a table and a pool of the law's own, its calls. -/
namespace Go.Proofs.YtbidlabhekiijaaDoor
open Go.RowKit
set_option linter.unusedVariables false
set_option linter.unusedSimpArgs false

/-- A page's spot. -/
def spotP (M : Nat → Sl) (p : Nat) : List Value := [.int .i64 (p : Nat), .bool (M p).h, .bool (M p).w, .bool (M p).c, .bool (M p).o, .int .i64 (M p).n]
theorem spotL_page (M : Nat → Sl) (F : Nat → Nat → Nat) (p : Nat) : spotL M F (4, p) = spotP M p := by
  unfold spotL spotP
  simp only [ent_page, Nat.sub_self, Nat.pow_zero, Nat.mul_one]
noncomputable def spots8 (M : Nat → Sl) : List Value := (pagesF M 0).flatMap (spotP M)
theorem spots7_eq (M : Nat → Sl) (F : Nat → Nat → Nat) : spots7 M F = spots8 M := by
  unfold spots7 spots8
  rw [List.flatMap_map]
  congr 1
  funext p
  exact spotL_page M F p
/-- What From tells. -/
noncomputable def frC (M : Nat → Sl) (pg : Int) : Array Value := match pagesF M pg with | [] => zspot | p :: _ => (spotP M p).toArray
noncomputable def frB (M : Nat → Sl) (pg : Int) : Bool := match pagesF M pg with | [] => false | _ :: _ => true
theorem fromC_eq (M : Nat → Sl) (F : Nat → Nat → Nat) (pg : Int) : fromC M F (leafs (trav M pg 4 0 0)) = frC M pg ∧ fromB (leafs (trav M pg 4 0 0)) = frB M pg := by
  rw [leafs_trav]
  unfold frC frB
  cases pagesF M pg with
  | nil => exact ⟨rfl, rfl⟩
  | cons p l =>
    refine ⟨?_, rfl⟩
    show (spotL M F (4, p)).toArray = _
    rw [spotL_page]

/-- A table with these entries, and its pool of N frames, of the law's own, made where w stood; nothing of w has turned. -/
structure Tw (w cur : World) (t p h g N : Nat) (M : Nat → Sl) : Prop where
  wt : w.heap.size ≤ t
  wp : w.heap.size ≤ p
  wh : w.heap.size ≤ h
  wg : w.heap.size ≤ g
  bel : Below w.heap.size w cur
  pos : 0 < w.heap.size
  ex : ∃ (X : Pol) (root : Nat) (F : Nat → Nat → Nat) (RS : Nat → ByteArray), Td cur t p h g X (root : Nat) ∧ Own7 X root M F (fun _ => 0) RS ∧ X.H.length = N
section
variable {w cur nxt : World} {t p h g N : Nat} {M : Nat → Sl}
theorem Tw.ents (s : Tw w cur t p h g N M) : Ents M := by
  obtain ⟨X, root, F, RS, a, T, hl⟩ := s.ex
  exact T.ents
theorem Tw.cnt (s : Tw w cur t p h g N M) : cnt7 M ≤ N := by
  obtain ⟨X, root, F, RS, a, T, hl⟩ := s.ex
  have := T.free
  omega
theorem Tw.tab (s : Tw w cur t p h g N M) : Tab cur := by
  obtain ⟨X, root, F, RS, a, T, hl⟩ := s.ex
  exact a.tab
theorem Tw.lts (s : Tw w cur t p h g N M) : t < cur.heap.size ∧ p < cur.heap.size ∧ h < cur.heap.size ∧ g < cur.heap.size := by
  obtain ⟨X, root, F, RS, a, T, hl⟩ := s.ex
  have := a.lts
  exact ⟨this.1, this.2.1, this.2.2.1, this.2.2.2.1⟩
theorem Tw.on (s : Tw w cur t p h g N M) (hb : Below cur.heap.size cur nxt) : Tw w nxt t p h g N M := by
  obtain ⟨X, root, F, RS, a, T, hl⟩ := s.ex
  exact ⟨s.wt, s.wp, s.wh, s.wg, s.bel.trans (hb.mono s.bel.size), s.pos, X, root, F, RS, a.on hb, T, hl⟩
theorem Tw.thru {S : Nat → Prop} (s : Tw w cur t p h g N M) (hb : But S cur nxt) (hS : ∀ j, S j → w.heap.size ≤ j ∧ j ≠ t ∧ j ≠ p ∧ j ≠ h ∧ j ≠ g) : Tw w nxt t p h g N M := by
  obtain ⟨X, root, F, RS, a, T, hl⟩ := s.ex
  refine ⟨s.wt, s.wp, s.wh, s.wg, s.bel.trans (hb.below s.bel.size fun j hj => (hS j hj).1), s.pos, X, root, F, RS, a.thru hb ?_ ?_ ?_ ?_ ?_, T, hl⟩
  · intro h; exact (hS _ h).2.1 rfl
  · intro h; exact (hS _ h).2.2.1 rfl
  · intro h; exact (hS _ h).2.2.2.1 rfl
  · intro h; exact (hS _ h).2.2.2.2 rfl
  · intro h; have := (hS _ h).1; have := s.pos; omega
theorem Tw.drewN (s : Tw w cur t p h g N M) (n : Nat) : Tw w (cur.drewN n) t p h g N M := by
  obtain ⟨X, root, F, RS, a, T, hl⟩ := s.ex
  exact ⟨s.wt, s.wp, s.wh, s.wg, Below.drewN s.bel n, s.pos, X, root, F, RS, a.drewN n, T, hl⟩
theorem Tw.drew (s : Tw w cur t p h g N M) : Tw w cur.drew t p h g N M := s.drewN 1
theorem Tw.alloc (s : Tw w cur t p h g N M) (o : Obj) : Tw w (cur.alloc o) t p h g N M := s.on ((Below.refl _ _).alloc (Nat.le_refl _) o)
end

theorem Ents.none : Ents (fun _ => Sl.zero) := ⟨fun _ => .inl rfl, fun _ _ => rfl⟩
theorem live_none {i q : Nat} : ¬ live (fun _ => Sl.zero) i q := fun ⟨p, _, h⟩ => h rfl
theorem own7_new {N : Nat} (hN : 1 ≤ N) : Own7 (newP N).tkX 0 (fun _ => Sl.zero) (updF (fun _ _ => 0) 0 0 0) (fun _ => 0) (fun _ => ⟨#[]⟩) ∧ freeAt (newP N).H = 0 ∧ (newP N).tkX.H.length = N := by
  have h0 : freeAt (newP N).H = 0 := by
    obtain ⟨n, rfl⟩ : ∃ n, N = n + 1 := ⟨N - 1, by omega⟩
    unfold newP
    rw [List.replicate_succ]
    simp [freeAt]
  have hl : (newP N).H.length = N := by simp [newP]
  have hd : ∀ f, f < N → (newP N).H.getD f 0 = 0 := fun f hf => by simp [newP, List.getD, hf]
  have hX : (newP N).tkX = (newP N).taF 0 := by
    unfold Pol.tkX Pol.taF
    rw [h0, if_pos (by rw [hl]; omega)]
  have hft : Fit (newP N) := ⟨newP_all N, by simp [newP]⟩
  have hL : Lay (newP N) (fun _ => 0) (fun _ => ⟨#[]⟩) (fun _ _ => 0) (fun _ _ => False) (ent (fun _ => Sl.zero) (fun _ _ => 0)) :=
    ⟨fun _ _ _ h => h.elim, fun _ _ _ h => h.elim, fun _ _ _ _ _ _ h => h.elim, fun _ _ _ _ h => h.elim, fun _ _ _ h => h.elim, fun f hf _ => hd f (by rw [hl] at hf; exact hf), fun _ _ h => absurd rfl h⟩
  have ht := hL.take hft (f := 0) (i := 0) (q := 0) (by rw [hl]; omega) (hd 0 (by omega)) (by omega) (fun h => h) (fun d hd => ent_dead (by omega) live_none)
  refine ⟨⟨Ents.none, by unfold updF; rw [if_pos ⟨rfl, rfl⟩], ?_⟩, h0, ?_⟩
  · rw [hX]
    refine ht.congr (fun i q hi => ?_) (fun i q hi => ?_) (fun _ _ _ _ => rfl)
    · exact ⟨fun h => .inr (h.resolve_right live_none), fun h => .inl (h.resolve_left id)⟩
    · by_cases h4 : i + 1 = 4
      · rw [h4, ent_page, ent_page]
      · rw [ent_dead (by omega) live_none, ent_dead (by omega) live_none]
  · rw [hX]; simp [Pol.taF, newP]

/-- A table is made in a pool of the law's own. -/
def TwMade (w : World) (p h g N : Nat) (e : Ending) (w' : World) : Prop := ∃ t, e = .returned (.tuple #[.pointer (some ⟨t, 0, none⟩), .int .i64 0]) ∧ Tw w w' t p h g N (fun _ => Sl.zero)
theorem tw_new {w v : World} {p h g N : Nat} (hN : 1 ≤ N) (s : Pw w v p h g (newP N)) : Calls Tryd.prog 17 #[.pointer (some ⟨p, 0, none⟩)] v (TwMade w p h g N) := by
  obtain ⟨h1, h2, h3⟩ := own7_new hN
  have hl : (newP N).H.length = N := by simp [newP]
  refine (rnew_made s.pl s.tab (by have := s.wh; have := s.pos; omega) (by have := s.wg; have := s.pos; omega) (by rw [h2, hl]; omega)).mono ?_
  rintro e v' ⟨t, he, ht, hb, ha⟩
  rw [h2] at ha
  refine ⟨t, he, Nat.le_trans s.bel.size ht, s.wp, s.wh, s.wg, s.bel.trans (hb.below s.bel.size fun j hj => ?_), s.pos, _, 0, _, _, ha, h1, h3⟩
  have := s.wh
  have := s.wg
  rcases hj with e | e <;> omega
/-- What Set tells; the entries behind it; what Drop leaves. -/
noncomputable def stE7 (M : Nat → Sl) (N : Nat) (pg : Int) (s : Sl) : Int := stE' M (N - cnt7 M) pg s
noncomputable def stM7 (M : Nat → Sl) (N : Nat) (pg : Int) (s : Sl) : Nat → Sl := stM' M (N - cnt7 M) pg s
noncomputable def drM7 (M : Nat → Sl) (pg : Int) : Nat → Sl := if gtE' M pg = 0 then setM M pg.toNat Sl.zero else M
section
variable {w v : World} {t p h g N : Nat} {M : Nat → Sl}
theorem tw_set (s : Tw w v t p h g N M) (pg : Int) (x : Sl) : Calls Tryd.prog 24 #[.pointer (some ⟨t, 0, none⟩), .int .i64 pg, x.v] v fun e v' =>
    e = .returned (.int .i64 (stE7 M N pg x)) ∧ Tw w v' t p h g N (stM7 M N pg x) ∧ But (fun j => j = h ∨ j = g) v v' := by
  obtain ⟨X, root, F, RS, a, T, hl⟩ := s.ex
  have hf := T.free
  have e1 : freeN X.H = N - cnt7 M := by omega
  refine (tset_any a T pg x).mono ?_
  rintro e v' ⟨he, hb, Y, G, hY, hlY, hT⟩
  rw [e1] at he hT
  exact ⟨he, ⟨s.wt, s.wp, s.wh, s.wg, s.bel.trans (hb.below s.bel.size fun j hj => by have := s.wh; have := s.wg; omega), s.pos, Y, root, G, RS, hY, hT, by omega⟩, hb⟩
theorem tw_drop (s : Tw w v t p h g N M) (pg : Int) : Calls Tryd.prog 19 #[.pointer (some ⟨t, 0, none⟩), .int .i64 pg] v fun e v' =>
    e = .returned (.tuple #[(gtS' M pg).v, .int .i64 (gtE' M pg)]) ∧ Tw w v' t p h g N (drM7 M pg) ∧ But (fun j => j = h ∨ j = g) v v' := by
  obtain ⟨X, root, F, RS, a, T, hl⟩ := s.ex
  refine (tdrop_any a T pg).mono ?_
  rintro e v' ⟨he, hb, Y, G, hY, hlY, hT⟩
  exact ⟨he, ⟨s.wt, s.wp, s.wh, s.wg, s.bel.trans (hb.below s.bel.size fun j hj => by have := s.wh; have := s.wg; omega), s.pos, Y, root, G, RS, hY, hT, by omega⟩, hb⟩
theorem tw_get (s : Tw w v t p h g N M) (pg : Int) : Calls Tryd.prog 21 #[.pointer (some ⟨t, 0, none⟩), .int .i64 pg] v fun e v' =>
    e = .returned (.tuple #[(gtS' M pg).v, .int .i64 (gtE' M pg)]) ∧ Below v.heap.size v v' := by
  obtain ⟨X, root, F, RS, a, T, hl⟩ := s.ex
  exact tget_any a T.tbl pg
theorem tw_nodes (s : Tw w v t p h g N M) : Calls Tryd.prog 29 #[.pointer (some ⟨t, 0, none⟩)] v fun e v' => e = .returned (.int .i64 (cnt7 M : Nat)) ∧ Below v.heap.size v v' := by
  obtain ⟨X, root, F, RS, a, T, hl⟩ := s.ex
  exact tnodes_any a T
/-- What All tells. -/
def AllT (w : World) (M : Nat → Sl) (e : Ending) (w' : World) : Prop := ∃ v, e = .returned v ∧ w'.ownsRow w.heap.size 47 6 v (pagesF M 0).length (spots8 M) ∧ Below w.heap.size w w'
theorem tw_all (s : Tw w v t p h g N M) : Calls Tryd.prog 28 #[.pointer (some ⟨t, 0, none⟩)] v (AllT v M) := by
  obtain ⟨X, root, F, RS, a, T, hl⟩ := s.ex
  refine (all_of (tells_open a T.tbl) (trav_len M 0)).mono ?_
  rintro e v' ⟨u, he, ho, hb⟩
  rw [leafs_trav, List.length_map] at ho
  rw [show ((pagesF M 0).map fun p => (4, p)).flatMap (spotL M F) = spots8 M from spots7_eq M F] at ho
  exact ⟨u, he, ho, hb⟩
theorem tw_from (s : Tw w v t p h g N M) (pg : Int) (hpg : -9223372036854775808 ≤ pg ∧ pg < 9223372036854775808) : Calls Tryd.prog 23 #[.pointer (some ⟨t, 0, none⟩), .int .i64 pg] v fun e v' =>
    e = .returned (.tuple #[.agg (frC M pg), .bool (frB M pg)]) ∧ Below v.heap.size v v' := by
  obtain ⟨X, root, F, RS, a, T, hl⟩ := s.ex
  have h := from_of (tells_open a T.tbl) pg hpg
  rw [(fromC_eq M F pg).1, (fromC_eq M F pg).2] at h
  exact h
/-- What Close leaves. -/
def ClosedT (w v : World) (t p h g N : Nat) (M : Nat → Sl) (e : Ending) (v' : World) : Prop :=
  ∃ u, e = .returned u ∧ v'.ownsRow v.heap.size 47 6 u (pagesF M 0).length (spots8 M) ∧ But (fun j => j = t ∨ j = h) v v' ∧ Blk v' t 63 #[.pointer none, .int .i64 0] ∧ ∃ Y, Pw w v' p h g Y ∧ freeN Y.H = N
theorem tw_close (s : Tw w v t p h g N M) : Calls Tryd.prog 31 #[.pointer (some ⟨t, 0, none⟩)] v (ClosedT w v t p h g N M) := by
  obtain ⟨X, root, F, RS, a, T, hl⟩ := s.ex
  refine (tclose_any a T).mono ?_
  rintro e v' ⟨u, he, ho, hb, hk, Y, hY, hlY, hz, hT⟩
  rw [spots7_eq] at ho
  refine ⟨u, he, ho, hb, hk, Y, ⟨s.wp, s.wh, s.wg, s.bel.trans (hb.below s.bel.size fun j hj => by have := s.wt; have := s.wh; omega), hY, hT, s.pos⟩, ?_⟩
  rw [freeN_all fun f hf => hz f (by omega)]
  omega
theorem tw_free (s : Tw w v t p h g N M) : Calls Tryd.prog 30 #[.pointer (some ⟨p, 0, none⟩)] v fun e v' => e = .returned (.int .i64 (N - cnt7 M : Nat)) ∧ v = v' := by
  obtain ⟨X, root, F, RS, a, T, hl⟩ := s.ex
  have hf := T.free
  rw [show N - cnt7 M = freeN X.H by omega]
  exact (pfreeN_any a.pl).mono fun e v' ⟨he, hw⟩ => ⟨he, hw⟩
theorem pw_free {w v : World} {p h g : Nat} {X : Pol} (s : Pw w v p h g X) : Calls Tryd.prog 30 #[.pointer (some ⟨p, 0, none⟩)] v fun e v' => e = .returned (.int .i64 (freeN X.H)) ∧ v = v' := pfreeN_any s.pl
end
end Go.Proofs.YtbidlabhekiijaaDoor

/- Layer 7: awake. -/
namespace Go.Proofs.YtbidlabhekiijaaDoor
open Go.RowKit
set_option linter.unusedVariables false
set_option linter.unusedSimpArgs false

theorem Tw.sl {w cur : World} {t p h g N : Nat} {M : Nat → Sl} (s : Tw w cur t p h g N M) {b : Nat} (hb : w.heap.size ≤ b ∧ b ≠ t ∧ b ≠ p ∧ b ≠ h ∧ b ≠ g) (x : Sl) : Tw w (((((cur.setCell ⟨b, 0, none⟩ (.bool x.h)).setCell ⟨b, 1, none⟩ (.bool x.w)).setCell ⟨b, 2, none⟩ (.bool x.c)).setCell ⟨b, 3, none⟩ (.bool x.o)).setCell ⟨b, 4, none⟩ (.int .i64 x.n)) t p h g N M :=
  s.thru (S := (· = b)) (sl_set_but (But.refl (· = b) cur) (.inl rfl) x) (fun j e => by subst e; exact hb)

abbrev m0 : Nat → Sl := fun _ => Sl.zero
theorem kn_one {M : Nat → Sl} {P : Nat} (h : ¬ live M 1 (pre P 1)) : kn M P = 1 := by unfold kn; rw [if_neg h]
theorem cnt_first {P : Nat} (hP : P < 4096) {s : Sl} (hs : s ≠ Sl.zero) : cnt7 (setM m0 P s) = 4 := by
  rw [cnt7_set hP hs, cnt7_zero, kn_one live_none]
theorem setM_zero {M : Nat → Sl} {P : Nat} {s : Sl} (h : M P = Sl.zero) : setM (setM M P s) P Sl.zero = M := by
  funext p
  unfold setM
  by_cases hp : p = P
  · rw [if_pos hp, hp, h]
  · rw [if_neg hp, if_neg hp]
theorem setM_comm {M : Nat → Sl} {P Q : Nat} {s r : Sl} (h : P ≠ Q) : setM (setM M P s) Q r = setM (setM M Q r) P s := by
  funext p
  unfold setM
  by_cases hp : p = P
  · subst hp
    rw [if_neg h, if_pos rfl, if_pos rfl]
  · by_cases hq : p = Q <;> simp [hp, hq]
    intro e
    exact absurd e.symm h
theorem stE7_ok {M : Nat → Sl} {N P : Nat} {s : Sl} (hP : P < 4096) (hs : s.may = true) (h : 4 - kn M P ≤ N - cnt7 M) : stE7 M N (P : Nat) s = 0 ∧ stM7 M N (P : Nat) s = setM M P s := by
  have e : stE7 M N (P : Nat) s = 0 := by
    unfold stE7 stE'
    rw [if_pos (by omega), if_pos hs, Int.toNat_natCast, if_pos h]
  refine ⟨e, ?_⟩
  unfold stM7 stM'
  unfold stE7 at e
  rw [if_pos e]
  rfl
theorem gt_page {M : Nat → Sl} {P : Nat} (hP : P < 4096) (hz : M P ≠ Sl.zero) : gtS' M (P : Nat) = M P ∧ gtE' M (P : Nat) = 0 ∧ drM7 M (P : Nat) = setM M P Sl.zero := by
  have e : gtE' M (P : Nat) = 0 := by unfold gtE'; rw [if_pos (by omega), if_neg (by simpa using hz)]
  refine ⟨by unfold gtS'; rw [if_pos (by omega)]; rfl, e, ?_⟩
  unfold drM7
  rw [if_pos e]
  rfl
theorem gt_none {M : Nat → Sl} {P : Nat} (hP : P < 4096) (hz : M P = Sl.zero) : gtS' M (P : Nat) = Sl.zero ∧ gtE' M (P : Nat) = 12 ∧ drM7 M (P : Nat) = M := by
  have e : gtE' M (P : Nat) = 12 := by unfold gtE'; rw [if_pos (by omega), if_pos (by simpa using hz)]
  refine ⟨by unfold gtS'; rw [if_pos (by omega)]; exact hz, e, ?_⟩
  unfold drM7
  rw [if_neg (by rw [e]; decide)]

def slA : Sl := ⟨true, false, false, false, 9⟩
def slB : Sl := ⟨false, false, false, true, 3⟩
set_option maxRecDepth 100000 in
set_option maxHeartbeats 1600000 in
theorem awake7_any (w : World) (hT : Tab w) : Calls Tryd.prog 10 #[] w fun e w' => e = .returned (.bool true) ∧ Below w.heap.size w w' := by
  have ha : slA ≠ Sl.zero := Sl.may_ne (by decide)
  have hb : slB ≠ Sl.zero := Sl.may_ne (by decide)
  have hd : ¬ live (setM m0 0 slA) 1 (pre 4095 1) := fun h => live_none ((live_other (M := m0) (P := 0) (i := 1) (s := slA) (q := pre 4095 1) (by decide)).1 h)
  have c1 : cnt7 (setM m0 0 slA) = 4 := cnt_first (by omega) ha
  have c2 : cnt7 (setM (setM m0 0 slA) 4095 slB) = 7 := by rw [cnt7_set (by omega) hb, c1, kn_one hd]
  have c3 : setM (setM (setM m0 0 slA) 4095 slB) 0 Sl.zero = setM m0 4095 slB := by
    rw [setM_comm (M := m0) (by decide), setM_zero (by unfold setM; rw [if_neg (by decide)])]
  have c4 : cnt7 (setM m0 4095 slB) = 4 := cnt_first (by omega) hb
  have s1 := stE7_ok (M := m0) (N := 20) (P := 0) (s := slA) (by omega) (by decide) (by rw [cnt7_zero, kn_one live_none]; omega)
  have s2 := stE7_ok (M := setM m0 0 slA) (N := 20) (P := 4095) (s := slB) (by omega) (by decide) (by rw [c1, kn_one hd]; omega)
  have h0 : setM (setM m0 0 slA) 4095 slB 0 = slA := by unfold setM; rw [if_neg (by decide), if_pos rfl]
  have g1 := gt_page (M := setM (setM m0 0 slA) 4095 slB) (P := 0) (by omega) (by rw [h0]; exact ha)
  rw [h0, c3] at g1
  have HN := Lib.hid (show Calls Tryd.prog 16 #[.int .i64 20] w _ from pw_new (Below.refl w.heap.size w) hT hT.pos 20 (by omega) (by omega))
  have HM := Lib.hid (fun (v : World) p h g (s : Pw w v p h g (newP 20)) => tw_new (N := 20) (by omega) s)
  have HA := Lib.hid (fun (v : World) t p h g (s : Tw w v t p h g 20 m0) => (show Calls Tryd.prog 24 #[.pointer (some ⟨t, 0, none⟩), .int .i64 0, slA.v] v _ from tw_set s (0 : Nat) slA).mono (R' := fun e v' => e = .returned (.int .i64 0) ∧ Tw w v' t p h g 20 (setM m0 0 slA)) fun e v' ⟨he, hs, _⟩ => ⟨by rw [he, s1.1], by rw [s1.2] at hs; exact hs⟩)
  have HB := Lib.hid (fun (v : World) t p h g (s : Tw w v t p h g 20 (setM m0 0 slA)) => (show Calls Tryd.prog 24 #[.pointer (some ⟨t, 0, none⟩), .int .i64 4095, slB.v] v _ from tw_set s (4095 : Nat) slB).mono (R' := fun e v' => e = .returned (.int .i64 0) ∧ Tw w v' t p h g 20 (setM (setM m0 0 slA) 4095 slB)) fun e v' ⟨he, hs, _⟩ => ⟨by rw [he, s2.1], by rw [s2.2] at hs; exact hs⟩)
  have HC := Lib.hid (fun (v : World) t p h g (s : Tw w v t p h g 20 (setM (setM m0 0 slA) 4095 slB)) => (tw_nodes s).mono (R' := fun e v' => e = .returned (.int .i64 7) ∧ Tw w v' t p h g 20 (setM (setM m0 0 slA) 4095 slB)) fun e v' ⟨he, hb⟩ => ⟨by rw [he, c2]; rfl, s.on hb⟩)
  have HD := Lib.hid (fun (v : World) t p h g (s : Tw w v t p h g 20 (setM (setM m0 0 slA) 4095 slB)) => (show Calls Tryd.prog 19 #[.pointer (some ⟨t, 0, none⟩), .int .i64 0] v _ from tw_drop s (0 : Nat)).mono (R' := fun e v' => e = .returned (.tuple #[slA.v, .int .i64 0]) ∧ Tw w v' t p h g 20 (setM m0 4095 slB)) fun e v' ⟨he, hs, _⟩ => ⟨by rw [he, g1.1, g1.2.1], by rw [g1.2.2] at hs; exact hs⟩)
  have HE := Lib.hid (fun (v : World) t p h g (s : Tw w v t p h g 20 (setM m0 4095 slB)) => (tw_nodes s).mono (R' := fun e v' => e = .returned (.int .i64 4) ∧ Below v.heap.size v v' ∧ Below w.heap.size w v') fun e v' ⟨he, hb⟩ => ⟨by rw [he, c4]; rfl, hb, (s.on hb).bel⟩)
  clear ha hb hd c1 c2 c3 c4 s1 s2 h0 g1 hT
  generalize setM m0 4095 slB = M3 at *
  generalize setM (setM m0 0 slA) 4095 slB = M2 at *
  generalize setM m0 0 slA = M1 at *
  unfold PwMade at HN
  unfold TwMade at HM
  unfold slA slB Sl.v at *
  simp only at *
  go_enter Tryd.func10, Tryd.ntmps10
  go_wp2_with (first
    | (go_at_call 16; refine HN.out.mono ?_; rintro e v1 ⟨p, h, g, rfl, hS⟩)
    | (go_at_call 17; refine (HM.out _ _ _ _ hS).mono ?_; rintro e v2 ⟨t, rfl, hS2⟩; clear hS)
    | (go_at_call 24; refine (HA.out _ _ _ _ _ hS2).mono ?_; rintro e v3 ⟨rfl, hS3⟩; clear hS2)
    | (go_at_call 24; refine (HB.out _ _ _ _ _ hS3).mono ?_; rintro e v4 ⟨rfl, hS4⟩; clear hS3)
    | (go_at_call 29; refine (HC.out _ _ _ _ _ hS4).mono ?_; rintro e v5 ⟨rfl, hS5⟩; clear hS4)
    | (go_at_call 19; refine (HD.out _ _ _ _ _ hS5).mono ?_; rintro e v6 ⟨rfl, hS6⟩
       have k0 := Blk.new v6 23 #[.bool true, .bool false, .bool false, .bool false, .int .i64 9]
       have hS7 := hS6.alloc (.cells #[.bool true, .bool false, .bool false, .bool false, .int .i64 9] 23)
       have HK := Lib.hid k0
       have HS7 := Lib.hid hS7
       clear hS5 hS6 k0 hS7)
    | (go_at_call 29; refine Hid.out ?_))
  refine Lib.hid ?_
  refine (HE.out _ _ _ _ _ HS7.out).mono ?_
  rintro e v8 ⟨rfl, hb8, hw8⟩
  have k8 := HK.out.below hb8 HK.out.lt
  have x0 := k8.at_ 0 _ rfl
  have x4 := k8.at_ 4 _ rfl
  clear hb8 k8
  go_wp2
  go_ret
  exact ⟨rfl, hw8⟩
end Go.Proofs.YtbidlabhekiijaaDoor
