/- Package fault: Steps. -/
import Derived.Test.YtdfokgfcohfgeaaDoorMB
import Derived.Maps.AppendAt
import Derived.Deep.CutRange
import Derived.Deep.CutBlock
namespace Go.Proofs.YtdfokgfcohfgeaaDoor
open Go.RowKit
set_option linter.unusedVariables false
set_option linter.unusedSimpArgs false

theorem sl_setM {w : World} {g : Nat} {t : TypeId} {c0 c1 c2 c3 c4 : Value} (h : Blk w g t #[c0, c1, c2, c3, c4]) (s : Sl) :
    Blk (((((w.setCell ⟨g, 0, none⟩ (.bool s.h)).setCell ⟨g, 1, none⟩ (.bool s.w)).setCell ⟨g, 2, none⟩ (.bool s.c)).setCell ⟨g, 3, none⟩ (.bool s.o)).setCell ⟨g, 4, none⟩ (.int .i64 s.n)) g t s.cs := by
  simpa [Sl.cs] using ((((h.set_ 0 (.bool s.h)).set_ 1 (.bool s.w)).set_ 2 (.bool s.c)).set_ 3 (.bool s.o)).set_ 4 (.int .i64 s.n)
theorem sl_set_belowM {B : Nat} {v w : World} {g : Nat} (h : Below B v w) (hg : B ≤ g) (s : Sl) :
    Below B v (((((w.setCell ⟨g, 0, none⟩ (.bool s.h)).setCell ⟨g, 1, none⟩ (.bool s.w)).setCell ⟨g, 2, none⟩ (.bool s.c)).setCell ⟨g, 3, none⟩ (.bool s.o)).setCell ⟨g, 4, none⟩ (.int .i64 s.n)) :=
  ((((h.setCell (p := ⟨g, 0, none⟩) hg _).setCell (p := ⟨g, 1, none⟩) hg _).setCell (p := ⟨g, 2, none⟩) hg _).setCell (p := ⟨g, 3, none⟩) hg _).setCell (p := ⟨g, 4, none⟩) hg _
theorem sl_set_farM {w : World} {b g : Nat} {t : TypeId} {cs : Array Value} (h : Blk w b t cs) (hg : b ≠ g) (s : Sl) :
    Blk (((((w.setCell ⟨g, 0, none⟩ (.bool s.h)).setCell ⟨g, 1, none⟩ (.bool s.w)).setCell ⟨g, 2, none⟩ (.bool s.c)).setCell ⟨g, 3, none⟩ (.bool s.o)).setCell ⟨g, 4, none⟩ (.int .i64 s.n)) b t cs :=
  ((((h.far (p := ⟨g, 0, none⟩) hg _).far (p := ⟨g, 1, none⟩) hg _).far (p := ⟨g, 2, none⟩) hg _).far (p := ⟨g, 3, none⟩) hg _).far (p := ⟨g, 4, none⟩) hg _
theorem sl_set_ownM {w : World} {B e size n : Nat} {v : Value} {xs : List Value} (h : w.ownsRow B e size v n xs) {g : Nat} (hg : g < B) (s : Sl) :
    (((((w.setCell ⟨g, 0, none⟩ (.bool s.h)).setCell ⟨g, 1, none⟩ (.bool s.w)).setCell ⟨g, 2, none⟩ (.bool s.c)).setCell ⟨g, 3, none⟩ (.bool s.o)).setCell ⟨g, 4, none⟩ (.int .i64 s.n)).ownsRow B e size v n xs :=
  ownsRow_setCell_below (ownsRow_setCell_below (ownsRow_setCell_below (ownsRow_setCell_below (ownsRow_setCell_below h hg _) hg _) hg _) hg _) hg _
theorem belowM {B : Nat} {a w : World} (h : Below B a w) (n : Nat) : Below B a (w.drewN n) := ⟨h.os, h.tape, h.output, h.size, h.block⟩
theorem infoIntM : (Tryd.prog.info? 3).map (fun i => (i.zero, i.size, i.bytes)) = some (some (.int .i64 0), 1, 8) := by kernel_rfl
theorem cell_oneM (w : World) (x : Value) (t : TypeId) : ∀ j u, [x][j]? = some u → (w.alloc (.cells #[x] t)).cell? ((⟨w.heap.size, 0, none⟩ : Addr).add j) = some u := fun j u hj => by
  have e : (⟨w.heap.size, 0, none⟩ : Addr).add j = ⟨w.heap.size, j, none⟩ := by unfold Addr.add; split <;> simp_all
  rw [e, (Blk.new w t #[x]).cell]
  simpa using hj
theorem own_sliceM {w : World} {B e n : Nat} {v : Value} {xs : List Value} (h : w.ownsRow B e 1 v n xs) : ∃ A c, v = .slice A n c := by
  rcases h.2 with ⟨rfl, h0⟩ | ⟨g, cap, cur, hv, _⟩
  · subst h0
    exact ⟨none, 0, rfl⟩
  · exact ⟨_, _, hv⟩
theorem own_onM {w w' : World} {B e size n : Nat} {v : Value} {xs : List Value} (h : w.ownsRow B e size v n xs) (hb : Below w.heap.size w w') : w'.ownsRow B e size v n xs := by
  rcases h with ⟨h0, h1⟩
  refine ⟨h0, ?_⟩
  rcases h1 with h1 | ⟨g, cap, cur, hv, hbg, hh, h2⟩
  · exact .inl h1
  · exact .inr ⟨g, cap, cur, hv, hbg, (show Blk w g e cur from hh).below hb (Blk.lt (t := e) (cs := cur) hh), h2⟩
theorem intRow_ownM {w : World} {B c n : Nat} {A : Option Addr} {L : List Int} (h : w.ownsRow B 3 1 (.slice A n c) n (L.map (Value.int .i64))) (hw : ∀ z ∈ L, (Lit.int .i64 z).wf = true) : IntRow w A L := fun i hi => by
  obtain ⟨h0, h1⟩ := h
  rw [List.length_map] at h0
  rcases h1 with ⟨e0, e1⟩ | ⟨g, cap, cur, hv, hbg, hh, _, _, _, ht⟩
  · exfalso
    omega
  · injection hv with hv1 _ _
    refine ⟨⟨g, 0, none⟩, hv1, Blk.lt (t := 3) (cs := cur) hh, ?_, hw _ (List.getElem_mem hi)⟩
    have e : (⟨g, 0, none⟩ : Addr).add i = ⟨g, i, none⟩ := by unfold Addr.add; split <;> simp_all
    rw [e, (show Blk w g 3 cur from hh).cell]
    have h3 := congrArg (fun l : List Value => l[i]?) ht
    simp only [Nat.mul_one, List.getElem?_map] at h3
    rw [List.getElem?_take, if_pos (by omega), List.getElem?_eq_getElem hi] at h3
    rw [← Array.getElem?_toList, h3]
    rfl
theorem intRow_belowM {w w' : World} {A : Option Addr} {zs : List Int} (h : IntRow w A zs) {n : Nat} (hn : n = w.heap.size) (hb : Below n w w') : IntRow w' A zs := fun i hi => by
  obtain ⟨ad, h1, h2, h3, h4⟩ := h i hi
  refine ⟨ad, h1, Nat.lt_of_lt_of_le h2 hb.size, (hb.cell ?_).trans h3, h4⟩
  have : (ad.add i).block = ad.block := by unfold Addr.add; split <;> rfl
  omega

/-- A row of numbers is told. -/
def IntsT (w : World) (L : List Int) (e : Ending) (w' : World) : Prop := ∃ A c, e = .returned (.slice A L.length c) ∧ IntRow w' A L ∧ Below w.heap.size w w'

/-- Steps' own blocks: the region, the entry, what is told so far. -/
structure StM (w : World) (r : Rg) (s : Sl) (told : Value) (L : List Int) (W : World) : Prop where
  br : Blk W w.heap.size 23 r.cs
  bs : Blk W (w.heap.size + 1) 25 s.cs
  own : W.ownsRow (w.heap.size + 2) 3 1 told L.length (L.map (Value.int .i64))
  below : Below w.heap.size w W
theorem StM.size {w : World} {r : Rg} {s : Sl} {told : Value} {L : List Int} {W : World} (h : StM w r s told L W) : w.heap.size + 2 ≤ W.heap.size := by
  have := h.bs.lt; omega
theorem StM.on {w : World} {r : Rg} {s : Sl} {told : Value} {L : List Int} {W W' : World} (h : StM w r s told L W) (hb : Below W.heap.size W W') : StM w r s told L W' :=
  ⟨h.br.below hb h.br.lt, h.bs.below hb h.bs.lt, own_onM h.own hb, h.below.trans (hb.mono h.below.size)⟩
theorem StM.alloc {w : World} {r : Rg} {s : Sl} {told : Value} {L : List Int} {W : World} (h : StM w r s told L W) (o : Obj) : StM w r s told L (W.alloc o) := h.on ((Below.refl _ _).alloc (Nat.le_refl _) _)
theorem StM.push {w : World} {r : Rg} {s : Sl} {told v' : Value} {L : List Int} {a : Int} {W W' : World} (h : StM w r s told L W) (ho : W'.ownsRow (w.heap.size + 2) 3 1 v' (L.length + 1) (L.map (Value.int .i64) ++ [.int .i64 a])) (hg : W.grownBy W' told.ownBlock) : StM w r s v' (L ++ [a]) W' := by
  have hne : ∀ k, k < w.heap.size + 2 → some k ≠ told.ownBlock := fun k hk e => by
    have := (h.own.lt k e.symm).1
    omega
  refine ⟨h.br.grown hg (hne _ (by omega)), h.bs.grown hg (hne _ (by omega)), ?_, h.below.grown hg (by have := h.size; omega) fun k hk => by have := (h.own.lt k hk).1; omega⟩
  rw [List.length_append, List.map_append]
  exact ho
theorem StM.set_ {w : World} {r : Rg} {s : Sl} {told : Value} {L : List Int} {W : World} (h : StM w r s told L W) (s' : Sl) :
    StM w r s' told L (((((W.setCell ⟨w.heap.size + 1, 0, none⟩ (.bool s'.h)).setCell ⟨w.heap.size + 1, 1, none⟩ (.bool s'.w)).setCell ⟨w.heap.size + 1, 2, none⟩ (.bool s'.c)).setCell ⟨w.heap.size + 1, 3, none⟩ (.bool s'.o)).setCell ⟨w.heap.size + 1, 4, none⟩ (.int .i64 s'.n)) :=
  ⟨sl_set_farM h.br (by omega) s', sl_setM (show Blk W (w.heap.size + 1) 25 #[.bool s.h, .bool s.w, .bool s.c, .bool s.o, .int .i64 s.n] from h.bs) s', sl_set_ownM h.own (by omega) s', sl_set_belowM h.below (by omega) s'⟩
theorem StM.told {w : World} {r : Rg} {s : Sl} {told : Value} {L : List Int} {W : World} (h : StM w r s told L W) (hw : ∀ a ∈ L, 1 ≤ a ∧ a ≤ 7) : IntsT w L (.returned told) W := by
  obtain ⟨A, c, rfl⟩ := own_sliceM h.own
  exact ⟨A, c, rfl, intRow_ownM h.own fun z hz => by have := hw z hz; exact wf64 (by omega) (by omega), h.below⟩

/-- What has been told, and what is still to come. -/
def ToM (al wb : Bool) (k u : Int) (Q L : List Int) (s : Sl) (n : Int) : Prop := L.length < 4 ∧ Q = L ++ stepsM al wb k u (4 - L.length) s n
theorem ToM.stop {al wb : Bool} {k u n : Int} {Q L : List Int} {s : Sl} (h : ToM al wb k u Q L s n) (he : endM (actM al k s u n) = true) : L ++ [actM al k s u n] = Q := by
  obtain ⟨h1, h2⟩ := h
  rw [h2, show 4 - L.length = (3 - L.length) + 1 by omega, stepsM_stop rfl he]
theorem ToM.go {al wb : Bool} {k u n : Int} {Q L : List Int} {s : Sl} (h : ToM al wb k u Q L s n) (hl : ∃ a, Q[Q.length - 1]? = some a ∧ endM a = true) (he : endM (actM al k s u n) = false) :
    ToM al wb k u Q (L ++ [actM al k s u n]) (entM wb (actM al k s u n) 0) (nextM (actM al k s u n)) := by
  obtain ⟨h1, h2⟩ := h
  rw [show 4 - L.length = (3 - L.length) + 1 by omega, stepsM_go rfl he] at h2
  refine ⟨?_, ?_⟩
  · rw [List.length_append, List.length_singleton]
    rcases Nat.lt_or_ge L.length 3 with h3 | h3
    · omega
    · exfalso
      rw [show 3 - L.length = 0 by omega] at h2
      rw [show stepsM al wb k u 0 (entM wb (actM al k s u n) 0) (nextM (actM al k s u n)) = [] from rfl] at h2
      obtain ⟨a, h4, h5⟩ := hl
      rw [h2, List.length_append, List.length_singleton, Nat.add_sub_cancel, List.getElem?_append_right (Nat.le_refl _), Nat.sub_self] at h4
      simp only [List.getElem?_cons_zero, Option.some.injEq] at h4
      rw [h4, h5] at he
      cases he
  · rw [List.length_append, List.length_singleton, show 4 - (L.length + 1) = 3 - L.length by omega, List.append_assoc]
    exact h2
end Go.Proofs.YtdfokgfcohfgeaaDoor
