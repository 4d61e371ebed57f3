/- Package place: All's own cells; its closure try. -/
import Derived.Test.YtfoapghjloblnabIi
import Derived.Test.YtfoapghjloblnabMk
import Derived.Maps.AppendAt
namespace Go.Proofs.Ytfoapghjloblnab
open Go.RowKit Go.ChangeShapes Go.WideShapes Go.Deep
set_option linter.unusedVariables false
set_option linter.unusedSimpArgs false

theorem cell_oneI (w : World) (x : Value) (t : TypeId) : ∀ j u, [x][j]? = some u → (w.alloc (.cells #[x] t)).cell? ((⟨w.heap.size, 0, none⟩ : Addr).add j) = some u := fun j u hj => by
  have e : (⟨w.heap.size, 0, none⟩ : Addr).add j = ⟨w.heap.size, j, none⟩ := by unfold Addr.add; split <;> simp_all
  rw [e, (Blk.new w t #[x]).cell]
  simpa using hj
/-- All's closure. -/
abbrev tryV (rc tc : Nat) : Value := .func (.func 10) #[] #[.pointer (some ⟨rc, 0, none⟩), .pointer (some ⟨tc, 0, none⟩)]
/-- All's own cells: the room, what is told, the closure. -/
structure TcI (W : World) (B rc tc yc rb : Nat) (A : Option Addr) (c : Nat) (L : List Int) : Prop where
  bc : Blk W rc 36 #[.pointer (some ⟨rb, 0, none⟩)]
  bt : Blk W tc 28 #[.slice A L.length c]
  by_ : Blk W yc 34 #[tryV rc tc]
  row : W.ownsRow B 3 1 (.slice A L.length c) L.length (L.map (Value.int .i64))
  ne : ∀ g, (Value.slice A L.length c).ownBlock = some g → g ≠ tc ∧ g ≠ yc
  lo : rc < B ∧ B ≤ tc ∧ B ≤ yc ∧ tc ≠ yc
section
variable {W W' w1 : World} {B rc tc yc rb : Nat} {A : Option Addr} {c : Nat} {L : List Int}
theorem TcI.below (h : TcI W B rc tc yc rb A c L) (hb : Below W.heap.size W W') : TcI W' B rc tc yc rb A c L :=
  ⟨h.bc.below hb h.bc.lt, h.bt.below hb h.bt.lt, h.by_.below hb h.by_.lt, own_below h.row hb, h.ne, h.lo⟩
theorem own_but1 {w w' : World} {B e size n : Nat} {v : Value} {xs : List Value} {S : Nat → Prop} (h : w.ownsRow B e size v n xs) (hb : But S w w') (hS : ∀ k, B ≤ k → ¬ S k) : w'.ownsRow B e size v n xs := by
  rcases h with ⟨h0, h1⟩
  refine ⟨h0, ?_⟩
  rcases h1 with h1 | ⟨g, cap, cur, hv, hbg, hh, h2⟩
  · exact .inl h1
  · exact .inr ⟨g, cap, cur, hv, hbg, (show Blk w' g _ cur from (show Blk w g _ cur from hh).but hb (hS g hbg)), h2⟩
theorem TcI.but {tb : Nat} (h : TcI W B rc tc yc rb A c L) (hb : But (fun k => k = tb) W W') (ht : tb < rc) : TcI W' B rc tc yc rb A c L := by
  obtain ⟨l1, l2, l3, l4⟩ := h.lo
  exact ⟨h.bc.but hb (by omega), h.bt.but hb (by omega), h.by_.but hb (by omega), own_but1 h.row hb (fun k hk e => by have e : k = tb := e; omega), h.ne, h.lo⟩
theorem own_lo {w : World} {B e size n : Nat} {v : Value} {xs : List Value} (h : w.ownsRow B e size v n xs) {g : Nat} (hg : v.ownBlock = some g) : B ≤ g ∧ g < w.heap.size ∧ ∃ cs, Blk w g e cs := by
  rcases h.2 with ⟨h0, _⟩ | ⟨g', cap, cur, hv, hbg, hh, _⟩
  · rw [h0] at hg; cases hg
  · rw [hv] at hg
    cases hg
    exact ⟨hbg, Blk.lt (t := e) (cs := cur) hh, cur, hh⟩
theorem own_butV {w : World} {B e n : Nat} {v : Value} {xs : List Value} {u : Value} {p : Addr} (h : w.ownsRow B e 1 v n xs) (hp : ∀ g, v.ownBlock = some g → g ≠ p.block) : (w.setCell p u).ownsRow B e 1 v n xs := by
  rcases h with ⟨h0, h1⟩
  refine ⟨h0, ?_⟩
  rcases h1 with h1 | ⟨g, cap, cur, hv, hbg, hh, h2⟩
  · exact .inl h1
  · exact .inr ⟨g, cap, cur, hv, hbg, (Below.heap_setCell w p u g (hp g (by rw [hv]; rfl))).trans hh, h2⟩
theorem TcI.push (h : TcI W B rc tc yc rb A c L) {x : Int} {o : Obj} {v' : Value} (ho : w1.ownsRow B 3 1 v' (L.length + 1) (L.map (Value.int .i64) ++ [.int .i64 x])) (hg : (W.alloc o).grownBy w1 (Value.slice A L.length c).ownBlock)
    (hat : v'.ownBlock = (Value.slice A L.length c).ownBlock ∨ v'.ownBlock = some (W.alloc o).heap.size) :
    (∃ A' c', v' = .slice A' (L ++ [x]).length c' ∧ TcI (w1.setCell ⟨tc, 0, none⟩ v') B rc tc yc rb A' c' (L ++ [x])) ∧ w1.cell? ⟨tc, 0, none⟩ = some (.slice A L.length c) ∧ w1.frozen? ⟨tc, 0, none⟩ = false ∧ Below B W (w1.setCell ⟨tc, 0, none⟩ v') ∧ KeepsFrom 0 W (w1.setCell ⟨tc, 0, none⟩ v') := by
  obtain ⟨l1, l2, l3, l4⟩ := h.lo
  have hlo : ∀ g, (Value.slice A L.length c).ownBlock = some g → B ≤ g ∧ g < W.heap.size ∧ ∃ cs, Blk W g 3 cs := fun g hg => own_lo h.row hg
  have b1 : Blk w1 rc 36 #[.pointer (some ⟨rb, 0, none⟩)] := (h.bc.alloc o).grown hg (fun e => by have := (hlo _ e.symm).1; omega)
  have b2 : Blk w1 tc 28 #[.slice A L.length c] := (h.bt.alloc o).grown hg (fun e => (h.ne _ e.symm).1 rfl)
  have b3 : Blk w1 yc 34 #[tryV rc tc] := (h.by_.alloc o).grown hg (fun e => (h.ne _ e.symm).2 rfl)
  have hne' : ∀ g, v'.ownBlock = some g → g ≠ tc ∧ g ≠ yc := fun g e => by
    rcases hat with h1 | h1
    · exact h.ne g (by rw [← h1]; exact e)
    · rw [h1] at e
      injection e with e
      have h2 := h.bt.lt
      have h3 := h.by_.lt
      simp at e
      omega
  have hB1 : Below B W w1 := ((Below.refl B W).alloc (by have := h.bt.lt; omega) o).trans ⟨hg.os, hg.tape, hg.output, hg.size, fun k hk => hg.block k (by have := h.bt.lt; simp; omega) (fun e => by have := (hlo _ e.symm).1; omega)⟩
  have hB2 : Below B W (w1.setCell ⟨tc, 0, none⟩ v') := hB1.trans ((But.setCell (But.refl (fun k => k = tc) w1) (p := ⟨tc, 0, none⟩) (.inl rfl) _).below (by have := b2.lt; omega) (fun k hk => by have hk : k = tc := hk; omega))
  refine ⟨?_, b2.cell 0, b2.frozen 0, hB2, ?_⟩
  · obtain ⟨A', c', rfl⟩ := own_slice ho
    refine ⟨A', c', by simp, ⟨b1.far (p := ⟨tc, 0, none⟩) (by show rc ≠ tc; omega) _, ?_, b3.far (p := ⟨tc, 0, none⟩) (Ne.symm l4) _, ?_, ?_, h.lo⟩⟩
    · have := b2.set_ 0 (.slice A' (L.length + 1) c')
      rw [List.length_append]
      exact this
    · rw [List.length_append, List.map_append]
      exact own_butV ho (fun g hg' => (hne' g hg').1)
    · rw [List.length_append]
      exact hne'
  · refine ⟨Nat.le_trans (by simp) hB2.size, fun k u _ hk hu => ?_⟩
    have hkW : k < W.heap.size := (Array.getElem?_eq_some_iff.1 hk).1
    have h1 : w1.heap[k]? = some u := (hg.block k (by simp; omega) (fun e => by
      obtain ⟨_, _, cs, hcs⟩ := hlo k e.symm
      unfold Blk at hcs
      rw [hcs] at hk
      cases hk
      cases hu)).trans ((Below.heap_alloc W o k hkW).trans hk)
    refine (Below.heap_setCell w1 ⟨tc, 0, none⟩ v' k (fun e => ?_)).trans h1
    have e : k = tc := e
    subst e
    have := h.bt
    unfold Blk at this
    rw [this] at hk
    cases hk
    cases hu
end
end Go.Proofs.Ytfoapghjloblnab
