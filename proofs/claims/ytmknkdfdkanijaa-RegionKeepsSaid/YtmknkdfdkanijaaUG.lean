/- Package region: what row tells, as it lies; put. -/
import Derived.Test.YtmknkdfdkanijaaUF
import Derived.Maps.AppendAt
namespace Go.Proofs.Ytmknkdfdkanijaa
open Go.RowKit Go.ChangeShapes Go.WideShapes Go.Deep
set_option linter.unusedVariables false
set_option linter.unusedSimpArgs false

theorem own_butU {S : Nat → Prop} {w w' : World} {B e size n : Nat} {v : Value} {xs : List Value} (h : w.ownsRow B e size v n xs) (hb : But S w w') (hS : ∀ k, v.ownBlock = some k → ¬ S k) : w'.ownsRow B e size v n xs := by
  obtain ⟨h1, h2⟩ := h
  refine ⟨h1, ?_⟩
  rcases h2 with h2 | ⟨g, cap, cur, rfl, hB, hg, r⟩
  · exact .inl h2
  · exact .inr ⟨g, cap, cur, rfl, hB, (hb.block g (Array.getElem?_eq_some_iff.1 hg).1 (hS g rfl)).trans hg, r⟩
theorem own_loU {w : World} {B e size n : Nat} {v : Value} {xs : List Value} (h : w.ownsRow B e size v n xs) {g : Nat} (hg : v.ownBlock = some g) : B ≤ g ∧ g < w.heap.size := by
  rcases h.2 with ⟨h0, _⟩ | ⟨g', cap, cur, hv, hbg, hh, _⟩
  · rw [h0] at hg; cases hg
  · rw [hv] at hg
    cases hg
    exact ⟨hbg, Blk.lt (t := e) (cs := cur) hh⟩
theorem own_setU {w : World} {B e size n g cap : Nat} {xs : List Value} (h : w.ownsRow B e size (.slice (some ⟨g, 0, none⟩) n cap) n xs) (j : Nat) (u : Value) : (w.setCell ⟨g, j, none⟩ u).ownsRow B e size (.slice (some ⟨g, 0, none⟩) n cap) n (xs.set j u) := by
  refine ⟨by rw [List.length_set]; exact h.1, ?_⟩
  rcases h.2 with ⟨h0, _⟩ | ⟨g2, cap2, cur, hv, hbg, hg, h1, h2, h3, ht⟩
  · cases h0
  · injection hv with e1 e2 e3
    injection e1 with e1
    injection e1 with e1 _ _
    subst e1 e3
    refine .inr ⟨g, cap, cur.setIfInBounds j u, rfl, hbg, (show Blk w g e cur from hg).set_ j u, h1, h2, by rw [Array.size_setIfInBounds]; exact h3, ?_⟩
    rw [Array.toList_setIfInBounds, List.take_set, ht]
theorem own_frozenU {w : World} {B e size n : Nat} {v : Value} {xs : List Value} (h : w.ownsRow B e size v n xs) {g : Nat} (hg : v.ownBlock = some g) (j : Nat) : w.frozen? ⟨g, j, none⟩ = false := by
  rcases h.2 with ⟨h0, _⟩ | ⟨g', cap, cur, hv, hbg, hh, _⟩
  · rw [h0] at hg; cases hg
  · rw [hv] at hg
    cases hg
    exact (show Blk w _ e cur from hh).frozen j
theorem own_whereU {w : World} {B e size n c : Nat} {ad : Addr} {xs : List Value} (h : w.ownsRow B e size (.slice (some ad) n c) n xs) : ∃ g, ad = ⟨g, 0, none⟩ := by
  rcases h.2 with ⟨h0, _⟩ | ⟨g', cap, cur, hv, hbg, hh, _⟩
  · cases h0
  · injection hv with e1 _ _
    injection e1 with e1
    exact ⟨g', e1⟩

/-- What row tells: its box, and the row. -/
structure Told (W : World) (B tb : Nat) (A : Option Addr) (c : Nat) (L : List Rg) : Prop where
  box : Blk W tb 25 #[.slice A L.length c]
  row : W.ownsRow B 29 6 (.slice A L.length c) L.length (rgCells L)
  ne : ∀ g, (Value.slice A L.length c).ownBlock = some g → g ≠ tb
  lo : B ≤ tb
  wf : ∀ r ∈ L, r.Wf ∧ r.Bd
section
variable {W W' w1 : World} {B tb : Nat} {A : Option Addr} {c : Nat} {L : List Rg}
theorem Told.below (h : Told W B tb A c L) (hb : Below W.heap.size W W') : Told W' B tb A c L :=
  ⟨h.box.below hb h.box.lt, own_below h.row hb, h.ne, h.lo, h.wf⟩
theorem Told.rg (h : Told W B tb A c L) : RgRow W A L := by
  obtain ⟨-, A', c', e, h1, -⟩ := RgRow.of_own h.row (fun s hs => (h.wf s hs).1)
  cases e
  exact h1
theorem Told.block (h : Told W B tb A c L) {ad : Addr} (e : A = some ad) : (Value.slice A L.length c).ownBlock = some ad.block ∧ B ≤ ad.block ∧ ad.block < W.heap.size ∧ ad.block ≠ tb := by
  subst e
  obtain ⟨g, rfl⟩ := own_whereU h.row
  have h1 := own_loU h.row (g := g) rfl
  exact ⟨rfl, h1.1, h1.2, h.ne g rfl⟩
/-- Its last region goes on. -/
theorem Told.join {m : List Rg} {a : Rg} {ad : Addr} (h : Told W B tb (some ad) c (m ++ [a])) {z : Int} (hw : (Lit.int .i64 z).wf = true) (hz : 0 ≤ z ∧ z ≤ 4096) :
    Told (W.setCell ⟨(ad.add (m.length * 6)).block, (ad.add (m.length * 6)).off + 1, none⟩ (.int .i64 z)) B tb (some ad) c (m ++ [{ a with t := z }]) ∧ Below B W (W.setCell ⟨(ad.add (m.length * 6)).block, (ad.add (m.length * 6)).off + 1, none⟩ (.int .i64 z)) ∧ W.frozen? ⟨(ad.add (m.length * 6)).block, (ad.add (m.length * 6)).off + 1, none⟩ = false := by
  obtain ⟨g, rfl⟩ := own_whereU h.row
  have e : (⟨((⟨g, 0, none⟩ : Addr).add (m.length * 6)).block, ((⟨g, 0, none⟩ : Addr).add (m.length * 6)).off + 1, none⟩ : Addr) = ⟨g, m.length * 6 + 1, none⟩ := by
    have e1 : (⟨g, 0, none⟩ : Addr).add (m.length * 6) = ⟨g, m.length * 6, none⟩ := by unfold Addr.add; split <;> simp_all
    rw [e1]
  have h1 := own_loU h.row (g := g) rfl
  have hl : (m ++ [{ a with t := z }]).length = (m ++ [a]).length := by simp
  rw [e]
  refine ⟨⟨?_, ?_, ?_, h.lo, fun r hr => ?_⟩, (Below.refl _ _).setCell (p := ⟨g, m.length * 6 + 1, none⟩) h1.1 _, own_frozenU h.row rfl _⟩
  · rw [hl]; exact h.box.far (p := ⟨g, m.length * 6 + 1, none⟩) (fun e => h.ne g rfl e.symm) _
  · rw [hl, ← rgCells_t]; exact own_setU h.row _ _
  · rw [hl]; exact h.ne
  · rcases List.mem_append.1 hr with h2 | h2
    · exact h.wf r (by simp [h2])
    · simp at h2
      subst h2
      obtain ⟨⟨w0, w1, w2, w3, w4, w5⟩, b0, b1, b2⟩ := h.wf a (by simp)
      exact ⟨⟨w0, hw, w2, w3, w4, w5⟩, b0, hz, b2⟩
/-- A region is put behind it. -/
theorem Told.push {x : Rg} {o : Obj} {v' : Value} (h : Told W B tb A c L) (hx : x.Wf ∧ x.Bd) (ho : w1.ownsRow B 29 6 v' (L.length + 1) (rgCells L ++ x.cs.toList)) (hg : (W.alloc o).grownBy w1 (Value.slice A L.length c).ownBlock)
    (hat : v'.ownBlock = (Value.slice A L.length c).ownBlock ∨ v'.ownBlock = some (W.alloc o).heap.size) :
    (∃ A' c', v' = .slice A' (L ++ [x]).length c' ∧ Told (w1.setCell ⟨tb, 0, none⟩ v') B tb A' c' (L ++ [x])) ∧ w1.cell? ⟨tb, 0, none⟩ = some (.slice A L.length c) ∧ w1.frozen? ⟨tb, 0, none⟩ = false ∧ Below B W (w1.setCell ⟨tb, 0, none⟩ v') := by
  have b2 : Blk w1 tb 25 #[.slice A L.length c] := (h.box.alloc o).grown hg (fun e => h.ne _ e.symm rfl)
  have hBW : B ≤ W.heap.size := by have := h.lo; have := h.box.lt; omega
  have hne' : ∀ g, v'.ownBlock = some g → g ≠ tb := fun g e => by
    rcases hat with h1 | h1
    · exact h.ne g (by rw [← h1]; exact e)
    · rw [h1] at e
      injection e with e
      have h2 := h.box.lt
      simp at e
      omega
  have hB1 : Below B W w1 := ((Below.refl B W).alloc hBW o).trans ⟨hg.os, hg.tape, hg.output, hg.size, fun k hk => hg.block k (by simp; omega) (fun e => by have := (own_loU h.row e.symm).1; omega)⟩
  have hlo := h.lo
  have hB2 : Below B W (w1.setCell ⟨tb, 0, none⟩ v') := hB1.trans ((But.setCell (But.refl (fun k => k = tb) w1) (p := ⟨tb, 0, none⟩) (.inl rfl) _).below (by have := b2.lt; omega) (fun k hk => by have hk : k = tb := hk; omega))
  refine ⟨?_, b2.cell 0, b2.frozen 0, hB2⟩
  have hsl : ∃ A' c', v' = .slice A' (L.length + 1) c' := by
    rcases ho.2 with ⟨rfl, h0⟩ | ⟨g, cap, cur, hv, _⟩
    · cases h0
    · exact ⟨_, _, hv⟩
  obtain ⟨A', c', rfl⟩ := hsl
  refine ⟨A', c', by simp, ⟨?_, ?_, ?_, h.lo, fun r hr => ?_⟩⟩
  · have := b2.set_ 0 (.slice A' (L.length + 1) c')
    rw [List.length_append]
    exact this
  · rw [List.length_append, rgCells_append]
    have e : rgCells [x] = x.cs.toList := by simp [rgCells]
    rw [e]
    exact own_butU ho ((But.refl (fun k => k = tb) w1).setCell (p := ⟨tb, 0, none⟩) (.inl rfl) _) (fun k hk e => hne' k hk e)
  · rw [List.length_append]
    exact hne'
  · rcases List.mem_append.1 hr with h2 | h2
    · exact h.wf r h2
    · simp at h2; subst h2; exact hx
end

/-- A region may be put: its numbers are ints, and small, if it has pages. -/
def PutOk (l : List Rg) : Prop := ∀ r ∈ l, r.Wf ∧ (r.f < r.t → r.Bd)
theorem push_length (L : List Rg) (r : Rg) : (push L r).length ≤ L.length + 1 := by
  unfold push
  split
  · omega
  · split
    · simp
    · split
      · simp
      · simp
theorem putAll_length (L l : List Rg) : (putAll L l).length ≤ L.length + l.length := by
  induction l generalizing L with
  | nil => exact Nat.le_refl _
  | cons r l ih =>
    have h1 := ih (push L r)
    have h2 := push_length L r
    rw [putAll_cons]
    simp only [List.length_cons]
    omega
theorem putAll_snoc (L l : List Rg) (r : Rg) : putAll L (l ++ [r]) = push (putAll L l) r := by rw [putAll_append]; rfl
theorem putAll_take (L l : List Rg) {k : Nat} (h : k < l.length) : putAll L (l.take (k + 1)) = push (putAll L (l.take k)) l[k] := by
  rw [List.take_succ_eq_append_getElem h, putAll_snoc]
theorem push_one {m : List Rg} {a r : Rg} (h : r.f < r.t) (h1 : oneR a r) : push (m ++ [a]) r = m ++ [{ a with t := r.t }] := by
  unfold push
  rw [if_neg (by omega)]
  simp only [List.getLast?_append, List.getLast?_singleton, Option.some_or, Option.or_some]
  rw [if_pos h1]
  simp
theorem push_two {m : List Rg} {a r : Rg} (h : r.f < r.t) (h1 : ¬ oneR a r) : push (m ++ [a]) r = (m ++ [a]) ++ [r] := by
  unfold push
  rw [if_neg (by omega)]
  simp only [List.getLast?_append, List.getLast?_singleton, Option.some_or, Option.or_some]
  rw [if_neg h1]
theorem push_first {r : Rg} (h : r.f < r.t) : push [] r = [r] := by
  unfold push
  rw [if_neg (by omega)]
  rfl
end Go.Proofs.Ytmknkdfdkanijaa
