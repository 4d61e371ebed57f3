/- The reference of layer 4: what lies while Build runs. -/
import Derived.Test.YtgkhgjihjbjfnaaDoorFRd
import Derived.Test.YtgkhgjihjbjfnaaDoorFOp
namespace Go.Proofs.YtgkhgjihjbjfnaaDoor
open Go.RowKit Go.Shelf
set_option linter.unusedVariables false
set_option linter.unusedSimpArgs false

/-- How they lie: a row of inodes, and a row of sectors. -/
structure RSt (W : World) (B gi : Nat) (fs : List Fl) (ex : List (List (Nat × Nat))) (vs : List Value) (dv : Value) (dat : List ByteArray) : Prop where
  bi : Blk W gi 55 (inoCells (inosOf fs ex) vs).toArray
  lenv : vs.length = fs.length
  lenx : ex.length = fs.length
  own : ∀ j (h : j < ex.length) (h' : j < vs.length), W.ownsRow B 61 2 vs[j] ex[j].length (extCells ex[j])
  apart : ∀ i j (hi : i < vs.length) (hj : j < vs.length) g, vs[i].ownBlock = some g → vs[j].ownBlock = some g → i = j
  dat : W.ownsRow B 9 1 dv dat.length (strs dat)
section
variable {W W' : World} {B gi : Nat} {fs : List Fl} {ex : List (List (Nat × Nat))} {vs : List Value} {dv : Value} {dat : List ByteArray}
theorem RSt.below (h : RSt W B gi fs ex vs dv dat) (hb : Below W.heap.size W W') : RSt W' B gi fs ex vs dv dat :=
  ⟨h.bi.below hb h.bi.lt, h.lenv, h.lenx, fun j hj hj' => own_by (h.own j hj hj') (fun g cur _ _ hg => hg.below hb hg.lt), h.apart, own_by h.dat (fun g cur _ _ hg => hg.below hb hg.lt)⟩
theorem RSt.alloc (h : RSt W B gi fs ex vs dv dat) (o : Obj) : RSt (W.alloc o) B gi fs ex vs dv dat := h.below ((Below.refl _ _).alloc (Nat.le_refl _) o)
theorem RSt.drew (h : RSt W B gi fs ex vs dv dat) : RSt W.drew B gi fs ex vs dv dat := h.below (Below.refl _ _).drew
theorem RSt.ext_at (h : RSt W B gi fs ex vs dv dat) (i : Nat) (hi : i < fs.length) (hv : i < vs.length) : W.cell? ⟨gi, i * 3 + 2, none⟩ = some vs[i] := by
  obtain ⟨_, _, e⟩ := inoCells_at (inosOf fs ex) vs i (by rw [inosOf_length h.lenx]; exact hi) hv
  exact h.bi.at_ _ _ (by simpa using e)
theorem own_type {B e size n g : Nat} {v : Value} {xs : List Value} {t : TypeId} {cs : Array Value} (h : W.ownsRow B e size v n xs) (hg : v.ownBlock = some g) (hb : Blk W g t cs) : t = e := by
  obtain ⟨_, cur, hc⟩ := own_blk h hg
  exact hb.two hc
/-- One more extent of file i. -/
theorem RSt.push (h : RSt W B gi fs ex vs dv dat) (i : Nat) (hi : i < fs.length) (hx : i < ex.length) (hv : i < vs.length) (e : Nat × Nat) (v' : Value) (hg : W.grownBy W' vs[i].ownBlock)
    (ho : W'.ownsRow B 61 2 v' (ex[i].length + 1) (extCells ex[i] ++ [.int .i64 e.1, .int .i64 e.2])) (hat : v'.ownBlock = vs[i].ownBlock ∨ v'.ownBlock = some W.heap.size) :
    RSt (W'.setCell ⟨gi, i * 3 + 2, none⟩ v') B gi fs (ex.set i (ex[i] ++ [e])) (vs.set i v') dv dat := by
  have hi1 : Blk W' gi 55 (inoCells (inosOf fs ex) vs).toArray := h.bi.grown hg (fun e => h.bi.not_row (by decide) (h.own i hx hv) e.symm)
  have hil : i < (inosOf fs ex).length := by rw [inosOf_length h.lenx]; exact hi
  have hlt : ∀ j (hj : j < vs.length) (hjx : j < ex.length) g, vs[j].ownBlock = some g → g < W.heap.size := fun j hj hjx g hgb => by
    have := (h.own j hjx hj).lt g hgb
    exact this.2
  refine ⟨?_, by simpa using h.lenv, by simpa using h.lenx, fun j hj hj' => ?_, fun a b ha hb g ga gb => ?_, ?_⟩
  · have := hi1.set_ (i * 3 + 2) v'
    rw [inosOf_set _ hil, inoCells_set_ext _ _ _ _ _ hil hv]
    simpa using this
  · simp only [List.getElem_set]
    simp only [List.length_set] at hj hj'
    by_cases hji : i = j
    · subst hji
      simp only [if_true]
      have hne := hi1.not_row (by decide) ho
      rw [List.length_append, List.length_cons, List.length_nil, Nat.zero_add, extCells_snoc]
      exact own_far ho hne _
    · simp only [if_neg hji]
      have h1 : W'.ownsRow B 61 2 vs[j] ex[j].length (extCells ex[j]) := (h.own j hj hj').kept hg (by
        cases hb : vs[j].ownBlock with
        | none => exact .inl rfl
        | some g => exact .inr (fun e => hji (h.apart i j hv hj' g e.symm hb)))
      exact own_far h1 (hi1.not_row (by decide) h1) _
  · simp only [List.length_set] at ha hb
    simp only [List.getElem_set] at ga gb
    by_cases h1 : i = a
    · by_cases h2 : i = b
      · omega
      · rw [if_pos h1] at ga
        rw [if_neg h2] at gb
        have := hlt b hb (by have := h.lenv; have := h.lenx; omega) g gb
        rcases hat with e | e
        · rw [e] at ga
          have := h.apart i b hv hb g ga gb
          omega
        · rw [e] at ga
          simp at ga
          omega
    · rw [if_neg h1] at ga
      by_cases h2 : i = b
      · rw [if_pos h2] at gb
        have := hlt a ha (by have := h.lenv; have := h.lenx; omega) g ga
        rcases hat with e | e
        · rw [e] at gb
          have := h.apart i a hv ha g gb ga
          omega
        · rw [e] at gb
          simp at gb
          omega
      · rw [if_neg h2] at gb
        exact h.apart a b ha hb g ga gb
  · refine own_by h.dat (fun g cur hgd _ hb => ?_)
    have hb1 : Blk W' g 9 cur := hb.grown hg (fun e => by
      have h2 := own_type (h.own i hx hv) e.symm hb
      revert h2
      decide)
    refine hb1.far (p := ⟨gi, i * 3 + 2, none⟩) (fun e => ?_) _
    have e' : g = gi := e
    subst e'
    have h2 := hb1.two hi1
    revert h2
    decide
/-- One more sector. -/
theorem RSt.app (h : RSt W B gi fs ex vs dv dat) (x : ByteArray) (dv' : Value) (hg : W.grownBy W' dv.ownBlock) (ho : W'.ownsRow B 9 1 dv' (dat.length + 1) (strs dat ++ [.string x])) : RSt W' B gi fs ex vs dv' (dat ++ [x]) := by
  refine ⟨h.bi.grown hg (fun e => by have h2 := own_type h.dat e.symm h.bi; revert h2; decide), h.lenv, h.lenx, fun j hj hj' => own_by (h.own j hj hj') (fun g cur _ _ hb => hb.grown hg (fun e => by have h2 := own_type h.dat e.symm hb; revert h2; decide)), h.apart, ?_⟩
  rw [List.length_append]
  unfold strs at *
  rw [List.map_append]
  exact ho
end
theorem strs_snoc (l : List ByteArray) (x : ByteArray) : strs (l ++ [x]) = strs l ++ [.string x] := by simp [strs]
theorem pagesL_snoc (d : ByteArray) (a n : Nat) : pagesL d a (n + 1) = pagesL d a n ++ [pageOf d (a + n)] := by
  unfold pagesL
  rw [List.range_succ, List.map_append]
  rfl
/-- A page of the reference. -/
theorem fillS_page (d : ByteArray) (q : Nat) : fillS (d.extract (64 * q) d.size) 64 = pageOf d q := by
  unfold fillS pageOf
  rw [if_neg (by decide), extract_mkb, mkb_data]
  rw [List.take_of_length_le (by rw [List.length_drop, len_data]; omega)]
  rfl
theorem cuts_at2 {n s t : Nat} {C : Nat} (h : (cutsL n s)[t]? = some C) : (cutsL n s).getD t 0 = C := by rw [List.getD, h]; rfl
end Go.Proofs.YtgkhgjihjbjfnaaDoor
