/- Layer 12: a list of libraries that is put together. -/
import Derived.Test.YtmkaehnekhejmaaGn
namespace Go.Proofs.Ytmkaehnekhejmaa
open Go.RowKit
set_option linter.unusedVariables false
set_option linter.unusedSimpArgs false

/-- A row of strings in a block of strings. -/
def SRow (w : World) (A : Option Addr) (l : List ByteArray) : Prop := l = [] ∨ ∃ g cs, A = some ⟨g, 0, none⟩ ∧ Blk w g 9 cs ∧ cs.toList.take l.length = strs l
theorem SRow.str {w : World} {A : Option Addr} {l : List ByteArray} (h : SRow w A l) (hs : ∀ x ∈ l, x.size ≤ maxLen) : StrRow w A l := fun i hi => by
  rcases h with rfl | ⟨g, cs, rfl, hb, ht⟩
  · simp at hi
  · refine ⟨_, rfl, hb.lt, ?_, hs _ (List.getElem_mem hi)⟩
    have h1 : (strs l)[i]? = some (.string l[i]) := by simp [strs, hi]
    rw [← ht, List.getElem?_take, if_pos hi] at h1
    rw [addr0, hb.cell]
    simpa using h1
theorem SRow.below {w w' : World} {A : Option Addr} {l : List ByteArray} (h : SRow w A l) {n : Nat} (hn : n = w.heap.size) (hb : Below n w w') : SRow w' A l := by
  rcases h with h | ⟨g, cs, e, h1, h2⟩
  · exact .inl h
  · exact .inr ⟨g, cs, e, h1.below hb (by rw [hn]; exact h1.lt), h2⟩
theorem SRow.own {w : World} {lo n : Nat} {v : Value} {l : List ByteArray} (h : w.ownsRow lo 9 1 v n (strs l)) : ∃ A c, v = .slice A l.length c ∧ SRow w A l := by
  have hl := h.1
  rw [strs_length] at hl
  obtain rfl : n = l.length := by omega
  rcases h.2 with ⟨rfl, h0⟩ | ⟨g, cap, cur, rfl, hbg, hg, _, _, _, ht⟩
  · have : l = [] := List.length_eq_zero_iff.1 h0
    subst this
    exact ⟨none, 0, rfl, .inl rfl⟩
  · exact ⟨_, cap, rfl, .inr ⟨g, cur, rfl, hg, by simpa using ht⟩⟩
/-- The cells of libraries. -/
def libCells (L : List Lb) (As : List (Option Addr × Nat)) : List Value := (L.zip As).flatMap fun p => [.string p.1.name, .slice p.2.1 p.1.need.length p.2.2]
theorem libCells_len {L : List Lb} {As : List (Option Addr × Nat)} (h : As.length = L.length) : (libCells L As).length = L.length * 2 := by
  unfold libCells
  rw [List.length_flatMap]
  have : ∀ (l : List (Lb × (Option Addr × Nat))), (l.map fun p => ([Value.string p.1.name, .slice p.2.1 p.1.need.length p.2.2] : List Value).length).sum = l.length * 2 := fun l => by
    induction l with
    | nil => rfl
    | cons a l ih => rw [List.map_cons, List.sum_cons, ih, List.length_cons]; simp; omega
  rw [this]
  simp [h]
theorem libCells_snoc {L : List Lb} {As : List (Option Addr × Nat)} (h : As.length = L.length) (b : Lb) (A : Option Addr) (c : Nat) : libCells (L ++ [b]) (As ++ [(A, c)]) = libCells L As ++ [.string b.name, .slice A b.need.length c] := by
  unfold libCells
  rw [List.zip_append h.symm, List.flatMap_append]
  simp
theorem libCells_at : ∀ {L : List Lb} {As : List (Option Addr × Nat)} (h : As.length = L.length) (i : Nat) (hi : i < L.length), (libCells L As)[i * 2]? = some (.string L[i].name) ∧ (libCells L As)[i * 2 + 1]? = some (.slice (As[i]'(by omega)).1 L[i].need.length (As[i]'(by omega)).2)
  | b :: L, a :: As, h, 0, _ => ⟨rfl, rfl⟩
  | b :: L, a :: As, h, i + 1, hi => by
    obtain ⟨h1, h2⟩ := libCells_at (L := L) (As := As) (by simpa using h) i (by simpa using hi)
    have e : libCells (b :: L) (a :: As) = .string b.name :: .slice a.1 b.need.length a.2 :: libCells L As := rfl
    rw [e, show (i + 1) * 2 = i * 2 + 1 + 1 by omega, show i * 2 + 1 + 1 + 1 = (i * 2 + 1) + 1 + 1 by omega]
    simp only [List.getElem?_cons_succ]
    exact ⟨h1, h2⟩
  | b :: L, [], h, _, _ => by simp at h
/-- A list of libraries of the call's own. -/
structure Bld (lo : Nat) (v : Value) (L : List Lb) (As : List (Option Addr × Nat)) (w : World) : Prop where
  own : w.ownsRow lo 27 2 v L.length (libCells L As)
  len : As.length = L.length
  rows : ∀ i (hi : i < L.length), SRow w (As[i]'(by omega)).1 L[i].need
theorem Bld.start (lo : Nat) (w : World) : Bld lo (.slice none 0 0) [] [] w := ⟨World.ownsRow_nil _ _ _ _, rfl, fun i hi => absurd hi (by simp)⟩
theorem Bld.below {lo : Nat} {v : Value} {L : List Lb} {As : List (Option Addr × Nat)} {w w' : World} (h : Bld lo v L As w) {n : Nat} (hn : n = w.heap.size) (hb : Below n w w') : Bld lo v L As w' :=
  ⟨own_below h.own (by rw [← hn]; exact hb), h.len, fun i hi => (h.rows i hi).below hn hb⟩
theorem Bld.slice {lo : Nat} {v : Value} {L : List Lb} {As : List (Option Addr × Nat)} {w : World} (h : Bld lo v L As w) : ∃ A c, v = .slice A L.length c := by
  rcases h.own.2 with ⟨rfl, h0⟩ | ⟨g, cap, cur, rfl, _⟩
  · rw [h0]; exact ⟨none, 0, rfl⟩
  · exact ⟨_, _, rfl⟩
/-- A row of strings is no row of libraries. -/
theorem SRow.grown {lo : Nat} {v : Value} {n : Nat} {xs : List Value} {w w' : World} {A : Option Addr} {l : List ByteArray} (h : SRow w A l) (ho : w.ownsRow lo 27 2 v n xs) (hg : w.grownBy w' v.ownBlock) : SRow w' A l := by
  rcases h with h | ⟨g, cs, e, h1, h2⟩
  · exact .inl h
  · refine .inr ⟨g, cs, e, h1.grown hg (fun e' => ?_), h2⟩
    rcases ho.2 with ⟨rfl, _⟩ | ⟨g2, cap, cur, rfl, _, hg2, _⟩
    · cases e'
    · have e2 : g = g2 := by simpa [Value.ownBlock] using e'
      subst e2
      unfold Blk at h1
      rw [h1] at hg2
      injection hg2 with hg2
      injection hg2 with _ hg2
      exact absurd hg2 (by decide)
theorem Bld.push {lo : Nat} {v v' : Value} {L : List Lb} {As : List (Option Addr × Nat)} {w w2 w1 : World} {b : Lb} {A : Option Addr} {c : Nat} (h : Bld lo v L As w) (hb : Below w.heap.size w w2) (hr : SRow w2 A b.need) (o : Obj)
    (ho : w1.ownsRow lo 27 2 v' (L.length + 1) (libCells L As ++ [.string b.name, .slice A b.need.length c])) (hg : (w2.alloc o).grownBy w1 v.ownBlock) : Bld lo v' (L ++ [b]) (As ++ [(A, c)]) w1 := by
  have hbo : Below w2.heap.size w2 (w2.alloc o) := (Below.refl _ _).alloc (Nat.le_refl _) _
  have h2 := (h.below rfl hb).below rfl hbo
  refine ⟨by rw [libCells_snoc h.len]; simpa using ho, by simp [h.len], fun i hi => ?_⟩
  by_cases hlt : i < L.length
  · have := (h2.rows i hlt).grown h2.own hg
    rw [List.getElem_append_left (by have := h.len; omega)]
    rw [List.getElem_append_left hlt]
    exact this
  · have hi' : i = L.length := by simp at hi; omega
    subst hi'
    have := (hr.below rfl hbo).grown h2.own hg
    rw [List.getElem_append_right (Nat.le_refl _), List.getElem_append_right (by rw [h.len]; exact Nat.le_refl _)]
    simpa [h.len] using this
/-- .. as it is read. -/
theorem Bld.row {lo : Nat} {v : Value} {L : List Lb} {As : List (Option Addr × Nat)} {w : World} (h : Bld lo v L As w) (hn : ∀ b ∈ L, b.name.size ≤ maxLen) (hs : ∀ b ∈ L, ∀ x ∈ b.need, x.size ≤ maxLen) (hl : ∀ b ∈ L, b.need.length ≤ 100000) :
    ∃ A c, v = .slice A L.length c ∧ LibRow w A L := by
  rcases h.own.2 with ⟨rfl, h0⟩ | ⟨g, cap, cur, rfl, hbg, hg, _, _, _, ht⟩
  · have : L = [] := List.length_eq_zero_iff.1 h0
    subst this
    exact ⟨none, 0, rfl, fun i hi => absurd hi (by simp)⟩
  · refine ⟨_, cap, rfl, fun i hi => ?_⟩
    have hi2 : i < As.length := by have := h.len; omega
    obtain ⟨h0, h1⟩ := libCells_at h.len i hi
    have hb : Blk w g 27 cur := hg
    rw [← ht] at h0 h1
    rw [List.getElem?_take, if_pos (by omega)] at h0 h1
    exact ⟨⟨g, 0, none⟩, As[i].1, As[i].2, rfl, hb.lt, lbAt_blk hb (by simpa using h0) (by simpa using h1) ((h.rows i hi).str (hs _ (List.getElem_mem hi))) (hn _ (List.getElem_mem hi)) (hl _ (List.getElem_mem hi))⟩
end Go.Proofs.Ytmkaehnekhejmaa
