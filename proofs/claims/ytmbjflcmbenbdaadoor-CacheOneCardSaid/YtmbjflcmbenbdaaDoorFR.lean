/- Package files: fill: what is kept while it runs; of the sectors that were written. -/
import Derived.Test.YtmbjflcmbenbdaaDoorFQ
import Derived.Test.YtmbjflcmbenbdaaDoorFP
import Derived.Test.YtmbjflcmbenbdaaDoorMk
namespace Go.Proofs.YtmbjflcmbenbdaaDoor
open Go.RowKit Go.Shelf
set_option linter.unusedVariables false
set_option linter.unusedSimpArgs false

theorem Secs.but {S : Nat → Prop} {W W' : World} {bs gs : Nat} {cs : List ByteArray} (h : Secs W bs gs cs) (hb : But S W W') (h1 : ¬ S bs) (h2 : ¬ S gs) : Secs W' bs gs cs := ⟨h.var.but hb h1, h.row.but hb h2⟩

/-- The sectors cs are those of L wherever D says so. -/
def Wr (L cs : List ByteArray) (D : Nat → Prop) : Prop := cs.length = L.length ∧ ∀ p, D p → cs[p]? = L[p]?
theorem Wr.put {L cs : List ByteArray} {D D' : Nat → Prop} (h : Wr L cs D) {q : Nat} {v : ByteArray} (hv : L[q]? = some v) (hD : ∀ p, D' p → D p ∨ p = q) : Wr L (cs.set q v) D' := by
  have hq := (List.getElem?_eq_some_iff.1 hv).1
  refine ⟨by rw [List.length_set]; exact h.1, fun p hp => ?_⟩
  rw [List.getElem?_set]
  by_cases e : q = p
  · subst e
    rw [if_pos rfl, if_pos (by rw [h.1]; exact hq), hv]
  · rw [if_neg e]
    rcases hD p hp with h1 | h1
    · exact h.2 p h1
    · exact absurd h1.symm e
theorem Wr.mono {L cs : List ByteArray} {D D' : Nat → Prop} (h : Wr L cs D) (hD : ∀ p, D' p → D p) : Wr L cs D' := ⟨h.1, fun p hp => h.2 p (hD p hp)⟩
theorem Wr.all {L cs : List ByteArray} {D : Nat → Prop} (h : Wr L cs D) (hD : ∀ p, p < L.length → D p) : cs = L := by
  apply List.ext_getElem?
  intro p
  rcases Nat.lt_or_ge p L.length with h1 | h1
  · exact h.2 p (hD p h1)
  · rw [List.getElem?_eq_none (by rw [h.1]; exact h1), List.getElem?_eq_none h1]

/-- The sectors of one file's first t parts, and n more. -/
def InParts (e : List (Nat × Nat)) (t n : Nat) (p : Nat) : Prop := ∃ j, ∃ (h : j < e.length), ∃ i, i < e[j].2 ∧ p = e[j].1 + i ∧ (j < t ∨ (j = t ∧ i < n))
theorem InParts.zero {e : List (Nat × Nat)} {p : Nat} (h : InParts e 0 0 p) : False := by
  obtain ⟨j, _, i, _, _, h⟩ := h
  omega
theorem InParts.next {e : List (Nat × Nat)} {t : Nat} (h : t < e.length) {p : Nat} (hp : InParts e (t + 1) 0 p) : InParts e t e[t].2 p := by
  obtain ⟨j, hj, i, hi, he, h1⟩ := hp
  refine ⟨j, hj, i, hi, he, ?_⟩
  rcases Nat.lt_or_ge j t with h2 | h2
  · exact .inl h2
  · have : j = t := by omega
    subst this
    exact .inr ⟨rfl, hi⟩
theorem InParts.succ {e : List (Nat × Nat)} {t n : Nat} (h : t < e.length) {p : Nat} (hp : InParts e t (n + 1) p) : InParts e t n p ∨ p = e[t].1 + n := by
  obtain ⟨j, hj, i, hi, he, h1⟩ := hp
  rcases h1 with h1 | ⟨rfl, h1⟩
  · exact .inl ⟨j, hj, i, hi, he, .inl h1⟩
  · rcases Nat.lt_or_ge i n with h2 | h2
    · exact .inl ⟨j, hj, i, hi, he, .inr ⟨rfl, h2⟩⟩
    · have : i = n := by omega
      subst this
      exact .inr he
/-- What is written when the files below k are, and of file k its own sector (if b), its first t parts, and n sectors more. -/
def DoneAt (ex : List (List (Nat × Nat))) (k : Nat) (b : Bool) (t n : Nat) (p : Nat) : Prop :=
  p = 0 ∨ (∃ j, j < k ∧ p = 1 + j) ∨ (b = true ∧ p = 1 + k) ∨ (∃ j, ∃ (h : j < ex.length), j < k ∧ InParts ex[j] ex[j].length 0 p) ∨ (∃ (h : k < ex.length), InParts ex[k] t n p)
theorem DoneAt.ino {ex : List (List (Nat × Nat))} {k : Nat} {p : Nat} (h : DoneAt ex k true 0 0 p) : DoneAt ex k false 0 0 p ∨ p = 1 + k := by
  rcases h with h | h | ⟨_, h⟩ | h | h
  · exact .inl (.inl h)
  · exact .inl (.inr (.inl h))
  · exact .inr h
  · exact .inl (.inr (.inr (.inr (.inl h))))
  · exact .inl (.inr (.inr (.inr (.inr h))))
theorem DoneAt.next {ex : List (List (Nat × Nat))} {k t : Nat} (hk : k < ex.length) (ht : t < ex[k].length) {p : Nat} (h : DoneAt ex k true (t + 1) 0 p) : DoneAt ex k true t ex[k][t].2 p := by
  rcases h with h | h | h | h | ⟨h1, h⟩
  · exact .inl h
  · exact .inr (.inl h)
  · exact .inr (.inr (.inl h))
  · exact .inr (.inr (.inr (.inl h)))
  · exact .inr (.inr (.inr (.inr ⟨hk, InParts.next ht h⟩)))
theorem DoneAt.succ {ex : List (List (Nat × Nat))} {k t n : Nat} (hk : k < ex.length) (ht : t < ex[k].length) {p : Nat} (h : DoneAt ex k true t (n + 1) p) : DoneAt ex k true t n p ∨ p = ex[k][t].1 + n := by
  rcases h with h | h | h | h | ⟨h1, h⟩
  · exact .inl (.inl h)
  · exact .inl (.inr (.inl h))
  · exact .inl (.inr (.inr (.inl h)))
  · exact .inl (.inr (.inr (.inr (.inl h))))
  · rcases InParts.succ ht h with h2 | h2
    · exact .inl (.inr (.inr (.inr (.inr ⟨hk, h2⟩))))
    · exact .inr h2
theorem DoneAt.file {ex : List (List (Nat × Nat))} {k : Nat} (hk : k < ex.length) {p : Nat} (h : DoneAt ex (k + 1) false 0 0 p) : DoneAt ex k true ex[k].length 0 p := by
  rcases h with h | ⟨j, hj, h⟩ | ⟨h, _⟩ | ⟨j, hj, hjk, h⟩ | ⟨h1, h⟩
  · exact .inl h
  · rcases Nat.lt_or_ge j k with h2 | h2
    · exact .inr (.inl ⟨j, h2, h⟩)
    · have : j = k := by omega
      subst this
      exact .inr (.inr (.inl ⟨rfl, h⟩))
  · cases h
  · rcases Nat.lt_or_ge j k with h2 | h2
    · exact .inr (.inr (.inr (.inl ⟨j, hj, h2, h⟩)))
    · have : j = k := by omega
      subst this
      exact .inr (.inr (.inr (.inr ⟨hk, h⟩)))
  · exact h.zero.elim
theorem DoneAt.head {ex : List (List (Nat × Nat))} {p : Nat} (h : DoneAt ex 0 false 0 0 p) : p = 0 := by
  rcases h with h | ⟨j, hj, h⟩ | ⟨h, _⟩ | ⟨j, hj, hjk, h⟩ | ⟨h1, h⟩
  · exact h
  · omega
  · cases h
  · omega
  · exact h.zero.elim

/-- All sectors of a disk of these files. -/
def diskL (fs : List Fl) (ex : List (List (Nat × Nat))) (dat : List ByteArray) : List ByteArray := headS fs.length (1 + fs.length + dat.length) :: (inosOf fs ex).map inoS ++ dat
theorem diskL_length {fs : List Fl} {ex : List (List (Nat × Nat))} (dat : List ByteArray) (h : ex.length = fs.length) : (diskL fs ex dat).length = 1 + fs.length + dat.length := by
  unfold diskL
  rw [List.length_append, List.length_cons, List.length_map, inosOf_length h]
  omega
theorem diskL_ino {fs : List Fl} {ex : List (List (Nat × Nat))} (dat : List ByteArray) (h : ex.length = fs.length) (k : Nat) (hk : k < (inosOf fs ex).length) : (diskL fs ex dat)[1 + k]? = some (inoS (inosOf fs ex)[k]) := by
  unfold diskL
  rw [List.getElem?_append_left (by simp; omega), Nat.add_comm 1 k, List.getElem?_cons_succ, List.getElem?_map, List.getElem?_eq_getElem hk]
  rfl
theorem diskL_dat {fs : List Fl} {ex : List (List (Nat × Nat))} (dat : List ByteArray) (h : ex.length = fs.length) (q : Nat) : (diskL fs ex dat)[1 + fs.length + q]? = dat[q]? := by
  have hl : (headS fs.length (1 + fs.length + dat.length) :: (inosOf fs ex).map inoS).length = 1 + fs.length := by rw [List.length_cons, List.length_map, inosOf_length h]; omega
  unfold diskL
  rw [List.getElem?_append_right (by omega), hl]
  congr 1
  omega
theorem done_all {fs : List Fl} {s : Nat} {L : Laid} (h : LaidOk fs s 4 0 L) {p : Nat} (hp : p < 1 + fs.length + L.dat.length) : DoneAt L.ex fs.length false 0 0 p := by
  rcases Nat.lt_or_ge p (1 + fs.length) with h1 | h1
  · rcases Nat.eq_zero_or_pos p with h2 | h2
    · exact .inl h2
    · exact .inr (.inl ⟨p - 1, by omega, by omega⟩)
  · obtain ⟨j, hj, t, ht, n, hn, he⟩ := h.all (p - (1 + fs.length)) (by omega)
    exact .inr (.inr (.inr (.inl ⟨j, hj, by rw [← h.len]; exact hj, t, ht, n, hn, by omega, .inl ht⟩)))
/-- A part's page, as it is put. -/
theorem part_page {fs : List Fl} {s : Nat} {L : Laid} (h : LaidOk fs s 4 0 L) (k : Nat) (hk : k < fs.length) (hk' : k < L.ex.length) (t : Nat) (ht : t < L.ex[k].length) (n : Nat) (hn : n < L.ex[k][t].2) :
    (diskL fs L.ex L.dat)[L.ex[k][t].1 + n]? = some (pageOf fs[k].data (ahd L.ex[k] t + n)) := by
  obtain ⟨h1, h2, h3⟩ := h.put k hk hk' t ht
  have h4 := h3 n hn
  rw [← diskL_dat (fs := fs) (ex := L.ex) L.dat h.len] at h4
  rw [← h4]
  congr 1
  omega
theorem fill_page (d : ByteArray) (q : Nat) : fill64 (d.extract (q * 64) (min (q * 64 + 64) d.size)) = pageOf d q := by
  rw [extract_mkb]
  unfold fill64 pageOf
  rw [mkb_data, Nat.mul_comm q 64]
  congr 1
  have h1 := take_fill (d.data.toList.drop (64 * q)) 64
  have hl : (d.data.toList.drop (64 * q)).length = d.size - 64 * q := by rw [List.length_drop, len_data]
  rcases Nat.le_total (d.data.toList.drop (64 * q)).length 64 with h | h
  · have e : (d.data.toList.drop (64 * q)).take (min (64 * q + 64) d.size - 64 * q) = d.data.toList.drop (64 * q) := List.take_of_length_le (by omega)
    rw [e]
  · have e : min (64 * q + 64) d.size - 64 * q = 64 := by omega
    rw [e]
    unfold fillL
    rw [List.take_take, List.length_take, Nat.min_self, show 64 - min 64 (d.data.toList.drop (64 * q)).length = 0 by omega, show 64 - (d.data.toList.drop (64 * q)).length = 0 by omega]
end Go.Proofs.YtmbjflcmbenbdaaDoor
