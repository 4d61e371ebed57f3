/- Slices that come in: what they read as; of no program. -/
import Derived.Test.YtafogipkbhglcaaBase
import Derived.Deep.Slices
import Derived.Deep.Fields
import Derived.ChangeSame
import Derived.OpenShut
import Derived.Deep.RegionHeld
namespace Go.Proofs.Ytafogipkbhglcaa
open Go.RowKit Go.ChangeShapes Go.WideShapes Go.Deep

theorem list_of {α : Type} {Q : Nat → α → Prop} : ∀ n, (∀ i, i < n → ∃ x, Q i x) → ∃ l : List α, l.length = n ∧ ∀ i (hi : i < l.length), Q i l[i]
  | 0, _ => ⟨[], rfl, fun i hi => by simp at hi⟩
  | n + 1, h => by
    obtain ⟨l, hl, hq⟩ := list_of n (fun i hi => h i (by omega))
    obtain ⟨x, hx⟩ := h n (by omega)
    refine ⟨l ++ [x], by simp [hl], fun i hi => ?_⟩
    by_cases hlt : i < n
    · rw [List.getElem_append_left (by omega)]
      exact hq i (by omega)
    · have hi' : i = n := by simp [hl] at hi; omega
      subst hi'
      rw [List.getElem_append_right (by omega)]
      simpa [hl] using hx

section
variable {H : Type} {enc : TypeId × Value → H} {P : Program} {w : World} {base : Nat} {spare : Nat → Bool} {held : Bool} {r : Reach} {b0 : Nat} {t e : TypeId} {v : Value} {d : DataW H} {ps : List MemPlace}

/-- A slice: its cells, element by element, and the reading of each. -/
theorem open_row_n (ht : P.underlying t = some (.slice e)) (hv : Value.okWide P w r b0 t v) (h : DataW.Trod enc P w base spare held t v d ps) (hc : 0 < P.cellsOf e) :
    ∃ A n c, v = .slice A n c ∧ n ≤ maxLen ∧ ∀ i, i < n → ∃ ad, A = some ad ∧ ad.block < w.heap.size ∧ ∃ (fuel : Nat) (cs : List Value) (y : DataW H × List MemPlace), cs.length = P.cellsOf e ∧ (∀ j, j < P.cellsOf e → w.cell? (ad.add (i * P.cellsOf e + j)) = cs[j]?) ∧ DataW.trod enc P w base spare held fuel e cs = some y := by
  obtain ⟨A, n, c, rfl⟩ := okWide_slice ht hv
  obtain ⟨fuel, hf⟩ := h
  rcases open_slice ht hf with ⟨h1, _⟩ | ⟨a, len, cap, m, f, D, Pl, h1, hb, hl, hm, hmm, hx, hi⟩
  · have h2 : Value.slice A n c = .slice none 0 0 := by simpa [Value.cells] using h1
    injection h2 with e1 e2 e3
    subst e1 e2 e3
    exact ⟨_, _, _, rfl, Nat.zero_le _, fun i hi => absurd hi (by omega)⟩
  · have h2 : Value.slice A n c = .slice (some a) len cap := by simpa [Value.cells] using h1
    injection h2 with e1 e2 e3
    subst e1 e2 e3
    refine ⟨_, _, _, rfl, by omega, fun i hil => ?_⟩
    have him : i < m := by rw [hmm]; split <;> omega
    obtain ⟨cs, hcs, hy⟩ := hi i him
    obtain ⟨_, hlen, hat⟩ := World.cells?_some hcs
    have hb : (a.add (i * P.cellsOf e)).block = a.block := by unfold Addr.add; split <;> rfl
    have h0 := hat 0 (by omega)
    have h00 : cs[0]? = some (cs[0]'(by omega)) := List.getElem?_eq_getElem (by omega)
    rw [h00] at h0
    have hlt := World.block_lt_of_cell? w _ h0
    have hb0 : ((a.add (i * P.cellsOf e)).add 0).block = a.block := by rw [← hb]; unfold Addr.add; split <;> rfl
    rw [hb0] at hlt
    exact ⟨a, rfl, hlt, f, cs, _, hlen, fun j hj => by rw [← hat j hj, ← Go.Deep.add_add], hy⟩

/-- A slice of structs of fields of one cell each. -/
theorem open_fields_row {fs : Array Field} (ht : P.underlying t = some (.slice e)) (he : P.underlying e = some (.struct fs)) (hone : oneCellFields P fs = true) (hC : P.cellsOf e = fs.size) (h0 : 0 < fs.size)
    (hv : Value.okWide P w r b0 t v) (h : DataW.Trod enc P w base spare held t v d ps) :
    ∃ A n c, v = .slice A n c ∧ n ≤ maxLen ∧ ∀ i, i < n → ∃ ad, A = some ad ∧ ad.block < w.heap.size ∧ ∀ (j : Nat) (f : Field), fs[j]? = some f → ∃ (u : Value) (y : DataW H × List MemPlace) (fuel : Nat), w.cell? (ad.add (i * fs.size + j)) = some u ∧ DataW.trod enc P w base spare held fuel f.type [u] = some y := by
  obtain ⟨A, n, c, rfl, hn, hi⟩ := open_row_n ht hv h (by omega)
  refine ⟨A, n, c, rfl, hn, fun i him => ?_⟩
  obtain ⟨ad, rfl, hb, fuel, cs, y, hlen, hat, hy⟩ := hi i him
  rw [hC] at hlen hat
  obtain ⟨xs, m, _, _, _, hxl, hel⟩ := DataW.trod_struct he hy
  refine ⟨ad, rfl, hb, fun j f hj => ?_⟩
  obtain ⟨ho, hk⟩ := hone_of hone j f hj
  have hjl : j < fs.size := (Array.getElem?_eq_some_iff.1 hj).1
  have h1 := hel j f hj
  rw [ho, hk, List.drop_eq_getElem_cons (by omega), List.getElem?_eq_getElem (by omega)] at h1
  exact ⟨_, _, m, by rw [hat j hjl, List.getElem?_eq_getElem (by omega)], h1⟩

/-- A slice of ints. -/
def IntRow (w : World) (A : Option Addr) (zs : List Int) : Prop := ∀ i (hi : i < zs.length), ∃ ad, A = some ad ∧ ad.block < w.heap.size ∧ w.cell? (ad.add i) = some (.int .i64 zs[i]) ∧ (Lit.int .i64 zs[i]).wf = true
theorem open_int_row (ht : P.underlying t = some (.slice e)) (he : P.underlying e = some (.int .i64)) (hc : P.cellsOf e = 1) (hv : Value.okWide P w r b0 t v) (h : DataW.Trod enc P w base spare held t v d ps) :
    ∃ A zs c, v = .slice A (List.length zs) c ∧ zs.length ≤ maxLen ∧ IntRow w A zs := by
  obtain ⟨A, n, c, rfl, hn, hi⟩ := open_row_n ht hv h (by omega)
  obtain ⟨zs, hl, hz⟩ := list_of (Q := fun i (z : Int) => ∃ ad, A = some ad ∧ ad.block < w.heap.size ∧ w.cell? (ad.add i) = some (.int .i64 z) ∧ (Lit.int .i64 z).wf = true) n (fun i h => by
    obtain ⟨ad, rfl, hb, fuel, cs, y, hlen, hat, hy⟩ := hi i h
    obtain ⟨z, rfl, _, hw⟩ := DataW.trod_int he hy
    have := hat 0 (by omega)
    rw [hc, Nat.mul_one] at this
    exact ⟨z, ad, rfl, hb, this, hw⟩)
  subst hl
  exact ⟨A, zs, c, rfl, hn, hz⟩

/-- A slice of strings. -/
def StrRow (w : World) (A : Option Addr) (ss : List ByteArray) : Prop := ∀ i (hi : i < ss.length), ∃ ad, A = some ad ∧ ad.block < w.heap.size ∧ w.cell? (ad.add i) = some (.string ss[i]) ∧ ss[i].size ≤ maxLen
theorem open_str_row (ht : P.underlying t = some (.slice e)) (he : P.underlying e = some .string) (hc : P.cellsOf e = 1) (hv : Value.okWide P w r b0 t v) (h : DataW.Trod enc P w base spare held t v d ps) :
    ∃ A ss c, v = .slice A (List.length ss) c ∧ ss.length ≤ maxLen ∧ StrRow w A ss := by
  obtain ⟨A, n, c, rfl, hn, hi⟩ := open_row_n ht hv h (by omega)
  obtain ⟨zs, hl, hz⟩ := list_of (Q := fun i (z : ByteArray) => ∃ ad, A = some ad ∧ ad.block < w.heap.size ∧ w.cell? (ad.add i) = some (.string z) ∧ z.size ≤ maxLen) n (fun i h => by
    obtain ⟨ad, rfl, hb, fuel, cs, y, hlen, hat, hy⟩ := hi i h
    obtain ⟨z, rfl, _, hw⟩ := DataW.trod_string he hy
    have := hat 0 (by omega)
    rw [hc, Nat.mul_one] at this
    exact ⟨z, ad, rfl, hb, this, hw⟩)
  subst hl
  exact ⟨A, zs, c, rfl, hn, hz⟩
end
end Go.Proofs.Ytafogipkbhglcaa
