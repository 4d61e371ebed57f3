/- Layer 12: a Spec that comes in; a list that comes in. -/
import Derived.Test.YtmkaehnekhejmaaGp
namespace Go.Proofs.Ytmkaehnekhejmaa
open Go.RowKit Go.ChangeShapes Go.WideShapes Go.Deep
set_option linter.unusedVariables false
set_option linter.unusedSimpArgs false

section
variable {H : Type} {enc : TypeId × Value → H} {P : Program} {w : World} {base : Nat} {spare : Nat → Bool} {held : Bool} {r : Reach} {b0 : Nat} {t e : TypeId} {v : Value} {d : DataW H} {ps : List MemPlace}
/-- A struct of fields of one cell each, as it is read. -/
theorem fieldsG_trod {fs : Array Field} {fuel : Nat} {cs : List Value} {y : DataW H × List MemPlace} (ht : P.underlying t = some (.struct fs)) (hone : oneCellFields P fs = true) (hC : P.cellsOf t = fs.size) (h : DataW.trod enc P w base spare held fuel t cs = some y) :
    cs.length = fs.size ∧ ∀ (j : Nat) (f : Field), fs[j]? = some f → ∃ (u : Value) (y : DataW H × List MemPlace) (m : Nat), cs[j]? = some u ∧ DataW.trod enc P w base spare held m f.type [u] = some y := by
  obtain ⟨xs, m, _, _, hlen, hxl, hel⟩ := DataW.trod_struct ht h
  rw [hC] at hlen
  refine ⟨hlen, fun j f hj => ?_⟩
  obtain ⟨ho, hk⟩ := hone_of hone j f hj
  have hjl : j < fs.size := (Array.getElem?_eq_some_iff.1 hj).1
  have h1 := hel j f hj
  rw [ho, hk, List.drop_eq_getElem_cons (by omega), List.getElem?_eq_getElem (by omega)] at h1
  exact ⟨_, _, m, List.getElem?_eq_getElem (by omega), h1⟩
/-- A slice, as it is read. -/
theorem rowG_trod {fuel : Nat} {u : Value} {y : DataW H × List MemPlace} (ht : P.underlying t = some (.slice e)) (hc : 0 < P.cellsOf e) (h : DataW.trod enc P w base spare held fuel t [u] = some y) :
    ∃ A n c, u = .slice A n c ∧ n ≤ c ∧ c ≤ maxLen ∧ ∀ i, i < n → ∃ ad, A = some ad ∧ ad.block < w.heap.size ∧ ∃ (m : Nat) (cs : List Value) (y : DataW H × List MemPlace), cs.length = P.cellsOf e ∧ (∀ j, j < P.cellsOf e → w.cell? (ad.add (i * P.cellsOf e + j)) = cs[j]?) ∧ DataW.trod enc P w base spare held m e cs = some y := by
  rcases open_slice ht h with ⟨h1, _⟩ | ⟨a, len, cap, m, f, D, Pl, h1, hb, hl, hm, hmm, hx, hi⟩
  · injection h1 with h1
    exact ⟨none, 0, 0, h1, Nat.le_refl _, Nat.zero_le _, fun i hi => absurd hi (by omega)⟩
  · injection h1 with h1
    refine ⟨some a, len, cap, h1, hl, hm, fun i hil => ?_⟩
    obtain ⟨cs, hcs, hy⟩ := hi i (by rw [hmm]; split <;> omega)
    obtain ⟨_, hlen, hat⟩ := World.cells?_some hcs
    have hbl : (a.add (i * P.cellsOf e)).block = a.block := by unfold Addr.add; split <;> rfl
    have h0 := hat 0 (by omega)
    have h00 : cs[0]? = some (cs[0]'(by omega)) := List.getElem?_eq_getElem (by omega)
    rw [h00] at h0
    have hlt := World.block_lt_of_cell? w _ h0
    have hb0 : ((a.add (i * P.cellsOf e)).add 0).block = a.block := by rw [← hbl]; unfold Addr.add; split <;> rfl
    rw [hb0] at hlt
    exact ⟨a, rfl, hlt, f, cs, _, hlen, fun j hj => by rw [← hat j hj, ← Go.Deep.add_add], hy⟩
end
section
variable {H : Type} {enc : TypeId × Value → H} {w : World} {base : Nat} {spare : Nat → Bool} {held : Bool} {r : Reach} {b0 : Nat} {v : Value} {d : DataW H} {ps : List MemPlace}
theorem openSG_trod {fuel : Nat} {u : Value} {y : DataW H × List MemPlace} (h : DataW.trod enc Try.prog w base spare held fuel 25 [u] = some y) :
    ∃ A l c, u = .slice A (List.length l) c ∧ l.length ≤ maxLen ∧ StrRow w A l := by
  have hC : Try.prog.cellsOf 9 = 1 := by kernel_rfl
  obtain ⟨A, n, c, rfl, hn, hc, hi⟩ := rowG_trod Try.underlying25 (by rw [hC]; decide) h
  rw [hC] at hi
  obtain ⟨zs, hl, hz⟩ := list_of (Q := fun i (z : ByteArray) => ∃ ad, A = some ad ∧ ad.block < w.heap.size ∧ w.cell? (ad.add i) = some (.string z) ∧ z.size ≤ maxLen) n (fun i h => by
    obtain ⟨ad, rfl, hb, m, cs, y, hlen, hat, hy⟩ := hi i h
    have h0 := hat 0 (by omega)
    match cs, hlen with
    | [u0], _ =>
      obtain ⟨z, hz, _, hw⟩ := DataW.trod_string Try.underlying9 hy
      injection hz with hz
      subst hz
      refine ⟨z, ad, rfl, hb, ?_, hw⟩
      simpa using h0)
  subst hl
  exact ⟨A, zs, c, rfl, by omega, hz⟩
theorem openIG_trod {fuel : Nat} {u : Value} {y : DataW H × List MemPlace} (h : DataW.trod enc Try.prog w base spare held fuel 33 [u] = some y) :
    ∃ A l c, u = .slice A (List.length l) c ∧ l.length ≤ maxLen ∧ IntRow w A l := by
  have hC : Try.prog.cellsOf 3 = 1 := by kernel_rfl
  obtain ⟨A, n, c, rfl, hn, hc, hi⟩ := rowG_trod Try.underlying33 (by rw [hC]; decide) h
  rw [hC] at hi
  obtain ⟨zs, hl, hz⟩ := list_of (Q := fun i (z : Int) => ∃ ad, A = some ad ∧ ad.block < w.heap.size ∧ w.cell? (ad.add i) = some (.int .i64 z) ∧ (Lit.int .i64 z).wf = true) n (fun i h => by
    obtain ⟨ad, rfl, hb, m, cs, y, hlen, hat, hy⟩ := hi i h
    have h0 := hat 0 (by omega)
    match cs, hlen with
    | [u0], _ =>
      obtain ⟨z, hz, _, hw⟩ := DataW.trod_int Try.underlying3 hy
      injection hz with hz
      subst hz
      refine ⟨z, ad, rfl, hb, ?_, hw⟩
      simpa using h0)
  subst hl
  exact ⟨A, zs, c, rfl, by omega, hz⟩

theorem listG2 {α : Type} {l : List α} {x y : α} (h : l.length = 2) (h0 : l[0]? = some x) (h1 : l[1]? = some y) : l = [x, y] := by
  match l, h with
  | [a, b], _ => simp at h0 h1; rw [h0, h1]
/-- Rows of numbers. -/
def RowsRow (w : World) (A : Option Addr) (nd : List (List Int)) : Prop := ∀ i (hi : i < nd.length), ∃ ad Ai ci, A = some ad ∧ ad.block < w.heap.size ∧ w.cell? (ad.add i) = some (.slice Ai nd[i].length ci) ∧ IntRow w Ai nd[i] ∧ nd[i].length ≤ maxLen
structure SpecIn where
  nd : List (List Int)
  many : Int
  A : Option Addr
  c : Nat
def SpecIn.cs (s : SpecIn) : Array Value := #[.slice s.A s.nd.length s.c, .int .i64 s.many]
structure SpecIn.In (s : SpecIn) (w : World) : Prop where
  len : s.nd.length ≤ maxLen
  row : RowsRow w s.A s.nd
  wf : (Lit.int .i64 s.many).wf = true
def zspecV : Value := .agg #[.slice none 0 0, .int .i64 0]
theorem openRows_trod {fuel : Nat} {u : Value} {y : DataW H × List MemPlace} (h : DataW.trod enc Try.prog w base spare held fuel 38 [u] = some y) :
    ∃ A l c, u = .slice A (List.length l) c ∧ l.length ≤ maxLen ∧ RowsRow w A l := by
  have hC : Try.prog.cellsOf 33 = 1 := by kernel_rfl
  obtain ⟨A, n, c, rfl, hn, hc, hi⟩ := rowG_trod Try.underlying38 (by rw [hC]; decide) h
  rw [hC] at hi
  obtain ⟨zs, hl, hz⟩ := list_of (Q := fun i (z : List Int) => ∃ ad Ai ci, A = some ad ∧ ad.block < w.heap.size ∧ w.cell? (ad.add i) = some (.slice Ai z.length ci) ∧ IntRow w Ai z ∧ z.length ≤ maxLen) n (fun i h => by
    obtain ⟨ad, rfl, hb, m, cs, y, hlen, hat, hy⟩ := hi i h
    have h0 := hat 0 (by omega)
    match cs, hlen with
    | [u0], _ =>
      obtain ⟨Ai, z, ci, rfl, hl, hr⟩ := openIG_trod hy
      refine ⟨z, ad, Ai, ci, rfl, hb, ?_, hr, hl⟩
      simpa using h0)
  subst hl
  exact ⟨A, zs, c, rfl, by omega, hz⟩
set_option maxRecDepth 100000 in
theorem open_specG (hv : Value.okWide Try.prog w r b0 40 v) (h : DataW.Trod enc Try.prog w base spare held 40 v d ps) : ∃ s : SpecIn, v = .agg s.cs ∧ s.In w := by
  obtain ⟨cs, rfl, hsz⟩ := okWide_struct Try.underlying40 hv
  obtain ⟨fuel, hy⟩ := h
  obtain ⟨hlen, hf⟩ := fieldsG_trod Try.underlying40 (by kernel_rfl) (by kernel_rfl) hy
  obtain ⟨u0, _, _, c0, t0⟩ := hf 0 _ rfl
  obtain ⟨u1, _, _, c1, t1⟩ := hf 1 _ rfl
  obtain ⟨A, nd, k, rfl, l1, r1⟩ := openRows_trod t0
  obtain ⟨m, h2, _, w2⟩ := DataW.trod_int Try.underlying3 t1
  cases h2
  have e := listG2 (l := (Value.agg cs).cells.toList) hlen c0 c1
  have e2 : cs = #[.slice A nd.length k, .int .i64 m] := by
    have : cs.toList = [.slice A nd.length k, .int .i64 m] := e
    rw [← Array.toArray_toList (xs := cs), this]
  exact ⟨⟨nd, m, A, k⟩, by rw [e2]; rfl, ⟨l1, r1, w2⟩⟩
/-- A list of libraries that comes in, of whatever lengths. -/
structure LbIn (w : World) (ad : Addr) (i : Nat) (b : Lb) (An : Option Addr) (cn : Nat) : Prop where
  c0 : w.cell? (ad.add (i * 2)) = some (.string b.name)
  c1 : w.cell? ⟨(ad.add (i * 2)).block, (ad.add (i * 2)).off + 1, none⟩ = some (.slice An b.need.length cn)
  row : StrRow w An b.need
  nm : b.name.size ≤ maxLen
  len : b.need.length ≤ maxLen
def LibsIn (w : World) (A : Option Addr) (L : List Lb) : Prop := ∀ i (hi : i < L.length), ∃ ad An cn, A = some ad ∧ ad.block < w.heap.size ∧ LbIn w ad i L[i] An cn
theorem LibsIn.below {w w' : World} {A : Option Addr} {L : List Lb} (h : LibsIn w A L) {n : Nat} (hn : n = w.heap.size) (hb : Below n w w') : LibsIn w' A L := fun i hi => by
  obtain ⟨ad, An, cn, h1, h2, h3⟩ := h i hi
  refine ⟨ad, An, cn, h1, Nat.lt_of_lt_of_le h2 hb.size, ⟨(hb.cell ?_).trans h3.c0, (hb.cell ?_).trans h3.c1, strRow_belowG h3.row hn hb, h3.nm, h3.len⟩⟩
  · rw [addr_blockG]; omega
  · show (ad.add (i * 2)).block < n
    rw [addr_blockG]; omega
set_option maxRecDepth 100000 in
theorem open_libsG (hv : Value.okWide Try.prog w r b0 22 v) (h : DataW.Trod enc Try.prog w base spare held 22 v d ps) : ∃ A L c, v = .slice A (List.length L) c ∧ L.length ≤ maxLen ∧ LibsIn w A L := by
  obtain ⟨A, n, c, rfl, hn, hi⟩ := open_fields_row Try.underlying22 Try.underlying27 (by kernel_rfl) (by kernel_rfl) (by decide) hv h
  obtain ⟨L, hl, hz⟩ := list_of (Q := fun i (b : Lb) => ∃ ad An cn, A = some ad ∧ ad.block < w.heap.size ∧ LbIn w ad i b An cn) n (fun i h => by
    obtain ⟨ad, rfl, hb, hf⟩ := hi i h
    obtain ⟨u0, y0, f0, k0, t0⟩ := hf 0 _ rfl
    obtain ⟨u1, y1, f1, k1, t1⟩ := hf 1 _ rfl
    obtain ⟨s, hs, _, hw⟩ := DataW.trod_string Try.underlying9 t0
    cases hs
    obtain ⟨An, nd, cn, rfl, hl, hr⟩ := openSG_trod t1
    refine ⟨⟨s, nd⟩, ad, An, cn, rfl, hb, ⟨k0, ?_, hr, hw, hl⟩⟩
    have e : (⟨(ad.add (i * 2)).block, (ad.add (i * 2)).off + 1, none⟩ : Addr) = ad.add (i * 2 + 1) := by
      rw [← Go.Deep.add_add]
      show _ = (ad.add (i * 2)).add 1
      generalize ad.add (i * 2) = q
      unfold Addr.add
      split <;> simp_all
    rw [e]
    exact k1)
  subst hl
  exact ⟨A, L, c, rfl, hn, hz⟩
end
end Go.Proofs.Ytmkaehnekhejmaa
