/- Changes that come in, as they lie. -/
import Derived.Test.YtmknkdfdkanijaaVG
namespace Go.Proofs.Ytmknkdfdkanijaa
open Go.RowKit Go.ChangeShapes Go.WideShapes Go.Deep
set_option linter.unusedVariables false
set_option linter.unusedSimpArgs false

section
variable {H : Type} {enc : TypeId × Value → H} {w : World} {base : Nat} {spare : Nat → Bool} {held : Bool} {r : Reach} {b0 : Nat} {v : Value} {d : DataW H} {ps : List MemPlace}
theorem trod_region {fuel : Nat} {cs : List Value} {y : DataW H × List MemPlace} (h : DataW.trod enc Try.prog w base spare held fuel 29 cs = some y) : ∃ r : Rg, cs = r.cs.toList ∧ r.Wf := by
  have hc : Try.prog.cellsOf 29 = 6 := by kernel_rfl
  have hi : Try.prog.cellsOf 3 = 1 := by kernel_rfl
  obtain ⟨xs, m, _, _, hlen, hxl, hel⟩ := DataW.trod_struct Try.underlying29 h
  rw [hc] at hlen
  match cs, hlen with
  | [c0, c1, c2, c3, c4, c5], _ =>
    have h0 : DataW.trod enc Try.prog w base spare held m 3 (([c0, c1, c2, c3, c4, c5].drop 0).take (Try.prog.cellsOf 3)) = xs[0]? := hel 0 _ rfl
    have h1 : DataW.trod enc Try.prog w base spare held m 3 (([c0, c1, c2, c3, c4, c5].drop 1).take (Try.prog.cellsOf 3)) = xs[1]? := hel 1 _ rfl
    have h2 : DataW.trod enc Try.prog w base spare held m 3 (([c0, c1, c2, c3, c4, c5].drop 2).take (Try.prog.cellsOf 3)) = xs[2]? := hel 2 _ rfl
    have h3 : DataW.trod enc Try.prog w base spare held m 3 (([c0, c1, c2, c3, c4, c5].drop 3).take (Try.prog.cellsOf 3)) = xs[3]? := hel 3 _ rfl
    have h4 : DataW.trod enc Try.prog w base spare held m 3 (([c0, c1, c2, c3, c4, c5].drop 4).take (Try.prog.cellsOf 3)) = xs[4]? := hel 4 _ rfl
    have h5 : DataW.trod enc Try.prog w base spare held m 3 (([c0, c1, c2, c3, c4, c5].drop 5).take (Try.prog.cellsOf 3)) = xs[5]? := hel 5 _ rfl
    have hx6 : xs.length = 6 := hxl
    rw [hi] at h0 h1 h2 h3 h4 h5
    rw [List.getElem?_eq_getElem (by omega)] at h0 h1 h2 h3 h4 h5
    obtain ⟨n0, e0, _, w0⟩ := DataW.trod_int Try.underlying3 h0
    obtain ⟨n1, e1, _, w1⟩ := DataW.trod_int Try.underlying3 h1
    obtain ⟨n2, e2, _, w2⟩ := DataW.trod_int Try.underlying3 h2
    obtain ⟨n3, e3, _, w3⟩ := DataW.trod_int Try.underlying3 h3
    obtain ⟨n4, e4, _, w4⟩ := DataW.trod_int Try.underlying3 h4
    obtain ⟨n5, e5, _, w5⟩ := DataW.trod_int Try.underlying3 h5
    simp at e0 e1 e2 e3 e4 e5
    subst e0 e1 e2 e3 e4 e5
    exact ⟨⟨n0, n1, n2, n3, n4, n5⟩, rfl, w0, w1, w2, w3, w4, w5⟩
theorem trod_op {fuel : Nat} {cs : List Value} {y : DataW H × List MemPlace} (h : DataW.trod enc Try.prog w base spare held fuel 31 cs = some y) : ∃ o : OpU, cs = o.cs.toList ∧ o.Wf := by
  have hc : Try.prog.cellsOf 31 = 11 := by kernel_rfl
  have hi : Try.prog.cellsOf 3 = 1 := by kernel_rfl
  have hb : Try.prog.cellsOf 4 = 1 := by kernel_rfl
  have hr : Try.prog.cellsOf 29 = 6 := by kernel_rfl
  obtain ⟨xs, m, _, _, hlen, hxl, hel⟩ := DataW.trod_struct Try.underlying31 h
  rw [hc] at hlen
  match cs, hlen with
  | [c0, c1, c2, c3, c4, c5, c6, c7, c8, c9, c10], _ =>
    have h0 : DataW.trod enc Try.prog w base spare held m 3 (([c0, c1, c2, c3, c4, c5, c6, c7, c8, c9, c10].drop 0).take (Try.prog.cellsOf 3)) = xs[0]? := hel 0 _ rfl
    have h1 : DataW.trod enc Try.prog w base spare held m 3 (([c0, c1, c2, c3, c4, c5, c6, c7, c8, c9, c10].drop 1).take (Try.prog.cellsOf 3)) = xs[1]? := hel 1 _ rfl
    have h2 : DataW.trod enc Try.prog w base spare held m 3 (([c0, c1, c2, c3, c4, c5, c6, c7, c8, c9, c10].drop 2).take (Try.prog.cellsOf 3)) = xs[2]? := hel 2 _ rfl
    have h3 : DataW.trod enc Try.prog w base spare held m 3 (([c0, c1, c2, c3, c4, c5, c6, c7, c8, c9, c10].drop 3).take (Try.prog.cellsOf 3)) = xs[3]? := hel 3 _ rfl
    have h4 : DataW.trod enc Try.prog w base spare held m 4 (([c0, c1, c2, c3, c4, c5, c6, c7, c8, c9, c10].drop 4).take (Try.prog.cellsOf 4)) = xs[4]? := hel 4 _ rfl
    have h5 : DataW.trod enc Try.prog w base spare held m 29 (([c0, c1, c2, c3, c4, c5, c6, c7, c8, c9, c10].drop 5).take (Try.prog.cellsOf 29)) = xs[5]? := hel 5 _ rfl
    have hx6 : xs.length = 6 := hxl
    rw [hi] at h0 h1 h2 h3
    rw [hb] at h4
    rw [hr] at h5
    rw [List.getElem?_eq_getElem (by omega)] at h0 h1 h2 h3 h4 h5
    obtain ⟨n0, e0, _, w0⟩ := DataW.trod_int Try.underlying3 h0
    obtain ⟨n1, e1, _, w1⟩ := DataW.trod_int Try.underlying3 h1
    obtain ⟨n2, e2, _, w2⟩ := DataW.trod_int Try.underlying3 h2
    obtain ⟨n3, e3, _, w3⟩ := DataW.trod_int Try.underlying3 h3
    obtain ⟨n4, e4, _⟩ := DataW.trod_bool Try.underlying4 h4
    obtain ⟨r, e5, w5⟩ := trod_region h5
    simp [Rg.cs] at e0 e1 e2 e3 e4 e5
    obtain ⟨e5, e6, e7, e8, e9, e10⟩ := e5
    subst e0 e1 e2 e3 e4 e5 e6 e7 e8 e9 e10
    exact ⟨⟨n0, n1, n2, n3, n4, r⟩, rfl, w0, w1, w2, w3, w5⟩
/-- The slice at A has these changes. -/
def OpRow (w : World) (A : Option Addr) (l : List OpU) : Prop := ∀ i (hi : i < l.length), ∃ ad, A = some ad ∧ ad.block < w.heap.size ∧ (∀ j, j < 11 → w.cell? (ad.add (i * 11 + j)) = (l[i].cs)[j]?) ∧ l[i].Wf
theorem open_opsU (hv : Value.okWide Try.prog w r b0 22 v) (h : DataW.Trod enc Try.prog w base spare held 22 v d ps) : ∃ A l c, v = .slice A (List.length l) c ∧ l.length ≤ maxLen ∧ OpRow w A l := by
  have hc : Try.prog.cellsOf 31 = 11 := by kernel_rfl
  obtain ⟨A, n, c, rfl, hn, hi⟩ := open_row_n Try.underlying22 hv h (by rw [hc]; omega)
  obtain ⟨zs, hl, hz⟩ := list_of (Q := fun i (z : OpU) => ∃ ad, A = some ad ∧ ad.block < w.heap.size ∧ (∀ j, j < 11 → w.cell? (ad.add (i * 11 + j)) = (z.cs)[j]?) ∧ z.Wf) n (fun i h => by
    obtain ⟨ad, rfl, hb, fuel, cs, y, hlen, hat, hy⟩ := hi i h
    rw [hc] at hlen hat
    obtain ⟨o, rfl, hw⟩ := trod_op hy
    exact ⟨o, ad, rfl, hb, fun j hj => by rw [hat j hj]; simp, hw⟩)
  subst hl
  exact ⟨A, zs, c, rfl, hn, hz⟩
end
theorem OpRow.below {w w' : World} {A : Option Addr} {l : List OpU} (h : OpRow w A l) {n : Nat} (hn : n = w.heap.size) (hb : Below n w w') : OpRow w' A l := fun i hi => by
  obtain ⟨ad, h1, h2, h3, h4⟩ := h i hi
  refine ⟨ad, h1, Nat.lt_of_lt_of_le h2 hb.size, fun j hj => (hb.cell ?_).trans (h3 j hj), h4⟩
  have : (ad.add (i * 11 + j)).block = ad.block := by unfold Addr.add; split <;> rfl
  omega
theorem OpRow.at_ {w : World} {A : Option Addr} {l : List OpU} (h : OpRow w A l) {i : Nat} (hi : i < l.length) : ∃ ad, A = some ad ∧ l[i].Wf ∧
    w.cell? (ad.add (i * 11)) = some (.int .i64 l[i].kd) ∧
    w.cell? ⟨(ad.add (i * 11)).block, (ad.add (i * 11)).off + 1, none⟩ = some (.int .i64 l[i].f) ∧
    w.cell? ⟨(ad.add (i * 11)).block, (ad.add (i * 11)).off + 2, none⟩ = some (.int .i64 l[i].t) ∧
    w.cell? ⟨(ad.add (i * 11)).block, (ad.add (i * 11)).off + 3, none⟩ = some (.int .i64 l[i].p) ∧
    w.cell? ⟨(ad.add (i * 11)).block, (ad.add (i * 11)).off + 4, none⟩ = some (.bool l[i].inn) ∧
    w.cell? ⟨(ad.add (i * 11)).block, (ad.add (i * 11)).off + 5, none⟩ = some (.int .i64 l[i].r.f) ∧
    w.cell? ⟨(ad.add (i * 11)).block, (ad.add (i * 11)).off + 6, none⟩ = some (.int .i64 l[i].r.t) ∧
    w.cell? ⟨(ad.add (i * 11)).block, (ad.add (i * 11)).off + 7, none⟩ = some (.int .i64 l[i].r.p) ∧
    w.cell? ⟨(ad.add (i * 11)).block, (ad.add (i * 11)).off + 8, none⟩ = some (.int .i64 l[i].r.k) ∧
    w.cell? ⟨(ad.add (i * 11)).block, (ad.add (i * 11)).off + 9, none⟩ = some (.int .i64 l[i].r.fl) ∧
    w.cell? ⟨(ad.add (i * 11)).block, (ad.add (i * 11)).off + 10, none⟩ = some (.int .i64 l[i].r.pg) := by
  obtain ⟨ad, e, hlt, hc, hw⟩ := h i hi
  have hs : ∀ j, 0 < j → (⟨(ad.add (i * 11)).block, (ad.add (i * 11)).off + j, none⟩ : Addr) = ad.add (i * 11 + j) := fun j hj => by
    rw [← Go.Deep.add_add]
    show _ = (ad.add (i * 11)).add j
    generalize ad.add (i * 11) = q
    unfold Addr.add
    split <;> simp_all
  refine ⟨ad, e, hw, ?_, ?_, ?_, ?_, ?_, ?_, ?_, ?_, ?_, ?_, ?_⟩
  · exact hc 0 (by omega)
  all_goals rw [hs _ (by omega)]
  · exact hc 1 (by omega)
  · exact hc 2 (by omega)
  · exact hc 3 (by omega)
  · exact hc 4 (by omega)
  · exact hc 5 (by omega)
  · exact hc 6 (by omega)
  · exact hc 7 (by omega)
  · exact hc 8 (by omega)
  · exact hc 9 (by omega)
  · exact hc 10 (by omega)
theorem i64_and127U (n : Int) : bits .and .i64 n 127 = n % 128 := i64_and_mask n 7 127 (by omega) (by decide)
theorem i64_and15U (n : Int) : bits .and .i64 n 15 = n % 16 := i64_and_mask n 4 15 (by omega) (by decide)
end Go.Proofs.Ytmknkdfdkanijaa
