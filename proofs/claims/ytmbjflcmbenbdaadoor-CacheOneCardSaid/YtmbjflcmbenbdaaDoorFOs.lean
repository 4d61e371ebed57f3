/- Layer 4: slices of files, of texts, of numbers that come in. -/
import Derived.Test.YtmbjflcmbenbdaaDoorFM
import Derived.Test.YtmbjflcmbenbdaaDoorOpen
import Derived.Test.YtmbjflcmbenbdaaDoorLaw
namespace Go.Proofs.YtmbjflcmbenbdaaDoor
open Go.RowKit Go.ChangeShapes Go.WideShapes
set_option linter.unusedVariables false

/-- The slice at A holds these files. -/
def FileIn (w : World) (A : Option Addr) (fs : List Fl) : Prop := ∀ i (hi : i < fs.length), ∃ ad, A = some ad ∧ ad.block < w.heap.size ∧ w.cell? (ad.add (i * 2)) = some (.string fs[i].name) ∧ w.cell? (ad.add (i * 2 + 1)) = some (.string fs[i].data) ∧ fs[i].name.size ≤ maxLen ∧ fs[i].data.size ≤ maxLen
section
variable {H : Type} {enc : TypeId × Value → H} {w : World} {base : Nat} {spare : Nat → Bool} {held : Bool} {r : Reach} {b0 : Nat} {v : Value} {d : DataW H} {ps : List MemPlace}
set_option maxRecDepth 100000 in
theorem openInts4 (hv : Value.okWide Tryd.prog w r b0 22 v) (h : DataW.Trod enc Tryd.prog w base spare held 22 v d ps) : ∃ A zs c, v = .slice A (List.length zs) c ∧ zs.length ≤ maxLen ∧ IntRow w A zs :=
  open_int_row Tryd.underlying22 Tryd.underlying3 (by kernel_rfl) hv h
set_option maxRecDepth 100000 in
theorem openStrs4 (hv : Value.okWide Tryd.prog w r b0 29 v) (h : DataW.Trod enc Tryd.prog w base spare held 29 v d ps) : ∃ A ss c, v = .slice A (List.length ss) c ∧ ss.length ≤ maxLen ∧ StrRow w A ss :=
  open_str_row Tryd.underlying29 Tryd.underlying9 (by kernel_rfl) hv h
set_option maxRecDepth 100000 in
theorem openFiles4 (hv : Value.okWide Tryd.prog w r b0 33 v) (h : DataW.Trod enc Tryd.prog w base spare held 33 v d ps) : ∃ A fs c, v = .slice A (List.length fs) c ∧ fs.length ≤ maxLen ∧ FileIn w A fs := by
  obtain ⟨A, n, c, rfl, hn, hi⟩ := open_fields_row Tryd.underlying33 Tryd.underlying63 (by kernel_rfl) (by kernel_rfl) (by decide) hv h
  obtain ⟨zs, hl, hz⟩ := list_of (Q := fun i (z : Fl) => ∃ ad, A = some ad ∧ ad.block < w.heap.size ∧ w.cell? (ad.add (i * 2)) = some (.string z.name) ∧ w.cell? (ad.add (i * 2 + 1)) = some (.string z.data) ∧ z.name.size ≤ maxLen ∧ z.data.size ≤ maxLen) n (fun i h => by
    obtain ⟨ad, rfl, hb, hf⟩ := hi i h
    obtain ⟨u0, y0, m0, hc0, h0⟩ := hf 0 _ rfl
    obtain ⟨u1, y1, m1, hc1, h1⟩ := hf 1 _ rfl
    obtain ⟨z0, e0, _, w0⟩ := DataW.trod_string Tryd.underlying9 h0
    obtain ⟨z1, e1, _, w1⟩ := DataW.trod_string Tryd.underlying9 h1
    injection e0 with e0
    injection e1 with e1
    subst e0 e1
    exact ⟨⟨z0, z1⟩, ad, rfl, hb, by simpa using hc0, by simpa using hc1, w0, w1⟩)
  subst hl
  exact ⟨A, zs, c, rfl, hn, hz⟩
end
end Go.Proofs.YtmbjflcmbenbdaaDoor
