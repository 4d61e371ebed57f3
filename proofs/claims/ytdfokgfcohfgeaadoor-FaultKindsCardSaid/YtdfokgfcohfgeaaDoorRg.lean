/- A region (api.Region): as it is, as it comes in; with region in the seat: its templates. -/
import Derived.Test.YtdfokgfcohfgeaaDoorBase
import Derived.Test.YtdfokgfcohfgeaaDoorLaw
import Derived.Test.YtdfokgfcohfgeaaDoorOpen
import Derived.Test.YtdfokgfcohfgeaaDoorBits
import Derived.Deep.Fields
import Derived.Laws.StructEq
import Derived.Laws.Tables
namespace Go.Proofs.YtdfokgfcohfgeaaDoor
open Go.RowKit Go.ChangeShapes Go.WideShapes Go.Deep
set_option linter.unusedVariables false
set_option linter.unusedSimpArgs false

/-- A region: From, To, Perm, Kind, File, Page. -/
@[ext] structure Rg where
  f : Int
  t : Int
  p : Int
  k : Int
  fl : Int
  pg : Int
deriving DecidableEq

def Rg.v (r : Rg) : Value := .agg #[.int .i64 r.f, .int .i64 r.t, .int .i64 r.p, .int .i64 r.k, .int .i64 r.fl, .int .i64 r.pg]
/-- Its numbers are ints. -/
structure Rg.Wf (r : Rg) : Prop where
  f : (Lit.int .i64 r.f).wf = true
  t : (Lit.int .i64 r.t).wf = true
  p : (Lit.int .i64 r.p).wf = true
  k : (Lit.int .i64 r.k).wf = true
  fl : (Lit.int .i64 r.fl).wf = true
  pg : (Lit.int .i64 r.pg).wf = true

theorem wf64 {n : Int} (h0 : -9223372036854775808 ≤ n) (h1 : n ≤ 9223372036854775807) : (Lit.int .i64 n).wf = true := by
  have e : (Lit.int .i64 n).wf = (decide (-9223372036854775808 ≤ n) && decide (n ≤ 9223372036854775807)) := rfl
  rw [e]; simp [h0, h1]

def Rg.cs (r : Rg) : Array Value := #[.int .i64 r.f, .int .i64 r.t, .int .i64 r.p, .int .i64 r.k, .int .i64 r.fl, .int .i64 r.pg]
/-- A struct of fields of one cell each. -/
theorem open_fieldsU {H : Type} {enc : TypeId × Value → H} {P : Program} {w : World} {base : Nat} {spare : Nat → Bool} {held : Bool} {r : Reach} {b0 : Nat} {t : TypeId} {v : Value} {d : DataW H} {ps : List MemPlace} {fs : Array Field}
    (ht : P.underlying t = some (.struct fs)) (hone : oneCellFields P fs = true) (hC : P.cellsOf t = fs.size) (hv : Value.okWide P w r b0 t v) (h : DataW.Trod enc P w base spare held t v d ps) :
    ∃ cs : List Value, v = .agg cs.toArray ∧ cs.length = fs.size ∧ ∀ (j : Nat) (f : Field), fs[j]? = some f → ∃ (u : Value) (y : DataW H × List MemPlace) (fuel : Nat), cs[j]? = some u ∧ DataW.trod enc P w base spare held fuel f.type [u] = some y := by
  obtain ⟨cs, rfl, hsz⟩ := okWide_struct ht hv
  rw [hC] at hsz
  obtain ⟨fuel, hy⟩ := h
  obtain ⟨xs, m, _, _, hlen, hxl, hel⟩ := DataW.trod_struct ht hy
  refine ⟨cs.toList, rfl, by simpa using hsz, fun j f hj => ?_⟩
  obtain ⟨ho, hk⟩ := hone_of hone j f hj
  have hjl : j < fs.size := (Array.getElem?_eq_some_iff.1 hj).1
  have h1 := hel j f hj
  have hl : cs.toList.length = fs.size := by simpa using hsz
  simp only [Value.cells] at h1
  rw [ho, hk, List.drop_eq_getElem_cons (by omega), List.getElem?_eq_getElem (by omega)] at h1
  exact ⟨_, _, m, List.getElem?_eq_getElem (by omega), h1⟩
theorem listU6 {l : List Value} {a b c d e f : Value} (hs : l.length = 6) (h0 : l[0]? = some a) (h1 : l[1]? = some b) (h2 : l[2]? = some c) (h3 : l[3]? = some d) (h4 : l[4]? = some e) (h5 : l[5]? = some f) : l = [a, b, c, d, e, f] := by
  match l, hs with
  | [c0, c1, c2, c3, c4, c5], _ =>
    simp only [List.getElem?_cons_zero, List.getElem?_cons_succ, Option.some.injEq] at h0 h1 h2 h3 h4 h5
    rw [h0, h1, h2, h3, h4, h5]
/-- A region that comes in. -/
theorem open_regionU {H : Type} {enc : TypeId × Value → H} {w : World} {base : Nat} {spare : Nat → Bool} {held : Bool} {r : Reach} {b0 : Nat} {v : Value} {d : DataW H} {ps : List MemPlace}
    (hv : Value.okWide Tryd.prog w r b0 23 v) (h : DataW.Trod enc Tryd.prog w base spare held 23 v d ps) : ∃ s : Rg, v = .agg s.cs ∧ s.Wf := by
  obtain ⟨cs, rfl, hsz, hel⟩ := open_fieldsU Tryd.underlying23 (by kernel_rfl) (by kernel_rfl) hv h
  obtain ⟨u0, _, _, c0, t0⟩ := hel 0 _ rfl
  obtain ⟨u1, _, _, c1, t1⟩ := hel 1 _ rfl
  obtain ⟨u2, _, _, c2, t2⟩ := hel 2 _ rfl
  obtain ⟨u3, _, _, c3, t3⟩ := hel 3 _ rfl
  obtain ⟨u4, _, _, c4, t4⟩ := hel 4 _ rfl
  obtain ⟨u5, _, _, c5, t5⟩ := hel 5 _ rfl
  obtain ⟨x0, h0, _, w0⟩ := DataW.trod_int Tryd.underlying3 t0
  obtain ⟨x1, h1, _, w1⟩ := DataW.trod_int Tryd.underlying3 t1
  obtain ⟨x2, h2, _, w2⟩ := DataW.trod_int Tryd.underlying3 t2
  obtain ⟨x3, h3, _, w3⟩ := DataW.trod_int Tryd.underlying3 t3
  obtain ⟨x4, h4, _, w4⟩ := DataW.trod_int Tryd.underlying3 t4
  obtain ⟨x5, h5, _, w5⟩ := DataW.trod_int Tryd.underlying3 t5
  cases h0
  cases h1
  cases h2
  cases h3
  cases h4
  cases h5
  rw [listU6 hsz c0 c1 c2 c3 c4 c5]
  exact ⟨⟨x0, x1, x2, x3, x4, x5⟩, rfl, w0, w1, w2, w3, w4, w5⟩

def zregM : Value := .agg #[.int .i64 0, .int .i64 0, .int .i64 0, .int .i64 0, .int .i64 0, .int .i64 0]
end Go.Proofs.YtdfokgfcohfgeaaDoor
