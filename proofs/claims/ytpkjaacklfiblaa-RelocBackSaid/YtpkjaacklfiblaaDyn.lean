/- Package dynamic: what a table says, as a record. -/
import Derived.Test.YtpkjaacklfiblaaOctE
import Derived.Test.YtpkjaacklfiblaaOpen
namespace Go.Proofs.Ytpkjaacklfiblaa
open Go.RowKit
set_option linter.unusedVariables false
set_option linter.unusedSimpArgs false

theorem cell_ltD {w : World} {a : Addr} {v : Value} (h : w.cell? a = some v) : a.block < w.heap.size := by
  rcases Nat.lt_or_ge a.block w.heap.size with h' | h'
  · exact h'
  · simp [World.cell?, Array.getElem?_eq_none h'] at h
theorem intRow_below {w w' : World} {A : Option Addr} {zs : List Int} (h : IntRow w A zs) {n : Nat} (hn : n = w.heap.size) (hb : Below n w w') : IntRow w' A zs := fun i hi => by
  obtain ⟨ad, h1, h2, h3, h4⟩ := h i hi
  refine ⟨ad, h1, Nat.lt_of_lt_of_le h2 hb.size, (hb.cell ?_).trans h3, h4⟩
  have : (ad.add i).block = ad.block := by unfold Addr.add; split <;> rfl
  omega
/-- What a table says: the places that are needed, and the eight numbers by their place in the record (1 to 8). -/
structure Dyn where
  needed : List Int
  f : Nat → Int
def Dyn.cs (d : Dyn) (v : Value) : Array Value := #[v, .int .i64 (d.f 1), .int .i64 (d.f 2), .int .i64 (d.f 3), .int .i64 (d.f 4), .int .i64 (d.f 5), .int .i64 (d.f 6), .int .i64 (d.f 7), .int .i64 (d.f 8)]
def Dyn.none : Dyn := ⟨[], fun _ => 0⟩
/-- The numbers are ints. -/
structure Dyn.wf (d : Dyn) : Prop where
  need : ∀ n ∈ d.needed, (Lit.int .i64 n).wf = true
  num : ∀ j, (Lit.int .i64 (d.f j)).wf = true
theorem Dyn.none_wf : Dyn.none.wf := ⟨by simp [Dyn.none], fun _ => (by decide : (Lit.int .i64 0).wf = true)⟩
theorem Dyn.at_ (d : Dyn) (v : Value) {j : Nat} (h1 : 1 ≤ j) (h2 : j ≤ 8) : (d.cs v)[j]? = some (.int .i64 (d.f j)) := by
  unfold Dyn.cs
  match j, h1, h2 with
  | 1, _, _ => rfl
  | 2, _, _ => rfl
  | 3, _, _ => rfl
  | 4, _, _ => rfl
  | 5, _, _ => rfl
  | 6, _, _ => rfl
  | 7, _, _ => rfl
  | 8, _, _ => rfl
end Go.Proofs.Ytpkjaacklfiblaa
