/- Package dynamic: the tags; number, most, may; what a table says. -/
import Derived.Test.YtmbglkebgeomcaaDoorEC
import Derived.Test.YtmbglkebgeomcaaDoorOctE
import Derived.Deep.RegionHeld3
namespace Go.Proofs.YtmbglkebgeomcaaDoor
open Go.RowKit
set_option linter.unusedVariables false
set_option linter.unusedSimpArgs false

/-- The tags of one number each, in the order of a table, and which part of the program's record each is. -/
def ordL : List Int := [4, 5, 6, 7, 8, 10, 14, 1879047669]
def fixL : List Nat := [4, 1, 3, 5, 6, 2, 7, 8]
def ordA : Array Value := #[.int .u64 4, .int .u64 5, .int .u64 6, .int .u64 7, .int .u64 8, .int .u64 10, .int .u64 14, .int .u64 1879047669]
/-- The table of tags lies where it should. -/
structure Dyt (w : World) : Prop where
  ord : ∀ i : Nat, i < 8 → w.cell? ⟨0, i, none⟩ = some (.int .u64 (ordL.getD i 0))
theorem cell_ltD {w : World} {a : Addr} {v : Value} (h : w.cell? a = some v) : a.block < w.heap.size := by
  rcases Nat.lt_or_ge a.block w.heap.size with h' | h'
  · exact h'
  · simp [World.cell?, Array.getElem?_eq_none h'] at h
theorem Dyt.pos {w : World} (h : Dyt w) : 0 < w.heap.size := cell_ltD (h.ord 0 (by omega))
theorem Dyt.below {w w' : World} (h : Dyt w) {n : Nat} (hb : Below n w w') (hn : 0 < n) : Dyt w' :=
  ⟨fun i hi => by rw [← h.ord i hi]; exact hb.cell (by simp only; omega)⟩
theorem Dyt.on {w w' : World} (h : Dyt w) (hb : Below w.heap.size w w') : Dyt w' := h.below hb h.pos
theorem Dyt.drewN {w : World} (h : Dyt w) (n : Nat) : Dyt (w.drewN n) := ⟨h.ord⟩

theorem intRow_below {w w' : World} {A : Option Addr} {zs : List Int} (h : IntRow w A zs) {n : Nat} (hn : n = w.heap.size) (hb : Below n w w') : IntRow w' A zs := fun i hi => by
  obtain ⟨ad, h1, h2, h3, h4⟩ := h i hi
  refine ⟨ad, h1, Nat.lt_of_lt_of_le h2 hb.size, (hb.cell ?_).trans h3, h4⟩
  have : (ad.add i).block = ad.block := by unfold Addr.add; split <;> rfl
  omega
/-- What a table says: the places that are needed, and the eight numbers by their place in the record (1 to 8). -/
structure Dyn where
  needed : List Int
  f : Nat → Int
def Dyn.cs (d : Dyn) (v : Value) : Array Value := #[v, .int .i64 (d.f 1), .int .i64 (d.f 2), .int .i64 (d.f 3), .int .i64 (d.f 4), .int .i64 (d.f 5), .int .i64 (d.f 6), .int .i64 (d.f 7), .int .i64 (d.f 8)]
def Dyn.none : Dyn := ⟨[], fun _ => 0⟩
/-- The numbers are ints. -/
structure Dyn.wf (d : Dyn) : Prop where
  need : ∀ n ∈ d.needed, (Lit.int .i64 n).wf = true
  num : ∀ j, (Lit.int .i64 (d.f j)).wf = true
theorem Dyn.none_wf : Dyn.none.wf := ⟨by simp [Dyn.none], fun _ => (by decide : (Lit.int .i64 0).wf = true)⟩
theorem Dyn.at_ (d : Dyn) (v : Value) {j : Nat} (h1 : 1 ≤ j) (h2 : j ≤ 8) : (d.cs v)[j]? = some (.int .i64 (d.f j)) := by
  unfold Dyn.cs
  match j, h1, h2 with
  | 1, _, _ => rfl
  | 2, _, _ => rfl
  | 3, _, _ => rfl
  | 4, _, _ => rfl
  | 5, _, _ => rfl
  | 6, _, _ => rfl
  | 7, _, _ => rfl
  | 8, _, _ => rfl
def fldI (t : Int) : Nat := if t = 4 then 4 else if t = 5 then 1 else if t = 6 then 3 else if t = 7 then 5 else if t = 8 then 6 else if t = 10 then 2 else if t = 14 then 7 else if t = 1879047669 then 8 else 0
def numV (b : Nat) (t : Int) : Value := if fldI t = 0 then .pointer none else .pointer (some ⟨b, fldI t, none⟩)
theorem fldI_le (t : Int) : fldI t ≤ 8 := by unfold fldI; repeat' split
                                             all_goals omega
theorem fldI_ord {q : Nat} (h : q < 8) : fldI (ordL.getD q 0) = fixL.getD q 0 := by
  match q, h with
  | 0, _ => rfl
  | 1, _ => rfl
  | 2, _ => rfl
  | 3, _ => rfl
  | 4, _ => rfl
  | 5, _ => rfl
  | 6, _ => rfl
  | 7, _ => rfl
theorem fixL_in {q : Nat} (h : q < 8) : 1 ≤ fixL.getD q 0 ∧ fixL.getD q 0 ≤ 8 := by
  match q, h with
  | 0, _ => decide
  | 1, _ => decide
  | 2, _ => decide
  | 3, _ => decide
  | 4, _ => decide
  | 5, _ => decide
  | 6, _ => decide
  | 7, _ => decide
def mostI (t : Int) : Int := if t = 1 then 64 else if t = 4 then 1 else if t = 5 then 1 else if t = 6 then 1 else if t = 7 then 1 else if t = 8 then 1 else if t = 9 then 1 else if t = 10 then 1 else if t = 11 then 1 else if t = 14 then 1 else if t = 1879047669 then 1 else 0
def mayI (t v : Int) : Bool := if t = 9 then v == 24 else if t = 11 then v == 24 else if t = 8 then decide (v ≤ 1099511627776) && (v % 24 == 0) else decide (v ≤ 1099511627776)

set_option maxHeartbeats 1600000 in
set_option maxRecDepth 100000 in
theorem dnumber_any (b : Nat) (t : Int) (w : World) :
    Calls Tryd.prog 24 #[.pointer (some ⟨b, 0, none⟩), .int .u64 t] w fun e w' => e = .returned (numV b t) ∧ w = w' := by
  go_enter Tryd.func24, Tryd.ntmps24
  go_wp2
  all_goals (go_ret; refine ⟨?_, rfl⟩; simp_all [numV, fldI])

set_option maxHeartbeats 1600000 in
set_option maxRecDepth 100000 in
theorem dmost_any (t : Int) (w : World) :
    Calls Tryd.prog 18 #[.int .u64 t] w fun e w' => e = .returned (.int .i64 (mostI t)) ∧ w = w' := by
  go_enter Tryd.func18, Tryd.ntmps18
  go_wp2
  all_goals (go_ret; refine ⟨?_, rfl⟩; simp_all [mostI])

set_option maxHeartbeats 1600000 in
set_option maxRecDepth 100000 in
theorem dmay_any (t v : Int) (hv : 0 ≤ v) (w : World) :
    Calls Tryd.prog 19 #[.int .u64 t, .int .u64 v] w fun e w' => e = .returned (.bool (mayI t v)) ∧ w = w' := by
  go_enter Tryd.func19, Tryd.ntmps19
  go_wp2
  all_goals (go_ret; refine ⟨?_, rfl⟩; simp_all [mayI]; try (first | omega | (intro h; omega)))
end Go.Proofs.YtmbglkebgeomcaaDoor
