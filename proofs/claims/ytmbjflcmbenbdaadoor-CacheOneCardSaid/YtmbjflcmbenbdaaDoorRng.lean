/- Words for a range over a function: what stays while it runs; places in order. -/
import Derived.Test.YtmbjflcmbenbdaaDoorBut
import Derived.RangeFuncNested
import Derived.RangeFuncBound
import Derived.RangeFuncCalls
import Derived.RangeFuncLeaves
import Derived.Shelf.Abstract
import Derived.Shelf.RegionOpen
import Derived.OwnWalkIn
import Derived.TacticsInMore
import Derived.LoopNIn
import Derived.LoopIn
namespace Go.Proofs.YtmbjflcmbenbdaaDoor
open Go.RowKit Go.Shelf
set_option linter.unusedVariables false
set_option linter.unusedSimpArgs false
attribute [local go_sem] Oper.semAt_some

/-- Cells that are not in the blocks of S are as they were. -/
def KpC (S : Nat → Prop) (W W' : World) : Prop := ∀ k cs t, ¬ S k → Blk W k t cs → Blk W' k t cs
theorem KpC.refl (S : Nat → Prop) (W : World) : KpC S W W := fun _ _ _ _ h => h
theorem KpC.trans {S : Nat → Prop} {A B C : World} (h : KpC S A B) (k : KpC S B C) : KpC S A C := fun i cs t hS hi => k i cs t hS (h i cs t hS hi)
theorem KpC.alloc {S : Nat → Prop} (W : World) (o : Obj) : KpC S W (W.alloc o) := fun _ _ _ _ h => h.alloc o
theorem KpC.of_but {S : Nat → Prop} {W W' : World} (h : But S W W') : KpC S W W' := fun _ _ _ hS hb => hb.but h hS
theorem KpC.of_below {S : Nat → Prop} {W W' : World} (h : Below W.heap.size W W') : KpC S W W' := fun _ _ _ _ hb => hb.below h hb.lt
theorem KpC.setCell {S : Nat → Prop} (W : World) {p : Addr} (hp : S p.block) (u : Value) : KpC S W (W.setCell p u) := fun k _ _ hS hb => hb.far (fun e => hS (by rw [e]; exact hp)) u
theorem kpC_b {S : Nat → Prop} {w : World} (W : World) (l : Nat) (o o' : Obj) (_ : w.heap.size ≤ l) (h : W.heap[l]? = some o) (ho : o.isCells = false) (_ : o.isWalk = false) : KpC S W (W.putObj l o') := fun k cs t _ hb => by
  refine (World.putObj_heap_other ?_).trans hb
  intro e
  subst e
  unfold Blk at hb
  rw [hb] at h
  cases h
  cases ho
theorem Blk.own {β : Type} (B : Nat) (t : TypeId) (f : β → Array Value) : Own (fun s W => Blk W B t (f s)) := fun s X Y row hs hg hrow => by
  refine (hg.block B hs.lt (fun e => ?_)).trans hs
  obtain ⟨o, ho, hc⟩ := hrow B e.symm
  unfold Blk at hs
  rw [hs] at ho
  cases ho
  cases hc

theorem Blk.ownF (B0 B : Nat) (t : TypeId) (c : Array Value) {β : Type} : OwnFrom B0 (fun (_ : β) W => Blk W B t c) := Own.from (Blk.own B t (fun _ => c)) _

/-- All the places below n, in order, up to k. -/
def upF (n k : Nat) : List (Fin n) := (List.finRange n).take k
theorem upF_succ {n k : Nat} (h : k < n) : upF n (k + 1) = upF n k ++ [⟨k, h⟩] := by
  unfold upF
  rw [List.take_succ_eq_append_getElem (by simpa using h)]
  simp
theorem upF_length {n k : Nat} (h : k ≤ n) : (upF n k).length = k := by simp [upF]; omega
theorem upF_zero (n : Nat) : upF n 0 = [] := by simp [upF]
theorem upF_full (n : Nat) : upF n n = List.finRange n := List.take_of_length_le (by simp)

end Go.Proofs.YtmbjflcmbenbdaaDoor
