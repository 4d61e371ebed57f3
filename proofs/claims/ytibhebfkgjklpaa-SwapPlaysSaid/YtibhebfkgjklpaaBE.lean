/- Layer 3: what the laws share: sector, awake; disks that were made. -/
import Derived.Test.YtibhebfkgjklpaaBD
namespace Go.Proofs.Ytibhebfkgjklpaa
open Go.RowKit
set_option linter.unusedVariables false

/-- A disk D was made, in new blocks. -/
def Made (w : World) (D : Dsk) (e : Ending) (w' : World) : Prop := ∃ p g, e = .returned (.pointer (some ⟨p, 0, none⟩)) ∧ w.heap.size ≤ p ∧ w.heap.size ≤ g ∧ Below w.heap.size w w' ∧ Dk w' p g D

theorem new_made (n : Nat) (w : World) (h1 : 1 ≤ n) (h2 : n ≤ 16384) : Calls Try.prog 11 #[.int .i64 n] w (Made w (newD n)) :=
  (bnew_yes n w h1 h2).mono fun _ _ ⟨he, hb, hd⟩ => ⟨_, _, he, by omega, Nat.le_refl _, hb, hd⟩


/-- A sector of one byte, over and over. -/
def secOf (c : Int) : ByteArray := mkb (List.replicate 64 (UInt8.ofNat c.toNat))
theorem secOf_size (c : Int) : (secOf c).size = 64 := by unfold secOf; rw [mkb_size, List.length_replicate]
def secRow (c : Int) (k : Nat) : Array Value := (Lib.byteCells (List.replicate k (UInt8.ofNat c.toNat) ++ List.replicate (64 - k) 0)).toArray
theorem secRow_zero (c : Int) : secRow c 0 = zrow 64 := by simp [secRow, zrow]
theorem secRow_full (c : Int) : secRow c 64 = (Lib.byteCells (List.replicate 64 (UInt8.ofNat c.toNat))).toArray := by simp [secRow]
theorem secRow_at {c : Int} {k : Nat} (h : k < 64) : (secRow c k)[k]? = some (.int .u8 0) := by
  simp only [secRow, Lib.byteCells, List.getElem?_toArray, List.getElem?_map]
  rw [List.getElem?_append_right (by simp), List.length_replicate, Nat.sub_self, List.getElem?_replicate, if_pos (by omega)]
  rfl
theorem secRow_set {c : Int} {k : Nat} (h : k < 64) (h0 : 0 ≤ c) (h1 : c < 256) : (secRow c k).setIfInBounds k (.int .u8 c) = secRow c (k + 1) := by
  have e : Value.int .u8 c = Value.int .u8 ((UInt8.ofNat c.toNat).toNat : Int) := by
    congr 1
    simp
    omega
  rw [e]
  unfold secRow
  apply Array.ext'
  simp only [Array.toList_setIfInBounds, Lib.byteCells]
  rw [← List.map_set, List.set_append_right _ _ (by simp), List.length_replicate, Nat.sub_self, show 64 - k = (64 - (k + 1)) + 1 by omega, List.replicate_succ, List.set_cons_zero, List.replicate_succ']
  simp


end Go.Proofs.Ytibhebfkgjklpaa
