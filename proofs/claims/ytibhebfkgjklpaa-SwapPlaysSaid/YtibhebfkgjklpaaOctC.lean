/- Contracts of the functions of package octet that put, get and set numbers. -/
import Derived.Test.YtibhebfkgjklpaaOctB
import Derived.Outline
import Derived.Laws.Shifts
namespace Go.Proofs.Ytibhebfkgjklpaa
open Go.RowKit
set_option linter.unusedVariables false

/-- The bytes of n, the least first. -/
def putL : Nat → Nat → List UInt8
  | _, 0 => []
  | n, k + 1 => UInt8.ofNat n :: putL (n / 256) k
theorem putL_length : ∀ k n, (putL n k).length = k
  | 0, _ => rfl
  | k + 1, n => by simp [putL, putL_length k]

def wide (n : Int) : Nat := (min (max n 0) 8).toNat

theorem putL_snoc : ∀ k n, putL n (k + 1) = putL n k ++ [UInt8.ofNat (n / 256 ^ k)]
  | 0, n => by simp [putL]
  | k + 1, n => by
    rw [putL, putL_snoc k (n / 256), putL, List.cons_append]
    congr 3
    rw [Nat.div_div_eq_div_mul, Nat.pow_succ, Nat.mul_comm]

/-- The row behind k rounds of Put. -/
def putRow (n k W : Nat) : Array Value := (Lib.byteCells (putL n k ++ List.replicate (W - k) 0)).toArray
theorem putRow_zero (n W : Nat) : putRow n 0 W = zrow W := by simp [putRow, putL, zrow]
theorem putRow_full (n W : Nat) : putRow n W W = (Lib.byteCells (putL n W)).toArray := by simp [putRow]
theorem putRow_at {n k W : Nat} (h : k < W) : (putRow n k W)[k]? = some (.int .u8 0) := by
  simp [putRow, Lib.byteCells, List.getElem?_append, putL_length]
  rw [List.getElem?_replicate, if_pos (by omega)]
theorem putRow_set {n k W : Nat} (h : k < W) : (putRow n k W).setIfInBounds k (.int .u8 ((n : Int) / 256 ^ k % 256)) = putRow n (k + 1) W := by
  have e : Value.int .u8 ((n : Int) / 256 ^ k % 256) = Value.int .u8 ((UInt8.ofNat (n / 256 ^ k)).toNat : Int) := by
    simp
  rw [e]
  unfold putRow
  rw [putL_snoc, List.append_assoc, show W - k = (W - (k + 1)) + 1 by omega, List.replicate_succ]
  apply Array.ext'
  simp only [Array.toList_setIfInBounds, Lib.byteCells, List.map_append, List.map_cons, List.map_nil]
  rw [List.set_append_right _ _ (by simp [putL_length])]
  simp [putL_length]

end Go.Proofs.Ytibhebfkgjklpaa
