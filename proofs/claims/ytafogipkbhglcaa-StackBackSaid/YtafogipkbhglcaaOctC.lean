/- Contracts of the functions of package octet that put, get and set numbers. -/
import Derived.Test.YtafogipkbhglcaaOctB
import Derived.Outline
import Derived.Laws.Shifts
namespace Go.Proofs.Ytafogipkbhglcaa
open Go.RowKit
set_option linter.unusedVariables false

/-- The bytes of n, the least first. -/
def putL : Nat → Nat → List UInt8
  | _, 0 => []
  | n, k + 1 => UInt8.ofNat n :: putL (n / 256) k
theorem putL_length : ∀ k n, (putL n k).length = k
  | 0, _ => rfl
  | k + 1, n => by simp [putL, putL_length k]

def wide (n : Int) : Nat := (min (max n 0) 8).toNat

theorem putL_snoc : ∀ k n, putL n (k + 1) = putL n k ++ [UInt8.ofNat (n / 256 ^ k)]
  | 0, n => by simp [putL]
  | k + 1, n => by
    rw [putL, putL_snoc k (n / 256), putL, List.cons_append]
    congr 3
    rw [Nat.div_div_eq_div_mul, Nat.pow_succ, Nat.mul_comm]

/-- The row behind k rounds of Put. -/
def putRow (n k W : Nat) : Array Value := (Lib.byteCells (putL n k ++ List.replicate (W - k) 0)).toArray
theorem putRow_zero (n W : Nat) : putRow n 0 W = zrow W := by simp [putRow, putL, zrow]
theorem putRow_full (n W : Nat) : putRow n W W = (Lib.byteCells (putL n W)).toArray := by simp [putRow]
theorem putRow_at {n k W : Nat} (h : k < W) : (putRow n k W)[k]? = some (.int .u8 0) := by
  simp [putRow, Lib.byteCells, List.getElem?_append, putL_length]
  rw [List.getElem?_replicate, if_pos (by omega)]
theorem putRow_set {n k W : Nat} (h : k < W) : (putRow n k W).setIfInBounds k (.int .u8 ((n : Int) / 256 ^ k % 256)) = putRow n (k + 1) W := by
  have e : Value.int .u8 ((n : Int) / 256 ^ k % 256) = Value.int .u8 ((UInt8.ofNat (n / 256 ^ k)).toNat : Int) := by
    simp
  rw [e]
  unfold putRow
  rw [putL_snoc, List.append_assoc, show W - k = (W - (k + 1)) + 1 by omega, List.replicate_succ]
  apply Array.ext'
  simp only [Array.toList_setIfInBounds, Lib.byteCells, List.map_append, List.map_cons, List.map_nil]
  rw [List.set_append_right _ _ (by simp [putL_length])]
  simp [putL_length]

set_option maxHeartbeats 400000 in
theorem put_any (n b : Int) (w : World) (hn : (Lit.int .u64 n).wf = true) (hb : (Lit.int .i64 b).wf = true) :
    Calls Try.prog 26 #[.int .u64 n, .int .i64 b] w fun e w' => e = .returned (.string (mkb (putL n.toNat (wide b)))) ∧ Below w.heap.size w w' := by
  obtain ⟨i0, hi, hz0, hz1, hz2⟩ := info_parts infoU8
  obtain ⟨_, _⟩ := bounds_u64 hn
  obtain ⟨n, rfl⟩ : ∃ M : Nat, n = M := ⟨n.toNat, by omega⟩
  simp only [Int.toNat_natCast]
  have hW : wide b ≤ 8 := by unfold wide; omega
  have hmm : min (max b 0) 8 = (wide b : Int) := by unfold wide; omega
  generalize wide b = W at *
  have hmk := run_make_bytes (P := Try.prog) 38 5 i0 Try.underlying38 hi hz0 hz1 hz2 (W : Int) (by omega) (by omega)
  simp only [Int.toNat_natCast] at hmk
  go_enter Try.func26, Try.ntmps26
  go_wp2
  go_loopw [0, 6, 13] (fun v _ i wr => ∃ k : Nat, k ≤ W ∧ i = .int .i64 k ∧ v = .int .u64 ((n : Int) / 256 ^ k) ∧ Blk wr w.heap.size 5 (putRow n k W) ∧ Below w.heap.size w wr) (fun _ _ i _ => W - (intOf i).toNat)
  case atStart => exact ⟨0, Nat.zero_le _, rfl, by simp, by rw [putRow_zero]; exact Blk.new _ _ _, (Below.refl _ _).alloc (Nat.le_refl _) _⟩
  case round =>
    obtain ⟨k, hk, rfl, rfl, hblk, hbel⟩ := hrel
    have hnk : (0 : Int) ≤ (n : Int) / 256 ^ k := Int.ediv_nonneg (by omega) (Int.pow_nonneg (by omega))
    by_cases hlt : k < W
    · have hc : wr.cell? ⟨w.heap.size, k, none⟩ = some (.int .u8 0) := (hblk.cell k).trans (putRow_at hlt)
      have hf := hblk.frozen k
      have hset := hblk.set_ k (.int .u8 ((n : Int) / 256 ^ k % 256))
      rw [putRow_set hlt] at hset
      have hd : ((n : Int) / 256 ^ k) / 256 = (n : Int) / 256 ^ (k + 1) := by rw [Int.ediv_ediv_of_nonneg (Int.pow_nonneg (by omega)), Int.pow_succ]
      have HD := Lib.hid hd
      clear hd
      go_wp2
      go_roundw
      case rel => exact ⟨k + 1, by omega, by go_num, by rw [← HD.out], hset, hbel.setCell (by simp) _⟩
      case measure => simp [intOf]; omega
    · obtain rfl : k = W := by omega
      rw [putRow_full] at hblk
      have hcv := run_string_blk (P := Try.prog) wr 38 9 5 w.heap.size k 5 _ k (putL_length _ _) Try.underlying38 Try.underlying5 Try.underlying9 hblk
      go_wp2
      go_ret
      exact ⟨rfl, hbel⟩
end Go.Proofs.Ytafogipkbhglcaa
