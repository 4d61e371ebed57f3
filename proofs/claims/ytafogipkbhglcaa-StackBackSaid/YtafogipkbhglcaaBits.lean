/- Bits of whole numbers: cut to so many bits. -/
import Derived.Laws.Bits64
import Derived.IntWalk
namespace Go.Proofs.Ytafogipkbhglcaa

/-- n & (2^k - 1), of int. -/
theorem i64_and_mask (n : Int) (k m : Nat) (hk : k < 63) (hm : 2 ^ k = m + 1) : bits .and .i64 n (m : Int) = n % (2 : Int) ^ k := by
  have h1 : (BitVec.ofInt 64 n).toNat = (n % 18446744073709551616).toNat := by rw [BitVec.toNat_ofInt]; rfl
  have hp : (2 : Nat) ^ k ≤ 2 ^ 62 := Nat.pow_le_pow_right (by omega) (by omega)
  have h2 : (BitVec.ofInt 64 (m : Int)).toNat = m := by
    rw [BitVec.ofInt_natCast, BitVec.toNat_ofNat]; exact Nat.mod_eq_of_lt (by omega)
  show IntKind.i64.wrap ((BitVec.ofInt 64 n &&& BitVec.ofInt 64 (m : Int)).toNat : Int) = _
  rw [BitVec.toNat_and, h1, h2, show m = 2 ^ k - 1 by omega, Nat.and_two_pow_sub_one_eq_mod]
  have hlt := Nat.mod_lt (n % 18446744073709551616).toNat (show 0 < 2 ^ k by omega)
  rw [IntWalk.i64_in _ (by omega), Int.natCast_emod, Int.natCast_pow]
  have hn := Int.emod_nonneg n (show (18446744073709551616 : Int) ≠ 0 by omega)
  rw [Int.toNat_of_nonneg hn]
  have hd : ((2 : Int) ^ k) ∣ 18446744073709551616 := by
    refine ⟨(2 : Int) ^ (64 - k), ?_⟩
    rw [← Int.pow_add, show k + (64 - k) = 64 by omega]
    rfl
  exact Int.emod_emod_of_dvd n hd
theorem i64_and40 (n : Int) : bits .and .i64 n 1099511627775 = n % 1099511627776 := i64_and_mask n 40 1099511627775 (by omega) (by decide)
theorem i64_and20 (n : Int) : bits .and .i64 n 1048575 = n % 1048576 := i64_and_mask n 20 1048575 (by omega) (by decide)
theorem i64_and12 (n : Int) : bits .and .i64 n 4095 = n % 4096 := i64_and_mask n 12 4095 (by omega) (by decide)
theorem i64_and3 (n : Int) : bits .and .i64 n 7 = n % 8 := i64_and_mask n 3 7 (by omega) (by decide)

/-- n & (2^k - 1), of uint64. -/
theorem u64_and_mask (n k m : Nat) (hn : n < 18446744073709551616) (hk : k ≤ 64) (hm : 2 ^ k = m + 1) : bits .and .u64 (n : Int) (m : Int) = ((n % 2 ^ k : Nat) : Int) := by
  have hp : (2 : Nat) ^ k ≤ 2 ^ 64 := Nat.pow_le_pow_right (by omega) hk
  have h1 : (BitVec.ofInt 64 (n : Int)).toNat = n := by
    rw [BitVec.ofInt_natCast, BitVec.toNat_ofNat]; exact Nat.mod_eq_of_lt (by omega)
  have h2 : (BitVec.ofInt 64 (m : Int)).toNat = m := by
    rw [BitVec.ofInt_natCast, BitVec.toNat_ofNat]; exact Nat.mod_eq_of_lt (by omega)
  show IntKind.u64.wrap ((BitVec.ofInt 64 (n : Int) &&& BitVec.ofInt 64 (m : Int)).toNat : Int) = _
  rw [BitVec.toNat_and, h1, h2, show m = 2 ^ k - 1 by omega, Nat.and_two_pow_sub_one_eq_mod, IntKind.wrap_u64]
  have := Nat.mod_le n (2 ^ k)
  omega
end Go.Proofs.Ytafogipkbhglcaa
