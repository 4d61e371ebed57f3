/- Package symbol: a name's hash, of the program and of the reference. -/
import Derived.Test.YtkembimfkoganaaOctD
import Derived.Laws.BitsAllLaws
namespace Go.Proofs.Ytkembimfkoganaa
open Go.RowKit
set_option linter.unusedVariables false
set_option linter.unusedSimpArgs false

/-- A hash, a byte on. -/
def hs1 (h c : Nat) : Nat := ((16 * h + c) % 4294967296 % 268435456) ^^^ ((16 * h + c) % 4294967296 / 268435456 * 16)
def hashL (l : List UInt8) : Nat := l.foldl (fun h c => hs1 h c.toNat) 0
theorem hs1_lt {h c : Nat} (hh : h < 268435456) (hc : c < 256) : hs1 h c < 268435456 := by
  unfold hs1
  exact Nat.xor_lt_two_pow (n := 28) (by omega) (by omega)
theorem hashL_lt (l : List UInt8) : hashL l < 268435456 := by
  unfold hashL
  suffices ∀ (l : List UInt8) (h : Nat), h < 268435456 → l.foldl (fun h c => hs1 h c.toNat) h < 268435456 from this l 0 (by omega)
  intro l
  induction l with
  | nil => intro h hh; exact hh
  | cons c l ih => intro h hh; exact ih _ (hs1_lt hh c.toNat_lt)
theorem hashL_snoc (l : List UInt8) (c : UInt8) : hashL (l ++ [c]) = hs1 (hashL l) c.toNat := by
  unfold hashL
  rw [List.foldl_append]
  rfl

/-- The upper four bits of 32. -/
theorem and_upper {x : Nat} (hx : x < 4294967296) : x &&& 4026531840 = x / 268435456 * 268435456 := by
  have h1 : (4026531840 : Nat) = (2 ^ 4 - 1) * 2 ^ 28 := by decide
  have h2 : (268435456 : Nat) = 2 ^ 28 := by decide
  rw [h1, h2]
  apply Nat.eq_of_testBit_eq
  intro i
  rw [Nat.testBit_and, Nat.testBit_mul_two_pow, Nat.testBit_mul_two_pow, Nat.testBit_two_pow_sub_one, Nat.testBit_div_two_pow]
  by_cases hi : i < 28
  · simp [Nat.not_le.2 hi]
  · rw [show i - 28 + 28 = i by omega]
    by_cases h32 : i < 32
    · rw [decide_eq_true (by omega : 28 ≤ i), decide_eq_true (by omega : i - 28 < 4)]
      simp
    · rw [Nat.testBit_lt_two_pow (Nat.lt_of_lt_of_le hx (Nat.pow_le_pow_right (n := 2) (by omega) (by omega : 32 ≤ i)))]
      simp
theorem nib_apart : ∀ u, u < 16 → u &&& (15 - u) = 0 := by decide
theorem and_lower {x : Nat} (hx : x < 4294967296) : x &&& (4294967295 - x / 268435456 * 268435456) = x % 268435456 := by
  obtain ⟨u, hu⟩ : ∃ u, x / 268435456 = u := ⟨_, rfl⟩
  obtain ⟨r, hr⟩ : ∃ r, x % 268435456 = r := ⟨_, rfl⟩
  have hrl : r < 2 ^ 28 := by omega
  have hul : u < 16 := by omega
  have e1 : x = 2 ^ 28 * u + r := by omega
  have e2 : 4294967295 - u * 268435456 = 2 ^ 28 * (15 - u) + (2 ^ 28 - 1) := by omega
  rw [hu, hr, e2, e1]
  apply Nat.eq_of_testBit_eq
  intro i
  rw [Nat.testBit_and, Nat.testBit_two_pow_mul_add _ hrl, Nat.testBit_two_pow_mul_add _ (by decide), Nat.testBit_two_pow_sub_one]
  by_cases hi : i < 28
  · simp [hi]
  · rw [if_neg hi, if_neg hi, ← Nat.testBit_and, nib_apart u hul, Nat.zero_testBit]
    exact (Nat.testBit_lt_two_pow (Nat.lt_of_lt_of_le hrl (Nat.pow_le_pow_right (n := 2) (by omega) (by omega : 28 ≤ i)))).symm

theorem hs1_u32 (H C : Nat) (hH : H < 268435456) (hC : C < 256) :
    bits .xor .u32 (bits .andNot .u32 (((H : Int) * 16 + C) % 4294967296) (bits .and .u32 (((H : Int) * 16 + C) % 4294967296) 4026531840)) (bits .and .u32 (((H : Int) * 16 + C) % 4294967296) 4026531840 / 16777216) = (hs1 H C : Int) := by
  have hx : (16 * H + C) % 4294967296 < 4294967296 := by omega
  have e0 : ((H : Int) * 16 + C) % 4294967296 = (((16 * H + C) % 4294967296 : Nat) : Int) := by omega
  have hsd : hs1 H C = ((16 * H + C) % 4294967296 % 268435456) ^^^ ((16 * H + C) % 4294967296 / 268435456 * 16) := rfl
  rw [e0, hsd]
  generalize (16 * H + C) % 4294967296 = X at *
  have e1 := u32_and_nat X 4026531840 hx (by omega)
  rw [and_upper hx] at e1
  have e2 : bits .and .u32 (X : Int) 4026531840 = ((X / 268435456 * 268435456 : Nat) : Int) := e1
  rw [e2]
  rw [u32_andNot_nat X _ hx (by omega), and_lower hx]
  have e3 : ((X / 268435456 * 268435456 : Nat) : Int) / 16777216 = ((X / 268435456 * 16 : Nat) : Int) := by omega
  rw [e3, u32_xor_nat _ _ (by omega) (by omega)]

set_option maxHeartbeats 400000 in
theorem hash1_any (g H : Nat) (c : UInt8) (w : World) (hH : H < 268435456) (hb : Blk w g 30 #[.int .u32 H]) :
    Calls Try.prog 25 #[.int .u8 c.toNat, .pointer (some ⟨g, 0, none⟩)] w fun e w' => e = .returned (.tuple #[]) ∧ Blk w' g 30 #[.int .u32 (hs1 H c.toNat)] ∧ Below g w w' := by
  have hc := c.toNat_lt
  generalize c.toNat = C at *
  have c0 : w.cell? ⟨g, 0, none⟩ = some (.int .u32 H) := hb.cell 0
  have f0 := hb.frozen 0
  go_enter Try.func25, Try.ntmps25
  go_wp2
  go_end0
  rw [hs1_u32 H C hH (by omega)]
  exact ⟨rfl, (hb.set_ 0 _).set_ 0 _, ((Below.refl g w).setCell (p := ⟨g, 0, none⟩) (Nat.le_refl _) _).setCell (p := ⟨g, 0, none⟩) (Nat.le_refl _) _⟩

theorem take_snoc {s : ByteArray} {k : Nat} (hk : k < s.size) : s.data.toList.take (k + 1) = s.data.toList.take k ++ [s[k]] := by
  have hl : k < s.data.toList.length := by rw [len_data]; exact hk
  rw [List.take_succ_eq_append_getElem hl]
  rfl

set_option maxHeartbeats 400000 in
theorem hash_any (s : ByteArray) (w : World) (hs : s.size ≤ 281474976710656) :
    Calls Try.prog 11 #[.string s] w fun e w' => e = .returned (.int .u32 (hashL s.data.toList)) ∧ Below w.heap.size w w' := by
  go_enter Try.func11, Try.ntmps11
  go_wp2
  go_loopw [9] (fun i wr => ∃ k : Nat, k ≤ s.size ∧ i = .int .i64 k ∧ Blk wr w.heap.size 30 #[.int .u32 (hashL (s.data.toList.take k))] ∧ Below w.heap.size w wr) (fun i _ => s.size - (intOf i).toNat)
  case atStart => exact ⟨0, Nat.zero_le _, rfl, Blk.new _ _ _, (Below.refl _ _).alloc (Nat.le_refl _) _⟩
  case round =>
    obtain ⟨k, hk, rfl, hblk, hbel⟩ := hrel
    by_cases hlt : k < s.size
    · have hsn := hashL_snoc (s.data.toList.take k) s[k]
      rw [← take_snoc hlt] at hsn
      have hH := hashL_lt (s.data.toList.take k)
      generalize hashL (s.data.toList.take k) = H at *
      have HC := Lib.hid (hash1_any w.heap.size H s[k] wr hH hblk)
      rw [← hsn] at HC
      have HB := Lib.hid hbel
      clear hsn hblk hbel
      go_wp2_with (go_at_call 25; refine HC.out.mono ?_; rintro e v1 ⟨rfl, hb1, hl1⟩)
      go_roundw
      case rel => exact ⟨k + 1, by omega, by go_num, hb1, HB.out.trans hl1⟩
      case measure => simp [intOf]; omega
    · obtain rfl : k = s.size := by omega
      rw [List.take_of_length_le (by rw [len_data]; exact Nat.le_refl _)] at hblk
      have c0 : wr.cell? ⟨w.heap.size, 0, none⟩ = some (.int .u32 (hashL s.data.toList)) := hblk.cell 0
      go_wp2
      go_ret
      exact ⟨rfl, hbel⟩

theorem hs1_u64 (H C : Nat) (hH : H < 268435456) (hC : C < 256) :
    bits .xor .u64 (((H : Int) * 16 + C) % 4294967296 - ((H : Int) * 16 + C) % 4294967296 / 268435456 * 268435456) (((H : Int) * 16 + C) % 4294967296 / 268435456 * 16) = (hs1 H C : Int) := by
  have hx : (16 * H + C) % 4294967296 < 4294967296 := by omega
  have e0 : ((H : Int) * 16 + C) % 4294967296 = (((16 * H + C) % 4294967296 : Nat) : Int) := by omega
  have hsd : hs1 H C = ((16 * H + C) % 4294967296 % 268435456) ^^^ ((16 * H + C) % 4294967296 / 268435456 * 16) := rfl
  rw [e0, hsd]
  generalize (16 * H + C) % 4294967296 = X at *
  rw [show (X : Int) - (X : Int) / 268435456 * 268435456 = ((X % 268435456 : Nat) : Int) by omega, show (X : Int) / 268435456 * 16 = ((X / 268435456 * 16 : Nat) : Int) by omega]
  exact u64_xor_nat _ _ (by omega) (by omega)

set_option maxHeartbeats 400000 in
theorem rhash_any (s : ByteArray) (w : World) (hs : s.size ≤ 281474976710656) :
    Calls Try.prog 12 #[.string s] w fun e w' => e = .returned (.int .u32 (hashL s.data.toList)) ∧ w = w' := by
  go_enter Try.func12, Try.ntmps12
  go_wp2
  go_loop [3, 4, 5] (fun h i _ => ∃ k : Nat, k ≤ s.size ∧ i = .int .i64 k ∧ h = .int .u64 (hashL (s.data.toList.take k))) (fun _ i _ => s.size - (intOf i).toNat)
  case atStart => exact ⟨0, Nat.zero_le _, rfl, rfl⟩
  case round =>
    obtain ⟨k, hk, rfl, rfl⟩ := hrel
    by_cases hlt : k < s.size
    · have hsn := hashL_snoc (s.data.toList.take k) s[k]
      rw [← take_snoc hlt] at hsn
      have hH := hashL_lt (s.data.toList.take k)
      generalize hashL (s.data.toList.take k) = H at *
      have hc := s[k].toNat_lt
      obtain ⟨C, hC⟩ : ∃ C, s[k].toNat = C := ⟨_, rfl⟩
      rw [hC] at hsn hc
      have hX := hs1_u64 H C hH (by omega)
      have HSN := Lib.hid hsn
      have HX := Lib.hid hX
      clear hsn hX
      go_wp2
      go_round
      case rel => exact ⟨k + 1, by omega, by go_num, by rw [HX.out, HSN.out]⟩
      case measure => simp [intOf]; omega
    · obtain rfl : k = s.size := by omega
      rw [List.take_of_length_le (by rw [len_data]; exact Nat.le_refl _)]
      have hH := hashL_lt s.data.toList
      go_wp2
      go_ret
      exact ⟨rfl, rfl⟩
end Go.Proofs.Ytkembimfkoganaa
