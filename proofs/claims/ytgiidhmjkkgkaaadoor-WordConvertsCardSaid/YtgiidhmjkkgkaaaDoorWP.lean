/- What becomes of words there and back; of bytes there and back. -/
import Derived.Test.YtgiidhmjkkgkaaaDoorWO
namespace Go.Proofs.YtgiidhmjkkgkaaaDoor
open Go.RowKit
set_option linter.unusedVariables false
set_option linter.unusedSimpArgs false

theorem xor_all {n : Int} (n0 : 0 ≤ n) (n1 : n < 18446744073709551616) : bits .xor .u64 18446744073709551615 n = 18446744073709551615 - n := by
  show IntKind.u64.wrap ((BitVec.ofInt 64 18446744073709551615 ^^^ BitVec.ofInt 64 n).toNat : Int) = _
  have e : BitVec.ofInt 64 18446744073709551615 = BitVec.allOnes 64 := by decide
  rw [e, BitVec.allOnes_xor, BitVec.toNat_not, BitVec.toNat_ofInt, IntKind.wrap_u64]
  omega

theorem kind_of (kind n : Int) (hn : 0 < n) : -n < kind.tmod n ∧ kind.tmod n < n ∧ 0 ≤ (kind.tmod n + n).tmod n ∧ (kind.tmod n + n).tmod n < n := by
  have h1 := Int.lt_tmod_of_pos kind hn
  have h0 := Int.tmod_lt_of_pos kind hn
  have h2 := Int.tmod_nonneg (a := kind.tmod n + n) n (by omega)
  have h3 := Int.tmod_lt_of_pos (kind.tmod n + n) hn
  exact ⟨h1, h0, h2, h3⟩

/-- The number of a word made of one. -/
theorem val_word {t z : Int} (h1 : 1 ≤ t) (h8 : t ≤ 8) (hl : loZ t ≤ z) (hh : z ≤ hiZ t) : valZ t (wordZ z) = z ∧ clipS t (wordZ z) = wordZ z ∧ 0 ≤ wordZ z ∧ wordZ z < 18446744073709551616 := by
  rcases kinds t with rfl | rfl | rfl | rfl | rfl | rfl | rfl | rfl | rfl | hout
  case inr.inr.inr.inr.inr.inr.inr.inr.inl => omega
  case inr.inr.inr.inr.inr.inr.inr.inr.inr => omega
  all_goals
    simp [loZ, hiZ] at hl hh
    simp only [valZ, clipS, wordZ]
    simp
    (repeat' split) <;> omega

/-- A clipped word's number is one of its kind; it gives the word again. -/
theorem val_clip {k n : Int} (h1 : 1 ≤ k) (h8 : k ≤ 8) (n0 : 0 ≤ n) (n1 : n < 18446744073709551616) :
    loZ k ≤ valZ k (clipS k n) ∧ valZ k (clipS k n) ≤ hiZ k ∧ wordZ (valZ k (clipS k n)) = clipS k n := by
  rcases kinds k with rfl | rfl | rfl | rfl | rfl | rfl | rfl | rfl | rfl | hout
  case inr.inr.inr.inr.inr.inr.inr.inr.inl => omega
  case inr.inr.inr.inr.inr.inr.inr.inr.inr => omega
  all_goals
    simp only [valZ, clipS, loZ, hiZ, wordZ]
    simp
    (repeat' split) <;> omega

theorem conv_int {k t n : Int} (h1 : 1 ≤ k) (h8 : k ≤ 8) (t1 : 1 ≤ t) (t8 : t ≤ 8) (n0 : 0 ≤ n) (n1 : n < 18446744073709551616) : convS k t n = wordZ (inZ t (valZ k (clipS k n))) := by
  have w1 : ¬ (wid k = 0 ∨ wid t = 0) := by rw [wid_zero, wid_zero]; omega
  unfold convS
  rw [if_neg w1]
  by_cases hkt : k = t
  · subst hkt
    obtain ⟨l, h, e⟩ := val_clip h1 h8 n0 n1
    rw [if_pos rfl, inZ_in l h, e]
  · rw [if_neg hkt, if_neg (by omega), if_neg (by omega)]

/-- Into a wider kind of the same sort, and back. -/
theorem there_back {k t n : Int} (h1 : 1 ≤ k) (h8 : k ≤ 8) (t1 : 1 ≤ t) (t8 : t ≤ 8) (hl : loZ t ≤ loZ k) (hh : hiZ k ≤ hiZ t) (n0 : 0 ≤ n) (n1 : n < 18446744073709551616) :
    convS t k (convS k t (clipS k n)) = clipS k n ∧ 0 ≤ convS k t (clipS k n) ∧ convS k t (clipS k n) < 18446744073709551616 := by
  obtain ⟨c0, c1⟩ := clipS_range k n n0 n1
  obtain ⟨l, h, e⟩ := val_clip h1 h8 n0 n1
  rw [conv_int h1 h8 t1 t8 c0 c1, clip_clip n0 n1, inZ_in (by omega) (by omega)]
  obtain ⟨v1, v2, v3, v4⟩ := val_word (z := valZ k (clipS k n)) t1 t8 (by omega) (by omega)
  refine ⟨?_, v3, v4⟩
  rw [conv_int t1 t8 h1 h8 v3 v4, v2, v1, inZ_in l h, e]

/-- A whole number of at most 2^53 comes back from F64. -/
theorem float_back {k n : Int} (h1 : 1 ≤ k) (h8 : k ≤ 8) (n0 : 0 ≤ n) (n1 : n < 18446744073709551616) (hv : -9007199254740992 ≤ valZ k (clipS k n)) (hv' : valZ k (clipS k n) ≤ 9007199254740992) :
    convS 9 k (convS k 9 (clipS k n)) = clipS k n := by
  obtain ⟨c0, c1⟩ := clipS_range k n n0 n1
  obtain ⟨l, h, e⟩ := val_clip h1 h8 n0 n1
  have w1 : ¬ (wid k = 0 ∨ wid 9 = 0) := by rw [wid_zero, wid_zero]; omega
  have w2 : ¬ (wid 9 = 0 ∨ wid k = 0) := by rw [wid_zero, wid_zero]; omega
  have e1 : convS k 9 (clipS k n) = (Flt.fl (valZ k (clipS k n)) : Int) := by
    unfold convS
    rw [if_neg w1, if_neg (by omega), if_pos rfl, clip_clip n0 n1]
  rw [e1]
  unfold convS
  rw [if_neg w2, if_neg (by omega), if_neg (by omega), if_pos rfl, Int.toNat_natCast, Flt.fl_nan (by omega) (by omega), Flt.trunc_fl hv hv', inZ_in l h]
  simp [e]
theorem conv_range {k t n : Int} (n0 : 0 ≤ n) (n1 : n < 18446744073709551616) : 0 ≤ convS k t n ∧ convS k t n < 18446744073709551616 := by
  obtain ⟨c0, c1⟩ := clipS_range k n n0 n1
  have hr := val_range (k := k) c0 c1
  have hf := Flt.fl_lt hr.1 hr.2
  unfold convS wordZ
  (repeat' split) <;> omega

theorem getL_putL2 : ∀ W x, getL (putL x W) = x % 256 ^ W
  | 0, x => by simp [putL, getL, Nat.mod_one]
  | W + 1, x => by
    rw [putL, getL, getL_putL2 W (x / 256), Nat.pow_succ, Nat.mul_comm (256 ^ W) 256, Nat.mod_mul]
    simp

/-- What was put is read. -/
theorem read_put {k n : Int} (h1 : 1 ≤ k) (h9 : k ≤ 9) (n0 : 0 ≤ n) (n1 : n < 18446744073709551616) :
    readV k (mkb (putL n.toNat (wid k).toNat)) = clipS k n ∧ readE k (mkb (putL n.toNat (wid k).toNat)) = 0 := by
  have hz : ¬ wid k = 0 := by rw [wid_zero]; omega
  have hr := wid_range k
  have hs : ((mkb (putL n.toNat (wid k).toNat)).size : Int) = wid k := by rw [mkb_size, putL_length]; omega
  have hg : getN (mkb (putL n.toNat (wid k).toNat)) 0 (wid k) = ((n.toNat % 256 ^ (wid k).toNat : Nat) : Int) := by
    unfold getN
    have hh : hol (mkb (putL n.toNat (wid k).toNat)).size 0 (wid k) = true := by rw [hol_iff]; omega
    rw [if_pos hh]
    have hp : partL (mkb (putL n.toNat (wid k).toNat)) (0 : Int).toNat (wid k).toNat = putL n.toNat (wid k).toNat := by
      unfold partL
      rw [mkb_data]
      simp [List.take_of_length_le, putL_length]
    rw [hp, getL_putL2]
  unfold readV readE
  rw [if_neg hz, if_neg (by omega), if_neg hz, if_neg (by omega), hg]
  refine ⟨?_, rfl⟩
  rcases kinds k with rfl | rfl | rfl | rfl | rfl | rfl | rfl | rfl | rfl | hout
  case inr.inr.inr.inr.inr.inr.inr.inr.inr => omega
  all_goals
    simp only [clipS, wid]
    simp
  all_goals (try (repeat' split)) <;> omega
end Go.Proofs.YtgiidhmjkkgkaaaDoor
