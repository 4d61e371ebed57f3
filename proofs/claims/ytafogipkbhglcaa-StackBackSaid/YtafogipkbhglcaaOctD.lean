/- Contracts of the functions of package octet that get numbers. -/
import Derived.Test.YtafogipkbhglcaaOctC
import Derived.Laws.Bits64
namespace Go.Proofs.Ytafogipkbhglcaa
open Go.RowKit
set_option linter.unusedVariables false

/-- The number that these bytes are, the least first. -/
def getL : List UInt8 → Nat
  | [] => 0
  | b :: r => b.toNat + 256 * getL r
theorem getL_lt : ∀ l, getL l < 256 ^ l.length
  | [] => by simp [getL]
  | b :: r => by
    have := getL_lt r
    have hb := b.toNat_lt
    simp only [getL, List.length_cons, Nat.pow_succ]
    omega
theorem getL_snoc : ∀ (l : List UInt8) (b : UInt8), getL (l ++ [b]) = getL l + b.toNat * 256 ^ l.length
  | [], b => by simp [getL]
  | c :: r, b => by
    simp only [List.cons_append, getL, getL_snoc r b, List.length_cons, Nat.pow_succ]
    rw [Nat.mul_add, Nat.add_assoc]
    congr 2
    rw [Nat.mul_comm 256, Nat.mul_assoc]

def partL (s : ByteArray) (a n : Nat) : List UInt8 := (s.data.toList.drop a).take n
theorem partL_length {s : ByteArray} {a n : Nat} (h : a + n ≤ s.size) : (partL s a n).length = n := by
  unfold partL; rw [List.length_take, List.length_drop, len_data]; omega
theorem partL_zero (s : ByteArray) (a : Nat) : partL s a 0 = [] := by simp [partL]
theorem partL_snoc {s : ByteArray} {a k : Nat} (h : a + k < s.size) : partL s a (k + 1) = partL s a k ++ [s[a + k]] := by
  unfold partL
  have hl : k < (s.data.toList.drop a).length := by rw [List.length_drop, len_data]; omega
  rw [List.take_succ_eq_append_getElem hl, List.getElem_drop]
  rfl
theorem partL_cons {s : ByteArray} {a W k : Nat} (h : a + W ≤ s.size) (hk : k < W) : (partL s a W).drop k = s[a + k] :: (partL s a W).drop (k + 1) := by
  have hl := partL_length h
  rw [List.drop_eq_getElem_cons (by omega)]
  congr 1
  unfold partL
  rw [List.getElem_take, List.getElem_drop]
  rfl

theorem bits_or_u64_nat (a b : Nat) (ha : a < 18446744073709551616) (hb : b < 18446744073709551616) :
    bits .or .u64 (a : Int) (b : Int) = ((a ||| b : Nat) : Int) := by
  have hx : a ||| b < 2 ^ 64 := Nat.or_lt_two_pow (by omega) (by omega)
  have h1 : (BitVec.ofInt 64 (a : Int)).toNat = a := by
    rw [BitVec.ofInt_natCast, BitVec.toNat_ofNat]; exact Nat.mod_eq_of_lt (by omega)
  have h2 : (BitVec.ofInt 64 (b : Int)).toNat = b := by
    rw [BitVec.ofInt_natCast, BitVec.toNat_ofNat]; exact Nat.mod_eq_of_lt (by omega)
  show IntKind.u64.wrap ((BitVec.ofInt 64 (a : Int) ||| BitVec.ofInt 64 (b : Int)).toNat : Int) = _
  rw [BitVec.toNat_or, h1, h2, IntKind.wrap_u64]
  omega

/-- The text of 8 bytes at most is less than 2^64. -/
theorem getL_lt64 {l : List UInt8} (h : l.length ≤ 8) : getL l < 18446744073709551616 := by
  have h1 := getL_lt l
  have h2 : 256 ^ l.length ≤ 256 ^ 8 := Nat.pow_le_pow_right (by omega) h
  omega

theorem step_get (l : List UInt8) (b : UInt8) (k : Nat) (hl : l.length = k) (hk : k < 8) :
    bits .or .u64 (getL l : Int) (IntKind.u64.wrap (IntKind.u64.wrap (b.toNat : Int) * 2 ^ (8 * k))) = (getL (l ++ [b]) : Int) := by
  have hb := b.toNat_lt
  have h0 := getL_lt64 (l := l) (by omega)
  have h1 := getL_lt64 (l := l ++ [b]) (by simp; omega)
  rw [getL_snoc, hl] at h1
  have hw : IntKind.u64.wrap (b.toNat : Int) = (b.toNat : Int) := by rw [IntKind.wrap_u64]; omega
  have hp : (256 : Nat) ^ k = 2 ^ (8 * k) := by rw [Nat.pow_mul]
  rw [hw, show ((b.toNat : Int) * 2 ^ (8 * k)) = ((b.toNat * 2 ^ (8 * k) : Nat) : Int) by rw [Int.natCast_mul, Int.natCast_pow]; rfl, IntKind.wrap_u64, ← hp]
  rw [show (((b.toNat * 256 ^ k : Nat) : Int) % 18446744073709551616) = ((b.toNat * 256 ^ k : Nat) : Int) by omega]
  rw [bits_or_u64_nat _ _ h0 (by omega), getL_snoc, hl]
  congr 1
  have h2 := getL_lt l
  rw [hl, hp] at h2
  rw [hp, Nat.or_comm, Nat.mul_comm, ← Nat.two_pow_add_eq_or_of_lt h2, Nat.mul_comm, Nat.add_comm]

/-- What Get tells. -/
def getN (s : ByteArray) (a n : Int) : Int := if hol s.size a n then (getL (partL s a.toNat n.toNat) : Int) else 0

set_option maxHeartbeats 400000 in
theorem get_any (s : ByteArray) (a n : Int) (w : World) (ha : (Lit.int .i64 a).wf = true) (hn : (Lit.int .i64 n).wf = true) (hs : s.size ≤ 281474976710656) :
    Calls Try.prog 46 #[.string s, .int .i64 a, .int .i64 n] w fun e w' => e = .returned (.tuple #[.int .u64 (getN s a n), .bool (hol s.size a n)]) ∧ w = w' := by
  cases hh : hol s.size a n
  · have he : getN s a n = 0 := by unfold getN; simp [hh]
    rw [he]; clear he
    go_enter Try.func46, Try.ntmps46
    go_wp2_with (go_at_call 53; refine (holds_any s a n _ ha hn hs).mono ?_; rintro e w' ⟨rfl, rfl⟩)
    go_ret2
    exact ⟨rfl, rfl⟩
  · obtain ⟨h1, h2, h3, h4, h5⟩ := hol_iff.1 hh
    have he : getN s a n = (getL (partL s a.toNat n.toNat) : Int) := by unfold getN; simp [hh]
    rw [he]; clear he
    obtain ⟨A, rfl⟩ : ∃ A : Nat, a = A := ⟨a.toNat, by omega⟩
    obtain ⟨W, rfl⟩ : ∃ M : Nat, n = M := ⟨n.toNat, by omega⟩
    simp only [Int.toNat_natCast]
    go_enter Try.func46, Try.ntmps46
    go_wp2_with (go_at_call 53; refine (holds_any s A W _ ha hn hs).mono ?_; rintro e w' ⟨rfl, rfl⟩)
    go_loop [8, 9, 16] (fun v _ i => ∃ k : Nat, k ≤ W ∧ i = .int .i64 k ∧ v = .int .u64 (getL (partL s A k))) (fun _ _ i => W - (intOf i).toNat)
    case atStart => exact ⟨0, Nat.zero_le _, rfl, by rw [partL_zero]; rfl⟩
    case round =>
      obtain ⟨k, hk, rfl, rfl⟩ := hrel
      by_cases hlt : k < W
      · have hst := step_get (partL s A k) (s[A + k]'(by omega)) k (partL_length (by omega)) (by omega)
        rw [← partL_snoc (by omega)] at hst
        have HST := Lib.hid hst
        clear hst
        go_wp2
        go_round
        case rel => exact ⟨k + 1, by omega, by go_num, by rw [HST.out]⟩
        case measure => simp [intOf] <;> omega
      · obtain rfl : k = W := by omega
        go_wp2
        go_ret2
        exact ⟨rfl, rfl⟩

set_option maxHeartbeats 400000 in
theorem rget_any (s : ByteArray) (a n : Int) (w : World) (ha : (Lit.int .i64 a).wf = true) (hn : (Lit.int .i64 n).wf = true) (hs : s.size ≤ 281474976710656) :
    Calls Try.prog 18 #[.string s, .int .i64 a, .int .i64 n] w fun e w' => e = .returned (.tuple #[.int .u64 (getN s a n), .bool (hol s.size a n)]) ∧ w = w' := by
  obtain ⟨_, _⟩ := bounds_i64 hn
  cases hh : hol s.size a n
  · have he : getN s a n = 0 := by unfold getN; simp [hh]
    rw [he]; clear he
    cases hin : inn a n s.size
    · go_enter Try.func18, Try.ntmps18
      go_wp2_with (go_at_call 39; refine (rwithin_any a n _ _ ha hn (by omega)).mono ?_; rintro e w' ⟨rfl, rfl⟩)
      go_ret2
      exact ⟨rfl, rfl⟩
    · have h18 : ¬ (1 ≤ n ∧ n ≤ 8) := by
        rintro ⟨x, y⟩
        have : hol s.size a n = true := by unfold hol; simp [x, y, hin]
        rw [this] at hh; cases hh
      by_cases h1 : n < 1
      · clear h18
        go_enter Try.func18, Try.ntmps18
        go_wp2_with (go_at_call 39; refine (rwithin_any a n _ _ ha hn (by omega)).mono ?_; rintro e w' ⟨rfl, rfl⟩)
        go_ret2
        exact ⟨rfl, rfl⟩
      · have h8 : 8 < n := by omega
        clear h18
        go_enter Try.func18, Try.ntmps18
        go_wp2_with (go_at_call 39; refine (rwithin_any a n _ _ ha hn (by omega)).mono ?_; rintro e w' ⟨rfl, rfl⟩)
        go_ret2
        exact ⟨rfl, rfl⟩
  · obtain ⟨h1, h2, h3, h4, h5⟩ := hol_iff.1 hh
    have hin : inn a n s.size = true := by rw [inn_iff]; omega
    have he : getN s a n = (getL (partL s a.toNat n.toNat) : Int) := by unfold getN; simp [hh]
    rw [he]; clear he
    obtain ⟨A, rfl⟩ : ∃ A : Nat, a = A := ⟨a.toNat, by omega⟩
    obtain ⟨W, rfl⟩ : ∃ M : Nat, n = M := ⟨n.toNat, by omega⟩
    simp only [Int.toNat_natCast]
    have hl := partL_length (s := s) (a := A) (n := W) (by omega)
    go_enter Try.func18, Try.ntmps18
    go_wp2_with (go_at_call 39; refine (rwithin_any A W _ _ ha hn (by omega)).mono ?_; rintro e w' ⟨rfl, rfl⟩)
    go_loop [9, 10] (fun v i => ∃ k : Nat, k ≤ W ∧ i = .int .i64 ((k : Int) - 1) ∧ v = .int .u64 (getL ((partL s A W).drop k))) (fun _ i => (intOf i + 1).toNat)
    case atStart => exact ⟨W, Nat.le_refl _, rfl, by rw [List.drop_of_length_le (by omega)]; rfl⟩
    case round =>
      obtain ⟨k, hk, rfl, rfl⟩ := hrel
      by_cases hlt : 0 < k
      · obtain ⟨j, rfl⟩ : ∃ j, k = j + 1 := ⟨k - 1, by omega⟩
        have hcons := partL_cons (s := s) (a := A) (W := W) (k := j) (by omega) (by omega)
        have hlt64 := getL_lt64 (l := (partL s A W).drop j) (by rw [List.length_drop]; omega)
        rw [hcons, getL] at hlt64
        have e1 : ((j + 1 : Nat) : Int) - 1 = (j : Int) := by omega
        rw [e1]
        have HC := Lib.hid hcons
        clear hcons e1
        go_wp2
        go_round
        case rel => exact ⟨j, by omega, rfl, by rw [HC.out, getL]; go_num⟩
        case measure => simp [intOf] <;> omega
      · obtain rfl : k = 0 := by omega
        go_wp2
        go_ret2
        exact ⟨rfl, rfl⟩
end Go.Proofs.Ytafogipkbhglcaa
