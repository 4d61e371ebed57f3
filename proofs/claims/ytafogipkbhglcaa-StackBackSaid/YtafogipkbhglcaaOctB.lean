/- Contracts of the functions of package octet that make texts: part, Part, Fill, holds. -/
import Derived.Test.YtafogipkbhglcaaFill
import Derived.Test.YtafogipkbhglcaaOctA
namespace Go.Proofs.Ytafogipkbhglcaa
open Go.RowKit
set_option linter.unusedVariables false

theorem fill_part (s : ByteArray) {a n : Nat} (h : a + n ≤ s.size) : mkb (fillL (s.extract a s.size).data.toList n) = s.extract a (a + n) := by
  rw [extract_mkb s a (a + n), Lib.extract_data]
  congr 1
  unfold fillL
  have hl : (s.data.toList.drop a).length = s.size - a := by rw [List.length_drop, len_data]
  rw [List.length_take, hl, show n - min (s.size - a) (s.size - a) = 0 by omega, List.take_take, show min n (s.size - a) = n by omega, show a + n - a = n by omega]
  simp

set_option maxHeartbeats 400000 in
theorem part_any (s : ByteArray) (a n : Nat) (w : World) (h : a + n ≤ s.size) (hn : n ≤ 281474976710656) :
    Calls Try.prog 57 #[.string s, .int .i64 a, .int .i64 n] w fun e w' => e = .returned (.string (s.extract a (a + n))) ∧ Below w.heap.size w w' := by
  obtain ⟨i0, hi, hz0, hz1, hz2⟩ := info_parts infoU8
  have hmk := run_make_bytes (P := Try.prog) 38 5 i0 Try.underlying38 hi hz0 hz1 hz2 (n : Int) (by omega) (by omega)
  simp only [Int.toNat_natCast] at hmk
  go_enter Try.func57, Try.ntmps57
  go_wp2_with (refine wpList_copy_zeros rfl _ _ _ _ rfl 5 Try.underlying38 sizeU8 w.heap.size n 5 (s.extract a s.size) rfl rfl (Blk.new _ _ _) ?_; intro w1 hb1 hg1; have hcv := run_string_blk (P := Try.prog) w1 38 9 5 w.heap.size n 5 _ n (fillL_length _ _) Try.underlying38 Try.underlying5 Try.underlying9 hb1; rw [fill_part s h] at hcv)
  go_ret
  exact ⟨rfl, ((Below.refl _ _).alloc (Nat.le_refl _) _).grown hg1 (by simp) (by simp)⟩

/-- What Part tells. -/
def partS (s : ByteArray) (a n : Int) : ByteArray := if inn a n s.size then s.extract a.toNat (a.toNat + n.toNat) else ⟨#[]⟩


/-- May a number of that width stand there? -/
def hol (l a w : Int) : Bool := decide (1 ≤ w) && decide (w ≤ 8) && inn a w l
theorem hol_iff {l a w : Int} : hol l a w = true ↔ 1 ≤ w ∧ w ≤ 8 ∧ 0 ≤ a ∧ a ≤ l ∧ w ≤ l - a := by
  unfold hol; rw [Bool.and_eq_true, Bool.and_eq_true, inn_iff]; simp; omega

set_option maxHeartbeats 400000 in
theorem holds_any (s : ByteArray) (a n : Int) (w : World) (ha : (Lit.int .i64 a).wf = true) (hn : (Lit.int .i64 n).wf = true) (hs : s.size ≤ 281474976710656) :
    Calls Try.prog 53 #[.string s, .int .i64 a, .int .i64 n] w fun e w' => e = .returned (.bool (hol s.size a n)) ∧ w = w' := by
  by_cases h1 : 1 ≤ n
  · by_cases h2 : n ≤ 8
    · have hr : hol s.size a n = inn a n s.size := by unfold hol; simp [h1, h2]
      rw [hr]; clear hr
      go_enter Try.func53, Try.ntmps53
      go_wp2_with (go_at_call 56; refine (within_any _ _ _ _ ha hn (by omega)).mono ?_; rintro e w' ⟨rfl, rfl⟩)
      go_ret
      exact ⟨rfl, rfl⟩
    · have hr : hol s.size a n = false := by unfold hol; simp [h2]
      rw [hr]; clear hr
      go_enter Try.func53, Try.ntmps53
      go_wp2_with fail
      go_ret
      exact ⟨rfl, rfl⟩
  · have hr : hol s.size a n = false := by unfold hol; simp [h1]
    rw [hr]; clear hr
    go_enter Try.func53, Try.ntmps53
    go_wp2_with fail
    go_ret
    exact ⟨rfl, rfl⟩

set_option maxHeartbeats 400000 in
theorem fill_any (s : ByteArray) (n : Int) (w : World) (hn : (Lit.int .i64 n).wf = true) (hs : s.size ≤ 281474976710656) (hle : n ≤ 2147483647) :
    Calls Try.prog 28 #[.string s, .int .i64 n] w fun e w' => e = .returned (.string (fillS s n)) ∧ Below w.heap.size w w' := by
  obtain ⟨_, _⟩ := bounds_i64 hn
  by_cases h0 : n < 0
  · have he : fillS s n = ⟨#[]⟩ := by unfold fillS; simp [h0]
    rw [he]; clear he
    go_enter Try.func28, Try.ntmps28
    go_wp2_with fail
    go_ret
    exact ⟨rfl, Below.refl _ _⟩
  · have he : fillS s n = mkb (fillL s.data.toList n.toNat) := by unfold fillS; simp [h0]
    rw [he]; clear he
    obtain ⟨N, rfl⟩ : ∃ M : Nat, n = M := ⟨n.toNat, by omega⟩
    simp only [Int.toNat_natCast]
    obtain ⟨i0, hi, hz0, hz1, hz2⟩ := info_parts infoU8
    have hmk := run_make_bytes (P := Try.prog) 38 5 i0 Try.underlying38 hi hz0 hz1 hz2 (N : Int) (by omega) (by omega)
    simp only [Int.toNat_natCast] at hmk
    have hmx : ¬ (max (s.size : Int) 2147483647 < (N : Int)) := by omega
    go_enter Try.func28, Try.ntmps28
    go_wp2_with (refine wpList_copy_zeros rfl _ _ _ _ rfl 5 Try.underlying38 sizeU8 w.heap.size N 5 s rfl rfl (Blk.new _ _ _) ?_; intro w1 hb1 hg1; have hcv := run_string_blk (P := Try.prog) w1 38 9 5 w.heap.size N 5 _ N (fillL_length _ _) Try.underlying38 Try.underlying5 Try.underlying9 hb1)
    go_ret
    exact ⟨rfl, ((Below.refl _ _).alloc (Nat.le_refl _) _).grown hg1 (by simp) (by simp)⟩
end Go.Proofs.Ytafogipkbhglcaa
