/- Page tables of pages side by side, of no program: how many. -/
import Derived.Test.YtbidlabhekiijaaDoorQH
namespace Go.Proofs.YtbidlabhekiijaaDoor
open Go.RowKit
set_option linter.unusedVariables false
set_option linter.unusedSimpArgs false

theorem iv_filter {a n lo hi : Nat} (h1 : a ≤ lo) (h2 : lo ≤ hi + 1) (h3 : hi < a + n) : ((List.range' a n).filter fun r => decide (lo ≤ r ∧ r ≤ hi)) = List.range' lo (hi + 1 - lo) := by
  obtain ⟨x, rfl⟩ : ∃ x, lo = a + x := ⟨lo - a, by omega⟩
  obtain ⟨y, hy⟩ : ∃ y, hi + 1 = a + x + y := ⟨hi + 1 - (a + x), by omega⟩
  obtain ⟨z, rfl⟩ : ∃ z, n = x + y + z := ⟨n - x - y, by omega⟩
  rw [← List.range'_append_1 (s := a) (m := x + y) (n := z), ← List.range'_append_1 (s := a) (m := x) (n := y), List.filter_append, List.filter_append, List.filter_eq_nil_iff.2, List.filter_eq_self.2, List.filter_eq_nil_iff.2]
  · rw [show hi + 1 - (a + x) = y by omega]; simp
  · intro r hr; rw [List.mem_range'_1] at hr; simp; omega
  · intro r hr; rw [List.mem_range'_1] at hr; simp; omega
  · intro r hr; rw [List.mem_range'_1] at hr; simp; omega
/-- Just these pages have entries. -/
def Iv (M : Nat → Sl) (F k : Nat) : Prop := ∀ p, M p ≠ Sl.zero ↔ F ≤ p ∧ p < F + k
theorem Iv.live {M : Nat → Sl} {F k : Nat} (h : Iv M F (k + 1)) (j r : Nat) : live M j r ↔ F / 8 ^ (4 - j) ≤ r ∧ r ≤ (F + k) / 8 ^ (4 - j) := by
  have hpos : 0 < 8 ^ (4 - j) := Nat.pow_pos (by omega)
  constructor
  · rintro ⟨p, e, hp⟩
    have h1 := (h p).1 hp
    rw [← e]
    exact ⟨Nat.div_le_div_right h1.1, Nat.div_le_div_right (by omega)⟩
  · rintro ⟨h1, h2⟩
    by_cases hlt : F ≤ r * 8 ^ (4 - j)
    · refine ⟨r * 8 ^ (4 - j), Nat.mul_div_cancel _ hpos, (h _).2 ⟨hlt, ?_⟩⟩
      have := (Nat.le_div_iff_mul_le hpos).1 h2
      omega
    · refine ⟨F, ?_, (h _).2 ⟨Nat.le_refl _, by omega⟩⟩
      have h3 : r ≤ F / 8 ^ (4 - j) := (Nat.le_div_iff_mul_le hpos).2 (by omega)
      omega
theorem Iv.lvl {M : Nat → Sl} {F k : Nat} (h : Iv M F (k + 1)) (hF : F + k < 4096) (j : Nat) (hj : j ≤ 4) : lvl M 0 j 0 (8 ^ j) = List.range' (F / 8 ^ (4 - j)) ((F + k) / 8 ^ (4 - j) + 1 - F / 8 ^ (4 - j)) := by
  have hpos : 0 < 8 ^ (4 - j) := Nat.pow_pos (by omega)
  have hle : F / 8 ^ (4 - j) ≤ (F + k) / 8 ^ (4 - j) := Nat.div_le_div_right (by omega)
  have hlt : (F + k) / 8 ^ (4 - j) < 8 ^ j := by
    rw [Nat.div_lt_iff_lt_mul hpos, ← Nat.pow_add, show j + (4 - j) = 4 by omega]
    exact hF
  rw [← iv_filter (a := 0) (n := 8 ^ j) (Nat.zero_le _) (by omega) (by omega)]
  unfold Go.Proofs.YtbidlabhekiijaaDoor.lvl
  refine List.filter_congr fun r _ => ?_
  have hp : (0 : Int) < (((r + 1) * 8 ^ (4 - j) : Nat) : Int) := by
    have := Nat.mul_pos (show 0 < r + 1 by omega) hpos
    omega
  rw [decide_eq_decide, h.live j r]
  exact ⟨fun h => h.1, fun h => ⟨h, hp⟩⟩
theorem Iv.cnt {M : Nat → Sl} {F k : Nat} (h : Iv M F (k + 1)) (hF : F + k < 4096) : cnt7 M = 1 + ((F + k) / 512 + 1 - F / 512) + ((F + k) / 64 + 1 - F / 64) + ((F + k) / 8 + 1 - F / 8) := by
  unfold cnt7 lvN
  rw [h.lvl hF 1 (by omega), h.lvl hF 2 (by omega), h.lvl hF 3 (by omega)]
  simp only [List.length_range', Nat.reduceSub, Nat.reducePow]
theorem Iv.pages {M : Nat → Sl} {F k : Nat} (h : Iv M F (k + 1)) (hF : F + k < 4096) : pagesF M 0 = List.range' F (k + 1) := by
  have := h.lvl hF 4 (Nat.le_refl _)
  simp only [Nat.sub_self, Nat.pow_zero, Nat.div_one, Nat.reducePow] at this
  unfold pagesF
  rw [this]
  congr 1
  omega
theorem Iv.none (F : Nat) : Iv m0 F 0 := fun p => ⟨fun h => absurd rfl h, fun h => by omega⟩
theorem Iv.next {M : Nat → Sl} {F k : Nat} (h : Iv M F k) {s : Sl} (hs : s ≠ Sl.zero) : Iv (setM M (F + k) s) F (k + 1) := by
  intro p
  by_cases hp : p = F + k
  · subst hp
    rw [setM_same]
    exact ⟨fun _ => by omega, fun _ => hs⟩
  · rw [setM_other hp, h p]
    omega
theorem quo_nat (n d : Nat) : ((n : Nat) : Int).tdiv (d : Int) = ((n / d : Nat) : Int) := by
  rw [Int.tdiv_eq_ediv_of_nonneg (by omega)]
  rfl
/-- The numbers that are met in counting. -/
theorem nodes_nums {F L : Nat} (h : F ≤ L) (h4 : L < 4096) : ∃ F8 F64 F512 A8 A64 A512 W1 W2 W3 : Nat,
    (((F : Nat) : Int).tdiv 8 = (F8 : Nat) ∧ ((F : Nat) : Int).tdiv 64 = (F64 : Nat) ∧ ((F : Nat) : Int).tdiv 512 = (F512 : Nat) ∧ ((L : Nat) : Int).tdiv 8 = (A8 : Nat) ∧ ((L : Nat) : Int).tdiv 64 = (A64 : Nat) ∧ ((L : Nat) : Int).tdiv 512 = (A512 : Nat)) ∧
    ((1 : Int) + (A8 : Int) - (F8 : Int) + 1 = (W1 : Nat) ∧ (W1 : Int) + (A64 : Int) - (F64 : Int) + 1 = (W2 : Nat) ∧ (W2 : Int) + (A512 : Int) - (F512 : Int) + 1 = (W3 : Nat)) ∧
    (F8 ≤ 511 ∧ F64 ≤ 63 ∧ F512 ≤ 7 ∧ A8 ≤ 511 ∧ A64 ≤ 63 ∧ A512 ≤ 7 ∧ W1 ≤ 600 ∧ W2 ≤ 700 ∧ W3 ≤ 710) ∧
    W3 = 1 + (L / 512 + 1 - F / 512) + (L / 64 + 1 - F / 64) + (L / 8 + 1 - F / 8) := by
  have h1 : F / 8 ≤ L / 8 := Nat.div_le_div_right h
  have h2 : F / 64 ≤ L / 64 := Nat.div_le_div_right h
  have h3 : F / 512 ≤ L / 512 := Nat.div_le_div_right h
  have g1 : L / 8 ≤ 511 := Nat.le_of_lt_succ ((Nat.div_lt_iff_lt_mul (by omega)).2 h4)
  have g2 : L / 64 ≤ 63 := Nat.le_of_lt_succ ((Nat.div_lt_iff_lt_mul (by omega)).2 h4)
  have g3 : L / 512 ≤ 7 := Nat.le_of_lt_succ ((Nat.div_lt_iff_lt_mul (by omega)).2 h4)
  refine ⟨F / 8, F / 64, F / 512, L / 8, L / 64, L / 512, 1 + (L / 8 + 1 - F / 8), 1 + (L / 8 + 1 - F / 8) + (L / 64 + 1 - F / 64), 1 + (L / 8 + 1 - F / 8) + (L / 64 + 1 - F / 64) + (L / 512 + 1 - F / 512), ⟨quo_nat F 8, quo_nat F 64, quo_nat F 512, quo_nat L 8, quo_nat L 64, quo_nat L 512⟩, ?_⟩
  generalize F / 8 = a at *
  generalize F / 64 = b at *
  generalize F / 512 = c at *
  generalize L / 8 = d at *
  generalize L / 64 = e at *
  generalize L / 512 = f at *
  clear h h4
  refine ⟨⟨by omega, by omega, by omega⟩, ⟨by omega, by omega, by omega, by omega, by omega, by omega, by omega, by omega, by omega⟩, by omega⟩
theorem here_may {n : Nat} (h : n ≤ 1048576) : (Sl.mk true false false false (n : Nat)).may = true := by
  unfold Sl.may; simp; omega
end Go.Proofs.YtbidlabhekiijaaDoor
