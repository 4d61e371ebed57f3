/- Layer 7: pages with entries in their order; what From tells. -/
import Derived.Test.YtbidlabhekiijaaDoorQG
namespace Go.Proofs.YtbidlabhekiijaaDoor
open Go.RowKit
set_option linter.unusedVariables false
set_option linter.unusedSimpArgs false

theorem pagesF_filter (M : Nat → Sl) (low : Int) (h0 : 0 ≤ low) : pagesF M low = (pagesF M 0).filter fun p : Nat => decide (low ≤ ((p : Nat) : Int)) := by
  unfold pagesF lvl
  rw [List.filter_filter]
  refine List.filter_congr fun r _ => ?_
  by_cases h : live M 4 r <;> simp [h] <;> omega
theorem range_sorted : ∀ n a, (List.range' a n).Pairwise (· < ·)
  | 0, _ => List.Pairwise.nil
  | n + 1, a => by
    rw [List.range'_succ, List.pairwise_cons]
    exact ⟨fun x hx => by rw [List.mem_range'_1] at hx; omega, range_sorted n (a + 1)⟩
theorem pagesF_sorted (M : Nat → Sl) (low : Int) : (pagesF M low).Pairwise (· < ·) := (range_sorted 4096 0).sublist List.filter_sublist
theorem sorted_at {P : List Nat} (h : P.Pairwise (· < ·)) {i j : Nat} (hij : i < j) (hj : j < P.length) : P[i]'(by omega) < P[j] := List.pairwise_iff_getElem.1 h i j (by omega) hj hij
/-- Those from a place on. -/
theorem filter_drop {P : List Nat} (h : P.Pairwise (· < ·)) {i : Nat} {low : Int} (hi : i < P.length) (h1 : ∀ j (hj : j < i), ((P[j]'(by omega) : Nat) : Int) < low) (h2 : low ≤ (P[i] : Nat)) : (P.filter fun p : Nat => decide (low ≤ ((p : Nat) : Int))) = P.drop i := by
  rw (occs := .pos [1]) [← List.take_append_drop i P]
  rw [List.filter_append, List.filter_eq_nil_iff.2, List.filter_eq_self.2]
  · rfl
  · intro x hx
    obtain ⟨k, hk, rfl⟩ := List.mem_iff_getElem.1 hx
    rw [List.getElem_drop]
    rcases Nat.eq_zero_or_pos k with h0 | h0
    · subst h0
      simpa using h2
    · have := sorted_at h (show i < i + k by omega) (by simpa using (by simp at hk; omega : i + k < P.length))
      simp
      omega
  · intro x hx
    obtain ⟨k, hk, rfl⟩ := List.mem_iff_getElem.1 hx
    rw [List.length_take] at hk
    rw [List.getElem_take]
    have := h1 k (by omega)
    simp
    omega
theorem fr_at {M : Nat → Sl} {i : Nat} {low : Int} (h0 : 0 ≤ low) (hi : i < (pagesF M 0).length) (h1 : ∀ j (hj : j < i), (((pagesF M 0)[j]'(by omega) : Nat) : Int) < low) (h2 : low ≤ ((pagesF M 0)[i] : Nat)) :
    frC M low = (spotP M (pagesF M 0)[i]).toArray ∧ frB M low = true := by
  unfold frC frB
  rw [pagesF_filter M low h0, filter_drop (pagesF_sorted M 0) hi h1 h2, List.drop_eq_getElem_cons hi]
  exact ⟨rfl, rfl⟩
theorem fr_end {M : Nat → Sl} {low : Int} (h0 : 0 ≤ low) (h1 : ∀ j (hj : j < (pagesF M 0).length), ((pagesF M 0)[j] : Nat) < low) : frC M low = zspot ∧ frB M low = false := by
  unfold frC frB
  rw [pagesF_filter M low h0, List.filter_eq_nil_iff.2]
  · exact ⟨rfl, rfl⟩
  · intro x hx
    obtain ⟨k, hk, rfl⟩ := List.mem_iff_getElem.1 hx
    have := h1 k hk
    simp
    omega
/-- The first one that is great enough, or none is. -/
theorem first_or (K : Nat) : ∀ P : List Nat, (∀ j (hj : j < P.length), P[j] < K) ∨ ∃ i, ∃ hi : i < P.length, K ≤ P[i] ∧ ∀ j (hj : j < i), P[j]'(by omega) < K
  | [] => .inl fun j hj => by simp at hj
  | x :: P => by
    by_cases hx : x < K
    · rcases first_or K P with h | ⟨i, hi, h1, h2⟩
      · refine .inl fun j hj => ?_
        cases j with
        | zero => exact hx
        | succ j => exact h j (by simpa using hj)
      · refine .inr ⟨i + 1, by simpa using hi, by simpa using h1, fun j hj => ?_⟩
        cases j with
        | zero => exact hx
        | succ j => exact h2 j (by omega)
    · exact .inr ⟨0, by simp, by simpa using hx, fun j hj => by omega⟩
theorem spotsF_at {M : Nat → Sl} {i : Nat} (hi : i < (spotsF M).length) : (spotsF M)[i] = ((pagesF M 0)[i]'(by simpa [spotsF] using hi), M ((pagesF M 0)[i]'(by simpa [spotsF] using hi))) := by
  simp [spotsF]
theorem spotsF_length (M : Nat → Sl) : (spotsF M).length = (pagesF M 0).length := by simp [spotsF]
theorem pagesF_lt {M : Nat → Sl} {i : Nat} (hi : i < (pagesF M 0).length) : (pagesF M 0)[i] < 4096 := (mem_pagesF.1 (List.getElem_mem hi)).1
theorem page_ne {M : Nat → Sl} {i : Nat} (hi : i < (pagesF M 0).length) : M (pagesF M 0)[i] ≠ Sl.zero := (mem_pagesF.1 (List.getElem_mem hi)).2.1
/-- A page is set, where there is room enough. -/
theorem tw_put {w v : World} {t p h g N : Nat} {M : Nat → Sl} (s : Tw w v t p h g N M) {k P : Nat} (hP : P < 4096) {x : Sl} (hx : x.may = true) (hc : cnt7 M ≤ 1 + 3 * k) (hN : 4 + 3 * k ≤ N) :
    Calls Tryd.prog 24 #[.pointer (some ⟨t, 0, none⟩), .int .i64 (P : Nat), x.v] v fun e v' => e = .returned (.int .i64 0) ∧ Tw w v' t p h g N (setM M P x) ∧ cnt7 (setM M P x) ≤ 1 + 3 * (k + 1) ∧ But (fun j => j = h ∨ j = g) v v' := by
  have hk := kn_range M P
  have hst := stE7_ok (M := M) (N := N) hP hx (by omega)
  have hc2 := cnt7_set (M := M) hP (Sl.may_ne hx)
  exact (tw_set s (P : Nat) x).mono fun e v' ⟨he, hs, hb⟩ => ⟨by rw [he, hst.1], by rw [hst.2] at hs; exact hs, by omega, hb⟩
end Go.Proofs.YtbidlabhekiijaaDoor
