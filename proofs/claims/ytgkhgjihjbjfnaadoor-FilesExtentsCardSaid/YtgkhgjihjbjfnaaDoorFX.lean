/- One file alone: its parts stand one behind the other; of no program. -/
import Derived.Test.YtgkhgjihjbjfnaaDoorFW
namespace Go.Proofs.YtgkhgjihjbjfnaaDoor
open Go.RowKit Go.Shelf
set_option linter.unusedVariables false
set_option linter.unusedSimpArgs false

theorem single {F : Fl} {s : Nat} (h1 : 1 ≤ s) : ∀ k, k ≤ 4 → ∃ e, (Laid.rows [F] s k).ex = [e] ∧ (Laid.rows [F] s k).dat.length = (e.map (·.2)).sum ∧ e.map (·.2) = (cutsL F.pg s).take k ∧ ∀ t (ht : t < e.length), e[t].1 = 2 + ahd e t
  | 0, _ => ⟨[], rfl, rfl, rfl, fun t ht => by simp at ht⟩
  | k + 1, hk => by
    obtain ⟨e, he, hd, hc, ha⟩ := single (F := F) h1 k (by omega)
    have hok := LaidOk.rows [F] h1 (k + 1) hk
    have hcut := hok.cut 0 (by simp) (by rw [hok.len]; simp)
    rw [if_neg (by omega)] at hcut
    have hsum := hok.sum
    have hr : Laid.rows [F] s (k + 1) = (Laid.rows [F] s k).add [F] s k 0 := by rw [Laid.rows_succ]; rfl
    unfold Laid.add at hr
    simp only [List.getElem?_cons_zero, he] at hr
    by_cases h0 : 0 < (cutsL F.pg s).getD k 0
    · rw [if_pos h0] at hr
      have hex : (Laid.rows [F] s (k + 1)).ex = [e ++ [(1 + [F].length + (Laid.rows [F] s k).dat.length, (cutsL F.pg s).getD k 0)]] := by rw [hr]; simp [he]
      refine ⟨_, hex, ?_, ?_, fun t ht => ?_⟩
      · rw [hsum, hex]; simp
      · have h2 : (Laid.rows [F] s (k + 1)).ex[0]'(by rw [hok.len]; simp) = e ++ [(1 + [F].length + (Laid.rows [F] s k).dat.length, (cutsL F.pg s).getD k 0)] := by simp [hex]
        rw [h2] at hcut
        exact hcut
      · rcases Nat.lt_or_ge t e.length with h | h
        · rw [List.getElem_append_left h, ahd_snoc_lt _ _ (by omega)]
          exact ha t h
        · have ht2 : t = e.length := by simp at ht; omega
          subst ht2
          rw [List.getElem_append_right (Nat.le_refl _), ahd_snoc_lt _ _ (Nat.le_refl _), ahd_full, ← hd]
          show (([(1 + [F].length + (Laid.rows [F] s k).dat.length, (cutsL F.pg s).getD k 0)] : List (Nat × Nat))[e.length - e.length]'(by simp)).1 = _
          simp
    · rw [if_neg h0] at hr
      have hex : (Laid.rows [F] s (k + 1)).ex = [e] := by rw [hr]; exact he
      refine ⟨e, hex, ?_, ?_, ha⟩
      · rw [hsum, hex]; simp
      · have h2 : (Laid.rows [F] s (k + 1)).ex[0]'(by rw [hok.len]; simp) = e := by simp [hex]
        rw [h2] at hcut
        exact hcut
end Go.Proofs.YtgkhgjihjbjfnaaDoor
