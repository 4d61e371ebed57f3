/- Contracts of the functions of package octet (and of its reference twin) that only compute. -/
import Derived.Test.YtafogipkbhglcaaRows
import Derived.WalkKit
import Derived.BigQuiet
import Derived.Deep.QuietTactic
import Derived.WalkLawsBesides
import Derived.WalkSpells
import Derived.OpenShut
namespace Go.Proofs.Ytafogipkbhglcaa
open Go.RowKit

/-- A range of n places from a place on is within so many. -/
def inn (at_ n all : Int) : Bool := decide (0 ≤ at_) && decide (0 ≤ n) && decide (at_ ≤ all) && decide (n ≤ all - at_)

theorem inn_iff {a n l : Int} : inn a n l = true ↔ 0 ≤ a ∧ 0 ≤ n ∧ a ≤ l ∧ n ≤ l - a := by
  unfold inn; simp [and_assoc]

set_option maxHeartbeats 400000 in
theorem within_any (a n l : Int) (w : World) (_ha : (Lit.int .i64 a).wf = true) (_hn : (Lit.int .i64 n).wf = true) (hl : l ≤ 9223372036854775807) :
    Calls Try.prog 56 #[.int .i64 a, .int .i64 n, .int .i64 l] w fun e w' => e = .returned (.bool (inn a n l)) ∧ w = w' := by
  by_cases h1 : 0 ≤ a
  · by_cases h2 : 0 ≤ n
    · by_cases h3 : a ≤ l
      · have hr : inn a n l = decide (n ≤ l - a) := by unfold inn; simp [h1, h2, h3]
        rw [hr]; clear hr
        go_enter Try.func56, Try.ntmps56
        go_wp2
        go_ret
        exact ⟨rfl, rfl⟩
      · have hr : inn a n l = false := by unfold inn; simp [h3]
        rw [hr]; clear hr
        go_enter Try.func56, Try.ntmps56
        go_wp2
        go_ret
        exact ⟨rfl, rfl⟩
    · have hr : inn a n l = false := by unfold inn; simp [h2]
      rw [hr]; clear hr
      go_enter Try.func56, Try.ntmps56
      go_wp2
      go_ret
      exact ⟨rfl, rfl⟩
  · have hr : inn a n l = false := by unfold inn; simp [h1]
    rw [hr]; clear hr
    go_enter Try.func56, Try.ntmps56
    go_wp2
    go_ret
    exact ⟨rfl, rfl⟩

/- The same of the reference. -/
theorem rwithin_any (a n l : Int) (w : World) (_ha : (Lit.int .i64 a).wf = true) (_hn : (Lit.int .i64 n).wf = true) (hl : l ≤ 9223372036854775807) :
    Calls Try.prog 39 #[.int .i64 a, .int .i64 n, .int .i64 l] w fun e w' => e = .returned (.bool (inn a n l)) ∧ w = w' := by
  by_cases h1 : 0 ≤ a
  · by_cases h2 : 0 ≤ n
    · by_cases h3 : a ≤ l
      · have hr : inn a n l = decide (n ≤ l - a) := by unfold inn; simp [h1, h2, h3]
        rw [hr]; clear hr
        go_enter Try.func39, Try.ntmps39
        go_wp2
        go_ret
        exact ⟨rfl, rfl⟩
      · have hr : inn a n l = false := by unfold inn; simp [h3]
        rw [hr]; clear hr
        go_enter Try.func39, Try.ntmps39
        go_wp2
        go_ret
        exact ⟨rfl, rfl⟩
    · have hr : inn a n l = false := by unfold inn; simp [h2]
      rw [hr]; clear hr
      go_enter Try.func39, Try.ntmps39
      go_wp2
      go_ret
      exact ⟨rfl, rfl⟩
  · have hr : inn a n l = false := by unfold inn; simp [h1]
    rw [hr]; clear hr
    go_enter Try.func39, Try.ntmps39
    go_wp2
    go_ret
    exact ⟨rfl, rfl⟩

/-- What Round tells: the least number that is not below n, and that b goes into. -/
def rndOk (n b : Int) : Bool := decide (0 ≤ n) && decide (n ≤ 4611686018427387904) && decide (1 ≤ b) && (decide (n % b = 0) || decide (b - n % b ≤ 4611686018427387904 - n))
def rndTo (n b : Int) : Int := if rndOk n b then (if n % b = 0 then n else n + (b - n % b)) else 0

theorem rnd_no {n b : Int} (h : ¬ (0 ≤ n ∧ n ≤ 4611686018427387904 ∧ 1 ≤ b)) : rndOk n b = false := by
  unfold rndOk; simp only [Bool.and_eq_false_iff, decide_eq_false_iff_not]; omega
theorem rnd_zero {n b : Int} (h : 0 ≤ n ∧ n ≤ 4611686018427387904 ∧ 1 ≤ b) (hz : n % b = 0) : rndOk n b = true ∧ rndTo n b = n := by
  have e : rndOk n b = true := by unfold rndOk; simp [h.1, h.2.1, h.2.2, hz]
  exact ⟨e, by unfold rndTo; simp [e, hz]⟩
theorem rnd_far {n b : Int} (hz : ¬ n % b = 0) (hf : ¬ b - n % b ≤ 4611686018427387904 - n) : rndOk n b = false ∧ rndTo n b = 0 := by
  have e : rndOk n b = false := by unfold rndOk; simp [hz, hf]
  exact ⟨e, by unfold rndTo; simp [e]⟩
theorem rnd_yes {n b : Int} (h : 0 ≤ n ∧ n ≤ 4611686018427387904 ∧ 1 ≤ b) (hz : ¬ n % b = 0) (hf : b - n % b ≤ 4611686018427387904 - n) : rndOk n b = true ∧ rndTo n b = n + (b - n % b) := by
  have e : rndOk n b = true := by unfold rndOk; simp [h.1, h.2.1, h.2.2, hz, hf]
  exact ⟨e, by unfold rndTo; simp [e, hz]⟩

set_option maxHeartbeats 400000 in
theorem round_any (n b : Int) (w : World) (hn : (Lit.int .i64 n).wf = true) (hb : (Lit.int .i64 b).wf = true) :
    Calls Try.prog 33 #[.int .i64 n, .int .i64 b] w fun e w' => e = .returned (.tuple #[.int .i64 (rndTo n b), .bool (rndOk n b)]) ∧ w = w' := by
  obtain ⟨_, _⟩ := bounds_i64 hn
  obtain ⟨_, _⟩ := bounds_i64 hb
  by_cases h : 0 ≤ n ∧ n ≤ 4611686018427387904 ∧ 1 ≤ b
  · by_cases hz : n % b = 0
    · obtain ⟨e1, e2⟩ := rnd_zero h hz
      rw [e1, e2]; clear e1 e2
      obtain ⟨h1, h2, h3⟩ := h
      go_enter Try.func33, Try.ntmps33
      go_wp2
      go_ret2
      exact ⟨rfl, rfl⟩
    · have hm := Int.emod_nonneg n (show b ≠ 0 by omega)
      have hm2 := Int.emod_lt_of_pos n (show 0 < b by omega)
      by_cases hf : b - n % b ≤ 4611686018427387904 - n
      · obtain ⟨e1, e2⟩ := rnd_yes h hz hf
        rw [e1, e2]; clear e1 e2
        obtain ⟨h1, h2, h3⟩ := h
        go_enter Try.func33, Try.ntmps33
        go_wp2
        go_ret2
        exact ⟨rfl, rfl⟩
      · obtain ⟨e1, e2⟩ := rnd_far hz hf
        rw [e1, e2]; clear e1 e2
        obtain ⟨h1, h2, h3⟩ := h
        go_enter Try.func33, Try.ntmps33
        go_wp2
        go_ret2
        exact ⟨rfl, rfl⟩
  · have e1 := rnd_no h
    have e2 : rndTo n b = 0 := by unfold rndTo; simp [e1]
    rw [e1, e2]; clear e1 e2
    by_cases h1 : 0 ≤ n
    · by_cases h2 : n ≤ 4611686018427387904
      · have h3 : b < 1 := by omega
        clear h
        go_enter Try.func33, Try.ntmps33
        go_wp2
        go_ret2
        exact ⟨rfl, rfl⟩
      · clear h
        go_enter Try.func33, Try.ntmps33
        go_wp2
        go_ret2
        exact ⟨rfl, rfl⟩
    · clear h
      go_enter Try.func33, Try.ntmps33
      go_wp2
      go_ret2
      exact ⟨rfl, rfl⟩
end Go.Proofs.Ytafogipkbhglcaa
