/- Package region: mayBe; the reference's May. -/
import Derived.Test.YtmknkdfdkanijaaUE
namespace Go.Proofs.Ytmknkdfdkanijaa
open Go.RowKit Go.ChangeShapes Go.WideShapes Go.Deep
set_option linter.unusedVariables false
set_option linter.unusedSimpArgs false

/-- May there be such a region? -/
def Rg.mayB (r : Rg) : Bool := decide (0 ≤ r.f ∧ r.f < r.t ∧ r.t ≤ 4096 ∧ 0 ≤ r.p ∧ r.p ≤ 7 ∧ ((r.k = 1 ∧ 0 ≤ r.fl ∧ 0 ≤ r.pg ∧ r.pg ≤ 1073741824 - (r.t - r.f)) ∨ ((r.k = 2 ∨ r.k = 3 ∨ r.k = 4) ∧ r.fl = -1 ∧ r.pg = 0)))
theorem wf64_bd {n : Int} (h : (Lit.int .i64 n).wf = true) : -9223372036854775808 ≤ n ∧ n ≤ 9223372036854775807 := by
  have e : (Lit.int .i64 n).wf = (decide (-9223372036854775808 ≤ n) && decide (n ≤ 9223372036854775807)) := rfl
  rw [e] at h; simpa using h
theorem mayB_iff {r : Rg} (hw : r.Wf) : r.mayB = true ↔ r.May := by
  have h0 := (wf64_bd hw.fl).2
  unfold Rg.mayB
  rw [decide_eq_true_iff]
  refine ⟨fun ⟨h1, h2, h3, h4, h5, h6⟩ => ⟨h1, h2, h3, h4, h5, ?_⟩, fun ⟨h1, h2, h3, h4, h5, h6⟩ => ⟨h1, h2, h3, h4, h5, ?_⟩⟩ <;> omega
theorem mayB_false {r : Rg} (hw : r.Wf) : r.mayB = false ↔ ¬ r.May := by
  rw [← mayB_iff hw]; simp

set_option maxRecDepth 100000 in
set_option maxHeartbeats 3200000 in
theorem mayBe_any (r : Rg) (w : World) (hw : r.Wf) : Calls Try.prog 36 #[.agg r.cs] w fun e w' => e = .returned (.bool r.mayB) ∧ Below w.heap.size w w' := by
  obtain ⟨f, t, p, k, fl, pg⟩ := r
  have hb1 := wf64_bd hw.f
  have hb2 := wf64_bd hw.t
  have hb3 := wf64_bd hw.pg
  simp only at hb1 hb2 hb3
  have HP := Lib.hid (fun v => isPerm_any p v)
  unfold Rg.cs
  simp only
  by_cases c104 : f < 0
  · have cc := c104
    have q104_0 : decide (f < 0) = true := by simp; omega
    clear cc
    obtain ⟨R, hR⟩ : ∃ R, Rg.mayB ⟨f, t, p, k, fl, pg⟩ = R := ⟨_, rfl⟩
    rw [hR]
    obtain rfl : R = false := by
      rw [← hR]; unfold Rg.mayB; simp only [decide_eq_true_iff, decide_eq_false_iff_not, true_and, true_or, or_true]; omega
    clear hR hb1 hb2 hb3 hw
    go_enter Try.func36, Try.ntmps36
    go_wp2_with (go_at_call 34; with_reducible refine (HP.out _).mono ?_; rintro e x ⟨rfl, rfl⟩)
    go_ret
    exact ⟨rfl, (Below.refl _ _).alloc (Nat.le_refl _) _⟩
  · have cc := c104
    have q104_0 : decide (f < 0) = false := by simp; omega
    clear cc
    by_cases c203 : t ≤ f
    · have cc := c203
      have q203_0 : decide (t ≤ f) = true := by simp; omega
      clear cc
      obtain ⟨R, hR⟩ : ∃ R, Rg.mayB ⟨f, t, p, k, fl, pg⟩ = R := ⟨_, rfl⟩
      rw [hR]
      obtain rfl : R = false := by
        rw [← hR]; unfold Rg.mayB; simp only [decide_eq_true_iff, decide_eq_false_iff_not, true_and, true_or, or_true]; omega
      clear hR hb1 hb2 hb3 hw
      go_enter Try.func36, Try.ntmps36
      go_wp2_with (go_at_call 34; with_reducible refine (HP.out _).mono ?_; rintro e x ⟨rfl, rfl⟩)
      go_ret
      exact ⟨rfl, (Below.refl _ _).alloc (Nat.le_refl _) _⟩
    · have cc := c203
      have q203_0 : decide (t ≤ f) = false := by simp; omega
      clear cc
      by_cases c302 : 4096 < t
      · have cc := c302
        have q302_0 : decide (4096 < t) = true := by simp; omega
        clear cc
        obtain ⟨R, hR⟩ : ∃ R, Rg.mayB ⟨f, t, p, k, fl, pg⟩ = R := ⟨_, rfl⟩
        rw [hR]
        obtain rfl : R = false := by
          rw [← hR]; unfold Rg.mayB; simp only [decide_eq_true_iff, decide_eq_false_iff_not, true_and, true_or, or_true]; omega
        clear hR hb1 hb2 hb3 hw
        go_enter Try.func36, Try.ntmps36
        go_wp2_with (go_at_call 34; with_reducible refine (HP.out _).mono ?_; rintro e x ⟨rfl, rfl⟩)
        go_ret
        exact ⟨rfl, (Below.refl _ _).alloc (Nat.le_refl _) _⟩
      · have cc := c302
        have q302_0 : decide (4096 < t) = false := by simp; omega
        clear cc
        by_cases c401 : 0 ≤ p ∧ p ≤ 7
        · have cc := c401
          have q401_0 : permB p = true := by unfold permB; simp; omega
          clear cc
          by_cases k1 : k = 1
          · subst k1
            have w1 : IntKind.i64.wrap (t - f) = t - f ∧ wrap64 (t - f) = t - f := ⟨IntWalk.i64_in _ (by omega), IntWalk.wrap64_in _ (by omega)⟩
            have w2 : IntKind.i64.wrap (1073741824 - (t - f)) = 1073741824 - (t - f) ∧ wrap64 (1073741824 - (t - f)) = 1073741824 - (t - f) := ⟨IntWalk.i64_in _ (by omega), IntWalk.wrap64_in _ (by omega)⟩
            obtain ⟨w11, w12⟩ := w1
            obtain ⟨w21, w22⟩ := w2
            by_cases c603 : 0 ≤ fl
            · have cc := c603
              have q603_0 : decide (0 ≤ fl) = true := by simp; omega
              clear cc
              by_cases c702 : 0 ≤ pg
              · have cc := c702
                have q702_0 : decide (0 ≤ pg) = true := by simp; omega
                clear cc
                by_cases c801 : pg ≤ 1073741824 - (t - f)
                · have cc := c801
                  have q801_0 : decide (pg ≤ 1073741824 - (t - f)) = true := by simp; omega
                  clear cc
                  obtain ⟨R, hR⟩ : ∃ R, Rg.mayB ⟨f, t, p, 1, fl, pg⟩ = R := ⟨_, rfl⟩
                  rw [hR]
                  obtain rfl : R = true := by
                    rw [← hR]; unfold Rg.mayB; simp only [decide_eq_true_iff, decide_eq_false_iff_not, true_and, true_or, or_true]; omega
                  clear hR hb1 hb2 hb3 hw
                  go_enter Try.func36, Try.ntmps36
                  go_wp2_with (go_at_call 34; with_reducible refine (HP.out _).mono ?_; rintro e x ⟨rfl, rfl⟩)
                  go_ret
                  exact ⟨rfl, (Below.refl _ _).alloc (Nat.le_refl _) _⟩
                · have cc := c801
                  have q801_0 : decide (pg ≤ 1073741824 - (t - f)) = false := by simp; omega
                  clear cc
                  obtain ⟨R, hR⟩ : ∃ R, Rg.mayB ⟨f, t, p, 1, fl, pg⟩ = R := ⟨_, rfl⟩
                  rw [hR]
                  obtain rfl : R = false := by
                    rw [← hR]; unfold Rg.mayB; simp only [decide_eq_true_iff, decide_eq_false_iff_not, true_and, true_or, or_true]; omega
                  clear hR hb1 hb2 hb3 hw
                  go_enter Try.func36, Try.ntmps36
                  go_wp2_with (go_at_call 34; with_reducible refine (HP.out _).mono ?_; rintro e x ⟨rfl, rfl⟩)
                  go_ret
                  exact ⟨rfl, (Below.refl _ _).alloc (Nat.le_refl _) _⟩
              · have cc := c702
                have q702_0 : decide (0 ≤ pg) = false := by simp; omega
                clear cc
                obtain ⟨R, hR⟩ : ∃ R, Rg.mayB ⟨f, t, p, 1, fl, pg⟩ = R := ⟨_, rfl⟩
                rw [hR]
                obtain rfl : R = false := by
                  rw [← hR]; unfold Rg.mayB; simp only [decide_eq_true_iff, decide_eq_false_iff_not, true_and, true_or, or_true]; omega
                clear hR hb1 hb2 hb3 hw
                go_enter Try.func36, Try.ntmps36
                go_wp2_with (go_at_call 34; with_reducible refine (HP.out _).mono ?_; rintro e x ⟨rfl, rfl⟩)
                go_ret
                exact ⟨rfl, (Below.refl _ _).alloc (Nat.le_refl _) _⟩
            · have cc := c603
              have q603_0 : decide (0 ≤ fl) = false := by simp; omega
              clear cc
              obtain ⟨R, hR⟩ : ∃ R, Rg.mayB ⟨f, t, p, 1, fl, pg⟩ = R := ⟨_, rfl⟩
              rw [hR]
              obtain rfl : R = false := by
                rw [← hR]; unfold Rg.mayB; simp only [decide_eq_true_iff, decide_eq_false_iff_not, true_and, true_or, or_true]; omega
              clear hR hb1 hb2 hb3 hw
              go_enter Try.func36, Try.ntmps36
              go_wp2_with (go_at_call 34; with_reducible refine (HP.out _).mono ?_; rintro e x ⟨rfl, rfl⟩)
              go_ret
              exact ⟨rfl, (Below.refl _ _).alloc (Nat.le_refl _) _⟩
          · have k2 : (k == 1) = false := by simpa using k1
            by_cases k3 : k = 2
            · subst k3
              by_cases c702 : fl = -1
              · have cc := c702
                have q702_0 : (fl == -1) = true := by simp; omega
                clear cc
                by_cases c801 : pg = 0
                · have cc := c801
                  have q801_0 : (pg == 0) = true := by simp; omega
                  clear cc
                  obtain ⟨R, hR⟩ : ∃ R, Rg.mayB ⟨f, t, p, 2, fl, pg⟩ = R := ⟨_, rfl⟩
                  rw [hR]
                  obtain rfl : R = true := by
                    rw [← hR]; unfold Rg.mayB; simp only [decide_eq_true_iff, decide_eq_false_iff_not, true_and, true_or, or_true]; omega
                  clear hR hb1 hb2 hb3 hw
                  go_enter Try.func36, Try.ntmps36
                  go_wp2_with (go_at_call 34; with_reducible refine (HP.out _).mono ?_; rintro e x ⟨rfl, rfl⟩)
                  go_ret
                  exact ⟨rfl, (Below.refl _ _).alloc (Nat.le_refl _) _⟩
                · have cc := c801
                  have q801_0 : (pg == 0) = false := by simp; omega
                  clear cc
                  obtain ⟨R, hR⟩ : ∃ R, Rg.mayB ⟨f, t, p, 2, fl, pg⟩ = R := ⟨_, rfl⟩
                  rw [hR]
                  obtain rfl : R = false := by
                    rw [← hR]; unfold Rg.mayB; simp only [decide_eq_true_iff, decide_eq_false_iff_not, true_and, true_or, or_true]; omega
                  clear hR hb1 hb2 hb3 hw
                  go_enter Try.func36, Try.ntmps36
                  go_wp2_with (go_at_call 34; with_reducible refine (HP.out _).mono ?_; rintro e x ⟨rfl, rfl⟩)
                  go_ret
                  exact ⟨rfl, (Below.refl _ _).alloc (Nat.le_refl _) _⟩
              · have cc := c702
                have q702_0 : (fl == -1) = false := by simp; omega
                clear cc
                obtain ⟨R, hR⟩ : ∃ R, Rg.mayB ⟨f, t, p, 2, fl, pg⟩ = R := ⟨_, rfl⟩
                rw [hR]
                obtain rfl : R = false := by
                  rw [← hR]; unfold Rg.mayB; simp only [decide_eq_true_iff, decide_eq_false_iff_not, true_and, true_or, or_true]; omega
                clear hR hb1 hb2 hb3 hw
                go_enter Try.func36, Try.ntmps36
                go_wp2_with (go_at_call 34; with_reducible refine (HP.out _).mono ?_; rintro e x ⟨rfl, rfl⟩)
                go_ret
                exact ⟨rfl, (Below.refl _ _).alloc (Nat.le_refl _) _⟩
            · have k4 : (k == 2) = false := by simpa using k3
              by_cases k5 : k = 3
              · subst k5
                by_cases c802 : fl = -1
                · have cc := c802
                  have q802_0 : (fl == -1) = true := by simp; omega
                  clear cc
                  by_cases c901 : pg = 0
                  · have cc := c901
                    have q901_0 : (pg == 0) = true := by simp; omega
                    clear cc
                    obtain ⟨R, hR⟩ : ∃ R, Rg.mayB ⟨f, t, p, 3, fl, pg⟩ = R := ⟨_, rfl⟩
                    rw [hR]
                    obtain rfl : R = true := by
                      rw [← hR]; unfold Rg.mayB; simp only [decide_eq_true_iff, decide_eq_false_iff_not, true_and, true_or, or_true]; omega
                    clear hR hb1 hb2 hb3 hw
                    go_enter Try.func36, Try.ntmps36
                    go_wp2_with (go_at_call 34; with_reducible refine (HP.out _).mono ?_; rintro e x ⟨rfl, rfl⟩)
                    go_ret
                    exact ⟨rfl, (Below.refl _ _).alloc (Nat.le_refl _) _⟩
                  · have cc := c901
                    have q901_0 : (pg == 0) = false := by simp; omega
                    clear cc
                    obtain ⟨R, hR⟩ : ∃ R, Rg.mayB ⟨f, t, p, 3, fl, pg⟩ = R := ⟨_, rfl⟩
                    rw [hR]
                    obtain rfl : R = false := by
                      rw [← hR]; unfold Rg.mayB; simp only [decide_eq_true_iff, decide_eq_false_iff_not, true_and, true_or, or_true]; omega
                    clear hR hb1 hb2 hb3 hw
                    go_enter Try.func36, Try.ntmps36
                    go_wp2_with (go_at_call 34; with_reducible refine (HP.out _).mono ?_; rintro e x ⟨rfl, rfl⟩)
                    go_ret
                    exact ⟨rfl, (Below.refl _ _).alloc (Nat.le_refl _) _⟩
                · have cc := c802
                  have q802_0 : (fl == -1) = false := by simp; omega
                  clear cc
                  obtain ⟨R, hR⟩ : ∃ R, Rg.mayB ⟨f, t, p, 3, fl, pg⟩ = R := ⟨_, rfl⟩
                  rw [hR]
                  obtain rfl : R = false := by
                    rw [← hR]; unfold Rg.mayB; simp only [decide_eq_true_iff, decide_eq_false_iff_not, true_and, true_or, or_true]; omega
                  clear hR hb1 hb2 hb3 hw
                  go_enter Try.func36, Try.ntmps36
                  go_wp2_with (go_at_call 34; with_reducible refine (HP.out _).mono ?_; rintro e x ⟨rfl, rfl⟩)
                  go_ret
                  exact ⟨rfl, (Below.refl _ _).alloc (Nat.le_refl _) _⟩
              · have k6 : (k == 3) = false := by simpa using k5
                by_cases k7 : k = 4
                · subst k7
                  by_cases c902 : fl = -1
                  · have cc := c902
                    have q902_0 : (fl == -1) = true := by simp; omega
                    clear cc
                    by_cases c1001 : pg = 0
                    · have cc := c1001
                      have q1001_0 : (pg == 0) = true := by simp; omega
                      clear cc
                      obtain ⟨R, hR⟩ : ∃ R, Rg.mayB ⟨f, t, p, 4, fl, pg⟩ = R := ⟨_, rfl⟩
                      rw [hR]
                      obtain rfl : R = true := by
                        rw [← hR]; unfold Rg.mayB; simp only [decide_eq_true_iff, decide_eq_false_iff_not, true_and, true_or, or_true]; omega
                      clear hR hb1 hb2 hb3 hw
                      go_enter Try.func36, Try.ntmps36
                      go_wp2_with (go_at_call 34; with_reducible refine (HP.out _).mono ?_; rintro e x ⟨rfl, rfl⟩)
                      go_ret
                      exact ⟨rfl, (Below.refl _ _).alloc (Nat.le_refl _) _⟩
                    · have cc := c1001
                      have q1001_0 : (pg == 0) = false := by simp; omega
                      clear cc
                      obtain ⟨R, hR⟩ : ∃ R, Rg.mayB ⟨f, t, p, 4, fl, pg⟩ = R := ⟨_, rfl⟩
                      rw [hR]
                      obtain rfl : R = false := by
                        rw [← hR]; unfold Rg.mayB; simp only [decide_eq_true_iff, decide_eq_false_iff_not, true_and, true_or, or_true]; omega
                      clear hR hb1 hb2 hb3 hw
                      go_enter Try.func36, Try.ntmps36
                      go_wp2_with (go_at_call 34; with_reducible refine (HP.out _).mono ?_; rintro e x ⟨rfl, rfl⟩)
                      go_ret
                      exact ⟨rfl, (Below.refl _ _).alloc (Nat.le_refl _) _⟩
                  · have cc := c902
                    have q902_0 : (fl == -1) = false := by simp; omega
                    clear cc
                    obtain ⟨R, hR⟩ : ∃ R, Rg.mayB ⟨f, t, p, 4, fl, pg⟩ = R := ⟨_, rfl⟩
                    rw [hR]
                    obtain rfl : R = false := by
                      rw [← hR]; unfold Rg.mayB; simp only [decide_eq_true_iff, decide_eq_false_iff_not, true_and, true_or, or_true]; omega
                    clear hR hb1 hb2 hb3 hw
                    go_enter Try.func36, Try.ntmps36
                    go_wp2_with (go_at_call 34; with_reducible refine (HP.out _).mono ?_; rintro e x ⟨rfl, rfl⟩)
                    go_ret
                    exact ⟨rfl, (Below.refl _ _).alloc (Nat.le_refl _) _⟩
                · have k8 : (k == 4) = false := by simpa using k7
                  obtain ⟨R, hR⟩ : ∃ R, Rg.mayB ⟨f, t, p, k, fl, pg⟩ = R := ⟨_, rfl⟩
                  rw [hR]
                  obtain rfl : R = false := by
                    rw [← hR]; unfold Rg.mayB; simp only [decide_eq_true_iff, decide_eq_false_iff_not, true_and, true_or, or_true]; omega
                  clear hR hb1 hb2 hb3 hw
                  go_enter Try.func36, Try.ntmps36
                  go_wp2_with (go_at_call 34; with_reducible refine (HP.out _).mono ?_; rintro e x ⟨rfl, rfl⟩)
                  go_ret
                  exact ⟨rfl, (Below.refl _ _).alloc (Nat.le_refl _) _⟩
        · have cc := c401
          have q401_0 : permB p = false := by unfold permB; simp; omega
          clear cc
          obtain ⟨R, hR⟩ : ∃ R, Rg.mayB ⟨f, t, p, k, fl, pg⟩ = R := ⟨_, rfl⟩
          rw [hR]
          obtain rfl : R = false := by
            rw [← hR]; unfold Rg.mayB; simp only [decide_eq_true_iff, decide_eq_false_iff_not, true_and, true_or, or_true]; omega
          clear hR hb1 hb2 hb3 hw
          go_enter Try.func36, Try.ntmps36
          go_wp2_with (go_at_call 34; with_reducible refine (HP.out _).mono ?_; rintro e x ⟨rfl, rfl⟩)
          go_ret
          exact ⟨rfl, (Below.refl _ _).alloc (Nat.le_refl _) _⟩

set_option maxRecDepth 100000 in
set_option maxHeartbeats 3200000 in
theorem rmay_any (r : Rg) (w : World) (hw : r.Wf) : Calls Try.prog 40 #[.agg r.cs] w fun e w' => e = .returned (.bool r.mayB) ∧ Below w.heap.size w w' := by
  obtain ⟨f, t, p, k, fl, pg⟩ := r
  have hb1 := wf64_bd hw.f
  have hb2 := wf64_bd hw.t
  have hb3 := wf64_bd hw.pg
  simp only at hb1 hb2 hb3
  unfold Rg.cs
  simp only
  by_cases c107 : f < 0
  · have cc := c107
    have q107_0 : decide (f < 0) = true := by simp; omega
    clear cc
    obtain ⟨R, hR⟩ : ∃ R, Rg.mayB ⟨f, t, p, k, fl, pg⟩ = R := ⟨_, rfl⟩
    rw [hR]
    obtain rfl : R = false := by
      rw [← hR]; unfold Rg.mayB; simp only [decide_eq_true_iff, decide_eq_false_iff_not, true_and, true_or, or_true]; omega
    clear hR hb1 hb2 hb3 hw
    go_enter Try.func40, Try.ntmps40
    go_wp2
    go_ret
    exact ⟨rfl, (Below.refl _ _).alloc (Nat.le_refl _) _⟩
  · have cc := c107
    have q107_0 : decide (f < 0) = false := by simp; omega
    clear cc
    by_cases c206 : t ≤ f
    · have cc := c206
      have q206_0 : decide (t ≤ f) = true := by simp; omega
      clear cc
      obtain ⟨R, hR⟩ : ∃ R, Rg.mayB ⟨f, t, p, k, fl, pg⟩ = R := ⟨_, rfl⟩
      rw [hR]
      obtain rfl : R = false := by
        rw [← hR]; unfold Rg.mayB; simp only [decide_eq_true_iff, decide_eq_false_iff_not, true_and, true_or, or_true]; omega
      clear hR hb1 hb2 hb3 hw
      go_enter Try.func40, Try.ntmps40
      go_wp2
      go_ret
      exact ⟨rfl, (Below.refl _ _).alloc (Nat.le_refl _) _⟩
    · have cc := c206
      have q206_0 : decide (t ≤ f) = false := by simp; omega
      clear cc
      by_cases c305 : 4096 < t
      · have cc := c305
        have q305_0 : decide (4096 < t) = true := by simp; omega
        clear cc
        obtain ⟨R, hR⟩ : ∃ R, Rg.mayB ⟨f, t, p, k, fl, pg⟩ = R := ⟨_, rfl⟩
        rw [hR]
        obtain rfl : R = false := by
          rw [← hR]; unfold Rg.mayB; simp only [decide_eq_true_iff, decide_eq_false_iff_not, true_and, true_or, or_true]; omega
        clear hR hb1 hb2 hb3 hw
        go_enter Try.func40, Try.ntmps40
        go_wp2
        go_ret
        exact ⟨rfl, (Below.refl _ _).alloc (Nat.le_refl _) _⟩
      · have cc := c305
        have q305_0 : decide (4096 < t) = false := by simp; omega
        clear cc
        by_cases c404 : p < 0
        · have cc := c404
          have q404_0 : decide (p < 0) = true := by simp; omega
          clear cc
          obtain ⟨R, hR⟩ : ∃ R, Rg.mayB ⟨f, t, p, k, fl, pg⟩ = R := ⟨_, rfl⟩
          rw [hR]
          obtain rfl : R = false := by
            rw [← hR]; unfold Rg.mayB; simp only [decide_eq_true_iff, decide_eq_false_iff_not, true_and, true_or, or_true]; omega
          clear hR hb1 hb2 hb3 hw
          go_enter Try.func40, Try.ntmps40
          go_wp2
          go_ret
          exact ⟨rfl, (Below.refl _ _).alloc (Nat.le_refl _) _⟩
        · have cc := c404
          have q404_0 : decide (p < 0) = false := by simp; omega
          clear cc
          by_cases c503 : 7 < p
          · have cc := c503
            have q503_0 : decide (7 < p) = true := by simp; omega
            clear cc
            obtain ⟨R, hR⟩ : ∃ R, Rg.mayB ⟨f, t, p, k, fl, pg⟩ = R := ⟨_, rfl⟩
            rw [hR]
            obtain rfl : R = false := by
              rw [← hR]; unfold Rg.mayB; simp only [decide_eq_true_iff, decide_eq_false_iff_not, true_and, true_or, or_true]; omega
            clear hR hb1 hb2 hb3 hw
            go_enter Try.func40, Try.ntmps40
            go_wp2
            go_ret
            exact ⟨rfl, (Below.refl _ _).alloc (Nat.le_refl _) _⟩
          · have cc := c503
            have q503_0 : decide (7 < p) = false := by simp; omega
            clear cc
            by_cases c602 : k < 1
            · have cc := c602
              have q602_0 : decide (k < 1) = true := by simp; omega
              clear cc
              obtain ⟨R, hR⟩ : ∃ R, Rg.mayB ⟨f, t, p, k, fl, pg⟩ = R := ⟨_, rfl⟩
              rw [hR]
              obtain rfl : R = false := by
                rw [← hR]; unfold Rg.mayB; simp only [decide_eq_true_iff, decide_eq_false_iff_not, true_and, true_or, or_true]; omega
              clear hR hb1 hb2 hb3 hw
              go_enter Try.func40, Try.ntmps40
              go_wp2
              go_ret
              exact ⟨rfl, (Below.refl _ _).alloc (Nat.le_refl _) _⟩
            · have cc := c602
              have q602_0 : decide (k < 1) = false := by simp; omega
              clear cc
              by_cases c701 : 4 < k
              · have cc := c701
                have q701_0 : decide (4 < k) = true := by simp; omega
                clear cc
                obtain ⟨R, hR⟩ : ∃ R, Rg.mayB ⟨f, t, p, k, fl, pg⟩ = R := ⟨_, rfl⟩
                rw [hR]
                obtain rfl : R = false := by
                  rw [← hR]; unfold Rg.mayB; simp only [decide_eq_true_iff, decide_eq_false_iff_not, true_and, true_or, or_true]; omega
                clear hR hb1 hb2 hb3 hw
                go_enter Try.func40, Try.ntmps40
                go_wp2
                go_ret
                exact ⟨rfl, (Below.refl _ _).alloc (Nat.le_refl _) _⟩
              · have cc := c701
                have q701_0 : decide (4 < k) = false := by simp; omega
                clear cc
                by_cases k1 : k = 1
                · subst k1
                  have w1 : IntKind.i64.wrap (t - f) = t - f ∧ wrap64 (t - f) = t - f := ⟨IntWalk.i64_in _ (by omega), IntWalk.wrap64_in _ (by omega)⟩
                  have w2 : IntKind.i64.wrap (1073741824 - (t - f)) = 1073741824 - (t - f) ∧ wrap64 (1073741824 - (t - f)) = 1073741824 - (t - f) := ⟨IntWalk.i64_in _ (by omega), IntWalk.wrap64_in _ (by omega)⟩
                  obtain ⟨w11, w12⟩ := w1
                  obtain ⟨w21, w22⟩ := w2
                  by_cases c903 : 0 ≤ fl
                  · have cc := c903
                    have q903_0 : decide (0 ≤ fl) = true := by simp; omega
                    clear cc
                    by_cases c1002 : 0 ≤ pg
                    · have cc := c1002
                      have q1002_0 : decide (0 ≤ pg) = true := by simp; omega
                      clear cc
                      by_cases c1101 : pg ≤ 1073741824 - (t - f)
                      · have cc := c1101
                        have q1101_0 : decide (pg ≤ 1073741824 - (t - f)) = true := by simp; omega
                        clear cc
                        obtain ⟨R, hR⟩ : ∃ R, Rg.mayB ⟨f, t, p, 1, fl, pg⟩ = R := ⟨_, rfl⟩
                        rw [hR]
                        obtain rfl : R = true := by
                          rw [← hR]; unfold Rg.mayB; simp only [decide_eq_true_iff, decide_eq_false_iff_not, true_and, true_or, or_true]; omega
                        clear hR hb1 hb2 hb3 hw
                        go_enter Try.func40, Try.ntmps40
                        go_wp2
                        go_ret
                        exact ⟨rfl, (Below.refl _ _).alloc (Nat.le_refl _) _⟩
                      · have cc := c1101
                        have q1101_0 : decide (pg ≤ 1073741824 - (t - f)) = false := by simp; omega
                        clear cc
                        obtain ⟨R, hR⟩ : ∃ R, Rg.mayB ⟨f, t, p, 1, fl, pg⟩ = R := ⟨_, rfl⟩
                        rw [hR]
                        obtain rfl : R = false := by
                          rw [← hR]; unfold Rg.mayB; simp only [decide_eq_true_iff, decide_eq_false_iff_not, true_and, true_or, or_true]; omega
                        clear hR hb1 hb2 hb3 hw
                        go_enter Try.func40, Try.ntmps40
                        go_wp2
                        go_ret
                        exact ⟨rfl, (Below.refl _ _).alloc (Nat.le_refl _) _⟩
                    · have cc := c1002
                      have q1002_0 : decide (0 ≤ pg) = false := by simp; omega
                      clear cc
                      obtain ⟨R, hR⟩ : ∃ R, Rg.mayB ⟨f, t, p, 1, fl, pg⟩ = R := ⟨_, rfl⟩
                      rw [hR]
                      obtain rfl : R = false := by
                        rw [← hR]; unfold Rg.mayB; simp only [decide_eq_true_iff, decide_eq_false_iff_not, true_and, true_or, or_true]; omega
                      clear hR hb1 hb2 hb3 hw
                      go_enter Try.func40, Try.ntmps40
                      go_wp2
                      go_ret
                      exact ⟨rfl, (Below.refl _ _).alloc (Nat.le_refl _) _⟩
                  · have cc := c903
                    have q903_0 : decide (0 ≤ fl) = false := by simp; omega
                    clear cc
                    obtain ⟨R, hR⟩ : ∃ R, Rg.mayB ⟨f, t, p, 1, fl, pg⟩ = R := ⟨_, rfl⟩
                    rw [hR]
                    obtain rfl : R = false := by
                      rw [← hR]; unfold Rg.mayB; simp only [decide_eq_true_iff, decide_eq_false_iff_not, true_and, true_or, or_true]; omega
                    clear hR hb1 hb2 hb3 hw
                    go_enter Try.func40, Try.ntmps40
                    go_wp2
                    go_ret
                    exact ⟨rfl, (Below.refl _ _).alloc (Nat.le_refl _) _⟩
                · have k2 : (k == 1) = false := by simpa using k1
                  by_cases c902 : fl = -1
                  · have cc := c902
                    have q902_0 : (fl == -1) = true := by simp; omega
                    clear cc
                    by_cases c1001 : pg = 0
                    · have cc := c1001
                      have q1001_0 : (pg == 0) = true := by simp; omega
                      clear cc
                      obtain ⟨R, hR⟩ : ∃ R, Rg.mayB ⟨f, t, p, k, fl, pg⟩ = R := ⟨_, rfl⟩
                      rw [hR]
                      obtain rfl : R = true := by
                        rw [← hR]; unfold Rg.mayB; simp only [decide_eq_true_iff, decide_eq_false_iff_not, true_and, true_or, or_true]; omega
                      clear hR hb1 hb2 hb3 hw
                      go_enter Try.func40, Try.ntmps40
                      go_wp2
                      go_ret
                      exact ⟨rfl, (Below.refl _ _).alloc (Nat.le_refl _) _⟩
                    · have cc := c1001
                      have q1001_0 : (pg == 0) = false := by simp; omega
                      clear cc
                      obtain ⟨R, hR⟩ : ∃ R, Rg.mayB ⟨f, t, p, k, fl, pg⟩ = R := ⟨_, rfl⟩
                      rw [hR]
                      obtain rfl : R = false := by
                        rw [← hR]; unfold Rg.mayB; simp only [decide_eq_true_iff, decide_eq_false_iff_not, true_and, true_or, or_true]; omega
                      clear hR hb1 hb2 hb3 hw
                      go_enter Try.func40, Try.ntmps40
                      go_wp2
                      go_ret
                      exact ⟨rfl, (Below.refl _ _).alloc (Nat.le_refl _) _⟩
                  · have cc := c902
                    have q902_0 : (fl == -1) = false := by simp; omega
                    clear cc
                    obtain ⟨R, hR⟩ : ∃ R, Rg.mayB ⟨f, t, p, k, fl, pg⟩ = R := ⟨_, rfl⟩
                    rw [hR]
                    obtain rfl : R = false := by
                      rw [← hR]; unfold Rg.mayB; simp only [decide_eq_true_iff, decide_eq_false_iff_not, true_and, true_or, or_true]; omega
                    clear hR hb1 hb2 hb3 hw
                    go_enter Try.func40, Try.ntmps40
                    go_wp2
                    go_ret
                    exact ⟨rfl, (Below.refl _ _).alloc (Nat.le_refl _) _⟩
end Go.Proofs.Ytmknkdfdkanijaa
