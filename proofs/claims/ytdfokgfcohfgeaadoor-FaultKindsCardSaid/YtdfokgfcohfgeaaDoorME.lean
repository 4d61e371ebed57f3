/- The reference of layer 16: Allows, Decide, Entry. -/
import Derived.Test.YtdfokgfcohfgeaaDoorMD
namespace Go.Proofs.YtdfokgfcohfgeaaDoor
open Go.RowKit
set_option linter.unusedVariables false
set_option linter.unusedSimpArgs false

set_option maxHeartbeats 1600000 in
set_option maxRecDepth 100000 in
theorem rallows_any (p u : Int) (w : World) :
    Calls Tryd.prog 21 #[.int .i64 p, .int .i64 u] w fun e w' => e = .returned (.bool (allowM p u)) ∧ w = w' := by
  by_cases h1 : u = 1
  · subst h1
    rw [show allowM p 1 = hasM p 4 from rfl]
    obtain ⟨b, hb⟩ : ∃ b, hasM p 4 = b := ⟨_, rfl⟩
    rw [hb]
    unfold hasM at hb
    cases b <;>
    · go_enter Tryd.func21, Tryd.ntmps21
      go_wp2
      go_ret
      exact ⟨rfl, rfl⟩
  by_cases h2 : u = 2
  · subst h2
    rw [show allowM p 2 = hasM p 2 from rfl]
    obtain ⟨b, hb⟩ : ∃ b, hasM p 2 = b := ⟨_, rfl⟩
    rw [hb]
    unfold hasM at hb
    cases b <;>
    · go_enter Tryd.func21, Tryd.ntmps21
      go_wp2
      go_ret
      exact ⟨rfl, rfl⟩
  by_cases h3 : u = 3
  · subst h3
    rw [show allowM p 3 = hasM p 1 from rfl]
    obtain ⟨b, hb⟩ : ∃ b, hasM p 1 = b := ⟨_, rfl⟩
    rw [hb]
    unfold hasM at hb
    cases b <;>
    · go_enter Tryd.func21, Tryd.ntmps21
      go_wp2
      go_ret
      exact ⟨rfl, rfl⟩
  rw [show allowM p u = false by unfold allowM; rw [if_neg h1, if_neg h2, if_neg h3]]
  have q1 : (u == 1) = false := by simpa using h1
  have q2 : (u == 2) = false := by simpa using h2
  have q3 : (u == 3) = false := by simpa using h3
  clear h1 h2 h3
  go_enter Tryd.func21, Tryd.ntmps21
  go_wp2
  go_ret
  exact ⟨rfl, rfl⟩

/-- What is decided, in the reference's order. -/
theorem act_ref (al : Bool) (k : Int) (s : Sl) (u n : Int) : actM al k s u n = if al = false then 2 else if s.h = false ∧ s.o = false then (if k = 1 then 3 else 4) else if s.o = true then 5 else if u = 2 ∧ s.w = false then (if 1 < n ∨ s.c = false then 6 else 7) else 1 := by
  obtain ⟨h, w, c, o, sn⟩ := s
  unfold actM handM
  cases al <;> cases h <;> cases o <;> simp
  by_cases hu : u = 2 <;> cases w <;> simp [hu]
  by_cases hn : n ≤ 1
  · have : ¬ 1 < n := by omega
    cases c <;> simp [hn, this]
  · have : 1 < n := by omega
    cases c <;> simp [hn, this]

set_option maxHeartbeats 3200000 in
set_option maxRecDepth 100000 in
theorem rdecide_any (r : Rg) (th : Bool) (s : Sl) (u n : Int) (w : World) :
    Calls Tryd.prog 18 #[.agg r.cs, .bool th, s.v, .int .i64 u, .int .i64 n] w fun e w' => e = .returned (.int .i64 (actM (alM r th u) r.k s u n)) ∧ Below w.heap.size w w' := by
  have HA := Lib.hid (fun v => rallows_any r.p u v)
  obtain ⟨R, hR⟩ : ∃ R, actM (alM r th u) r.k s u n = R := ⟨_, rfl⟩
  rw [hR]
  rw [act_ref] at hR
  unfold alM at hR
  obtain ⟨al, hal⟩ : ∃ al, allowM r.p u = al := ⟨_, rfl⟩
  rw [hal] at HA hR
  clear hal
  have h0 := (Below.refl w.heap.size w).alloc (Nat.le_refl _) (.cells r.cs 23)
  have h1 := h0.alloc h0.size (.cells s.cs 25)
  have HB := Lib.hid h1
  clear h0 h1
  obtain ⟨f, t, p, k, fl, pg⟩ := r
  obtain ⟨h, sw, c, o, sn⟩ := s
  unfold Sl.v Sl.cs Rg.cs at *
  simp only at *
  cases th
  · simp at hR
    subst hR
    go_enter Tryd.func18, Tryd.ntmps18
    go_wp2_with (go_at_call 21; (with_reducible refine (HA.out _).mono ?_); rintro e v ⟨rfl, rfl⟩)
    go_ret
    exact ⟨rfl, HB.out⟩
  cases al
  · simp at hR
    subst hR
    go_enter Tryd.func18, Tryd.ntmps18
    go_wp2_with (go_at_call 21; (with_reducible refine (HA.out _).mono ?_); rintro e v ⟨rfl, rfl⟩)
    go_ret
    exact ⟨rfl, HB.out⟩
  cases o
  · cases h
    · by_cases hk : k = 1
      · subst hk
        simp at hR
        subst hR
        go_enter Tryd.func18, Tryd.ntmps18
        go_wp2_with (go_at_call 21; (with_reducible refine (HA.out _).mono ?_); rintro e v ⟨rfl, rfl⟩)
        go_ret
        exact ⟨rfl, HB.out⟩
      · have q : (k == 1) = false := by simpa using hk
        simp [hk] at hR
        subst hR
        clear hk
        go_enter Tryd.func18, Tryd.ntmps18
        go_wp2_with (go_at_call 21; (with_reducible refine (HA.out _).mono ?_); rintro e v ⟨rfl, rfl⟩)
        go_ret
        exact ⟨rfl, HB.out⟩
    · by_cases hu : u = 2
      · subst hu
        by_cases hn : 1 < n
        · have q : decide (1 < n) = true := by simpa using hn
          cases sw <;> cases c <;>
          · simp [hn] at hR
            subst hR
            clear hn
            go_enter Tryd.func18, Tryd.ntmps18
            go_wp2_with (go_at_call 21; (with_reducible refine (HA.out _).mono ?_); rintro e v ⟨rfl, rfl⟩)
            go_ret
            exact ⟨rfl, HB.out⟩
        · have q : decide (1 < n) = false := by simpa using hn
          cases sw <;> cases c <;>
          · simp [hn] at hR
            subst hR
            clear hn
            go_enter Tryd.func18, Tryd.ntmps18
            go_wp2_with (go_at_call 21; (with_reducible refine (HA.out _).mono ?_); rintro e v ⟨rfl, rfl⟩)
            go_ret
            exact ⟨rfl, HB.out⟩
      · have q : (u == 2) = false := by simpa using hu
        simp [hu] at hR
        subst hR
        clear hu
        go_enter Tryd.func18, Tryd.ntmps18
        go_wp2_with (go_at_call 21; (with_reducible refine (HA.out _).mono ?_); rintro e v ⟨rfl, rfl⟩)
        go_ret
        exact ⟨rfl, HB.out⟩
  · simp at hR
    subst hR
    cases h <;>
    · go_enter Tryd.func18, Tryd.ntmps18
      go_wp2_with (go_at_call 21; (with_reducible refine (HA.out _).mono ?_); rintro e v ⟨rfl, rfl⟩)
      go_ret
      exact ⟨rfl, HB.out⟩

set_option maxHeartbeats 3200000 in
set_option maxRecDepth 100000 in
theorem rentry_any (r : Rg) (a n : Int) (w : World) :
    Calls Tryd.prog 19 #[.agg r.cs, .int .i64 a, .int .i64 n] w fun e w' => e = .returned (entM (hasM r.p 2) a n).v ∧ Below w.heap.size w w' := by
  obtain ⟨f, t, p, k, fl, pg⟩ := r
  have HB := Lib.hid (fun (o1 o2 : Obj) => show Below w.heap.size w ((w.alloc o1).alloc o2) from ((Below.refl _ w).alloc (Nat.le_refl _) _).alloc (by simp) _)
  have HN := Lib.hid (fun (o1 o2 : Obj) => show ((w.alloc o1).alloc o2).heap[w.heap.size + 1]? = some o2 from by have := heap_alloc_new (w.alloc o1) o2; simpa using this)
  obtain ⟨R, hR⟩ : ∃ R, entM (hasM p 2) a n = R := ⟨_, rfl⟩
  show Calls _ _ _ _ fun e w' => e = .returned (entM (hasM p 2) a n).v ∧ Below w.heap.size w w'
  rw [hR]
  unfold entM at hR
  unfold Rg.cs
  simp only at *
  by_cases h3 : a = 3
  · rw [if_pos h3] at hR
    subst hR h3
    unfold Sl.v
    go_enter Tryd.func19, Tryd.ntmps19
    go_wp2
    exact bodyPost_ret (results_cell_row rfl _ _ (w.heap.size + 1) 25 _ (0, 0) _ rfl (HN.out _ _) Tryd.underlying25 rfl (by kernel_rfl)) rfl ⟨rfl, HB.out _ _⟩
  rw [if_neg h3] at hR
  by_cases h4 : a = 4 ∨ a = 5 ∨ a = 6 ∨ a = 7
  · rw [if_pos h4] at hR
    obtain ⟨b, hb⟩ : ∃ b, hasM p 2 = b := ⟨_, rfl⟩
    rw [hb] at hR
    unfold hasM at hb
    subst hR
    unfold Sl.v
    simp only
    clear h3
    rcases h4 with rfl | rfl | rfl | rfl <;>
    · go_enter Tryd.func19, Tryd.ntmps19
      go_wp2
      exact bodyPost_ret (results_cell_row rfl _ _ (w.heap.size + 1) 25 _ (0, 0) _ rfl (HN.out _ _) Tryd.underlying25 rfl (by kernel_rfl)) rfl ⟨rfl, HB.out _ _⟩
  · rw [if_neg h4] at hR
    subst hR
    have q3 : (a == 3) = false := by simpa using h3
    have q4 : (a == 4) = false := by simp; omega
    have q5 : (a == 5) = false := by simp; omega
    have q6 : (a == 6) = false := by simp; omega
    have q7 : (a == 7) = false := by simp; omega
    clear h3 h4
    unfold Sl.v Sl.zero
    go_enter Tryd.func19, Tryd.ntmps19
    go_wp2
    exact bodyPost_ret (results_cell_row rfl _ _ (w.heap.size + 1) 25 _ (0, 0) _ rfl (HN.out _ _) Tryd.underlying25 rfl (by kernel_rfl)) rfl ⟨rfl, HB.out _ _⟩
end Go.Proofs.YtdfokgfcohfgeaaDoor
