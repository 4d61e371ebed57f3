/- Package fault: the table of what uses ask for; Allows, atHand, Decide, Entry, Needs. -/
import Derived.Test.YtdfokgfcohfgeaaDoorMA
import Derived.BigQuiet
import Derived.Deep.RegionHeld3
namespace Go.Proofs.YtdfokgfcohfgeaaDoor
open Go.RowKit
set_option linter.unusedVariables false
set_option linter.unusedSimpArgs false

def askL : List Int := [0, 4, 2, 1]
/-- The table lies where it should. -/
structure Askd (w : World) : Prop where
  tab : ∀ i : Nat, i < 4 → w.cell? ⟨0, i, none⟩ = some (.int .i64 (askL.getD i 0))
theorem cell_ltM {w : World} {a : Addr} {v : Value} (h : w.cell? a = some v) : a.block < w.heap.size := by
  rcases Nat.lt_or_ge a.block w.heap.size with h' | h'
  · exact h'
  · simp [World.cell?, Array.getElem?_eq_none h'] at h
theorem Askd.pos {w : World} (h : Askd w) : 0 < w.heap.size := cell_ltM (h.tab 0 (by omega))
theorem Askd.below {w w' : World} (h : Askd w) {n : Nat} (hb : Below n w w') (hn : 0 < n) : Askd w' :=
  ⟨fun i hi => by rw [← h.tab i hi]; exact hb.cell (by simp only; omega)⟩
theorem Askd.on {w w' : World} (h : Askd w) (hb : Below w.heap.size w w') : Askd w' := h.below hb h.pos
theorem Askd.drewN {w : World} (h : Askd w) (n : Nat) : Askd (w.drewN n) := ⟨h.tab⟩
theorem Askd.alloc {w : World} (h : Askd w) (o : Obj) : Askd (w.alloc o) := h.on ((Below.refl _ _).alloc (Nat.le_refl _) _)

set_option maxHeartbeats 1600000 in
set_option maxRecDepth 100000 in
theorem allows_any (p u : Int) (w : World) (hT : Askd w) :
    Calls Tryd.prog 14 #[.int .i64 p, .int .i64 u] w fun e w' => e = .returned (.bool (allowM p u)) ∧ w = w' := by
  have c0 : w.cell? ⟨0, 0, none⟩ = some (.int .i64 0) := hT.tab 0 (by omega)
  have c1 : w.cell? ⟨0, 1, none⟩ = some (.int .i64 4) := hT.tab 1 (by omega)
  have c2 : w.cell? ⟨0, 2, none⟩ = some (.int .i64 2) := hT.tab 2 (by omega)
  have c3 : w.cell? ⟨0, 3, none⟩ = some (.int .i64 1) := hT.tab 3 (by omega)
  clear hT
  by_cases h1 : u = 1
  · subst h1
    rw [show allowM p 1 = hasM p 4 from rfl]
    unfold hasM
    go_enter Tryd.func14, Tryd.ntmps14
    go_wp2
    go_ret
    exact ⟨rfl, rfl⟩
  by_cases h2 : u = 2
  · subst h2
    rw [show allowM p 2 = hasM p 2 from rfl]
    unfold hasM
    go_enter Tryd.func14, Tryd.ntmps14
    go_wp2
    go_ret
    exact ⟨rfl, rfl⟩
  by_cases h3 : u = 3
  · subst h3
    rw [show allowM p 3 = hasM p 1 from rfl]
    unfold hasM
    go_enter Tryd.func14, Tryd.ntmps14
    go_wp2
    go_ret
    exact ⟨rfl, rfl⟩
  rw [show allowM p u = false by unfold allowM; rw [if_neg h1, if_neg h2, if_neg h3]]
  by_cases h0 : u = 0
  · subst h0
    have hz : bits .and .i64 p 0 = 0 := by unfold bits; simp; decide
    go_enter Tryd.func14, Tryd.ntmps14
    go_wp2
    go_ret
    exact ⟨rfl, rfl⟩
  by_cases hn : u < 0
  · have q : decide (0 ≤ u) = false := by simp; omega
    go_enter Tryd.func14, Tryd.ntmps14
    go_wp2
    go_ret
    exact ⟨rfl, rfl⟩
  · have q : decide (0 ≤ u) = true := by simp; omega
    have q2 : decide (u < 4) = false := by simp; omega
    go_enter Tryd.func14, Tryd.ntmps14
    go_wp2
    go_ret
    exact ⟨rfl, rfl⟩

set_option maxHeartbeats 1600000 in
set_option maxRecDepth 100000 in
theorem hand_any (s : Sl) (u n : Int) (w : World) :
    Calls Tryd.prog 20 #[s.v, .int .i64 u, .int .i64 n] w fun e w' => e = .returned (.int .i64 (handM s u n)) ∧ Below w.heap.size w w' := by
  obtain ⟨h, sw, c, o, sn⟩ := s
  have HB := Lib.hid (show Below w.heap.size w (w.alloc (.cells #[.bool h, .bool sw, .bool c, .bool o, .int .i64 sn] 25)) from (Below.refl _ _).alloc (Nat.le_refl _) _)
  unfold Sl.v handM
  simp only
  obtain ⟨R, hR⟩ : ∃ R, (if u ≠ 2 ∨ sw = true then (1 : Int) else if c = true ∧ n ≤ 1 then 7 else 6) = R := ⟨_, rfl⟩
  rw [hR]
  by_cases h1 : u = 2
  · subst h1
    by_cases h2 : n ≤ 1
    · have q : decide (n ≤ 1) = true := by simpa using h2
      cases sw <;> cases c <;>
      · simp [h2] at hR
        subst hR
        clear h2
        go_enter Tryd.func20, Tryd.ntmps20
        go_wp2
        go_ret
        exact ⟨rfl, HB.out⟩
    · have q : decide (n ≤ 1) = false := by simpa using h2
      cases sw <;> cases c <;>
      · simp [h2] at hR
        subst hR
        clear h2
        go_enter Tryd.func20, Tryd.ntmps20
        go_wp2
        go_ret
        exact ⟨rfl, HB.out⟩
  · rw [if_pos (.inl h1)] at hR
    subst hR
    have q : (u != 2) = true := by simpa using h1
    clear h1
    go_enter Tryd.func20, Tryd.ntmps20
    go_wp2
    go_ret
    exact ⟨rfl, HB.out⟩

set_option maxHeartbeats 1600000 in
set_option maxRecDepth 100000 in
theorem needs_any (a : Int) (w : World) :
    Calls Tryd.prog 17 #[.int .i64 a] w fun e w' => e = .returned (.bool (a == 4 || a == 5 || a == 6)) ∧ w = w' := by
  go_enter Tryd.func17, Tryd.ntmps17
  go_wp2
  all_goals (go_ret; refine ⟨?_, rfl⟩; simp_all)

set_option maxHeartbeats 3200000 in
set_option maxRecDepth 100000 in
theorem decide_any (r : Rg) (th : Bool) (s : Sl) (u n : Int) (w : World) (hT : Askd w) :
    Calls Tryd.prog 16 #[.agg r.cs, .bool th, s.v, .int .i64 u, .int .i64 n] w fun e w' => e = .returned (.int .i64 (actM (alM r th u) r.k s u n)) ∧ Below w.heap.size w w' := by
  have HA := Lib.hid (fun v (h : Askd v) => allows_any r.p u v h)
  have HH := Lib.hid (fun v => hand_any s u n v)
  obtain ⟨R, hR⟩ : ∃ R, actM (alM r th u) r.k s u n = R := ⟨_, rfl⟩
  rw [hR]
  unfold alM at hR
  obtain ⟨al, hal⟩ : ∃ al, allowM r.p u = al := ⟨_, rfl⟩
  rw [hal] at HA hR
  clear hal
  obtain ⟨hd, hhd⟩ : ∃ hd, handM s u n = hd := ⟨_, rfl⟩
  rw [hhd] at HH
  unfold actM at hR
  rw [hhd] at hR
  clear hhd
  have h0 := (Below.refl w.heap.size w).alloc (Nat.le_refl _) (.cells r.cs 23)
  have h1 := h0.alloc h0.size (.cells s.cs 25)
  have HB := Lib.hid h1
  have HT := Lib.hid (hT.on h1)
  have HL := Lib.hid h1.size
  clear h0 h1 hT
  obtain ⟨f, t, p, k, fl, pg⟩ := r
  obtain ⟨h, sw, c, o, sn⟩ := s
  unfold Sl.v Sl.cs Rg.cs at *
  simp only at *
  cases th
  · simp at hR
    subst hR
    go_enter Tryd.func16, Tryd.ntmps16
    go_wp2
    go_ret
    exact ⟨rfl, HB.out⟩
  cases al
  · simp at hR
    subst hR
    go_enter Tryd.func16, Tryd.ntmps16
    go_wp2_with (go_at_call 14; (with_reducible refine (HA.out _ HT.out).mono ?_); rintro e v ⟨rfl, rfl⟩)
    go_ret
    exact ⟨rfl, HB.out⟩
  cases o
  · cases h
    · by_cases hk : k = 1
      · subst hk
        simp at hR
        subst hR
        go_enter Tryd.func16, Tryd.ntmps16
        go_wp2_with (go_at_call 14; (with_reducible refine (HA.out _ HT.out).mono ?_); rintro e v ⟨rfl, rfl⟩)
        go_ret
        exact ⟨rfl, HB.out⟩
      · have q : (k == 1) = false := by simpa using hk
        simp [hk] at hR
        subst hR
        clear hk
        go_enter Tryd.func16, Tryd.ntmps16
        go_wp2_with (go_at_call 14; (with_reducible refine (HA.out _ HT.out).mono ?_); rintro e v ⟨rfl, rfl⟩)
        go_ret
        exact ⟨rfl, HB.out⟩
    · simp at hR
      subst hR
      go_enter Tryd.func16, Tryd.ntmps16
      go_wp2_with (first
        | (go_at_call 14; (with_reducible refine (HA.out _ HT.out).mono ?_); rintro e v ⟨rfl, rfl⟩)
        | (go_at_call 20; (with_reducible refine (HH.out _).mono ?_); rintro e v ⟨rfl, hb⟩; have HB2 := Lib.hid (HB.out.trans (hb.mono HL.out)); clear hb))
      go_ret
      exact ⟨rfl, HB2.out⟩
  · simp at hR
    subst hR
    go_enter Tryd.func16, Tryd.ntmps16
    go_wp2_with (go_at_call 14; (with_reducible refine (HA.out _ HT.out).mono ?_); rintro e v ⟨rfl, rfl⟩)
    go_ret
    exact ⟨rfl, HB.out⟩

@[go_sem] theorem build_slN (a : Bool) (n : Int) (w : World) : (Instr.build 25 #[(0, .bool a), (4, .int .i64 n)]).run Tryd.prog w = .ok (.agg #[.bool a, .bool false, .bool false, .bool false, .int .i64 n]) w := run_build w 25 _ _ (by kernel_rfl)
@[go_sem] theorem build_slW (a b c : Bool) (n : Int) (w : World) : (Instr.build 25 #[(0, .bool a), (1, .bool b), (2, .bool c), (4, .int .i64 n)]).run Tryd.prog w = .ok (.agg #[.bool a, .bool b, .bool c, .bool false, .int .i64 n]) w := run_build w 25 _ _ (by kernel_rfl)

set_option maxHeartbeats 3200000 in
set_option maxRecDepth 100000 in
theorem entry_any (r : Rg) (a n : Int) (w : World) :
    Calls Tryd.prog 15 #[.agg r.cs, .int .i64 a, .int .i64 n] w fun e w' => e = .returned (entM (hasM r.p 2) a n).v ∧ Below w.heap.size w w' := by
  obtain ⟨f, t, p, k, fl, pg⟩ := r
  have HB := Lib.hid (fun (o1 o2 : Obj) => show Below w.heap.size w ((w.alloc o1).alloc o2) from ((Below.refl _ w).alloc (Nat.le_refl _) _).alloc (by simp) _)
  have HN := Lib.hid (fun (o1 o2 : Obj) => show ((w.alloc o1).alloc o2).heap[w.heap.size + 1]? = some o2 from by have := heap_alloc_new (w.alloc o1) o2; simpa using this)
  obtain ⟨R, hR⟩ : ∃ R, entM (hasM p 2) a n = R := ⟨_, rfl⟩
  show Calls _ _ _ _ fun e w' => e = .returned (entM (hasM p 2) a n).v ∧ Below w.heap.size w w'
  rw [hR]
  unfold entM at hR
  unfold Rg.cs
  simp only at *
  by_cases h3 : a = 3
  · rw [if_pos h3] at hR
    subst hR h3
    unfold Sl.v
    go_enter Tryd.func15, Tryd.ntmps15
    go_wp2
    exact bodyPost_ret (results_cell_row rfl _ _ (w.heap.size + 1) 25 _ (0, 0) _ rfl (HN.out _ _) Tryd.underlying25 rfl (by kernel_rfl)) rfl ⟨rfl, HB.out _ _⟩
  rw [if_neg h3] at hR
  by_cases h4 : a = 4 ∨ a = 5 ∨ a = 6 ∨ a = 7
  · rw [if_pos h4] at hR
    obtain ⟨b, hb⟩ : ∃ b, hasM p 2 = b := ⟨_, rfl⟩
    rw [hb] at hR
    unfold hasM at hb
    subst hR
    unfold Sl.v
    simp only
    clear h3
    rcases h4 with rfl | rfl | rfl | rfl <;>
    · go_enter Tryd.func15, Tryd.ntmps15
      go_wp2
      exact bodyPost_ret (results_cell_row rfl _ _ (w.heap.size + 1) 25 _ (0, 0) _ rfl (HN.out _ _) Tryd.underlying25 rfl (by kernel_rfl)) rfl ⟨rfl, HB.out _ _⟩
  · rw [if_neg h4] at hR
    subst hR
    have q3 : (a == 3) = false := by simpa using h3
    have q4 : (a == 4) = false := by simp; omega
    have q5 : (a == 5) = false := by simp; omega
    have q6 : (a == 6) = false := by simp; omega
    have q7 : (a == 7) = false := by simp; omega
    clear h3 h4
    unfold Sl.v Sl.zero
    go_enter Tryd.func15, Tryd.ntmps15
    go_wp2
    exact bodyPost_ret (results_cell_row rfl _ _ (w.heap.size + 1) 25 _ (0, 0) _ rfl (HN.out _ _) Tryd.underlying25 rfl (by kernel_rfl)) rfl ⟨rfl, HB.out _ _⟩
end Go.Proofs.YtdfokgfcohfgeaaDoor
