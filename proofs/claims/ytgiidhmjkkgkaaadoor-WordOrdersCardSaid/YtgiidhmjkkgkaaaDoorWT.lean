/- The reference of layer 2: Compare, Pick. -/
import Derived.Test.YtgiidhmjkkgkaaaDoorWS
namespace Go.Proofs.YtgiidhmjkkgkaaaDoor
open Go.RowKit
set_option linter.unusedVariables false
set_option linter.unusedSimpArgs false

theorem numZ_abs (v : Int) : numZ (decide (v < 0)) v.natAbs = v := by
  unfold numZ
  by_cases h : v < 0 <;> simp [h] <;> omega

set_option maxHeartbeats 3200000 in
theorem rcompare_any (k a b : Int) (w : World) (hk : (Lit.int .i64 k).wf = true) (ha : (Lit.int .u64 a).wf = true) (hb : (Lit.int .u64 b).wf = true) :
    Calls Tryd.prog 25 #[.int .i64 k, .int .u64 a, .int .u64 b] w fun e w' => e = .returned (.int .i64 (cmpS k a b)) ∧ Below w.heap.size w w' := by
  obtain ⟨a0, a1⟩ := u64_range ha
  obtain ⟨b0, b1⟩ := u64_range hb
  obtain ⟨x0, x1⟩ := clipS_range k a a0 a1
  obtain ⟨y0, y1⟩ := clipS_range k b b0 b1
  have W1 := Lib.hid (fun w => rwidth_any k w hk)
  have C1 := Lib.hid (fun w => rclip_any k a w hk ha)
  have C2 := Lib.hid (fun w => rclip_any k b w hk hb)
  have hB := Below.refl w.heap.size w
  by_cases hz : wid k = 0
  · have e : cmpS k a b = 0 := by
      have hk' := wid_zero.1 hz
      unfold cmpS
      have z : ∀ n, clipS k n = 0 := fun n => by unfold clipS; (repeat rw [if_neg (by omega)])
      rw [if_neg (by omega), z, z]
      have : lessS k 0 0 = false := by unfold lessS; rw [if_neg (by omega)]; split <;> simp
      simp [this]
    rw [e]; clear e
    rw [hz] at W1
    clear hz
    go_enter Tryd.func25, Tryd.ntmps25
    go_wp2_with (go_at_call 15; with_reducible refine (W1.out _).mono ?_; rintro e v1 ⟨rfl, rfl⟩)
    go_ret
    exact ⟨rfl, hB⟩
  have hz0 : (wid k == 0) = false := by simpa using hz
  rw [cmp_rk a0 a1 b0 b1]
  unfold rk
  by_cases h9 : k = 9
  · subst h9
    simp only [clip9, true_and, if_true] at C1 C2 ⊢
    have N1 := Lib.hid (fun w => nan_any a w ha)
    have N2 := Lib.hid (fun w => nan_any b w hb)
    have R1 := Lib.hid (fun w => rank_any a w ha)
    have R2 := Lib.hid (fun w => rank_any b w hb)
    have o := fun w => rorder_any (decide (Flt.rz a.toNat < 0)) (decide (Flt.rz b.toNat < 0)) (Flt.rz a.toNat).natAbs (Flt.rz b.toNat).natAbs w (by omega) (by omega) (by simp; omega) (by simp; omega)
    simp only [numZ_abs] at o
    have O1 := Lib.hid o
    clear o
    generalize cmp3 (Flt.rz a.toNat) (Flt.rz b.toNat) = r at *
    generalize decide (Flt.rz a.toNat < 0) = m1 at *
    generalize decide (Flt.rz b.toNat < 0) = m2 at *
    generalize ((Flt.rz a.toNat).natAbs : Int) = n1 at *
    generalize ((Flt.rz b.toNat).natAbs : Int) = n2 at *
    generalize wid 9 = wd at *
    clear hz
    cases h1 : Flt.nanB a.toNat
    · cases h2 : Flt.nanB b.toNat
      · rw [h1] at N1
        rw [h2] at N2
        clear h1 h2
        rw [if_neg (by simp)]
        go_enter Tryd.func25, Tryd.ntmps25
        go_wp2_with (first
          | (go_at_call 15; with_reducible refine (W1.out _).mono ?_; rintro e v1 ⟨rfl, rfl⟩)
          | (go_at_call 19; with_reducible refine (C1.out _).mono ?_; rintro e v1 ⟨rfl, rfl⟩)
          | (go_at_call 19; with_reducible refine (C2.out _).mono ?_; rintro e v1 ⟨rfl, rfl⟩)
          | (go_at_call 39; with_reducible refine (N1.out _).mono ?_; rintro e v1 ⟨rfl, rfl⟩)
          | (go_at_call 39; with_reducible refine (N2.out _).mono ?_; rintro e v1 ⟨rfl, rfl⟩)
          | (go_at_call 45; with_reducible refine (R1.out _).mono ?_; rintro e v1 ⟨rfl, hb⟩; replace hB := hB.trans (hb.mono hB.size))
          | (go_at_call 45; with_reducible refine (R2.out _).mono ?_; rintro e v1 ⟨rfl, hb⟩; replace hB := hB.trans (hb.mono hB.size))
          | (go_at_call 44; with_reducible refine (O1.out _).mono ?_; rintro e v1 ⟨rfl, hb⟩; replace hB := hB.trans (hb.mono hB.size)))
        go_ret
        exact ⟨rfl, hB⟩
      · rw [h1] at N1
        rw [h2] at N2
        clear h1 h2 O1 R1 R2
        rw [if_pos (by simp)]
        go_enter Tryd.func25, Tryd.ntmps25
        go_wp2_with (first
          | (go_at_call 15; with_reducible refine (W1.out _).mono ?_; rintro e v1 ⟨rfl, rfl⟩)
          | (go_at_call 19; with_reducible refine (C1.out _).mono ?_; rintro e v1 ⟨rfl, rfl⟩)
          | (go_at_call 19; with_reducible refine (C2.out _).mono ?_; rintro e v1 ⟨rfl, rfl⟩)
          | (go_at_call 39; with_reducible refine (N1.out _).mono ?_; rintro e v1 ⟨rfl, rfl⟩)
          | (go_at_call 39; with_reducible refine (N2.out _).mono ?_; rintro e v1 ⟨rfl, rfl⟩))
        go_ret
        exact ⟨rfl, hB⟩
    · rw [h1] at N1
      clear h1 O1 R1 R2
      rw [if_pos (by simp)]
      go_enter Tryd.func25, Tryd.ntmps25
      go_wp2_with (first
        | (go_at_call 15; with_reducible refine (W1.out _).mono ?_; rintro e v1 ⟨rfl, rfl⟩)
        | (go_at_call 19; with_reducible refine (C1.out _).mono ?_; rintro e v1 ⟨rfl, rfl⟩)
        | (go_at_call 19; with_reducible refine (C2.out _).mono ?_; rintro e v1 ⟨rfl, rfl⟩)
        | (go_at_call 39; with_reducible refine (N1.out _).mono ?_; rintro e v1 ⟨rfl, rfl⟩)
        | (go_at_call 39; with_reducible refine (N2.out _).mono ?_; rintro e v1 ⟨rfl, rfl⟩))
      go_ret
      exact ⟨rfl, hB⟩
  · have h90 : (k == 9) = false := by simpa using h9
    rw [if_neg (by omega), if_neg h9, if_neg h9]
    have N1 := Lib.hid (fun w => number_any k (clipS k a) w hk (wf_u64 x0 x1))
    have N2 := Lib.hid (fun w => number_any k (clipS k b) w hk (wf_u64 y0 y1))
    have o := fun w => rorder_any (decide (valZ k (clipS k a) < 0)) (decide (valZ k (clipS k b) < 0)) (valZ k (clipS k a)).natAbs (valZ k (clipS k b)).natAbs w (by omega) (by omega) (by simp; omega) (by simp; omega)
    simp only [numZ_abs] at o
    have O1 := Lib.hid o
    clear o
    generalize cmp3 (valZ k (clipS k a)) (valZ k (clipS k b)) = r at *
    generalize decide (valZ k (clipS k a) < 0) = m1 at *
    generalize decide (valZ k (clipS k b) < 0) = m2 at *
    generalize ((valZ k (clipS k a)).natAbs : Int) = n1 at *
    generalize ((valZ k (clipS k b)).natAbs : Int) = n2 at *
    generalize clipS k a = x at *
    generalize clipS k b = y at *
    generalize wid k = wd at *
    clear hz h9
    go_enter Tryd.func25, Tryd.ntmps25
    go_wp2_with (first
      | (go_at_call 15; with_reducible refine (W1.out _).mono ?_; rintro e v1 ⟨rfl, rfl⟩)
      | (go_at_call 19; with_reducible refine (C1.out _).mono ?_; rintro e v1 ⟨rfl, rfl⟩)
      | (go_at_call 19; with_reducible refine (C2.out _).mono ?_; rintro e v1 ⟨rfl, rfl⟩)
      | (go_at_call 38; with_reducible refine (N1.out _).mono ?_; rintro e v1 ⟨rfl, hb⟩; replace hB := hB.trans (hb.mono hB.size))
      | (go_at_call 38; with_reducible refine (N2.out _).mono ?_; rintro e v1 ⟨rfl, hb⟩; replace hB := hB.trans (hb.mono hB.size))
      | (go_at_call 44; with_reducible refine (O1.out _).mono ?_; rintro e v1 ⟨rfl, hb⟩; replace hB := hB.trans (hb.mono hB.size)))
    go_ret
    exact ⟨rfl, hB⟩

/-- What Pick tells. -/
def pickC (k x y c : Int) (L : Bool) : Int := if c = 2 then 9221120237041090561 else if c = 0 ∧ k = 9 ∧ x ≠ y then (if L then 9223372036854775808 else 0) else if decide (c < 0) = L then x else y

set_option maxHeartbeats 3200000 in
theorem pick_walk (k a b x y c : Int) (L : Bool) (w : World)
    (C1 : Hid (∀ w, Calls Tryd.prog 19 #[.int .i64 k, .int .u64 a] w fun e w' => e = .returned (.int .u64 x) ∧ w = w'))
    (C2 : Hid (∀ w, Calls Tryd.prog 19 #[.int .i64 k, .int .u64 b] w fun e w' => e = .returned (.int .u64 y) ∧ w = w'))
    (K1 : Hid (∀ w : World, Calls Tryd.prog 25 #[.int .i64 k, .int .u64 a, .int .u64 b] w fun e w' => e = .returned (.int .i64 c) ∧ Below w.heap.size w w')) :
    Calls Tryd.prog 27 #[.int .i64 k, .int .u64 a, .int .u64 b, .bool L] w fun e w' => e = .returned (.int .u64 (pickC k x y c L)) ∧ Below w.heap.size w w' := by
  have hB := Below.refl w.heap.size w
  by_cases h1 : c = 2
  · subst h1
    have e : pickC k x y 2 L = 9221120237041090561 := by unfold pickC; simp
    rw [e]; clear e
    go_enter Tryd.func27, Tryd.ntmps27
    go_wp2_with (first
      | (go_at_call 19; with_reducible refine (C1.out _).mono ?_; rintro e v1 ⟨rfl, rfl⟩)
      | (go_at_call 19; with_reducible refine (C2.out _).mono ?_; rintro e v1 ⟨rfl, rfl⟩)
      | (go_at_call 25; with_reducible refine (K1.out _).mono ?_; rintro e v1 ⟨rfl, hb⟩; replace hB := hB.trans (hb.mono hB.size)))
    go_ret
    exact ⟨rfl, hB⟩
  have h1' : (c == 2) = false := by simpa using h1
  by_cases h2 : c = 0 ∧ k = 9 ∧ x ≠ y
  · have e : pickC k x y c L = (if L then 9223372036854775808 else 0) := by unfold pickC; rw [if_neg h1, if_pos h2]
    rw [e]; clear e
    obtain ⟨rfl, rfl, h3⟩ := h2
    have h3' : (x != y) = true := by simpa using h3
    clear h3
    cases L
    all_goals
      go_enter Tryd.func27, Tryd.ntmps27
      go_wp2_with (first
        | (go_at_call 19; with_reducible refine (C1.out _).mono ?_; rintro e v1 ⟨rfl, rfl⟩)
        | (go_at_call 19; with_reducible refine (C2.out _).mono ?_; rintro e v1 ⟨rfl, rfl⟩)
        | (go_at_call 25; with_reducible refine (K1.out _).mono ?_; rintro e v1 ⟨rfl, hb⟩; replace hB := hB.trans (hb.mono hB.size)))
      go_ret
      exact ⟨rfl, hB⟩
  · have e : pickC k x y c L = (if decide (c < 0) = L then x else y) := by unfold pickC; rw [if_neg h1, if_neg h2]
    rw [e]; clear e
    have h3 : ((c == 0) = false) ∨ (c = 0 ∧ (k == 9) = false) ∨ (c = 0 ∧ k = 9 ∧ x = y) := by
      by_cases p1 : c = 0
      · by_cases p2 : k = 9
        · exact Or.inr (Or.inr ⟨p1, p2, Decidable.byContradiction fun h => h2 ⟨p1, p2, h⟩⟩)
        · exact Or.inr (Or.inl ⟨p1, by simpa using p2⟩)
      · exact Or.inl (by simpa using p1)
    clear h2 h1
    rcases h3 with h3 | ⟨rfl, h3⟩ | ⟨rfl, rfl, rfl⟩
    · by_cases hc : c < 0
      · have e : decide (c < 0) = true := by simpa using hc
        rw [e]
        cases L
        all_goals
          simp
          go_enter Tryd.func27, Tryd.ntmps27
          go_wp2_with (first
            | (go_at_call 19; with_reducible refine (C1.out _).mono ?_; rintro e v1 ⟨rfl, rfl⟩)
            | (go_at_call 19; with_reducible refine (C2.out _).mono ?_; rintro e v1 ⟨rfl, rfl⟩)
            | (go_at_call 25; with_reducible refine (K1.out _).mono ?_; rintro e v1 ⟨rfl, hb⟩; replace hB := hB.trans (hb.mono hB.size)))
          go_ret
          exact ⟨rfl, hB⟩
      · have e : decide (c < 0) = false := by simpa using hc
        rw [e]
        cases L
        all_goals
          simp
          go_enter Tryd.func27, Tryd.ntmps27
          go_wp2_with (first
            | (go_at_call 19; with_reducible refine (C1.out _).mono ?_; rintro e v1 ⟨rfl, rfl⟩)
            | (go_at_call 19; with_reducible refine (C2.out _).mono ?_; rintro e v1 ⟨rfl, rfl⟩)
            | (go_at_call 25; with_reducible refine (K1.out _).mono ?_; rintro e v1 ⟨rfl, hb⟩; replace hB := hB.trans (hb.mono hB.size)))
          go_ret
          exact ⟨rfl, hB⟩
    · cases L
      all_goals
        simp
        go_enter Tryd.func27, Tryd.ntmps27
        go_wp2_with (first
          | (go_at_call 19; with_reducible refine (C1.out _).mono ?_; rintro e v1 ⟨rfl, rfl⟩)
          | (go_at_call 19; with_reducible refine (C2.out _).mono ?_; rintro e v1 ⟨rfl, rfl⟩)
          | (go_at_call 25; with_reducible refine (K1.out _).mono ?_; rintro e v1 ⟨rfl, hb⟩; replace hB := hB.trans (hb.mono hB.size)))
        go_ret
        exact ⟨rfl, hB⟩
    · cases L
      all_goals
        simp
        go_enter Tryd.func27, Tryd.ntmps27
        go_wp2_with (first
          | (go_at_call 19; with_reducible refine (C1.out _).mono ?_; rintro e v1 ⟨rfl, rfl⟩)
          | (go_at_call 19; with_reducible refine (C2.out _).mono ?_; rintro e v1 ⟨rfl, rfl⟩)
          | (go_at_call 25; with_reducible refine (K1.out _).mono ?_; rintro e v1 ⟨rfl, hb⟩; replace hB := hB.trans (hb.mono hB.size)))
        go_ret
        exact ⟨rfl, hB⟩

theorem pick_is (k a b : Int) (a0 : 0 ≤ a) (a1 : a < 18446744073709551616) (b0 : 0 ≤ b) (b1 : b < 18446744073709551616) :
    pickC k (clipS k a) (clipS k b) (cmpS k a b) true = leastS k a b ∧ pickC k (clipS k a) (clipS k b) (cmpS k a b) false = greatS k a b := by
  obtain ⟨l, g⟩ := least_is (k := k) a0 a1 b0 b1
  obtain ⟨x0, x1⟩ := clipS_range k a a0 a1
  obtain ⟨y0, y1⟩ := clipS_range k b b0 b1
  have hs := rk_same (k := k) x0 x1 y0 y1
  rw [cmp_rk a0 a1 b0 b1, l, g]
  by_cases hn : k = 9 ∧ (Flt.nanB a.toNat = true ∨ Flt.nanB b.toNat = true)
  · simp only [if_pos hn]
    simp [pickC]
  · simp only [if_neg hn]
    generalize clipS k a = x at *
    generalize clipS k b = y at *
    unfold cmp3
    by_cases h1 : rk k x < rk k y
    · simp only [if_pos h1]; simp [pickC]
    · simp only [if_neg h1]
      by_cases h2 : rk k y < rk k x
      · simp only [if_pos h2]; simp [pickC]
      · simp only [if_neg h2]
        by_cases hxy : x = y
        · subst hxy; simp [pickC]
        · rcases hs (by omega) with h | ⟨h9, _⟩
          · exact absurd h hxy
          · simp [pickC, h9, hxy]

theorem pick_any (k a b : Int) (L : Bool) (w : World) (hk : (Lit.int .i64 k).wf = true) (ha : (Lit.int .u64 a).wf = true) (hb : (Lit.int .u64 b).wf = true) :
    Calls Tryd.prog 27 #[.int .i64 k, .int .u64 a, .int .u64 b, .bool L] w fun e w' => e = .returned (.int .u64 (if L then leastS k a b else greatS k a b)) ∧ Below w.heap.size w w' := by
  obtain ⟨a0, a1⟩ := u64_range ha
  obtain ⟨b0, b1⟩ := u64_range hb
  have e : (if L then leastS k a b else greatS k a b) = pickC k (clipS k a) (clipS k b) (cmpS k a b) L := by
    obtain ⟨p, q⟩ := pick_is k a b a0 a1 b0 b1
    cases L
    · simp [q]
    · simp [p]
  rw [e]
  exact pick_walk k a b _ _ _ L w (Lib.hid (fun w => rclip_any k a w hk ha)) (Lib.hid (fun w => rclip_any k b w hk hb)) (Lib.hid (fun w => rcompare_any k a b w hk ha hb))
end Go.Proofs.YtgiidhmjkkgkaaaDoor
