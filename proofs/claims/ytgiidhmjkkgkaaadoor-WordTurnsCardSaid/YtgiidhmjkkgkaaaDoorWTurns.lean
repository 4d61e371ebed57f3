/- WordTurns: the order turned round is the other way round; the least and the greatest are both. -/
import Derived.Test.YtgiidhmjkkgkaaaDoorWO
namespace Go.Proofs.YtgiidhmjkkgkaaaDoor.lawTurns
open Go.ChangeShapes Go.WideShapes Go.ChangeAt Go.RowKit
set_option linter.unusedVariables false
set_option linter.unusedSimpArgs false

/-- What the order, the least and the greatest have to do with each other. -/
theorem facts (k a b : Int) (a0 : 0 ≤ a) (a1 : a < 18446744073709551616) (b0 : 0 ≤ b) (b1 : b < 18446744073709551616) :
    leastS k b a = leastS k a b ∧ greatS k b a = greatS k a b ∧
    ((cmpS k a b = 2 ∧ cmpS k b a = 2 ∧ k = 9 ∧ leastS k a b = greatS k a b ∧ cmpS k (leastS k a b) (leastS k a b) = 2) ∨
     (cmpS k a b ≠ 2 ∧ -1 ≤ cmpS k b a ∧ cmpS k b a ≤ 1 ∧ cmpS k a b = - cmpS k b a ∧ cmpS k (leastS k a b) (greatS k a b) ≤ 0 ∧
       ((leastS k a b = clipS k a ∧ greatS k a b = clipS k b) ∨ (leastS k a b = clipS k b ∧ greatS k a b = clipS k a)))) := by
  obtain ⟨x0, x1⟩ := clipS_range k a a0 a1
  obtain ⟨y0, y1⟩ := clipS_range k b b0 b1
  obtain ⟨l1, g1⟩ := least_is (k := k) a0 a1 b0 b1
  obtain ⟨l2, g2⟩ := least_is (k := k) b0 b1 a0 a1
  have c1 := cmp_rk (k := k) a0 a1 b0 b1
  have c2 := cmp_rk (k := k) b0 b1 a0 a1
  have hs := rk_same (k := k) x0 x1 y0 y1
  by_cases hn : k = 9 ∧ (Flt.nanB a.toNat = true ∨ Flt.nanB b.toNat = true)
  · have hn' : k = 9 ∧ (Flt.nanB b.toNat = true ∨ Flt.nanB a.toNat = true) := ⟨hn.1, hn.2.symm⟩
    rw [if_pos hn] at l1 g1 c1
    rw [if_pos hn'] at l2 g2 c2
    refine ⟨by rw [l1, l2], by rw [g1, g2], Or.inl ⟨c1, c2, hn.1, by rw [l1, g1], ?_⟩⟩
    rw [l1, hn.1]
    decide +kernel
  · have hn' : ¬ (k = 9 ∧ (Flt.nanB b.toNat = true ∨ Flt.nanB a.toNat = true)) := fun ⟨h9, h⟩ => hn ⟨h9, h.symm⟩
    rw [if_neg hn] at l1 g1 c1
    rw [if_neg hn'] at l2 g2 c2
    have nx : k = 9 → Flt.nanB (clipS k a).toNat = false ∧ Flt.nanB (clipS k b).toNat = false := by
      intro h9
      rw [clip_nine h9, clip_nine h9]
      constructor
      · cases h : Flt.nanB a.toNat
        · rfl
        · exact absurd ⟨h9, Or.inl h⟩ hn
      · cases h : Flt.nanB b.toNat
        · rfl
        · exact absurd ⟨h9, Or.inr h⟩ hn
    have cc1 := clip_clip (k := k) a0 a1
    have cc2 := clip_clip (k := k) b0 b1
    -- the order of two clipped words
    have ord : ∀ u v : Int, (u = clipS k a ∨ u = clipS k b) → (v = clipS k a ∨ v = clipS k b) → rk k u ≤ rk k v → cmpS k u v ≤ 0 := by
      intro u v hu hv hle
      have u0 : 0 ≤ u ∧ u < 18446744073709551616 ∧ clipS k u = u ∧ (k = 9 → Flt.nanB u.toNat = false) := by
        rcases hu with rfl | rfl
        · exact ⟨x0, x1, cc1, fun h => (nx h).1⟩
        · exact ⟨y0, y1, cc2, fun h => (nx h).2⟩
      have v0 : 0 ≤ v ∧ v < 18446744073709551616 ∧ clipS k v = v ∧ (k = 9 → Flt.nanB v.toNat = false) := by
        rcases hv with rfl | rfl
        · exact ⟨x0, x1, cc1, fun h => (nx h).1⟩
        · exact ⟨y0, y1, cc2, fun h => (nx h).2⟩
      rw [cmp_rk u0.1 u0.2.1 v0.1 v0.2.1, if_neg, u0.2.2.1, v0.2.2.1]
      · unfold cmp3; (repeat' split) <;> omega
      · rintro ⟨h9, h | h⟩
        · rw [u0.2.2.2 h9] at h; cases h
        · rw [v0.2.2.2 h9] at h; cases h
    have r1 : cmpS k a b ≠ 2 := by rw [c1]; unfold cmp3; (repeat' split) <;> omega
    have r2 : -1 ≤ cmpS k b a ∧ cmpS k b a ≤ 1 := by rw [c2]; unfold cmp3; (repeat' split) <;> omega
    have r3 : cmpS k a b = - cmpS k b a := by rw [c1, c2]; unfold cmp3; (repeat' split) <;> omega
    by_cases h1 : rk k (clipS k a) < rk k (clipS k b)
    · rw [if_pos h1] at l1 g1
      rw [if_neg (by omega), if_pos h1] at l2 g2
      refine ⟨by rw [l1, l2], by rw [g1, g2], Or.inr ⟨r1, r2.1, r2.2, r3, ?_, Or.inl ⟨l1, g1⟩⟩⟩
      rw [l1, g1]; exact ord _ _ (Or.inl rfl) (Or.inr rfl) (by omega)
    · rw [if_neg h1] at l1 g1
      by_cases h2 : rk k (clipS k b) < rk k (clipS k a)
      · rw [if_pos h2] at l1 g1
        rw [if_pos h2] at l2 g2
        refine ⟨by rw [l1, l2], by rw [g1, g2], Or.inr ⟨r1, r2.1, r2.2, r3, ?_, Or.inr ⟨l1, g1⟩⟩⟩
        rw [l1, g1]; exact ord _ _ (Or.inr rfl) (Or.inl rfl) (by omega)
      · rw [if_neg h2] at l1 g1
        rw [if_neg h2, if_neg h1] at l2 g2
        have hrk : rk k (clipS k a) = rk k (clipS k b) := by omega
        rcases hs hrk with he | ⟨h9, hz⟩
        · rw [if_pos he] at l1 g1
          rw [if_pos he.symm] at l2 g2
          refine ⟨by rw [l1, l2, he], by rw [g1, g2, he], Or.inr ⟨r1, r2.1, r2.2, r3, ?_, Or.inl ⟨l1, by rw [g1, he]⟩⟩⟩
          rw [l1, g1]; exact ord _ _ (Or.inl rfl) (Or.inl rfl) (by omega)
        · have hne : ¬ clipS k a = clipS k b := by omega
          rw [if_neg hne] at l1 g1
          rw [if_neg (fun h => hne h.symm)] at l2 g2
          refine ⟨by rw [l1, l2], by rw [g1, g2], Or.inr ⟨r1, r2.1, r2.2, r3, ?_, ?_⟩⟩
          · rcases hz with ⟨e1, e2⟩ | ⟨e1, e2⟩
            · rw [l1, g1]; exact ord _ _ (Or.inr e2.symm) (Or.inl e1.symm) (by rw [← e1, ← e2]; omega)
            · rw [l1, g1]; exact ord _ _ (Or.inl e1.symm) (Or.inr e2.symm) (by rw [← e1, ← e2]; omega)
          · rcases hz with ⟨e1, e2⟩ | ⟨e1, e2⟩
            · exact Or.inr ⟨by rw [l1, e2], by rw [g1, e1]⟩
            · exact Or.inl ⟨by rw [l1, e1], by rw [g1, e2]⟩

theorem kind_of (kind : Int) : 0 ≤ (kind.tmod 9 + 9).tmod 9 ∧ (kind.tmod 9 + 9).tmod 9 ≤ 8 := by
  have h1 := Int.lt_tmod_of_pos kind (show (0 : Int) < 9 by omega)
  have h2 := Int.tmod_nonneg (a := kind.tmod 9 + 9) 9 (by omega)
  have h3 := Int.tmod_lt_of_pos (kind.tmod 9 + 9) (show (0 : Int) < 9 by omega)
  omega

set_option maxHeartbeats 3200000 in
theorem walk (kind a b : Int) (w : World) (hk : (Lit.int .i64 kind).wf = true) (ha : (Lit.int .u64 a).wf = true) (hb : (Lit.int .u64 b).wf = true) (hT : Tab w) :
    Calls Tryd.prog 7 #[.int .i64 kind, .int .u64 a, .int .u64 b] w fun e w' => e = .returned (.bool true) ∧ Below w.heap.size w w' := by
  have HA := Lib.hid (fun w hT => awake_any w hT)
  obtain ⟨a0, a1⟩ := u64_range ha
  obtain ⟨b0, b1⟩ := u64_range hb
  obtain ⟨y0, y1⟩ := kind_of kind
  have t1 := Int.lt_tmod_of_pos kind (show (0 : Int) < 9 by omega)
  have t2 := Int.tmod_lt_of_pos kind (show (0 : Int) < 9 by omega)
  obtain ⟨x, hx⟩ : ∃ x, kind.tmod 9 = x := ⟨_, rfl⟩
  rw [hx] at y0 y1 t1 t2
  obtain ⟨y, hy⟩ : ∃ y, (x + 9).tmod 9 = y := ⟨_, rfl⟩
  rw [hy] at y0 y1
  obtain ⟨k, hk1⟩ : ∃ k, 1 + y = k := ⟨_, rfl⟩
  have wk : (Lit.int .i64 k).wf = true := wf_i64 (by omega) (by omega)
  obtain ⟨lx0, lx1⟩ := clipS_range k a a0 a1
  obtain ⟨ly0, ly1⟩ := clipS_range k b b0 b1
  have K1 := Lib.hid (fun w hT => compare_any k a b w wk ha hb hT)
  have K2 := Lib.hid (fun w hT => compare_any k b a w wk hb ha hT)
  have L1 := Lib.hid (fun w hT => least_any k a b w wk ha hb hT)
  have G1 := Lib.hid (fun w hT => great_any k a b w wk ha hb hT)
  have l2 := fun w hT => least_any k b a w wk hb ha hT
  have g2 := fun w hT => great_any k b a w wk hb ha hT
  have C1 := Lib.hid (fun w hT => clip_any k a w wk ha hT)
  have C2 := Lib.hid (fun w hT => clip_any k b w wk hb hT)
  have hB := Below.refl w.heap.size w
  have hpos := hT.pos
  obtain ⟨e1, e2, hf⟩ := facts k a b a0 a1 b0 b1
  simp only [e1] at l2
  simp only [e2] at g2
  have L2 := Lib.hid l2
  have G2 := Lib.hid g2
  clear l2 g2 e1 e2
  rcases hf with ⟨f1, f2, f3, f4, f5⟩ | ⟨f1, f2, f3, f4, f5, f6⟩
  · have lr : 0 ≤ leastS k a b ∧ leastS k a b < 18446744073709551616 := by
      rcases least_is (k := k) a0 a1 b0 b1 with ⟨q, _⟩
      rw [q]; (repeat' split) <;> omega
    have k3 := fun w hT => compare_any k (leastS k a b) (leastS k a b) w wk (wf_u64 lr.1 lr.2) (wf_u64 lr.1 lr.2) hT
    simp only [f5] at k3
    have K3 := Lib.hid k3
    rw [f1] at K1
    rw [f2] at K2
    rw [← f4] at G1 G2
    clear k3 f5 f4 lr f1 f2
    generalize leastS k a b = l at *
    generalize clipS k a = u at *
    generalize clipS k b = v at *
    subst f3
    go_enter Tryd.func7, Tryd.ntmps7
    go_wp2_with (first
      | (go_at_call 11; with_reducible refine (HA.out _ hT).mono ?_; rintro e v1 ⟨rfl, hb⟩; replace hT := hT.below hb hT.pos; replace hB := hB.trans (hb.mono hB.size))
      | (go_at_call 24; with_reducible refine (K1.out _ hT).mono ?_; rintro e v1 ⟨rfl, hb⟩; replace hT := hT.below hb hT.pos; replace hB := hB.trans (hb.mono hB.size))
      | (go_at_call 24; with_reducible refine (K2.out _ hT).mono ?_; rintro e v1 ⟨rfl, hb⟩; replace hT := hT.below hb hT.pos; replace hB := hB.trans (hb.mono hB.size))
      | (go_at_call 24; with_reducible refine (K3.out _ hT).mono ?_; rintro e v1 ⟨rfl, hb⟩; replace hT := hT.below hb hT.pos; replace hB := hB.trans (hb.mono hB.size))
      | (go_at_call 26; with_reducible refine (L1.out _ hT).mono ?_; rintro e v1 ⟨rfl, hb⟩; replace hT := hT.below hb hT.pos; replace hB := hB.trans (hb.mono hB.size))
      | (go_at_call 26; with_reducible refine (L2.out _ hT).mono ?_; rintro e v1 ⟨rfl, hb⟩; replace hT := hT.below hb hT.pos; replace hB := hB.trans (hb.mono hB.size))
      | (go_at_call 28; with_reducible refine (G1.out _ hT).mono ?_; rintro e v1 ⟨rfl, hb⟩; replace hT := hT.below hb hT.pos; replace hB := hB.trans (hb.mono hB.size))
      | (go_at_call 28; with_reducible refine (G2.out _ hT).mono ?_; rintro e v1 ⟨rfl, hb⟩; replace hT := hT.below hb hT.pos; replace hB := hB.trans (hb.mono hB.size)))
    go_ret
    exact ⟨rfl, hB⟩
  · have lx : 0 ≤ leastS k a b ∧ leastS k a b < 18446744073709551616 ∧ 0 ≤ greatS k a b ∧ greatS k a b < 18446744073709551616 := by
      rcases f6 with ⟨q1, q2⟩ | ⟨q1, q2⟩ <;> rw [q1, q2] <;> omega
    have K3 := Lib.hid (fun w hT => compare_any k (leastS k a b) (greatS k a b) w wk (wf_u64 lx.1 lx.2.1) (wf_u64 lx.2.2.1 lx.2.2.2) hT)
    have q1 : (cmpS k a b == 2) = false := by simpa using f1
    rw [f4] at K1 q1
    clear lx f1 f4
    generalize cmpS k (leastS k a b) (greatS k a b) = t at *
    generalize leastS k a b = l at *
    generalize greatS k a b = g at *
    generalize clipS k a = u at *
    generalize clipS k b = v at *
    generalize cmpS k b a = d at *
    clear lx0 lx1 ly0 ly1
    rcases f6 with ⟨rfl, rfl⟩ | ⟨rfl, rfl⟩
    · go_enter Tryd.func7, Tryd.ntmps7
      go_wp2_with (first
      | (go_at_call 11; with_reducible refine (HA.out _ hT).mono ?_; rintro e v1 ⟨rfl, hb⟩; replace hT := hT.below hb hT.pos; replace hB := hB.trans (hb.mono hB.size))
      | (go_at_call 24; with_reducible refine (K1.out _ hT).mono ?_; rintro e v1 ⟨rfl, hb⟩; replace hT := hT.below hb hT.pos; replace hB := hB.trans (hb.mono hB.size))
      | (go_at_call 24; with_reducible refine (K2.out _ hT).mono ?_; rintro e v1 ⟨rfl, hb⟩; replace hT := hT.below hb hT.pos; replace hB := hB.trans (hb.mono hB.size))
      | (go_at_call 24; with_reducible refine (K3.out _ hT).mono ?_; rintro e v1 ⟨rfl, hb⟩; replace hT := hT.below hb hT.pos; replace hB := hB.trans (hb.mono hB.size))
      | (go_at_call 26; with_reducible refine (L1.out _ hT).mono ?_; rintro e v1 ⟨rfl, hb⟩; replace hT := hT.below hb hT.pos; replace hB := hB.trans (hb.mono hB.size))
      | (go_at_call 26; with_reducible refine (L2.out _ hT).mono ?_; rintro e v1 ⟨rfl, hb⟩; replace hT := hT.below hb hT.pos; replace hB := hB.trans (hb.mono hB.size))
      | (go_at_call 28; with_reducible refine (G1.out _ hT).mono ?_; rintro e v1 ⟨rfl, hb⟩; replace hT := hT.below hb hT.pos; replace hB := hB.trans (hb.mono hB.size))
      | (go_at_call 28; with_reducible refine (G2.out _ hT).mono ?_; rintro e v1 ⟨rfl, hb⟩; replace hT := hT.below hb hT.pos; replace hB := hB.trans (hb.mono hB.size))
      | (go_at_call 18; with_reducible refine (C1.out _ hT).mono ?_; rintro e v1 ⟨rfl, rfl⟩)
      | (go_at_call 18; with_reducible refine (C2.out _ hT).mono ?_; rintro e v1 ⟨rfl, rfl⟩))
      go_ret
      exact ⟨rfl, hB⟩
    · by_cases huv : l = g
      · subst huv
        go_enter Tryd.func7, Tryd.ntmps7
        go_wp2_with (first
        | (go_at_call 11; with_reducible refine (HA.out _ hT).mono ?_; rintro e v1 ⟨rfl, hb⟩; replace hT := hT.below hb hT.pos; replace hB := hB.trans (hb.mono hB.size))
        | (go_at_call 24; with_reducible refine (K1.out _ hT).mono ?_; rintro e v1 ⟨rfl, hb⟩; replace hT := hT.below hb hT.pos; replace hB := hB.trans (hb.mono hB.size))
        | (go_at_call 24; with_reducible refine (K2.out _ hT).mono ?_; rintro e v1 ⟨rfl, hb⟩; replace hT := hT.below hb hT.pos; replace hB := hB.trans (hb.mono hB.size))
        | (go_at_call 24; with_reducible refine (K3.out _ hT).mono ?_; rintro e v1 ⟨rfl, hb⟩; replace hT := hT.below hb hT.pos; replace hB := hB.trans (hb.mono hB.size))
        | (go_at_call 26; with_reducible refine (L1.out _ hT).mono ?_; rintro e v1 ⟨rfl, hb⟩; replace hT := hT.below hb hT.pos; replace hB := hB.trans (hb.mono hB.size))
        | (go_at_call 26; with_reducible refine (L2.out _ hT).mono ?_; rintro e v1 ⟨rfl, hb⟩; replace hT := hT.below hb hT.pos; replace hB := hB.trans (hb.mono hB.size))
        | (go_at_call 28; with_reducible refine (G1.out _ hT).mono ?_; rintro e v1 ⟨rfl, hb⟩; replace hT := hT.below hb hT.pos; replace hB := hB.trans (hb.mono hB.size))
        | (go_at_call 28; with_reducible refine (G2.out _ hT).mono ?_; rintro e v1 ⟨rfl, hb⟩; replace hT := hT.below hb hT.pos; replace hB := hB.trans (hb.mono hB.size))
        | (go_at_call 18; with_reducible refine (C1.out _ hT).mono ?_; rintro e v1 ⟨rfl, rfl⟩)
        | (go_at_call 18; with_reducible refine (C2.out _ hT).mono ?_; rintro e v1 ⟨rfl, rfl⟩))
        go_ret
        exact ⟨rfl, hB⟩
      · have q3 : (l == g) = false := by simpa using huv
        have q4 : (g == l) = false := by simpa using (fun h => huv (Eq.symm h))
        clear huv
        go_enter Tryd.func7, Tryd.ntmps7
        go_wp2_with (first
        | (go_at_call 11; with_reducible refine (HA.out _ hT).mono ?_; rintro e v1 ⟨rfl, hb⟩; replace hT := hT.below hb hT.pos; replace hB := hB.trans (hb.mono hB.size))
        | (go_at_call 24; with_reducible refine (K1.out _ hT).mono ?_; rintro e v1 ⟨rfl, hb⟩; replace hT := hT.below hb hT.pos; replace hB := hB.trans (hb.mono hB.size))
        | (go_at_call 24; with_reducible refine (K2.out _ hT).mono ?_; rintro e v1 ⟨rfl, hb⟩; replace hT := hT.below hb hT.pos; replace hB := hB.trans (hb.mono hB.size))
        | (go_at_call 24; with_reducible refine (K3.out _ hT).mono ?_; rintro e v1 ⟨rfl, hb⟩; replace hT := hT.below hb hT.pos; replace hB := hB.trans (hb.mono hB.size))
        | (go_at_call 26; with_reducible refine (L1.out _ hT).mono ?_; rintro e v1 ⟨rfl, hb⟩; replace hT := hT.below hb hT.pos; replace hB := hB.trans (hb.mono hB.size))
        | (go_at_call 26; with_reducible refine (L2.out _ hT).mono ?_; rintro e v1 ⟨rfl, hb⟩; replace hT := hT.below hb hT.pos; replace hB := hB.trans (hb.mono hB.size))
        | (go_at_call 28; with_reducible refine (G1.out _ hT).mono ?_; rintro e v1 ⟨rfl, hb⟩; replace hT := hT.below hb hT.pos; replace hB := hB.trans (hb.mono hB.size))
        | (go_at_call 28; with_reducible refine (G2.out _ hT).mono ?_; rintro e v1 ⟨rfl, hb⟩; replace hT := hT.below hb hT.pos; replace hB := hB.trans (hb.mono hB.size))
        | (go_at_call 18; with_reducible refine (C1.out _ hT).mono ?_; rintro e v1 ⟨rfl, rfl⟩)
        | (go_at_call 18; with_reducible refine (C2.out _ hT).mono ?_; rintro e v1 ⟨rfl, rfl⟩))
        go_ret
        exact ⟨rfl, hB⟩

set_option maxRecDepth 100000 in
theorem lifted (os : Os) (started : os.Started) (H : Type) (enc : TypeId × Value → H) :
    ReturnsInHanded {} Tryd.checked os 7 .any (fun w args => (Rows.wordTurnsSpec.pre enc Tryd.prog Tryd.f7 Rows.wordTurnsRow.domain false w args ∧ laidMet Tryd.prog Rows.wordTurnsRow.laid w) ∧ sizedMet enc Tryd.prog Tryd.f7 (OpenSpec.ofChange Rows.wordTurnsSpec) false w args) (Rows.wordTurnsSpec.post enc Tryd.prog Tryd.f7 false true false false) := by
  refine returnsInHanded_of_change_and (C := Tryd.checked) (X := fun w _ => laidMet Tryd.prog Rows.wordTurnsRow.laid w) (fun _ _ _ hh h => h.of_heap hh) own started (by kernel_rfl) Tryd.func7
    (ChangeSpec.witness_at (enc := enc) (C := Tryd.checked) (os := os) (X := fun w _ => laidMet Tryd.prog Rows.wordTurnsRow.laid w) false (laidWorld os) #[.int .i64 0, .int .u64 0, .int .u64 0] 8 rfl (by kernel_rfl) (by kernel_rfl) (by kernel_rfl) (by kernel_rfl) (by kernel_rfl) (laid_met os _)) ?_
  intro W base args ds gs before hval0 hW hcnd _ hL _
  have hval : ∀ (j : Nat) t v, Tryd.f7.params[j]? = some t → args[j]? = some v → Value.okWide Tryd.prog W .any base t v := hval0
  have hW' := hW
  obtain ⟨p, q, hA0, hV, rfl, hfz, hnd⟩ := hW
  have hA : DataW.TrodAll enc Tryd.prog W 0 (fun _ => true) true Tryd.f7.params.toList args.toList ds p := hA0
  rw [Tryd.params7] at hA hval
  obtain ⟨v0, vs0, d0, ds0, p0, q0, hargs, rfl, rfl, h0, r0⟩ := trodAll_cons hA
  obtain ⟨v1, vs1, d1, ds1, p1, q1, rfl, rfl, rfl, h1, r1⟩ := trodAll_cons r0
  obtain ⟨v2, vs2, d2, ds2, p2, q2, rfl, rfl, rfl, h2, r2⟩ := trodAll_cons r1
  obtain ⟨rfl, rfl, rfl⟩ := trodAll_nil r2
  obtain rfl : args = #[v0, v1, v2] := by cases args; simp_all
  obtain ⟨rfl, rfl⟩ := trodVars_none hV
  have k0 := h0
  have lt0 : ∀ x ∈ p0, x.block < W.heap.size := by obtain ⟨m, hm⟩ := k0; exact DataW.trod_lt m _ _ _ hm
  obtain ⟨a0, rfl, _, _, w0⟩ := open_int Tryd.underlying3 (hval 0 3 v0 rfl rfl) h0
  have k1 := h1
  have lt1 : ∀ x ∈ p1, x.block < W.heap.size := by obtain ⟨m, hm⟩ := k1; exact DataW.trod_lt m _ _ _ hm
  obtain ⟨a1, rfl, _, _, w1⟩ := open_int Tryd.underlying22 (hval 1 22 v1 rfl rfl) h1
  have k2 := h2
  have lt2 : ∀ x ∈ p2, x.block < W.heap.size := by obtain ⟨m, hm⟩ := k2; exact DataW.trod_lt m _ _ _ hm
  obtain ⟨a2, rfl, _, _, w2⟩ := open_int Tryd.underlying22 (hval 2 22 v2 rfl rfl) h2
  clear hA0 hval0
  refine (walk a0 a1 a2 W w0 w1 w2 (tab_of_laid hL)).mono fun e W' ⟨he, bel⟩ => ?_
  subst he
  exact ⟨_, rfl, _, _, _, [], _, [], hW', trodAll_mk1 (shut_bool Tryd.underlying4 _), (trodAll_cons_mk (Below.trod laidOut (by kernel_rfl) (of_decide_eq_true (by kernel_rfl)) k0 bel lt0) (trodAll_cons_mk (Below.trod laidOut (by kernel_rfl) (of_decide_eq_true (by kernel_rfl)) k1 bel lt1) (trodAll_cons_mk (Below.trod laidOut (by kernel_rfl) (of_decide_eq_true (by kernel_rfl)) k2 bel lt2) trodAll_mk0))), rfl, bel.frame _, fun h => by cases h⟩
theorem over : Rows.wordTurnsRow.holds Tryd.pinned (OpenSpec.ofChange Rows.wordTurnsSpec) :=
  OpenClaim.holds_of_wide 7 Tryd.f7 rfl rfl rfl rfl rfl rfl rfl ⟨rfl, rfl, rfl, rfl, rfl⟩ rfl rfl rfl rfl rfl (by kernel_rfl) Tryd.func7 (by kernel_rfl)
    (of_decide_eq_true (by kernel_rfl)) (by unfold Func.isWrapper; first | (rw [if_pos (by decide +kernel)]; kernel_rfl) | (rw [if_neg (by decide +kernel)]; exact ⟨rfl, rfl⟩))
    (fun os started H enc _ => lifted os started H enc)
/-- The statement. -/
theorem proved : Rows.WordTurnsCardSaid :=
  Claim7.holds_tied_plain_at .later [] [.data] true _ false over (fun _ h => by cases h) (by kernel_rfl) (fun _ h => by cases h) wordTurns_row_tie rfl ⟨rfl, rfl⟩ (by kernel_rfl) rfl
    (fun f fn hf hfn => by
      obtain rfl : f = 7 := Option.some.inj (hf.symm.trans (by kernel_rfl))
      obtain rfl : fn = Tryd.f7 := Option.some.inj (hfn.symm.trans Tryd.func7)
      refine ⟨by kernel_rfl, fun j t ht => ?_⟩
      rw [Tryd.params7] at ht
      match j, ht with
      | 0, ht =>
        obtain rfl : t = 3 := by simpa using ht.symm
        exact (by kernel_rfl : Tryd.pinned.checked.prog.wantsStandIn 3 = false)
      | 1, ht =>
        obtain rfl : t = 22 := by simpa using ht.symm
        exact (by kernel_rfl : Tryd.pinned.checked.prog.wantsStandIn 22 = false)
      | 2, ht =>
        obtain rfl : t = 22 := by simpa using ht.symm
        exact (by kernel_rfl : Tryd.pinned.checked.prog.wantsStandIn 22 = false)
      | j + 3, ht => simp at ht)
    (by kernel_rfl)
end Go.Proofs.YtgiidhmjkkgkaaaDoor.lawTurns
