/- Package needs: what Round does with each; Round. -/
import Derived.Test.YtmkaehnekhejmaaGj
namespace Go.Proofs.Ytmkaehnekhejmaa
open Go.RowKit
set_option linter.unusedVariables false
set_option linter.unusedSimpArgs false

/-- How many users each has, as a row. -/
def urow (f : Nat → Nat) (n : Nat) : Array Value := ((List.range n).map fun (j : Nat) => Value.int .i64 ((f j : Nat) : Int)).toArray
theorem urow_at {f : Nat → Nat} {n j : Nat} (h : j < n) : (urow f n)[j]? = some (.int .i64 ((f j : Nat) : Int)) := by
  unfold urow
  rw [List.getElem?_toArray, List.getElem?_map, List.getElem?_range h]
  rfl
theorem urow_set {f : Nat → Nat} {n j v : Nat} (h : j < n) : (urow f n).setIfInBounds j (.int .i64 ((v : Nat) : Int)) = urow (upd f j v) n := by
  apply Array.ext_getElem?
  intro i
  rw [Array.getElem?_setIfInBounds]
  by_cases hi : i < n
  · rw [urow_at hi, urow_at hi]
    unfold upd
    by_cases e : j = i
    · subst e
      rw [if_pos rfl, if_pos (by simp [urow]; exact hi), if_pos rfl]
    · rw [if_neg e, if_neg (fun e' => e e'.symm)]
  · have h1 : ∀ g, (urow g n)[i]? = none := fun g => Array.getElem?_eq_none (by simp [urow]; omega)
    rw [h1, h1, if_neg (by omega)]
theorem urow_congr {f g : Nat → Nat} {n : Nat} (h : ∀ j, j < n → f j = g j) : urow f n = urow g n := by
  unfold urow
  congr 1
  apply List.map_congr_left
  intro j hj
  rw [h j (by simpa using hj)]

set_option maxRecDepth 100000 in
set_option maxHeartbeats 800000 in
theorem do1_any (gU pu n j : Nat) (f : Nat → Nat) (w : World) (hB : Blk w gU 3 (urow f n)) (hp : w.cell? ⟨pu, 0, none⟩ = some (.slice (some ⟨gU, 0, none⟩) n n)) (hj : j < n) (hf : f j ≤ 100000000) :
    Calls Try.prog 23 #[.int .i64 j, .pointer (some ⟨pu, 0, none⟩)] w fun e w' => e = .returned (.tuple #[]) ∧ w' = w.setCell ⟨gU, j, none⟩ (.int .i64 ((f j + 1 : Nat) : Int)) := by
  have hc := (hB.cell j).trans (urow_at hj)
  have hfr := hB.frozen j
  obtain ⟨v, hv⟩ : ∃ v, f j = v := ⟨_, rfl⟩
  rw [hv] at hc hf ⊢
  have hw : IntKind.i64.wrap ((v : Int) + 1) = ((v + 1 : Nat) : Int) := by rw [show (v : Int) + 1 = ((v + 1 : Nat) : Int) by omega]; exact IntWalk.i64_in _ (by omega)
  have hj0 : (0 : Int) ≤ (j : Int) := by omega
  have hj1 : (j : Int) < (n : Int) := by omega
  obtain ⟨v1, hv1⟩ : ∃ v1, v + 1 = v1 := ⟨_, rfl⟩
  rw [hv1] at hw ⊢
  clear hB hv hv1
  go_enter Try.func23, Try.ntmps23
  go_wp2
  go_end0
  exact ⟨rfl, rfl⟩

/-- Users and who is free, as they lie. -/
structure Uf (H gU pu pfr n : Nat) (f : Nat → Nat) (F : List Nat) (w : World) : Prop where
  row : Blk w gU 3 (urow f n)
  pu : w.cell? ⟨pu, 0, none⟩ = some (.slice (some ⟨gU, 0, none⟩) n n)
  free : ∃ v, Blk w pfr 33 #[v] ∧ w.ownsRow H 3 1 v F.length (nints F) ∧ v.ownBlock ≠ some pfr
  lt : H ≤ w.heap.size
def US (H gU pfr : Nat) (k : Nat) : Prop := k = gU ∨ k = pfr ∨ H ≤ k
set_option maxRecDepth 100000 in
set_option maxHeartbeats 1600000 in
theorem do2_any (H gU pu pfr n j : Nat) (f : Nat → Nat) (F : List Nat) (w : World) (h : Uf H gU pu pfr n f F w) (hg : gU < H) (hp1 : pu ≠ gU) (hp2 : pu ≠ pfr) (hp3 : pu < H) (hgf : gU ≠ pfr) (hj : j < n) (hf : f j ≤ 100000000) (hf0 : 0 < f j) (hF : F.length ≤ 1000) :
    Calls Try.prog 24 #[.int .i64 j, .pointer (some ⟨pu, 0, none⟩), .pointer (some ⟨pfr, 0, none⟩)] w fun e w' => e = .returned (.tuple #[]) ∧ Uf H gU pu pfr n (upd f j (f j - 1)) (if f j - 1 = 0 then F ++ [j] else F) w' ∧ But (US H gU pfr) w w' := by
  obtain ⟨hB, hp, ⟨vF, hbf, how, hne⟩, hlt⟩ := h
  have hc := (hB.cell j).trans (urow_at hj)
  have hfr := hB.frozen j
  obtain ⟨v, hv⟩ : ∃ v, f j = v := ⟨_, rfl⟩
  rw [hv] at hc hf hf0 ⊢
  obtain ⟨v1, hv1⟩ : ∃ v1, v - 1 = v1 := ⟨_, rfl⟩
  have hw : IntKind.i64.wrap ((v : Int) - 1) = (v1 : Int) := by rw [show (v : Int) - 1 = (v1 : Int) by omega]; exact IntWalk.i64_in _ (by omega)
  have hj0 : (0 : Int) ≤ (j : Int) := by omega
  have hj1 : (j : Int) < (n : Int) := by omega
  rw [hv1]
  have hbw := (But.refl (· = gU) w).setCell (p := ⟨gU, j, none⟩) (.inl rfl) (.int .i64 (v1 : Int))
  have hB2 := hB.set_ j (.int .i64 ((v1 : Nat) : Int))
  rw [urow_set hj] at hB2
  have hT := Lib.hid (fun W (hW : w.setCell ⟨gU, j, none⟩ (.int .i64 (v1 : Int)) = W) => show Blk W gU 3 (urow (upd f j v1) n) ∧ W.cell? ⟨pu, 0, none⟩ = some (.slice (some ⟨gU, 0, none⟩) n n) ∧ Blk W pfr 33 #[vF] ∧ W.ownsRow H 3 1 vF F.length (nints F) ∧ But (US H gU pfr) w W ∧ H ≤ W.heap.size from by
    subst hW
    exact ⟨hB2, (by rw [World.cell?_setCell_far w ⟨gU, j, none⟩ ⟨pu, 0, none⟩ _ (fun e => hp1 e.symm)]; exact hp), hbf.but hbw (fun e => hgf e.symm), own_butG how hbw (fun k hk e => by have := (how.lt k hk).1; have e : k = gU := e; omega), hbw.mono (fun k e => .inl e), by have := hbw.size; omega⟩)
  have hcn : (w.setCell ⟨gU, j, none⟩ (.int .i64 (v1 : Int))).cell? ⟨gU, j, none⟩ = some (.int .i64 (v1 : Int)) := (hB.set_ j (.int .i64 ((v1 : Nat) : Int))).at_ j _ (by
    have := urow_at (f := upd f j v1) hj
    rw [urow_set hj, this]
    simp [upd])
  obtain ⟨W, hW⟩ : ∃ W, w.setCell ⟨gU, j, none⟩ (.int .i64 (v1 : Int)) = W := ⟨_, rfl⟩
  rw [hW] at hcn
  obtain ⟨t1, t2, t3, t4, t5, t6⟩ := hT.out W hW
  have t3c := t3.cell 0
  have HW := Lib.hid hW
  have HSZ := Lib.hid (show w.heap.size = W.heap.size from by rw [← hW]; simp [World.setCell])
  obtain ⟨i0, hi, hz0, hz1, hz2⟩ := info_parts infoInt
  by_cases hz : v1 = 0
  · subst hz
    rw [if_pos rfl]
    obtain ⟨nf, hnf⟩ : ∃ nf, F.length = nf := ⟨_, rfl⟩
    have HNF := Lib.hid hnf
    have HT := Lib.hid (And.intro t1 (And.intro t3 (And.intro t4 (And.intro t5 t6))))
    have HT2 := Lib.hid t2
    rw [hnf] at hF
    clear hB hB2 hbf how hbw hT hv hv1 hlt hW t1 t3 t4 t5 t6 hf hf0 hnf
    go_enter Try.func24, Try.ntmps24
    go_upto_region 1 with fail
    rw [show w.setCell ⟨gU, j, none⟩ (.int .i64 0) = W from HW.out]
    go_wp2_with (at_builtin; refine Hid.out ?_)
    refine Lib.hid ?_
    have hown := HT.out.2.2.1
    rw [HNF.out] at hown
    refine wpList_append_own_at _ rfl _ _ 33 rfl H 3 i0 (.int .i64 0) 1 8 Try.underlying33 hi hz0 hz1 hz2 rfl (by decide) vF nf (nints F) rfl (hown.alloc _) ⟨W.heap.size, 0, none⟩ 1 1 [.int .i64 (j : Int)] rfl rfl (cell_oneG _ _ _) (fun u hu => by simp at hu; subst hu; rfl) (by unfold maxLen; omega) (by omega) (by have := HT.out.2.2.2.2; simp; omega) ?_
    intro v' w1 hown1 hgrow1 _ hat1
    obtain ⟨A2, c2, rfl⟩ := own_slice hown1
    have hg2 : ∀ k, vF.ownBlock = some k → H ≤ k := fun k hk => (hown.lt k hk).1
    have b1 := (HT.out.2.1.alloc (.cells #[.int .i64 (j : Int)] 3)).grown hgrow1 (fun e => hne e.symm)
    have q0 := b1.cell 0
    have f0 := b1.frozen 0
    have hUB : But (US H gU pfr) w w1 := (HT.out.2.2.2.1.alloc (.cells #[.int .i64 (j : Int)] 3)).grown hgrow1 (fun k e => .inl (.inr (.inr (hg2 k e))))
    have hne2 : (Value.slice A2 (nf + 1) c2).ownBlock ≠ some pfr := by
      rcases hat1 with h | h
      · rw [h]; exact hne
      · rw [h]
        intro e
        injection e with e
        have := HT.out.2.1.lt
        simp at e
        omega
    have HFIN := Lib.hid (show Uf H gU pu pfr n (upd f j 0) (F ++ [j]) (w1.setCell ⟨pfr, 0, none⟩ (.slice A2 (nf + 1) c2)) ∧ But (US H gU pfr) w (w1.setCell ⟨pfr, 0, none⟩ (.slice A2 (nf + 1) c2)) from by
      have hs : But (· = pfr) w1 (w1.setCell ⟨pfr, 0, none⟩ (.slice A2 (nf + 1) c2)) := (But.refl (· = pfr) w1).setCell (p := ⟨pfr, 0, none⟩) (.inl rfl) _
      have hag : But (fun k => vF.ownBlock = some k) W w1 := ((But.refl _ W).alloc (.cells #[.int .i64 (j : Int)] 3)).grown hgrow1 (fun k e => .inl e)
      have hpu : W.cell? ⟨pu, 0, none⟩ = some (.slice (some ⟨gU, 0, none⟩) n n) := HT2.out
      refine ⟨⟨((HT.out.1.but hag (fun e => by have := hg2 gU e; omega))).but hs (fun e => hgf e), ?_, ⟨_, by simpa using b1.set_ 0 (.slice A2 (nf + 1) c2), ?_, hne2⟩, ?_⟩, hUB.setCell (.inl (.inr (.inl rfl))) _⟩
      · have h1 : w1.cell? ⟨pu, 0, none⟩ = W.cell? ⟨pu, 0, none⟩ := by
          have hlt : pu < W.heap.size := World.block_lt_of_cell? W _ hpu
          have := hag.block pu hlt (fun e => by have := hg2 pu e; omega)
          unfold World.cell?
          simp only [this]
        rw [World.cell?_setCell_far w1 ⟨pfr, 0, none⟩ ⟨pu, 0, none⟩ _ (fun e => hp2 e.symm), h1]
        exact hpu
      · rw [nints_snoc, List.length_append, HNF.out]
        refine own_butG hown1 hs (fun k hk e => hne2 ?_)
        have e : k = pfr := e
        rw [← e]; exact hk
      · have h1 := hUB.size
        have h2 := hs.size
        have h3 := HT.out.2.2.2.2
        have h4 := hag.size
        omega)
    clear hown hown1 hgrow1 hat1 b1 hUB hne2 hg2 hcn t3c
    go_wp2
    go_end0
    exact ⟨rfl, HFIN.out.1, HFIN.out.2⟩
  · rw [if_neg hz]
    have hzb : ((v1 : Int) == 0) = false := by simp; omega
    have HT := Lib.hid (show Uf H gU pu pfr n (upd f j v1) F W ∧ But (US H gU pfr) w W from ⟨⟨t1, t2, ⟨vF, t3, t4, hne⟩, t6⟩, t5⟩)
    have HT2 := t2
    clear hB hB2 hbf how hbw hT hv hv1 hlt hW t1 t3 t4 t5 t6 hf hf0 t3c t2
    go_enter Try.func24, Try.ntmps24
    go_upto_region 1 with fail
    rw [HW.out]
    go_wp2
    go_end0
    exact ⟨rfl, HT.out.1, HT.out.2⟩
end Go.Proofs.Ytmkaehnekhejmaa
