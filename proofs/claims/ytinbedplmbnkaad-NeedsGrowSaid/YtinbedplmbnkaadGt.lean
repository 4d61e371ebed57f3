/- Layer 12 (of no program): a list that is longer by one that nobody needs, and by one that the last one needs. -/
import Derived.Test.YtinbedplmbnkaadGb
namespace Go.Proofs.Ytinbedplmbnkaad
set_option linter.unusedVariables false
set_option linter.unusedSimpArgs false

theorem findL_snoc (L : List Lb) (b : Lb) (s : ByteArray) : findL (L ++ [b]) s = (findL L s).or (if b.name = s then some b else none) := by
  unfold findL
  rw [List.find?_append]
  congr 1
  by_cases h : b.name = s <;> simp [h]
theorem there_other {L : List Lb} {b : Lb} {s : ByteArray} (h : s ≠ b.name) : there (L ++ [b]) s = there L s ∧ needOf (L ++ [b]) s = needOf L s := by
  unfold there needOf
  rw [findL_snoc, if_neg (fun e => h e.symm)]
  simp
/-- Names are met alike, if they are told alike. -/
theorem meetL_congr {L L' : List Lb} {d : Nat} : ∀ (l : List ByteArray) (s : Wk), (∀ z ∈ l, there L' z = there L z) → meetL L' d s l = meetL L d s l
  | [], s, _ => rfl
  | z :: l, s, h => by
    have e : meet1 L' d s z = meet1 L d s z := by unfold meet1; rw [h z (by simp)]
    show meetL L' d (meet1 L' d s z) l = meetL L d (meet1 L d s z) l
    rw [e]
    exact meetL_congr l _ (fun z hz => h z (List.mem_cons_of_mem _ hz))
theorem needOf_mem {L : List Lb} {y z : ByteArray} (h : z ∈ needOf L y) : ∃ b ∈ L, z ∈ b.need := by
  unfold needOf at h
  cases hq : findL L y with
  | none => rw [hq] at h; simp at h
  | some b => rw [hq] at h; exact ⟨b, List.mem_of_find?_eq_some hq, h⟩
theorem meetL_pre (L : List Lb) (d : Nat) : ∀ (l : List ByteArray) (s : Wk), s.N <+: (meetL L d s l).N
  | [], s => List.prefix_refl _
  | z :: l, s => by
    refine List.IsPrefix.trans ?_ (meetL_pre L d l (meet1 L d s z))
    unfold meet1
    split <;> split
    · exact List.prefix_refl _
    · exact List.prefix_append _ _
    · exact List.prefix_refl _
    · exact List.prefix_refl _
theorem runW_pre (L : List Lb) : ∀ (n : Nat) (x : Wk × Nat), x.1.N <+: (runW L n x).1.N
  | 0, x => List.prefix_refl _
  | n + 1, x => by
    unfold runW
    split
    · exact List.IsPrefix.trans (meetL_pre L _ _ _) (runW_pre L n (stepW L x))
    · exact List.prefix_refl _
theorem runW_at (L : List Lb) : ∀ (j : Nat) (x : Wk × Nat), (runW L j x).2 = x.2 + j ∨ ((runW L j x).2 < x.2 + j ∧ ¬ (runW L j x).2 < (runW L j x).1.N.length)
  | 0, x => .inl rfl
  | n + 1, x => by
    unfold runW
    split
    · rcases runW_at L n (stepW L x) with h | ⟨h1, h2⟩
      · left; rw [h]; unfold stepW; simp; omega
      · right; refine ⟨?_, h2⟩; unfold stepW at h1 ⊢; simp at h1 ⊢; omega
    · rename_i h; exact .inr ⟨by omega, h⟩
/-- The state behind j steps: j have gone, and what is there stands at the head of the closure. -/
theorem run_mid (L : List Lb) (r : ByteArray) (j : Nat) (hj : j ≤ (cloW L r).N.length) : (runW L j (startW L r, 0)).2 = j ∧ (runW L j (startW L r, 0)).1.N <+: (cloW L r).N ∧ Inv L r (runW L j (startW L r, 0)).1 j ∧ ∃ n, runW L n (runW L j (startW L r, 0)) = (cloW L r, (cloW L r).N.length) ∧ (cloW L r).N.length ≤ j + n := by
  have hm := (clo_inv L r).many
  have h1 := run_clo L r (j + (L.length + 1)) (by omega)
  rw [runW_add] at h1
  have h2 : (runW L j (startW L r, 0)).2 = j := by
    rcases runW_at L j (startW L r, 0) with h | ⟨h3, h4⟩
    · simpa using h
    · rw [runW_stop h4] at h1
      rw [h1] at h3
      simp at h3
      omega
  refine ⟨h2, ?_, ?_, L.length + 1, h1, by omega⟩
  · have := runW_pre L (L.length + 1) (runW L j (startW L r, 0))
    rw [h1] at this
    exact this
  · have := Inv.run j (startW L r, 0) (Inv.start L r)
    rw [h2] at this
    exact this

section
variable {L : List Lb} {r nw : ByteArray} {nd : List ByteArray}
/-- One more that nobody needs: nothing is told otherwise. -/
theorem grow_none (hr : r ≠ nw) (hn : ∀ b ∈ L, b.name ≠ nw) (hd : ∀ b ∈ L, ∀ z ∈ b.need, z ≠ nw) : cloW (L ++ [⟨nw, nd⟩]) r = cloW L r := by
  have hs : startW (L ++ [⟨nw, nd⟩]) r = startW L r := by
    unfold startW meet1
    rw [(there_other (b := ⟨nw, nd⟩) hr).1]
  have key : ∀ (n : Nat) (x : Wk × Nat), Inv L r x.1 x.2 → runW (L ++ [⟨nw, nd⟩]) n x = runW L n x := by
    intro n
    induction n with
    | zero => exact fun _ _ => rfl
    | succ n ih =>
      intro x hx
      unfold runW
      split
      · rename_i hlt
        have hy : x.1.N.getD x.2 default = x.1.N[x.2] := by rw [List.getD_eq_getElem?_getD, List.getElem?_eq_getElem hlt]; rfl
        obtain ⟨hp, he, _⟩ := there_pos (hx.th _ (List.getElem_mem hlt))
        have hyn : x.1.N[x.2] ≠ nw := by rw [← he]; exact hn _ (List.getElem_mem hp)
        have e : stepW (L ++ [⟨nw, nd⟩]) x = stepW L x := by
          unfold stepW
          rw [hy, (there_other (b := ⟨nw, nd⟩) hyn).2]
          rw [meetL_congr _ _ (fun z hz => by
            obtain ⟨b, hb, hz⟩ := needOf_mem hz
            exact (there_other (b := ⟨nw, nd⟩) (hd b hb z hz)).1)]
        rw [e]
        exact ih _ (hx.step hlt)
      · rfl
  have h1 := run_clo L r (L.length + 2) (by omega)
  have h2 := run_clo (L ++ [⟨nw, nd⟩]) r (L.length + 2) (by simp)
  rw [hs, key _ _ (Inv.start L r), h1] at h2
  injection h2 with h2 _
  exact h2.symm
/-- .. that the last one needs: it comes last. -/
theorem grow_last {L2 : List Lb} {y : ByteArray} {e : Nat} (hM : (cloW L r).M = []) (hr : there L r = true) (hth : ∀ z, there L2 z = (there L z || decide (z = nw))) (hnw : there L nw = false)
    (hlast : (cloW L r).N[(cloW L r).N.length - 1]? = some y) (hny : needOf L2 y = needOf L y ++ [nw]) (hno : ∀ z, there L z = true → z ≠ y → needOf L2 z = needOf L z) (hnn : needOf L2 nw = [r])
    (hd : ∀ x, ∀ z ∈ needOf L x, z ≠ nw) : ∃ d, cloW L2 r = ⟨(cloW L r).N ++ [nw], (cloW L r).D ++ [d], []⟩ := by
  have hI := clo_inv L r
  have hn0 : (cloW L r).N.length ≠ 0 := fun h => by rw [clo_empty] at h; rw [h] at hr; cases hr
  have hrn : r ≠ nw := fun h => by rw [h, hnw] at hr; cases hr
  have hs : startW L2 r = startW L r := by
    unfold startW meet1
    rw [hth r, hr]
    simp
  have hcm : ∀ (d : Nat) (s : Wk) (x : ByteArray), meetL L2 d s (needOf L x) = meetL L d s (needOf L x) := fun d s x => meetL_congr _ _ (fun z hz => by rw [hth z]; simp [hd x z hz])
  have key : ∀ j, j + 1 ≤ (cloW L r).N.length → runW L2 j (startW L r, 0) = runW L j (startW L r, 0) := by
    intro j
    induction j with
    | zero => exact fun _ => rfl
    | succ j ih =>
      intro hj
      obtain ⟨m1, m2, m3, n, m4, m5⟩ := run_mid L r j (by omega)
      rw [runW_add L2 j 1, runW_add L j 1, ih (by omega)]
      generalize runW L j (startW L r, 0) = zz at *
      obtain ⟨s, g⟩ := zz
      simp only at m1 m2 m3
      subst m1
      show (if g < s.N.length then runW L2 0 (stepW L2 (s, g)) else (s, g)) = (if g < s.N.length then runW L 0 (stepW L (s, g)) else (s, g))
      split
      · rename_i hlt
        show stepW L2 (s, g) = stepW L (s, g)
        have hgf : s.N[g] = (cloW L r).N[g]'(by omega) := List.IsPrefix.getElem m2 hlt
        have hyn : s.N[g] ≠ y := by
          intro e
          rw [hgf] at e
          rw [List.getElem?_eq_getElem (by omega)] at hlast
          injection hlast with hlast
          have := (List.getElem_inj (h₀ := by omega) (h₁ := by omega) hI.nd).1 (e.trans hlast.symm)
          omega
        unfold stepW
        simp only
        rw [show s.N.getD g default = s.N[g] by rw [List.getD_eq_getElem?_getD, List.getElem?_eq_getElem hlt]; rfl]
        rw [hno _ (m3.th _ (List.getElem_mem hlt)) hyn, hcm]
      · rfl
  obtain ⟨c, hc⟩ : ∃ c, (cloW L r).N.length = c + 1 := ⟨(cloW L r).N.length - 1, by omega⟩
  obtain ⟨m1, m2, m3, n, m4, m5⟩ := run_mid L r c (by omega)
  have hk := key c (by omega)
  obtain ⟨k1, k2, k3, n', k4, k5⟩ := run_mid L r (c + 1) (by omega)
  have hend : runW L (c + 1) (startW L r, 0) = (cloW L r, c + 1) := by
    have h1 := run_clo L r ((c + 1) + (L.length + 1)) (by omega)
    have hle := k3.le
    have hpre := k2.length_le
    rw [runW_add, runW_stop (by rw [k1]; omega)] at h1
    rw [h1, hc]
  rw [runW_add L c 1] at hend
  rw [hc, Nat.add_sub_cancel] at hlast
  have hrun2 : runW L2 (c + 1) (startW L2 r, 0) = (meet1 L2 ((runW L c (startW L r, 0)).1.D.getD c 0 + 1) (cloW L r) nw, c + 1) := by
    rw [hs, runW_add L2 c 1, hk]
    generalize runW L c (startW L r, 0) = zz at *
    obtain ⟨s, g⟩ := zz
    simp only at m1 m2 m3
    subst m1
    have hlt : g < s.N.length := by
      by_cases h : g < s.N.length
      · exact h
      · exfalso
        rw [runW_stop h] at hend
        injection hend with _ hend
        omega
    have hgf : s.N[g] = y := by
      have h1 := List.IsPrefix.getElem m2 hlt
      rw [List.getElem?_eq_getElem (by omega)] at hlast
      injection hlast with hlast
      rw [h1, hlast]
    have hgd : s.N.getD g default = y := by rw [List.getD_eq_getElem?_getD, List.getElem?_eq_getElem hlt]; exact hgf
    have h1 : runW L 1 (s, g) = stepW L (s, g) := by
      show (if g < s.N.length then runW L 0 (stepW L (s, g)) else (s, g)) = _
      rw [if_pos hlt]; rfl
    have h2 : runW L2 1 (s, g) = stepW L2 (s, g) := by
      show (if g < s.N.length then runW L2 0 (stepW L2 (s, g)) else (s, g)) = _
      rw [if_pos hlt]; rfl
    rw [h1] at hend
    rw [h2]
    unfold stepW at hend ⊢
    simp only [hgd] at hend ⊢
    injection hend with hend _
    rw [hny]
    have : meetL L2 (s.D.getD g 0 + 1) s (needOf L y ++ [nw]) = meet1 L2 (s.D.getD g 0 + 1) (meetL L2 (s.D.getD g 0 + 1) s (needOf L y)) nw := by simp [meetL, List.foldl_append]
    rw [this, hcm, hend]
  have hnm : nw ∉ (cloW L r).N := fun h => by have := hI.th _ h; rw [hnw] at this; cases this
  obtain ⟨d, hd2⟩ : ∃ d, (runW L c (startW L r, 0)).1.D.getD c 0 + 1 = d := ⟨_, rfl⟩
  rw [hd2] at hrun2
  have hm1 : meet1 L2 d (cloW L r) nw = ⟨(cloW L r).N ++ [nw], (cloW L r).D ++ [d], []⟩ := by
    unfold meet1
    rw [hth nw, hnw, if_pos (by simp), if_neg hnm, hM]
  rw [hm1] at hrun2
  refine ⟨d, ?_⟩
  have hr2 : there L2 r = true := by rw [hth r, hr]; rfl
  have hmem : r ∈ (cloW L r).N := (mem_clo hr).2 (.refl _)
  have hst : stepW L2 (⟨(cloW L r).N ++ [nw], (cloW L r).D ++ [d], []⟩, c + 1) = (⟨(cloW L r).N ++ [nw], (cloW L r).D ++ [d], []⟩, c + 1 + 1) := by
    unfold stepW
    simp only
    have e1 : ((cloW L r).N ++ [nw]).getD (c + 1) default = nw := by
      rw [List.getD_eq_getElem?_getD, List.getElem?_append_right (by omega), hc]
      simp
    rw [e1, hnn]
    show (meet1 L2 _ _ r, _) = _
    unfold meet1
    rw [if_pos hr2, if_pos (List.mem_append_left _ hmem)]
  have h5 : runW L2 (c + 1 + 1) (startW L2 r, 0) = (⟨(cloW L r).N ++ [nw], (cloW L r).D ++ [d], []⟩, c + 1 + 1) := by
    rw [runW_add L2 (c + 1) 1, hrun2]
    show (if c + 1 < ((cloW L r).N ++ [nw]).length then runW L2 0 (stepW L2 _) else _) = _
    rw [if_pos (by simp; omega)]
    exact hst
  have h6 := run_clo L2 r (c + 1 + 1 + (L2.length + 1)) (by omega)
  rw [runW_add, h5, runW_stop (by simp; omega)] at h6
  injection h6 with h6 _
  exact h6.symm
end
end Go.Proofs.Ytinbedplmbnkaad
