/- What shrink does, of no program. -/
import Derived.Test.YtbidlabhekiijaaDoorRJ
namespace Go.Proofs.YtbidlabhekiijaaDoor
open Go.RowKit
set_option linter.unusedVariables false

/-- The entries when those of a page's way above level k are gone; the tables. -/
def cutE (E : Nat → Nat → Sl) (P k : Nat) : Nat → Nat → Sl := fun j r => if k < j ∧ r = pre P j then Sl.zero else E j r
def cutT (M : Nat → Sl) (P k : Nat) : Nat → Nat → Prop := fun j r => tabl M j r ∧ ¬ (k < j ∧ r = pre P j)
/-- While tables are given back: all of a page's way above level k are gone. -/
structure Cutting (X : Pol) (R : Nat → Int) (RS : Nat → ByteArray) (M : Nat → Sl) (F : Nat → Nat → Nat) (P k : Nat) : Prop where
  lay : Lay X R RS F (cutT M P k) (cutE (ent M F) P k)
  gone : ∀ j, k < j → j ≤ 4 → ¬ live (setM M P Sl.zero) j (pre P j)

section
variable {X : Pol} {R : Nat → Int} {RS : Nat → ByteArray} {M : Nat → Sl} {F : Nat → Nat → Nat} {P k root : Nat}
theorem way_tabl (hz : M P ≠ Sl.zero) (hP : P < 4096) (i : Nat) : tabl M i (pre P i) := by
  rcases Nat.eq_zero_or_pos i with h | h
  · subst h; exact .inl ⟨rfl, pre_zero hP⟩
  · exact .inr ⟨P, rfl, hz⟩
theorem way_cut (hz : M P ≠ Sl.zero) (hP : P < 4096) {i : Nat} (h : i ≤ k) : cutT M P k i (pre P i) := ⟨way_tabl hz hP i, by omega⟩
theorem dead_four : ¬ live (setM M P Sl.zero) 4 (pre P 4) := by
  rw [live_four, pre_four, setM_same]
  exact fun h => h rfl
/-- The page's own entry is taken away. -/
theorem Cutting.start (T : Own7 X root M F R RS) (ft : Fit X) (hz : M P ≠ Sl.zero) (hP : P < 4096) :
    X.stX (F 3 (pre P 3) : Nat) ((8 * dig P 3 : Nat) : Int) 4 Sl.zero.pack = X.stW (F 3 (pre P 3)) (dig P 3) Sl.zero.pack ∧ Cutting (X.stX (F 3 (pre P 3) : Nat) ((8 * dig P 3 : Nat) : Int) 4 Sl.zero.pack) R RS M F P 3 := by
  have hin := way_tabl hz hP 3
  have hlt := T.lay.lt 3 _ (by omega) hin
  have e := stX_word (x := Sl.zero.pack) hlt (by rw [T.lay.one 3 _ (by omega) hin]; decide) (dig_lt P 3)
  refine ⟨e, ?_, fun j h1 h2 => by
    obtain rfl : j = 4 := (by omega)
    exact dead_four⟩
  rw [e]
  refine (T.lay.store ft (by omega) hin (dig_lt P 3) _).congr (fun i q hi => ⟨fun h => h.1, fun h => ⟨h, by omega⟩⟩) (fun i q hi => ?_) (fun _ _ _ _ => rfl)
  rw [← pre_succ P 3 (by omega)]
  unfold cutE updE
  by_cases h : i + 1 = 4 ∧ q = pre P 4
  · obtain ⟨h1, rfl⟩ := h
    rw [if_pos ⟨by omega, by rw [h1]⟩, if_pos ⟨h1, rfl⟩]
  · rw [if_neg h, if_neg]
    rintro ⟨h1, h2⟩
    have h4 : i + 1 = 4 := by omega
    exact h ⟨h4, by rw [h2, h4]⟩
theorem ent_ok (T : Own7 X root M F R RS) (hm : X.H.length ≤ 4096) {i q : Nat} (hi : i ≤ 4) : (ent M F i q).Ok := by
  unfold ent
  split
  · exact T.ents.ok _
  · split
    · rename_i hl
      right
      have := T.lay.lt i q (by omega) (.inr hl)
      exact fr_may (by omega)
    · exact .inl rfl
/-- Is the table on the way empty? -/
theorem Cutting.empty (T : Cutting X R RS M F P k) (ft : Fit X) (hE : ∀ i q, i ≤ 4 → (ent M F i q).Ok) (hz : M P ≠ Sl.zero) (hP : P < 4096) (hk : k < 4) :
    X.S.getD (F k (pre P k)) ⟨#[]⟩ = zsec ↔ ¬ live (setM M P Sl.zero) k (pre P k) := by
  have hin := way_cut (k := k) hz hP (Nat.le_refl k)
  rw [page_zero (ft.size (T.lay.lt k _ hk hin))]
  have hw := fun d hd => T.lay.word k _ d hk hin hd
  have hpk : ∀ s : Sl, s.Ok → (s.pack = 0 ↔ s = Sl.zero) := fun s hs => by
    constructor
    · intro h0
      rcases hs with hs | hs
      · exact hs
      · have := Sl.pack_pos hs; omega
    · rintro rfl; rfl
  have hck : ∀ d, d < 8 → (wd (X.S.getD (F k (pre P k)) ⟨#[]⟩) d = 0 ↔ ¬ live (setM M P Sl.zero) (k + 1) (8 * pre P k + d)) := fun d hd => by
    rw [hw d hd]
    unfold cutE
    by_cases hd2 : d = dig P k
    · subst hd2
      rw [← pre_succ P k hk, if_pos ⟨by omega, rfl⟩]
      exact ⟨fun _ => T.gone (k + 1) (by omega) (by omega), fun _ => rfl⟩
    · have hne : 8 * pre P k + d ≠ pre P (k + 1) := by rw [pre_succ P k hk]; omega
      rw [if_neg (fun h => hne h.2), hpk _ (hE _ _ (by omega)), ent_zero (by omega), live_other hne]
  constructor
  · intro h hl
    obtain ⟨d, hd, hl2⟩ := (live_down hk).1 hl
    exact (hck d hd).1 (h d hd) hl2
  · intro h d hd
    exact (hck d hd).2 fun hl => h ((live_down hk).2 ⟨d, hd, hl⟩)
/-- A table on the way that is empty is given back, and the entry that leads there is taken away. -/
theorem Cutting.step (T : Cutting X R RS M F P (k + 1)) (ft : Fit X) (hz : M P ≠ Sl.zero) (hP : P < 4096) (hk : k + 1 < 4) (hd : ¬ live (setM M P Sl.zero) (k + 1) (pre P (k + 1))) :
    X.addX (F (k + 1) (pre P (k + 1)) : Nat) (-1) = X.drF (F (k + 1) (pre P (k + 1))) ∧ askE X.H (F (k + 1) (pre P (k + 1)) : Nat) = 0 ∧
    (X.drF (F (k + 1) (pre P (k + 1)))).stX (F k (pre P k) : Nat) ((8 * dig P k : Nat) : Int) 4 Sl.zero.pack = (X.drF (F (k + 1) (pre P (k + 1)))).stW (F k (pre P k)) (dig P k) Sl.zero.pack ∧
    Cutting ((X.drF (F (k + 1) (pre P (k + 1)))).stW (F k (pre P k)) (dig P k) Sl.zero.pack) R RS M F P k := by
  have hin := way_cut (k := k + 1) hz hP (Nat.le_refl (k + 1))
  obtain ⟨e1, e2⟩ := addX_drop (T.lay.lt (k + 1) _ hk hin) (T.lay.one (k + 1) _ hk hin)
  have L1 := T.lay.drop hk hin
  have hin2 : (fun j r => cutT M P (k + 1) j r ∧ ¬ (j = k + 1 ∧ r = pre P (k + 1))) k (pre P k) := ⟨way_cut hz hP (by omega), by omega⟩
  have e3 := stX_word (x := Sl.zero.pack) (L1.lt k _ (by omega) hin2) (by rw [L1.one k _ (by omega) hin2]; decide) (dig_lt P k)
  refine ⟨e1, e2, e3, ?_, fun j h1 h2 => ?_⟩
  · refine (L1.store (ft.drF _) (by omega) hin2 (dig_lt P k) _).congr (fun i q hi => ?_) (fun i q hi => ?_) (fun _ _ _ _ => rfl)
    · unfold cutT
      constructor
      · rintro ⟨h1, h2⟩
        exact ⟨⟨h1, fun h => h2 ⟨by omega, h.2⟩⟩, by rintro ⟨rfl, rfl⟩; exact h2 ⟨by omega, rfl⟩⟩
      · rintro ⟨⟨h1, h2⟩, h3⟩
        refine ⟨h1, fun h => ?_⟩
        by_cases hi2 : i = k + 1
        · subst hi2; exact h3 ⟨rfl, h.2⟩
        · exact h2 ⟨by omega, h.2⟩
    · rw [← pre_succ P k (by omega)]
      unfold updE cutE
      by_cases h : i + 1 = k + 1 ∧ q = pre P (k + 1)
      · obtain ⟨h1, rfl⟩ := h
        rw [if_pos ⟨by omega, by rw [h1]⟩, if_pos ⟨h1, rfl⟩]
      · rw [if_neg h]
        by_cases h2 : k + 1 < i + 1 ∧ q = pre P (i + 1)
        · rw [if_pos h2, if_pos ⟨by omega, h2.2⟩]
        · rw [if_neg h2, if_neg]
          rintro ⟨h3, h4⟩
          by_cases h5 : i = k
          · subst h5; exact h ⟨rfl, h4⟩
          · exact h2 ⟨by omega, h4⟩
  · by_cases hj : j = k + 1
    · subst hj; exact hd
    · exact T.gone j (by omega) h2
theorem live_ups : ∀ {n i : Nat}, i + n ≤ 4 → live M (i + n) (pre P (i + n)) → live M i (pre P i)
  | 0, _, _, h => h
  | n + 1, i, hi, h => live_ups (n := n) (by omega) (live_pre (i := i + n) (by omega) h)
/-- When no more is to be given back, the page has no entry. -/
theorem Cutting.done (T : Cutting X R RS M F P k) (hM : Ents M) (hr : F 0 0 = root) (hz : M P ≠ Sl.zero) (hP : P < 4096) (hk : k < 4) (hl : k = 0 ∨ live (setM M P Sl.zero) k (pre P k)) : Own7 X root (setM M P Sl.zero) F R RS := by
  have hlow : ∀ j, 0 < j → j ≤ k → live (setM M P Sl.zero) j (pre P j) := fun j h0 h1 => by
    rcases hl with hl | hl
    · omega
    · obtain ⟨n, rfl⟩ : ∃ n, k = j + n := ⟨k - j, by omega⟩
      exact live_ups (by omega) hl
  refine ⟨hM.setM hP (.inl rfl), hr, T.lay.congr (fun i q hi => ?_) (fun i q hi => ?_) (fun _ _ _ _ => rfl)⟩
  · unfold cutT
    by_cases hq : q = pre P i
    · subst hq
      constructor
      · intro h
        refine ⟨way_tabl hz hP i, fun hh => ?_⟩
        rcases h with h | h
        · omega
        · exact T.gone i hh.1 (by omega) h
      · rintro ⟨_, h⟩
        rcases Nat.eq_zero_or_pos i with h0 | h0
        · subst h0; exact .inl ⟨rfl, pre_zero hP⟩
        · exact .inr (hlow i h0 (Nat.le_of_not_lt fun hh => h ⟨hh, rfl⟩))
    · unfold tabl
      rw [live_other hq]
      exact ⟨fun h => ⟨h, fun hh => hq hh.2⟩, fun h => h.1⟩
  · unfold cutE
    by_cases hq : q = pre P (i + 1)
    · subst hq
      by_cases hki : k < i + 1
      · rw [if_pos ⟨hki, rfl⟩, ent_zero (by omega)]
        exact T.gone _ hki (by omega)
      · rw [if_neg (fun h => hki h.1), ent_live (by omega) (hlow (i + 1) (by omega) (by omega)), ent_live (by omega) (show live M (i + 1) (pre P (i + 1)) from ⟨P, rfl, hz⟩)]
    · rw [if_neg (fun h => hq h.2)]
      by_cases h4 : i + 1 = 4
      · obtain rfl : i = 3 := by omega
        rw [ent_page, ent_page, setM_other (by rw [pre_four] at hq; exact hq)]
      · by_cases hlv : live M (i + 1) q
        · rw [ent_live (by omega) hlv, ent_live (by omega) ((live_other hq).2 hlv)]
        · rw [ent_dead (by omega) hlv, ent_dead (by omega) (fun h => hlv ((live_other hq).1 h))]
end
end Go.Proofs.YtbidlabhekiijaaDoor
