/- Page tables, of no program: what is gone over, level by level; how many tables there are. -/
import Derived.Test.YtbidlabhekiijaaDoorRX
namespace Go.Proofs.YtbidlabhekiijaaDoor
open Go.RowKit
set_option linter.unusedVariables false
set_option linter.unusedSimpArgs false

/-- Rows side by side. -/
theorem range_parts (a n : Nat) : ∀ k, (List.range k).flatMap (fun d => List.range' (a + d * n) n) = List.range' a (k * n)
  | 0 => by simp
  | k + 1 => by
    rw [List.range_succ, List.flatMap_append, range_parts a n k, Nat.succ_mul, ← List.range'_append_1]
    simp
open Classical in
/-- The live prefixes of a level, of pages from low on. -/
noncomputable def lvl (M : Nat → Sl) (low : Int) (j a n : Nat) : List Nat := (List.range' a n).filter fun r => decide (live M j r ∧ low < (((r + 1) * 8 ^ (4 - j) : Nat) : Int))
theorem lvl_none {M : Nat → Sl} {low : Int} {j a n : Nat} (h : ∀ r, a ≤ r → r < a + n → ¬ (live M j r ∧ low < (((r + 1) * 8 ^ (4 - j) : Nat) : Int))) : lvl M low j a n = [] := by
  unfold lvl
  rw [List.filter_eq_nil_iff]
  intro r hr
  rw [List.mem_range'_1] at hr
  simpa using h r hr.1 (by omega)
theorem lvl_parts (M : Nat → Sl) (low : Int) (j a n k : Nat) : (List.range k).flatMap (fun d => lvl M low j (a + d * n) n) = lvl M low j a (k * n) := by
  unfold lvl
  rw [← range_parts a n k, List.filter_flatMap]
theorem live_down_to {M : Nat → Sl} : ∀ {n i q : Nat}, i + n ≤ 4 → live M (i + n) q → live M i (q / 8 ^ n)
  | 0, i, q, _, h => by simpa using h
  | n + 1, i, q, hn, h => by
    have h1 := live_up (M := M) (i := i + n) (by omega) h
    have h2 := live_down_to (n := n) (i := i) (q := q / 8) (by omega) h1
    rwa [Nat.div_div_eq_div_mul, ← Nat.pow_succ'] at h2
theorem filt_flat {α β : Type} (p : β → Bool) (f : α → List β) (l : List α) : (l.flatMap f).filter p = l.flatMap fun x => (f x).filter p := List.filter_flatMap ..

/-- What is gone over, of one level. -/
theorem trav_lvl (M : Nat → Sl) (low : Int) (j : Nat) (hj : j ≤ 4) : ∀ m i q, i + m = 4 → (trav M low m i q).filter (fun x => decide (x.1 = j)) = if i < j then (lvl M low j (q * 8 ^ (j - i)) (8 ^ (j - i))).map (fun r => (j, r)) else []
  | 0, i, q, hm => by
    rw [if_neg (by omega)]
    rfl
  | m + 1, i, q, hm => by
    have hf := filt_flat (fun x : Nat × Nat => decide (x.1 = j)) (visit M low m i q) (List.range 8)
    rw [trav_succ]
    unfold visits
    rw [hf]
    by_cases hij : i < j
    · rw [if_pos hij]
      have e1 : 8 ^ (j - i) = 8 * 8 ^ (j - (i + 1)) := by rw [← Nat.pow_succ', show (j - (i + 1)).succ = j - i by omega]
      rw [e1, ← lvl_parts M low j _ _ 8, List.map_flatMap]
      congr 1
      funext d
      rw [show q * (8 * 8 ^ (j - (i + 1))) + d * 8 ^ (j - (i + 1)) = (8 * q + d) * 8 ^ (j - (i + 1)) by rw [Nat.add_mul, Nat.mul_comm 8 q, Nat.mul_assoc]]
      have hpos : 0 < 8 ^ (j - (i + 1)) := Nat.pow_pos (by omega)
      by_cases hv : live M (i + 1) (8 * q + d) ∧ low < (((8 * q + d + 1) * 8 ^ (3 - i) : Nat) : Int)
      · rw [visit_yes hv, List.filter_cons, trav_lvl M low j hj m (i + 1) (8 * q + d) (by omega)]
        by_cases he : i + 1 = j
        · subst he
          rw [if_pos (by simp), if_neg (by omega), Nat.sub_self, Nat.pow_zero, Nat.mul_one]
          unfold lvl
          rw [show List.range' (8 * q + d) 1 = [8 * q + d] from rfl, List.filter_cons, if_pos (by simpa [show 4 - (i + 1) = 3 - i by omega] using hv)]
          rfl
        · rw [if_neg (by simpa using he), if_pos (by omega)]
      · rw [visit_no hv]
        have hn : lvl M low j ((8 * q + d) * 8 ^ (j - (i + 1))) (8 ^ (j - (i + 1))) = [] := by
          refine lvl_none fun r h1 h2 hc => hv ?_
          have hq : r / 8 ^ (j - (i + 1)) = 8 * q + d := by
            rw [Nat.div_eq_iff hpos]
            omega
          refine ⟨?_, ?_⟩
          · have := live_down_to (M := M) (n := j - (i + 1)) (i := i + 1) (q := r) (by omega) (by rw [show i + 1 + (j - (i + 1)) = j by omega]; exact hc.1)
            rwa [hq] at this
          · have h3 : r + 1 ≤ (8 * q + d + 1) * 8 ^ (j - (i + 1)) := by rw [Nat.add_mul, Nat.one_mul]; omega
            have h4 : (r + 1) * 8 ^ (4 - j) ≤ (8 * q + d + 1) * 8 ^ (j - (i + 1)) * 8 ^ (4 - j) := Nat.mul_le_mul_right _ h3
            rw [Nat.mul_assoc, ← Nat.pow_add, show j - (i + 1) + (4 - j) = 3 - i by omega] at h4
            have := hc.2
            omega
        rw [hn]
        rfl
    · rw [if_neg hij]
      refine List.flatMap_eq_nil_iff.2 fun d _ => ?_
      by_cases hv : live M (i + 1) (8 * q + d) ∧ low < (((8 * q + d + 1) * 8 ^ (3 - i) : Nat) : Int)
      · rw [visit_yes hv, List.filter_cons, if_neg (by simp; omega), trav_lvl M low j hj m (i + 1) (8 * q + d) (by omega), if_neg (by omega)]
      · rw [visit_no hv]; rfl

theorem trav_range (M : Nat → Sl) (low : Int) : ∀ m i q, i + m = 4 → ∀ x ∈ trav M low m i q, i < x.1 ∧ x.1 ≤ 4
  | 0, i, q, _, x, hx => by cases hx
  | m + 1, i, q, hm, x, hx => by
    rw [trav_succ] at hx
    unfold visits at hx
    rw [List.mem_flatMap] at hx
    obtain ⟨d, _, hx⟩ := hx
    by_cases hv : live M (i + 1) (8 * q + d) ∧ low < (((8 * q + d + 1) * 8 ^ (3 - i) : Nat) : Int)
    · rw [visit_yes hv, List.mem_cons] at hx
      rcases hx with rfl | hx
      · exact ⟨by simp, by simp; omega⟩
      · have := trav_range M low m (i + 1) _ (by omega) x hx
        omega
    · rw [visit_no hv] at hx
      cases hx

/-- The pages that have entries, from low on, rising. -/
noncomputable def pagesF (M : Nat → Sl) (low : Int) : List Nat := lvl M low 4 0 4096
theorem mem_lvl {M : Nat → Sl} {low : Int} {j a n r : Nat} : r ∈ lvl M low j a n ↔ (a ≤ r ∧ r < a + n) ∧ live M j r ∧ low < (((r + 1) * 8 ^ (4 - j) : Nat) : Int) := by
  unfold lvl
  rw [List.mem_filter, List.mem_range'_1]
  simp
theorem mem_pagesF {M : Nat → Sl} {low : Int} {p : Nat} : p ∈ pagesF M low ↔ p < 4096 ∧ M p ≠ Sl.zero ∧ low ≤ (p : Int) := by
  unfold pagesF
  rw [mem_lvl, live_four]
  simp
  omega
theorem leafs_trav (M : Nat → Sl) (low : Int) : leafs (trav M low 4 0 0) = (pagesF M low).map fun p => (4, p) := by
  have h := trav_lvl M low 4 (Nat.le_refl _) 4 0 0 rfl
  rw [if_pos (by omega)] at h
  unfold pagesF
  simp only [Nat.zero_mul, Nat.sub_zero, Nat.reducePow] at h
  rw [← h]
  unfold leafs
  refine List.filter_congr fun x hx => ?_
  have := trav_range M low 4 0 0 rfl x hx
  by_cases h4 : x.1 = 4
  · simp [h4]
  · simp [h4]; omega

/-- How many tables of a level. -/
noncomputable def lvN (M : Nat → Sl) (j : Nat) : Nat := (lvl M 0 j 0 (8 ^ j)).length
/-- How many tables. -/
noncomputable def cnt7 (M : Nat → Sl) : Nat := 1 + lvN M 1 + lvN M 2 + lvN M 3
theorem stems_split : ∀ l : List (Nat × Nat), (∀ x ∈ l, 0 < x.1) → (stems l).length = (l.filter fun x => decide (x.1 = 1)).length + (l.filter fun x => decide (x.1 = 2)).length + (l.filter fun x => decide (x.1 = 3)).length
  | [], _ => rfl
  | x :: l, h => by
    have ih := stems_split l fun y hy => h y (List.mem_cons_of_mem _ hy)
    have hx := h x (List.mem_cons_self ..)
    unfold stems at ih ⊢
    rcases Nat.lt_or_ge x.1 4 with h4 | h4
    · have : x.1 = 1 ∨ x.1 = 2 ∨ x.1 = 3 := by omega
      rcases this with e | e | e <;> simp [List.filter_cons, e, ih] <;> omega
    · have e1 : x.1 ≠ 1 := by omega
      have e2 : x.1 ≠ 2 := by omega
      have e3 : x.1 ≠ 3 := by omega
      simp [List.filter_cons, Nat.not_lt.2 h4, e1, e2, e3, ih]
theorem stems_cnt (M : Nat → Sl) : (stems (trav M 0 4 0 0)).length + 1 = cnt7 M := by
  rw [stems_split _ fun x hx => (trav_range M 0 4 0 0 rfl x hx).1]
  have h1 := trav_lvl M 0 1 (by omega) 4 0 0 rfl
  have h2 := trav_lvl M 0 2 (by omega) 4 0 0 rfl
  have h3 := trav_lvl M 0 3 (by omega) 4 0 0 rfl
  rw [if_pos (by omega)] at h1 h2 h3
  rw [h1, h2, h3]
  unfold cnt7 lvN
  simp only [List.length_map, Nat.zero_mul, Nat.sub_zero]
  omega
theorem mem_trav {M : Nat → Sl} (hM : Ents M) {j r : Nat} : (j, r) ∈ trav M 0 4 0 0 ↔ 0 < j ∧ j ≤ 4 ∧ live M j r := by
  constructor
  · intro h
    have hr := trav_range M 0 4 0 0 rfl _ h
    have hf := trav_lvl M 0 j hr.2 4 0 0 rfl
    rw [if_pos hr.1] at hf
    have hm : (j, r) ∈ (trav M 0 4 0 0).filter (fun x => decide (x.1 = j)) := List.mem_filter.2 ⟨h, by simp⟩
    rw [hf, List.mem_map] at hm
    obtain ⟨r', h1, h2⟩ := hm
    cases h2
    exact ⟨hr.1, hr.2, (mem_lvl.1 h1).2.1⟩
  · rintro ⟨h1, h2, h3⟩
    have hf := trav_lvl M 0 j h2 4 0 0 rfl
    rw [if_pos h1] at hf
    have hlt := live_lt hM h2 h3
    have hpos : 0 < (r + 1) * 8 ^ (4 - j) := Nat.mul_pos (by omega) (Nat.pow_pos (by omega))
    have hm : (j, r) ∈ (lvl M 0 j (0 * 8 ^ (j - 0)) (8 ^ (j - 0))).map (fun r => (j, r)) := List.mem_map.2 ⟨r, mem_lvl.2 ⟨by simpa using hlt, h3, by omega⟩, rfl⟩
    rw [← hf] at hm
    exact (List.mem_filter.1 hm).1
theorem lvl_nodup (M : Nat → Sl) (low : Int) (j a n : Nat) : (lvl M low j a n).Nodup := List.Nodup.sublist List.filter_sublist List.nodup_range'
theorem trav_nodup (M : Nat → Sl) (low : Int) : (trav M low 4 0 0).Nodup := by
  rw [List.nodup_iff_count]
  rintro ⟨j, r⟩
  by_cases hm : (j, r) ∈ trav M low 4 0 0
  · have hr := trav_range M low 4 0 0 rfl _ hm
    have hf := trav_lvl M low j hr.2 4 0 0 rfl
    rw [if_pos hr.1] at hf
    rw [← List.count_filter (p := fun x => decide (x.1 = j)) (by simp), hf]
    refine List.nodup_iff_count.1 ?_ _
    exact List.pairwise_map.2 ((lvl_nodup M low j _ _).imp fun h e => h (by cases e; rfl))
  · rw [List.count_eq_zero_of_not_mem hm]; omega
theorem stems_nodup (M : Nat → Sl) : (stems (trav M 0 4 0 0)).Nodup := List.Nodup.sublist List.filter_sublist (trav_nodup M 0)
theorem mem_stems {M : Nat → Sl} (hM : Ents M) {j r : Nat} : (j, r) ∈ stems (trav M 0 4 0 0) ↔ 0 < j ∧ j < 4 ∧ live M j r := by
  unfold stems
  rw [List.mem_filter, mem_trav hM]
  simp only [decide_eq_true_eq]
  exact ⟨fun h => ⟨h.1.1, h.2, h.1.2.2⟩, fun h => ⟨⟨h.1, by omega, h.2.2⟩, h.2.1⟩⟩

/-- The tables, as frames are given back: level and prefix. -/
noncomputable def nodes7 (M : Nat → Sl) : List (Nat × Nat) := (0, 0) :: stems (trav M 0 4 0 0)
theorem nodes7_len (M : Nat → Sl) : (nodes7 M).length = cnt7 M := by
  rw [← stems_cnt M]; rfl
theorem mem_nodes7 {M : Nat → Sl} (hM : Ents M) {j r : Nat} (hj : j < 4) : (j, r) ∈ nodes7 M ↔ tabl M j r := by
  unfold nodes7 tabl
  rw [List.mem_cons, mem_stems hM]
  constructor
  · rintro (h | h)
    · cases h; exact .inl ⟨rfl, rfl⟩
    · exact .inr h.2.2
  · rintro (⟨rfl, rfl⟩ | h)
    · exact .inl rfl
    · by_cases h0 : j = 0
      · subst h0
        have := live_lt hM (by omega) h
        obtain rfl : r = 0 := by omega
        exact .inl rfl
      · exact .inr ⟨by omega, hj, h⟩
theorem nodes7_nodup {M : Nat → Sl} (hM : Ents M) : (nodes7 M).Nodup := by
  unfold nodes7
  rw [List.nodup_cons]
  exact ⟨fun h => by have := (mem_stems hM).1 h; omega, stems_nodup M⟩
theorem nodes7_lt {M : Nat → Sl} (hM : Ents M) {x : Nat × Nat} (h : x ∈ nodes7 M) : x.1 < 4 := by
  unfold nodes7 at h
  rw [List.mem_cons] at h
  rcases h with rfl | h
  · decide
  · exact ((mem_stems (j := x.1) (r := x.2) hM).1 h).2.1

theorem freeN_drop : ∀ {H : List Int} {k : Nat}, k < H.length → H.getD k 0 = 1 → freeN (H.set k 0) = freeN H + 1
  | [], k, h, _ => absurd h (Nat.not_lt_zero _)
  | x :: H, 0, _, h => by
    have hx : x = 1 := by simpa using h
    subst hx
    simp [freeN, List.countP_cons]
  | x :: H, k + 1, h, h0 => by
    have ih := freeN_drop (H := H) (k := k) (by simpa using h) (by simpa using h0)
    unfold freeN at ih ⊢
    simp only [List.set_cons_succ, List.countP_cons]
    omega
theorem freeN_all : ∀ {H : List Int}, (∀ f, f < H.length → H.getD f 0 = 0) → freeN H = H.length
  | [], _ => rfl
  | x :: H, h => by
    have hx : x = 0 := by simpa using h 0 (by simp)
    have ih := freeN_all (H := H) fun f hf => by simpa using h (f + 1) (by simpa using hf)
    unfold freeN at ih ⊢
    simp [List.countP_cons, hx, ih]
/-- Where nothing else is held, tables and free frames are all there are. -/
theorem lay_free {R : Nat → Int} {RS : Nat → ByteArray} {F : Nat → Nat → Nat} {E : Nat → Nat → Sl} (hR : ∀ f, R f = 0) : ∀ (ns : List (Nat × Nat)) (X : Pol), ns.Nodup → (∀ x ∈ ns, x.1 < 4) → Lay X R RS F (fun i q => (i, q) ∈ ns) E → freeN X.H + ns.length = X.H.length
  | [], X, _, _, L => by
    rw [freeN_all fun f hf => (L.rest f hf (fun i q _ h => by cases h)).trans (hR f)]
    rfl
  | x :: ns, X, hn, h4, L => by
    obtain ⟨i, q⟩ := x
    rw [List.nodup_cons] at hn
    have hi : i < 4 := h4 (i, q) (List.mem_cons_self ..)
    have hq : (i, q) ∈ (i, q) :: ns := List.mem_cons_self ..
    have hd := L.drop hi hq
    have ih := lay_free hR ns (X.drF (F i q)) hn.2 (fun x hx => h4 x (List.mem_cons_of_mem _ hx)) (hd.congr (fun j r _ => by
      constructor
      · intro h
        refine ⟨List.mem_cons_of_mem _ h, ?_⟩
        rintro ⟨rfl, rfl⟩
        exact hn.1 h
      · rintro ⟨h, hne⟩
        rcases List.mem_cons.1 h with h | h
        · cases h
          exact absurd ⟨rfl, rfl⟩ hne
        · exact h) (fun _ _ _ => rfl) (fun _ _ _ _ => rfl))
    have hf := freeN_drop (L.lt i q hi hq) (L.one i q hi hq)
    unfold Pol.drF at ih
    simp only [List.length_set] at ih
    simp only [List.length_cons]
    omega
theorem Own7.free {X : Pol} {root : Nat} {M : Nat → Sl} {F : Nat → Nat → Nat} {RS : Nat → ByteArray} (T : Own7 X root M F (fun _ => 0) RS) : freeN X.H + cnt7 M = X.H.length := by
  rw [← nodes7_len]
  exact lay_free (fun _ => rfl) (nodes7 M) X (nodes7_nodup T.ents) (fun x h => nodes7_lt T.ents h) (T.lay.congr (fun i q hi => mem_nodes7 T.ents hi) (fun _ _ _ => rfl) (fun _ _ _ _ => rfl))

/-- One more, or as many. -/
theorem filter_one {p p' : Nat → Bool} {x : Nat} (h : ∀ r, r ≠ x → p' r = p r) (h1 : p' x = true) : ∀ a n, ((List.range' a n).filter p').length = ((List.range' a n).filter p).length + if a ≤ x ∧ x < a + n ∧ p x = false then 1 else 0
  | a, 0 => by simp; omega
  | a, n + 1 => by
    have ih := filter_one h h1 (a + 1) n
    rw [List.range'_succ, List.filter_cons, List.filter_cons]
    by_cases hx : a = x
    · subst hx
      rw [if_neg (by omega)] at ih
      rw [h1]
      cases hp : p a
      · have e1 : (if a ≤ a ∧ a < a + (n + 1) ∧ false = false then 1 else 0) = 1 := if_pos ⟨Nat.le_refl _, by omega, rfl⟩
        rw [e1]
        simpa using ih
      · have e1 : (if a ≤ a ∧ a < a + (n + 1) ∧ true = false then 1 else 0) = 0 := if_neg (by simp)
        rw [e1]
        simpa using ih
    · rw [h a hx]
      have e : (a + 1 ≤ x ∧ x < a + 1 + n ∧ p x = false) ↔ (a ≤ x ∧ x < a + (n + 1) ∧ p x = false) := ⟨fun ⟨u, v, z⟩ => ⟨by omega, by omega, z⟩, fun ⟨u, v, z⟩ => ⟨by omega, by omega, z⟩⟩
      simp only [e] at ih
      cases p a
      · simpa using ih
      · simp only [if_true, List.length_cons, ih]
        omega
open Classical in
theorem lvN_set {M : Nat → Sl} {P : Nat} {s : Sl} (hP : P < 4096) (hs : s ≠ Sl.zero) {j : Nat} (hj : j ≤ 4) : lvN (setM M P s) j = lvN M j + if live M j (pre P j) then 0 else 1 := by
  unfold lvN lvl
  have hpos : ∀ r, (0 : Int) < (((r + 1) * 8 ^ (4 - j) : Nat) : Int) := fun r => by
    have := Nat.mul_pos (show 0 < r + 1 by omega) (Nat.pow_pos (a := 8) (n := 4 - j) (by omega))
    omega
  have hlt : pre P j < 8 ^ j := by
    unfold pre
    rw [Nat.div_lt_iff_lt_mul (Nat.pow_pos (by omega)), ← Nat.pow_add, show j + (4 - j) = 4 by omega]
    exact hP
  rw [filter_one (p := fun r => decide (live M j r ∧ (0 : Int) < (((r + 1) * 8 ^ (4 - j) : Nat) : Int))) (x := pre P j) (fun r hr => by simp only [live_other hr]) (by simpa using ⟨live_set hs j, hpos _⟩)]
  congr 1
  by_cases h : live M j (pre P j)
  · rw [if_neg (by simp [h]; exact fun _ => hpos _), if_pos h]
  · rw [if_pos ⟨Nat.zero_le _, by simpa using hlt, by simp [h]⟩, if_neg h]
/-- A page that is set takes the tables on its way that there aren't yet. -/
theorem cnt7_set {M : Nat → Sl} {P : Nat} {s : Sl} (hP : P < 4096) (hs : s ≠ Sl.zero) : cnt7 (setM M P s) = cnt7 M + (4 - kn M P) := by
  unfold cnt7 kn
  rw [lvN_set hP hs (by omega), lvN_set hP hs (by omega), lvN_set hP hs (by omega)]
  by_cases h1 : live M 1 (pre P 1)
  · by_cases h2 : live M 2 (pre P 2)
    · by_cases h3 : live M 3 (pre P 3)
      · simp only [h1, h2, h3, if_true]; omega
      · simp only [h1, h2, h3, if_true, if_false]; omega
    · have h3 : ¬ live M 3 (pre P 3) := fun h => h2 (live_pre (by omega) h)
      simp only [h1, h2, h3, if_true, if_false]; omega
  · have h2 : ¬ live M 2 (pre P 2) := fun h => h1 (live_pre (by omega) h)
    have h3 : ¬ live M 3 (pre P 3) := fun h => h2 (live_pre (by omega) h)
    simp only [h1, h2, h3, if_false]; omega
theorem cnt7_zero : cnt7 (fun _ => Sl.zero) = 1 := by
  have h : ∀ j, lvN (fun _ => Sl.zero) j = 0 := fun j => by
    unfold lvN
    rw [lvl_none fun r _ _ h => by obtain ⟨⟨p, _, hp⟩, _⟩ := h; exact hp rfl]
    rfl
  unfold cnt7
  rw [h, h, h]
/-- As many tables as frames of a pool at the most. -/
theorem lvN_le (M : Nat → Sl) (j : Nat) : lvN M j ≤ 8 ^ j := by
  unfold lvN lvl
  refine Nat.le_trans (List.length_filter_le _ _) ?_
  simp
theorem cnt7_pos (M : Nat → Sl) : 0 < cnt7 M := by unfold cnt7; omega
theorem len_split : ∀ l : List (Nat × Nat), (∀ x ∈ l, 0 < x.1 ∧ x.1 ≤ 4) → l.length = (l.filter fun x => decide (x.1 = 1)).length + (l.filter fun x => decide (x.1 = 2)).length + (l.filter fun x => decide (x.1 = 3)).length + (l.filter fun x => decide (x.1 = 4)).length
  | [], _ => rfl
  | x :: l, h => by
    have ih := len_split l fun y hy => h y (List.mem_cons_of_mem _ hy)
    have hx := h x (List.mem_cons_self ..)
    have : x.1 = 1 ∨ x.1 = 2 ∨ x.1 = 3 ∨ x.1 = 4 := by omega
    rcases this with e | e | e | e <;> simp [List.filter_cons, e] <;> omega
theorem lvl_len (M : Nat → Sl) (low : Int) (j a n : Nat) : (lvl M low j a n).length ≤ n := by
  unfold lvl
  refine Nat.le_trans (List.length_filter_le _ _) ?_
  simp
theorem trav_len (M : Nat → Sl) (low : Int) : (trav M low 4 0 0).length ≤ 10000 := by
  rw [len_split _ (trav_range M low 4 0 0 rfl), trav_lvl M low 1 (by omega) 4 0 0 rfl, trav_lvl M low 2 (by omega) 4 0 0 rfl, trav_lvl M low 3 (by omega) 4 0 0 rfl, trav_lvl M low 4 (by omega) 4 0 0 rfl]
  rw [if_pos (by omega), if_pos (by omega), if_pos (by omega), if_pos (by omega)]
  simp only [List.length_map]
  have h1 := lvl_len M low 1 (0 * 8 ^ (1 - 0)) (8 ^ (1 - 0))
  have h2 := lvl_len M low 2 (0 * 8 ^ (2 - 0)) (8 ^ (2 - 0))
  have h3 := lvl_len M low 3 (0 * 8 ^ (3 - 0)) (8 ^ (3 - 0))
  have h4 := lvl_len M low 4 (0 * 8 ^ (4 - 0)) (8 ^ (4 - 0))
  simp only [Nat.sub_zero, Nat.reducePow] at h1 h2 h3 h4 ⊢
  omega
end Go.Proofs.YtbidlabhekiijaaDoor
