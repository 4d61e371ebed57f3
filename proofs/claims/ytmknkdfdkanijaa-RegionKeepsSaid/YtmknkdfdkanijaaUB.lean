/- Rows of regions, pure: added to, cut, protected, found, covered, counted; gaps. -/
import Derived.Test.YtmknkdfdkanijaaUA
namespace Go.Proofs.Ytmknkdfdkanijaa
set_option linter.unusedVariables false
set_option linter.unusedSimpArgs false

theorem Rg.May.part_may {r : Rg} (h : r.May) {a b : Int} (h0 : r.f ≤ a) (h1 : a < b) (h2 : b ≤ r.t) : (r.part a b).May := by
  obtain ⟨m1, m2, m3, m4, m5, m6⟩ := h
  refine ⟨by show 0 ≤ a; omega, h1, by show b ≤ 4096; omega, m4, m5, ?_⟩
  show (r.k = 1 ∧ 0 ≤ r.fl ∧ r.fl ≤ _ ∧ 0 ≤ r.pgAt a ∧ r.pgAt a + (b - a) ≤ _) ∨ (_ ∧ _ ∧ r.pgAt a = 0)
  unfold Rg.pgAt
  rcases m6 with ⟨k1, m6⟩ | m6
  · rw [if_pos k1]; left; omega
  · rw [if_neg (by omega)]; right; exact m6
theorem Rg.part_inf {r : Rg} {a b x : Int} : (r.part a b).inf x = r.inf x := by
  unfold Rg.inf Rg.part Rg.pgAt
  simp only [Prod.mk.injEq, true_and]
  split <;> omega
theorem Rg.part_at {r : Rg} {a b x : Int} (h0 : r.f ≤ a) (h2 : b ≤ r.t) : (r.part a b).at_ x = if a ≤ x ∧ x < b then r.at_ x else none := by
  unfold Rg.at_
  rw [Rg.part_inf]
  show (if a ≤ x ∧ x < b then _ else none) = _
  split
  · rw [if_pos (by omega)]
  · rfl
theorem full_one (q : Rg) (x : Int) : atL (full [q]) x = q.at_ x := by
  unfold full
  by_cases h : q.f < q.t
  · rw [List.filter_cons_of_pos (by simpa using h)]; simp [atL]
  · rw [List.filter_cons_of_neg (by simpa using h), Rg.at_none (by omega)]; rfl
theorem full_append (l m : List Rg) : full (l ++ m) = full l ++ full m := by simp [full]
theorem atL_full (l : List Rg) (x : Int) : atL (full l) x = atL l x := by
  induction l with
  | nil => rfl
  | cons r l ih =>
    rw [show r :: l = [r] ++ l from rfl, full_append, atL_append, atL_append, ih, full_one]
    simp [atL]
theorem mem_full {l : List Rg} {q : Rg} : q ∈ full l ↔ q ∈ l ∧ q.f < q.t := by simp [full]
theorem full_asc {l : List Rg} (h : Asc l) : full l = l := by
  unfold full
  rw [List.filter_eq_self]
  intro a ha
  simpa using (h.may a ha).ft

/-- Regions that are gone over, each one's pieces put. -/
theorem pieces_ok {l : List Rg} (h : Asc l) (pcs : Rg → List Rg) (g : Int → Option Inf → Option Inf) (g0 : ∀ x, g x none = none)
    (h1 : ∀ r ∈ l, r.May → Asc (full (pcs r)) ∧ (∀ q ∈ full (pcs r), r.f ≤ q.f ∧ q.t ≤ r.t) ∧ ∀ x, atL (pcs r) x = g x (r.at_ x)) :
    Asc (full (l.flatMap pcs)) ∧ (∀ q ∈ full (l.flatMap pcs), ∃ r ∈ l, r.f ≤ q.f ∧ q.t ≤ r.t) ∧ ∀ x, atL (l.flatMap pcs) x = g x (atL l x) := by
  induction l with
  | nil => exact ⟨Asc.nil, by simp [full], fun x => by simp [atL, g0]⟩
  | cons r l ih =>
    obtain ⟨a1, a2, a3⟩ := ih h.tail fun q hq => h1 q (by simp [hq])
    obtain ⟨b1, b2, b3⟩ := h1 r (by simp) h.head
    rw [List.flatMap_cons, full_append]
    refine ⟨⟨fun q hq => ?_, List.pairwise_append.2 ⟨b1.asc, a1.asc, fun q hq s hs => ?_⟩⟩, fun q hq => ?_, fun x => ?_⟩
    · rcases List.mem_append.1 hq with h2 | h2
      · exact b1.may q h2
      · exact a1.may q h2
    · obtain ⟨c1, c2⟩ := b2 q hq
      obtain ⟨u, hu, c3, c4⟩ := a2 s hs
      have := h.ahead u hu
      omega
    · rcases List.mem_append.1 hq with h2 | h2
      · exact ⟨r, by simp, b2 q h2⟩
      · obtain ⟨u, hu, c⟩ := a2 q h2
        exact ⟨u, by simp [hu], c⟩
    · rw [atL_append, a3, b3]
      show _ = g x ((r.at_ x).or (atL l x))
      by_cases hx : r.f ≤ x ∧ x < r.t
      · rw [Rg.at_some hx.1 hx.2, atL_none (l := l) fun q hq => .inl (by have := h.ahead q hq; omega), g0]
        simp
      · rw [Rg.at_none (by omega), g0]; simp

/-- A region without some pages. -/
def cutR (a b : Int) (r : Rg) : List Rg := [r.part r.f (min r.t a), r.part (max r.f b) r.t]
def cutL (l : List Rg) (a b : Int) : List Rg := rowOf (l.flatMap (cutR a b))
theorem pair_asc {p q : Rg} (hp : p.f < p.t → p.May) (hq : q.f < q.t → q.May) (h : p.f < p.t → q.f < q.t → p.t ≤ q.f) : Asc (full [p, q]) := by
  refine ⟨fun x hx => ?_, ?_⟩
  · obtain ⟨h1, h2⟩ := mem_full.1 hx
    simp at h1
    rcases h1 with rfl | rfl
    · exact hp h2
    · exact hq h2
  · unfold full
    by_cases c1 : p.f < p.t <;> by_cases c2 : q.f < q.t <;> simp [List.filter, c1, c2]
    exact h c1 c2
theorem tri_asc {p q s : Rg} (hp : p.f < p.t → p.May) (hq : q.f < q.t → q.May) (hs : s.f < s.t → s.May) (h : p.f < p.t → q.f < q.t → p.t ≤ q.f) (h' : q.f < q.t → s.f < s.t → q.t ≤ s.f) (h2 : p.f < p.t → s.f < s.t → p.t ≤ s.f) : Asc (full [p, q, s]) := by
  refine ⟨fun x hx => ?_, ?_⟩
  · obtain ⟨h1, h3⟩ := mem_full.1 hx
    simp at h1
    rcases h1 with rfl | rfl | rfl
    · exact hp h3
    · exact hq h3
    · exact hs h3
  · unfold full
    by_cases c1 : p.f < p.t <;> by_cases c2 : q.f < q.t <;> by_cases c3 : s.f < s.t <;> simp [List.filter, c1, c2, c3]
    · exact ⟨⟨h c1 c2, h2 c1 c3⟩, h' c2 c3⟩
    · exact h c1 c2
    · exact h2 c1 c3
    · exact h' c2 c3
theorem cutL_ok {l : List Rg} (h : Asc l) {a b : Int} (hab : a ≤ b) : RowP (cutL l a b) ∧ ∀ x, atL (cutL l a b) x = if a ≤ x ∧ x < b then none else atL l x := by
  obtain ⟨h1, -, h3⟩ := pieces_ok h (cutR a b) (fun x o => if a ≤ x ∧ x < b then none else o) (by intro x; simp) (by
    intro r hr hm
    have hft := hm.ft
    unfold cutR
    refine ⟨pair_asc (fun h => ?_) (fun h => ?_) (fun h1 h2 => ?_), fun q hq => ?_, fun x => ?_⟩
    · have h : r.f < min r.t a := h
      exact hm.part_may (Int.le_refl _) h (by omega)
    · have h : max r.f b < r.t := h
      exact hm.part_may (by omega) h (Int.le_refl _)
    · show min r.t a ≤ max r.f b; omega
    · obtain ⟨c1, c2⟩ := mem_full.1 hq
      simp at c1
      rcases c1 with rfl | rfl
      · exact ⟨Int.le_refl _, by show min r.t a ≤ r.t; omega⟩
      · exact ⟨by show r.f ≤ max r.f b; omega, Int.le_refl _⟩
    · simp only [atL, Option.or_none]
      rw [Rg.part_at (Int.le_refl _) (by omega), Rg.part_at (by omega) (Int.le_refl _)]
      by_cases c : a ≤ x ∧ x < b
      · rw [if_pos c, if_neg (by omega), if_neg (by omega)]; rfl
      · rw [if_neg c]
        by_cases c1 : r.f ≤ x ∧ x < min r.t a
        · rw [if_pos c1, Rg.at_some (by omega) (by omega)]; rfl
        · rw [if_neg c1]
          by_cases c2 : max r.f b ≤ x ∧ x < r.t
          · rw [if_pos c2]; simp
          · rw [if_neg c2, Rg.at_none (by omega)]; rfl)
  obtain ⟨h4, h5⟩ := rowOf_ok h1
  exact ⟨h4, fun x => by unfold cutL; rw [h5, atL_full, h3]⟩

/-- A region of which some pages have another Perm. -/
def proR (a b c : Int) (r : Rg) : List Rg := [r.part r.f (min r.t a), { r.part (max r.f a) (min r.t b) with p := c }, r.part (max r.f b) r.t]
def proL (l : List Rg) (a b c : Int) : List Rg := rowOf (l.flatMap (proR a b c))
def permI (c : Int) (i : Inf) : Inf := (c, i.2.1, i.2.2.1, i.2.2.2)
theorem proL_ok {l : List Rg} (h : Asc l) {a b c : Int} (hab : a < b) (hc : 0 ≤ c ∧ c ≤ 7) : RowP (proL l a b c) ∧ ∀ x, atL (proL l a b c) x = if a ≤ x ∧ x < b then (atL l x).map (permI c) else atL l x := by
  obtain ⟨h1, -, h3⟩ := pieces_ok h (proR a b c) (fun x o => if a ≤ x ∧ x < b then o.map (permI c) else o) (by intro x; simp) (by
    intro r hr hm
    have hft := hm.ft
    unfold proR
    refine ⟨tri_asc (fun h => ?_) (fun h => ?_) (fun h => ?_) (fun h1 h2 => ?_) (fun h1 h2 => ?_) (fun h1 h2 => ?_), fun q hq => ?_, fun x => ?_⟩
    · have h : r.f < min r.t a := h
      exact hm.part_may (Int.le_refl _) h (by omega)
    · have h : max r.f a < min r.t b := h
      have := hm.part_may (a := max r.f a) (b := min r.t b) (by omega) h (by omega)
      exact ⟨this.f, this.ft, this.t, hc.1, hc.2, this.kind⟩
    · have h : max r.f b < r.t := h
      exact hm.part_may (by omega) h (Int.le_refl _)
    · show min r.t a ≤ max r.f a; omega
    · show min r.t b ≤ max r.f b; omega
    · show min r.t a ≤ max r.f b; omega
    · obtain ⟨c1, c2⟩ := mem_full.1 hq
      simp at c1
      rcases c1 with rfl | rfl | rfl
      · exact ⟨Int.le_refl _, by show min r.t a ≤ r.t; omega⟩
      · exact ⟨by show r.f ≤ max r.f a; omega, by show min r.t b ≤ r.t; omega⟩
      · exact ⟨by show r.f ≤ max r.f b; omega, Int.le_refl _⟩
    · simp only [atL, Option.or_none]
      rw [Rg.part_at (Int.le_refl _) (by omega), Rg.part_at (by omega) (Int.le_refl _)]
      have hmid : Rg.at_ { r.part (max r.f a) (min r.t b) with p := c } x = if max r.f a ≤ x ∧ x < min r.t b then (r.at_ x).map (permI c) else none := by
        unfold Rg.at_
        show (if max r.f a ≤ x ∧ x < min r.t b then _ else none) = _
        split
        · rw [if_pos (by omega)]
          show some _ = some _
          congr 1
          have := Rg.part_inf (r := r) (a := max r.f a) (b := min r.t b) (x := x)
          unfold Rg.inf at this
          simp only [Prod.mk.injEq] at this
          show (c, r.k, r.fl, (r.part (max r.f a) (min r.t b)).pgAt x) = (c, r.k, r.fl, r.pgAt x)
          rw [this.2.2.2]
        · rfl
      rw [hmid]
      by_cases c1 : a ≤ x ∧ x < b
      · rw [if_pos c1, if_neg (by omega), if_neg (c := max r.f b ≤ x ∧ x < r.t) (by omega)]
        by_cases c2 : r.f ≤ x ∧ x < r.t
        · rw [if_pos (by omega)]; simp
        · rw [if_neg (by omega), Rg.at_none (by omega)]; rfl
      · rw [if_neg c1, if_neg (c := max r.f a ≤ x ∧ x < min r.t b) (by omega)]
        by_cases c1 : r.f ≤ x ∧ x < min r.t a
        · rw [if_pos c1, Rg.at_some (by omega) (by omega)]; rfl
        · rw [if_neg c1]
          by_cases c2 : max r.f b ≤ x ∧ x < r.t
          · rw [if_pos c2]; simp
          · rw [if_neg c2, Rg.at_none (by omega)]; rfl)
  obtain ⟨h4, h5⟩ := rowOf_ok h1
  exact ⟨h4, fun x => by unfold proL; rw [h5, atL_full, h3]⟩

/-- Where a region is put into a row. -/
structure AddAt (l : List Rg) (r : Rg) (n : Nat) : Prop where
  le : n ≤ l.length
  low : ∀ x ∈ l.take n, x.t ≤ r.f
  up : ∀ x ∈ l.drop n, r.t ≤ x.f
def addL (l : List Rg) (r : Rg) (n : Nat) : List Rg := rowOf (l.take n ++ r :: l.drop n)
theorem addL_asc {l : List Rg} (h : Asc l) {r : Rg} (hr : r.May) {n : Nat} (ha : AddAt l r n) : Asc (l.take n ++ r :: l.drop n) := by
  have h' : Asc (l.take n ++ l.drop n) := by rw [List.take_append_drop]; exact h
  refine ⟨fun x hx => ?_, List.pairwise_append.2 ⟨h'.left.asc, List.pairwise_cons.2 ⟨ha.up, h'.right.asc⟩, fun x hx y hy => ?_⟩⟩
  · rcases List.mem_append.1 hx with h1 | h1
    · exact h'.left.may x h1
    · rcases List.mem_cons.1 h1 with rfl | h1
      · exact hr
      · exact h'.right.may x h1
  · rcases List.mem_cons.1 hy with rfl | hy
    · exact ha.low x hx
    · have := ha.low x hx
      have := ha.up y hy
      have := hr.ft
      omega
theorem addL_ok {l : List Rg} (h : Asc l) {r : Rg} (hr : r.May) {n : Nat} (ha : AddAt l r n) : RowP (addL l r n) ∧ (∀ x, atL (addL l r n) x = (atL l x).or (r.at_ x)) ∧ ∀ x, r.f ≤ x → x < r.t → atL l x = none := by
  have h1 := addL_asc h hr ha
  obtain ⟨h4, h5⟩ := rowOf_ok (m := l.take n ++ r :: l.drop n) (by rw [full_asc h1]; exact h1)
  have hd : ∀ x, r.f ≤ x → x < r.t → atL l x = none := fun x x1 x2 => atL_none fun q hq => by
    rw [← List.take_append_drop n l] at hq
    rcases List.mem_append.1 hq with h2 | h2
    · exact .inr (by have := ha.low q h2; omega)
    · exact .inl (by have := ha.up q h2; omega)
  refine ⟨h4, fun x => ?_, hd⟩
  unfold addL
  rw [h5, full_asc h1, atL_append]
  have e : atL l x = (atL (l.take n) x).or (atL (l.drop n) x) := by rw [← atL_append, List.take_append_drop]
  show (atL (l.take n) x).or ((r.at_ x).or (atL (l.drop n) x)) = _
  by_cases hx : r.f ≤ x ∧ x < r.t
  · have h2 := hd x hx.1 hx.2
    rw [h2]
    rw [e] at h2
    have h3 := Option.or_eq_none_iff.1 h2
    rw [h3.1, h3.2]; simp
  · rw [Rg.at_none (by omega), e]; simp

/-- The region that has a page. -/
def findR (l : List Rg) (x : Int) : Option Rg := l.find? fun r => decide (r.f ≤ x) && decide (x < r.t)
theorem findR_at (l : List Rg) (x : Int) : (findR l x).map (fun r => r.inf x) = atL l x := by
  induction l with
  | nil => rfl
  | cons r l ih =>
    unfold findR atL
    by_cases h : r.f ≤ x ∧ x < r.t
    · rw [List.find?_cons_of_pos (by simpa using h), Rg.at_some h.1 h.2]; rfl
    · rw [List.find?_cons_of_neg (by simpa using h), Rg.at_none (by omega)]
      exact ih
theorem findR_none {l : List Rg} {x : Int} (h : findR l x = none) : atL l x = none := by rw [← findR_at, h]; rfl
theorem findR_some {l : List Rg} {x : Int} {r : Rg} (h : findR l x = some r) : atL l x = some (r.inf x) ∧ r ∈ l ∧ r.f ≤ x ∧ x < r.t := by
  refine ⟨by rw [← findR_at, h]; rfl, List.mem_of_find?_eq_some h, ?_⟩
  have := List.find?_some h
  simpa using this

/-- How far pages are covered. -/
def covF (l : List Rg) (a : Int) : Int := l.foldl (fun a r => if r.f ≤ a ∧ a < r.t then r.t else a) a
theorem covF_cons (r : Rg) (l : List Rg) (a : Int) : covF (r :: l) a = covF l (if r.f ≤ a ∧ a < r.t then r.t else a) := rfl
theorem covF_low {l : List Rg} {a : Int} (h : ∀ r ∈ l, a < r.f) : covF l a = a := by
  induction l with
  | nil => rfl
  | cons r l ih =>
    have := h r (by simp)
    rw [covF_cons, if_neg (by omega)]
    exact ih fun q hq => h q (by simp [hq])
theorem covF_ok {l : List Rg} (h : Asc l) (a b : Int) : b ≤ covF l a ↔ ∀ x, a ≤ x → x < b → (atL l x).isSome := by
  induction l generalizing a with
  | nil =>
    show b ≤ a ↔ _
    refine ⟨fun h x x1 x2 => by omega, fun h => ?_⟩
    by_cases hab : b ≤ a
    · exact hab
    · have := h a (Int.le_refl _) (by omega)
      simp [atL] at this
  | cons r l ih =>
    rw [covF_cons]
    have hm := h.head
    by_cases c : r.f ≤ a ∧ a < r.t
    · rw [if_pos c, ih h.tail]
      refine ⟨fun h1 x x1 x2 => ?_, fun h1 x x1 x2 => ?_⟩
      · unfold atL
        by_cases c2 : x < r.t
        · rw [Rg.at_some (by omega) c2]; rfl
        · have := h1 x (by omega) x2
          rw [Rg.at_none (by omega)]; simpa using this
      · have := h1 x (by omega) x2
        unfold atL at this
        rw [Rg.at_none (by omega)] at this
        simpa using this
    · rw [if_neg c]
      by_cases c2 : a < r.f
      · have hl : ∀ q ∈ l, a < q.f := fun q hq => by have := h.ahead q hq; have := hm.ft; omega
        rw [covF_low hl]
        refine ⟨fun h x x1 x2 => by omega, fun h1 => ?_⟩
        by_cases hab : b ≤ a
        · exact hab
        · have := h1 a (Int.le_refl _) (by omega)
          unfold atL at this
          rw [Rg.at_none (by omega), atL_none fun q hq => .inl (hl q hq)] at this
          simp at this
      · rw [ih h.tail]
        have e : ∀ x, a ≤ x → atL (r :: l) x = atL l x := fun x x1 => by
          show (r.at_ x).or (atL l x) = _
          rw [Rg.at_none (by omega)]; rfl
        exact ⟨fun h1 x x1 x2 => by rw [e x x1]; exact h1 x x1 x2, fun h1 x x1 x2 => by rw [← e x x1]; exact h1 x x1 x2⟩

/-- The first of n pages that are none's. -/
def gapA : List Rg → Int → Int → Int
  | [], a, _ => a
  | r :: l, a, n => if r.t ≤ a then gapA l a n else if n ≤ r.f - a then a else gapA l r.t n
theorem gapA_ok {l : List Rg} (h : Asc l) {a n : Int} (hn : 1 ≤ n) : a ≤ gapA l a n ∧ (∀ x, gapA l a n ≤ x → x < gapA l a n + n → atL l x = none) ∧ ∀ p, a ≤ p → p < gapA l a n → ∃ x, p ≤ x ∧ x < p + n ∧ (atL l x).isSome := by
  induction l generalizing a with
  | nil => exact ⟨Int.le_refl _, fun x _ _ => rfl, fun p h1 h2 => absurd h2 (by show ¬ p < a; omega)⟩
  | cons r l ih =>
    have hm := h.head.ft
    unfold gapA
    by_cases c1 : r.t ≤ a
    · rw [if_pos c1]
      obtain ⟨i1, i2, i3⟩ := ih h.tail (a := a)
      have e : ∀ x, a ≤ x → atL (r :: l) x = atL l x := fun x x1 => by
        show (r.at_ x).or (atL l x) = _
        rw [Rg.at_none (by omega)]; rfl
      refine ⟨i1, fun x x1 x2 => by rw [e x (by omega)]; exact i2 x x1 x2, fun p p1 p2 => ?_⟩
      obtain ⟨x, x1, x2, x3⟩ := i3 p p1 p2
      exact ⟨x, x1, x2, by rw [e x (by omega)]; exact x3⟩
    · rw [if_neg c1]
      by_cases c2 : n ≤ r.f - a
      · rw [if_pos c2]
        refine ⟨Int.le_refl _, fun x x1 x2 => ?_, fun p p1 p2 => by omega⟩
        exact atL_none fun q hq => by
          rcases List.mem_cons.1 hq with rfl | hq
          · left; omega
          · have := h.ahead q hq; left; omega
      · rw [if_neg c2]
        obtain ⟨i1, i2, i3⟩ := ih h.tail (a := r.t)
        have e : ∀ x, r.t ≤ x → atL (r :: l) x = atL l x := fun x x1 => by
          show (r.at_ x).or (atL l x) = _
          rw [Rg.at_none (by omega)]; rfl
        refine ⟨by omega, fun x x1 x2 => by rw [e x (by omega)]; exact i2 x x1 x2, fun p p1 p2 => ?_⟩
        by_cases c3 : p < r.t
        · refine ⟨max p r.f, by omega, by omega, ?_⟩
          show ((r.at_ _).or _).isSome
          rw [Rg.at_some (by omega) (by omega)]; rfl
        · obtain ⟨x, x1, x2, x3⟩ := i3 p (by omega) p2
          exact ⟨x, x1, x2, by rw [e x (by omega)]; exact x3⟩
theorem gapA_bd {l : List Rg} (h : Asc l) (a n : Int) : a ≤ gapA l a n ∧ (gapA l a n ≤ 4096 ∨ gapA l a n = a) := by
  induction l generalizing a with
  | nil => exact ⟨Int.le_refl _, .inr rfl⟩
  | cons r l ih =>
    have := h.head.t
    unfold gapA
    split
    · exact ih h.tail a
    · split
      · exact ⟨Int.le_refl _, .inr rfl⟩
      · have := ih h.tail r.t
        omega

/-- How many pages all have. -/
def pagesL (l : List Rg) : Int := (l.map fun r => r.t - r.f).sum
/-- So many of the pages from 0 to below n are some region's. -/
def cntL (l : List Rg) : Nat → Int
  | 0 => 0
  | n + 1 => cntL l n + if (atL l n).isSome then 1 else 0
theorem cnt_one {r : Rg} (h : r.May) (n : Nat) : cntL [r] n = max 0 (min r.t n - r.f) := by
  have := h.f
  have := h.ft
  induction n with
  | zero => show (0 : Int) = _; omega
  | succ n ih =>
    show cntL [r] n + _ = _
    rw [ih]
    show _ + (if ((r.at_ (n : Int)).or none).isSome then (1 : Int) else 0) = _
    by_cases c : r.f ≤ (n : Int) ∧ (n : Int) < r.t
    · rw [Rg.at_some c.1 c.2]
      show max 0 (min r.t n - r.f) + 1 = _
      rw [show ((n + 1 : Nat) : Int) = (n : Int) + 1 from rfl]
      omega
    · rw [Rg.at_none (by omega)]
      show max 0 (min r.t n - r.f) + 0 = _
      rw [show ((n + 1 : Nat) : Int) = (n : Int) + 1 from rfl]
      omega
theorem cnt_cons {r : Rg} {l : List Rg} (h : Asc (r :: l)) (n : Nat) : cntL (r :: l) n = cntL [r] n + cntL l n := by
  induction n with
  | zero => rfl
  | succ n ih =>
    show cntL (r :: l) n + _ = (cntL [r] n + _) + (cntL l n + _)
    rw [ih]
    show _ + (if ((r.at_ (n : Int)).or (atL l n)).isSome then (1 : Int) else 0) = (_ + (if ((r.at_ (n : Int)).or none).isSome then (1 : Int) else 0)) + _
    by_cases c : r.f ≤ (n : Int) ∧ (n : Int) < r.t
    · rw [Rg.at_some c.1 c.2, atL_none fun q hq => .inl (by have := h.ahead q hq; omega)]; simp; omega
    · rw [Rg.at_none (by omega)]
      show cntL [r] n + cntL l n + (if (atL l n).isSome = true then (1 : Int) else 0) = cntL [r] n + 0 + (cntL l n + (if (atL l n).isSome = true then (1 : Int) else 0))
      rw [Int.add_zero, Int.add_assoc]
theorem pages_cnt {l : List Rg} (h : Asc l) : cntL l 4096 = pagesL l := by
  induction l with
  | nil =>
    have : ∀ n, cntL [] n = 0 := fun n => by
      induction n with
      | zero => rfl
      | succ n ih => show cntL [] n + _ = 0; rw [ih]; rfl
    exact this _
  | cons r l ih =>
    rw [cnt_cons h, ih h.tail, cnt_one h.head]
    have := h.head.t
    have := h.head.ft
    unfold pagesL
    rw [List.map_cons, List.sum_cons]
    omega
theorem cnt_bd (l : List Rg) (n : Nat) : 0 ≤ cntL l n ∧ cntL l n ≤ n := by
  induction n with
  | zero => exact ⟨Int.le_refl _, Int.le_refl _⟩
  | succ n ih =>
    show 0 ≤ cntL l n + _ ∧ cntL l n + _ ≤ _
    split <;> omega
theorem pages_congr {l m : List Rg} (hl : Asc l) (hm : Asc m) (f : Int → Int) (h : ∀ x, (if (atL l x).isSome then (1 : Int) else 0) = (if (atL m x).isSome then 1 else 0)) : pagesL l = pagesL m := by
  rw [← pages_cnt hl, ← pages_cnt hm]
  have : ∀ n, cntL l n = cntL m n := fun n => by
    induction n with
    | zero => rfl
    | succ n ih => show cntL l n + _ = cntL m n + _; rw [ih, h]
  exact this _
theorem pages_bd {l : List Rg} (h : Asc l) : 0 ≤ pagesL l ∧ pagesL l ≤ 4096 := by
  rw [← pages_cnt h]; exact cnt_bd l 4096
theorem pages_add {l : List Rg} (h : Asc l) {r : Rg} (hr : r.May) {n : Nat} (ha : AddAt l r n) : pagesL (addL l r n) = pagesL l + (r.t - r.f) := by
  obtain ⟨h1, h2, h3⟩ := addL_ok h hr ha
  rw [← pages_cnt h1.asc, ← pages_cnt h]
  have e : cntL [r] 4096 = r.t - r.f := by
    rw [cnt_one hr]
    have := hr.t
    have := hr.ft
    omega
  rw [← e]
  have : ∀ q : Nat, cntL (addL l r n) q = cntL l q + cntL [r] q := fun q => by
    clear e
    induction q with
    | zero => rfl
    | succ q ih =>
      show cntL _ q + _ = (cntL l q + _) + (cntL [r] q + (if ((r.at_ (q : Int)).or none).isSome then (1 : Int) else 0))
      rw [ih, h2]
      by_cases c : r.f ≤ (q : Int) ∧ (q : Int) < r.t
      · rw [h3 q c.1 c.2, Rg.at_some c.1 c.2]; simp; omega
      · rw [Rg.at_none (by omega)]; simp; omega
  exact this _
end Go.Proofs.Ytmknkdfdkanijaa
