/- Layer 13 (of no program): what is placed where; what is free of a room, as gaps. -/
import Derived.Lib.Hide
namespace Go.Proofs.Ytfoapghjloblnab
set_option linter.unusedVariables false
set_option linter.unusedSimpArgs false

/-- A size in whole pages. -/
def rndP (s : Int) : Int := if s < 0 then 0 else if 1099511627776 < s then 1099511627776 else (s + 63) / 64 * 64
def roomP (low high : Int) : Bool := decide (0 ≤ low) && decide (low ≤ high) && decide (high ≤ 1099511627776) && decide (low % 64 = 0) && decide (high % 64 = 0)
def thingP (x : Int × Int) : Bool := decide (1 ≤ x.1) && decide (x.1 ≤ 1099511627776) && decide (0 ≤ x.2) && decide (x.2 ≤ 1099511627776)
/-- Do two ranges meet? -/
def metP (a n b m : Int) : Bool := decide (0 < n) && decide (0 < m) && decide (a < b + m) && decide (b < a + n)
/-- May a range be put there, behind what is placed? -/
def fitP (P : List (Int × Int)) (low high p n : Int) : Bool := decide (low ≤ p) && decide (p + n ≤ high) && P.all fun x => !(metP x.1 x.2 p n)
/-- The least of the places that may be: the room's first one, or one behind something. -/
def bestP (P : List (Int × Int)) (low high n : Int) (acc : Option Int) (p : Int) : Option Int :=
  if p % 64 = 0 ∧ fitP P low high p n = true ∧ (∀ b, acc = some b → p < b) then some p else acc
def freeP (P : List (Int × Int)) (low high n : Int) : Option Int := (low :: P.map fun x => x.1 + x.2).foldl (bestP P low high n) none
def likeP (P : List (Int × Int)) (low high : Int) (x : Int × Int) : Bool := decide (x.2 ≠ 0) && decide (x.2 % 64 = 0) && fitP P low high x.2 (rndP x.1)
def stepP (P : List (Int × Int)) (low high : Int) (x : Int × Int) : Option Int := if likeP P low high x = true then some x.2 else freeP P low high (rndP x.1)
def goP (low high : Int) : List (Int × Int) → List (Int × Int) → Option (List (Int × Int))
  | P, [] => some P
  | P, x :: l => match stepP P low high x with
    | none => none
    | some a => goP low high (P ++ [(a, rndP x.1)]) l
/-- What All tells: places, or an error's number. -/
def allP (l : List (Int × Int)) (low high : Int) : List Int × Int :=
  if roomP low high = true ∧ l.all thingP = true then
    match goP low high [] l with
    | none => ([], 18)
    | some P => (P.map Prod.fst, 0)
  else ([], 1)

theorem rndP_pos {s : Int} (h : 1 ≤ s) (k : s ≤ 1099511627776) : rndP s = (s + 63) / 64 * 64 ∧ 64 ≤ rndP s ∧ rndP s ≤ 1099511627776 ∧ rndP s % 64 = 0 ∧ s ≤ rndP s ∧ rndP s ≤ s + 63 := by
  unfold rndP
  rw [if_neg (by omega), if_neg (by omega)]
  omega
theorem fitP_iff {P : List (Int × Int)} {low high p n : Int} : fitP P low high p n = true ↔ low ≤ p ∧ p + n ≤ high ∧ ∀ x ∈ P, metP x.1 x.2 p n = false := by
  unfold fitP
  simp only [Bool.and_eq_true, decide_eq_true_eq, List.all_eq_true, Bool.not_eq_true', and_assoc]
theorem metP_iff {a n b m : Int} : metP a n b m = true ↔ 0 < n ∧ 0 < m ∧ a < b + m ∧ b < a + n := by
  unfold metP
  simp only [Bool.and_eq_true, decide_eq_true_eq, and_assoc]
theorem metP_false {a n b m : Int} (hn : 0 < n) (hm : 0 < m) : metP a n b m = false ↔ b + m ≤ a ∨ a + n ≤ b := by
  rw [Bool.eq_false_iff, ne_eq, metP_iff]
  omega

/-- The fold: the least of the row's numbers that may be. -/
theorem best_none {P : List (Int × Int)} {low high n : Int} : ∀ (l : List Int) (acc : Option Int), l.foldl (bestP P low high n) acc = none ↔ acc = none ∧ ∀ p ∈ l, ¬ (p % 64 = 0 ∧ fitP P low high p n = true)
  | [], acc => by simp
  | q :: l, acc => by
    rw [List.foldl_cons, best_none l]
    unfold bestP
    constructor
    · rintro ⟨h1, h2⟩
      split at h1
      · cases h1
      · rename_i hc
        subst h1
        refine ⟨rfl, fun p hp => ?_⟩
        rcases List.mem_cons.1 hp with rfl | hp
        · rintro ⟨a, b⟩
          exact hc ⟨a, b, fun _ h => by cases h⟩
        · exact h2 p hp
    · rintro ⟨rfl, h2⟩
      refine ⟨?_, fun p hp => h2 p (List.mem_cons_of_mem _ hp)⟩
      rw [if_neg]
      rintro ⟨a, b, -⟩
      exact h2 q (List.mem_cons_self ..) ⟨a, b⟩
theorem best_some {P : List (Int × Int)} {low high n : Int} : ∀ (l : List Int) (acc : Option Int) (b : Int), l.foldl (bestP P low high n) acc = some b →
    (acc = some b ∨ (b ∈ l ∧ b % 64 = 0 ∧ fitP P low high b n = true)) ∧ (∀ a, acc = some a → b ≤ a) ∧ ∀ p ∈ l, p % 64 = 0 → fitP P low high p n = true → b ≤ p
  | [], acc, b, h => by
    refine ⟨.inl h, fun a ha => ?_, fun p hp => by cases hp⟩
    rw [List.foldl_nil] at h
    rw [h] at ha
    cases ha
    exact Int.le_refl _
  | q :: l, acc, b, h => by
    rw [List.foldl_cons] at h
    obtain ⟨h1, h2, h3⟩ := best_some l _ b h
    unfold bestP at h1 h2
    split at h1 <;> rename_i hc
    · rw [if_pos hc] at h2
      obtain ⟨c1, c2, c3⟩ := hc
      have hq := h2 q rfl
      refine ⟨?_, fun a ha => ?_, fun p hp hp1 hp2 => ?_⟩
      · rcases h1 with h1 | ⟨h1, h4⟩
        · cases h1
          exact .inr ⟨List.mem_cons_self .., c1, c2⟩
        · exact .inr ⟨List.mem_cons_of_mem _ h1, h4⟩
      · have := c3 a ha
        omega
      · rcases List.mem_cons.1 hp with rfl | hp
        · exact hq
        · exact h3 p hp hp1 hp2
    · rw [if_neg hc] at h2
      refine ⟨?_, h2, fun p hp hp1 hp2 => ?_⟩
      · rcases h1 with h1 | ⟨h1, h4⟩
        · exact .inl h1
        · exact .inr ⟨List.mem_cons_of_mem _ h1, h4⟩
      · rcases List.mem_cons.1 hp with rfl | hp
        · cases acc with
          | none => exact absurd ⟨hp1, hp2, fun _ h => by cases h⟩ hc
          | some a =>
            have ha := h2 a rfl
            by_cases hlt : p < a
            · exact absurd ⟨hp1, hp2, fun b' hb' => by cases hb'; exact hlt⟩ hc
            · omega
        · exact h3 p hp hp1 hp2

/-- A row's greatest number that is not above p. -/
theorem great_below (p : Int) : ∀ (l : List Int), (∃ c ∈ l, c ≤ p) → ∃ c ∈ l, c ≤ p ∧ ∀ d ∈ l, d ≤ p → d ≤ c
  | [], h => by
    obtain ⟨c, hc, _⟩ := h
    cases hc
  | a :: l, h => by
    by_cases hl : ∃ c ∈ l, c ≤ p
    · obtain ⟨c, hc, h1, h2⟩ := great_below p l hl
      by_cases ha : a ≤ p ∧ c < a
      · refine ⟨a, List.mem_cons_self .., ha.1, fun d hd hdp => ?_⟩
        rcases List.mem_cons.1 hd with rfl | hd
        · exact Int.le_refl _
        · have := h2 d hd hdp
          omega
      · refine ⟨c, List.mem_cons_of_mem _ hc, h1, fun d hd hdp => ?_⟩
        rcases List.mem_cons.1 hd with rfl | hd
        · omega
        · exact h2 d hd hdp
    · obtain ⟨c, hc, hcp⟩ := h
      rcases List.mem_cons.1 hc with rfl | hc
      · refine ⟨c, List.mem_cons_self .., hcp, fun d hd hdp => ?_⟩
        rcases List.mem_cons.1 hd with rfl | hd
        · exact Int.le_refl _
        · exact absurd ⟨d, hd, hdp⟩ hl
      · exact absurd ⟨c, hc, hcp⟩ hl

/-- What is placed: in the room, whole pages. -/
def WholeP (P : List (Int × Int)) (low high : Int) : Prop := ∀ x ∈ P, x.1 % 64 = 0 ∧ x.2 % 64 = 0 ∧ 0 < x.2 ∧ low ≤ x.1 ∧ x.1 + x.2 ≤ high

/-- If a place may be, so may the greatest of the tried ones that is not above it. -/
theorem cand {P : List (Int × Int)} {low high p n : Int} (hP : WholeP P low high) (hl : low % 64 = 0) (hn : 0 < n) (h : fitP P low high p n = true) :
    ∃ c ∈ (low :: P.map fun x => x.1 + x.2), c ≤ p ∧ c % 64 = 0 ∧ fitP P low high c n = true := by
  obtain ⟨h1, h2, h3⟩ := fitP_iff.1 h
  obtain ⟨c, hc, hcp, hmax⟩ := great_below p (low :: P.map fun x => x.1 + x.2) ⟨low, List.mem_cons_self .., h1⟩
  refine ⟨c, hc, hcp, ?_, fitP_iff.2 ⟨hmax low (List.mem_cons_self ..) h1, by omega, fun x hx => ?_⟩⟩
  · rcases List.mem_cons.1 hc with rfl | hc
    · exact hl
    · obtain ⟨x, hx, rfl⟩ := List.mem_map.1 hc
      have := hP x hx
      omega
  · have hx0 := hP x hx
    have h4 := (metP_false hx0.2.2.1 hn).1 (h3 x hx)
    rw [metP_false hx0.2.2.1 hn]
    by_cases he : x.1 + x.2 ≤ p
    · exact .inr (hmax _ (List.mem_cons_of_mem _ (List.mem_map.2 ⟨x, hx, rfl⟩)) he)
    · rcases h4 with h4 | h4
      · exact .inl (by omega)
      · exact absurd h4 he
theorem freeP_none {P : List (Int × Int)} {low high n : Int} (hP : WholeP P low high) (hl : low % 64 = 0) (hn : 0 < n) : freeP P low high n = none ↔ ∀ p, fitP P low high p n = false := by
  unfold freeP
  rw [best_none]
  constructor
  · rintro ⟨-, h⟩ p
    rw [Bool.eq_false_iff]
    intro hp
    obtain ⟨c, hc, -, c1, c2⟩ := cand hP hl hn hp
    exact h c hc ⟨c1, c2⟩
  · intro h
    exact ⟨rfl, fun p _ hp => by rw [h p] at hp; exact absurd hp.2 (by decide)⟩
theorem freeP_some {P : List (Int × Int)} {low high n b : Int} (hP : WholeP P low high) (hl : low % 64 = 0) (hn : 0 < n) :
    freeP P low high n = some b ↔ fitP P low high b n = true ∧ ∀ p, fitP P low high p n = true → b ≤ p := by
  have key : ∀ b, freeP P low high n = some b → fitP P low high b n = true ∧ ∀ p, fitP P low high p n = true → b ≤ p := fun b h => by
    unfold freeP at h
    obtain ⟨h1, -, h3⟩ := best_some _ _ _ h
    rcases h1 with h1 | ⟨h1, h4, h5⟩
    · cases h1
    · refine ⟨h5, fun p hp => ?_⟩
      obtain ⟨c, hc, hcp, c1, c2⟩ := cand hP hl hn hp
      have := h3 c hc c1 c2
      omega
  constructor
  · exact key b
  · rintro ⟨h1, h2⟩
    cases hf : freeP P low high n with
    | none =>
      have := (freeP_none hP hl hn).1 hf b
      rw [h1] at this
      cases this
    | some c =>
      obtain ⟨k1, k2⟩ := key c hf
      have := h2 c k1
      have := k2 b h1
      have : c = b := by omega
      rw [this]
theorem freeP_whole {P : List (Int × Int)} {low high n b : Int} (h : freeP P low high n = some b) : b % 64 = 0 := by
  unfold freeP at h
  obtain ⟨h1, -, -⟩ := best_some _ _ _ h
  rcases h1 with h1 | ⟨-, h4, -⟩
  · cases h1
  · exact h4
theorem stepP_fit {P : List (Int × Int)} {low high a : Int} {x : Int × Int} (hP : WholeP P low high) (hl : low % 64 = 0) (hx : thingP x = true) (h : stepP P low high x = some a) :
    a % 64 = 0 ∧ fitP P low high a (rndP x.1) = true := by
  unfold thingP at hx
  simp only [Bool.and_eq_true, decide_eq_true_eq, and_assoc] at hx
  obtain ⟨x1, x2, x3, x4⟩ := hx
  have hr := rndP_pos x1 x2
  unfold stepP at h
  split at h
  · rename_i hlk
    cases h
    unfold likeP at hlk
    simp only [Bool.and_eq_true, decide_eq_true_eq, and_assoc] at hlk
    exact ⟨hlk.2.1, hlk.2.2⟩
  · exact ⟨freeP_whole h, ((freeP_some hP hl (by omega)).1 h).1⟩
theorem WholeP.push {P : List (Int × Int)} {low high a : Int} {x : Int × Int} (hP : WholeP P low high) (hl : low % 64 = 0) (hx : thingP x = true) (h : stepP P low high x = some a) : WholeP (P ++ [(a, rndP x.1)]) low high := by
  intro y hy
  rcases List.mem_append.1 hy with hy | hy
  · exact hP y hy
  · obtain rfl := List.mem_singleton.1 hy
    obtain ⟨h1, h2⟩ := stepP_fit hP hl hx h
    obtain ⟨h3, h4, -⟩ := fitP_iff.1 h2
    unfold thingP at hx
    simp only [Bool.and_eq_true, decide_eq_true_eq, and_assoc] at hx
    have hr := rndP_pos hx.1 hx.2.1
    exact ⟨h1, hr.2.2.2.1, by show 0 < rndP x.1; omega, h3, h4⟩

/-! Gaps: of so many ends the k-th is E k, and G k bytes ahead of it are free. -/
structure Gap (P : List (Int × Int)) (low high : Int) (m : Nat) (E G : Nat → Int) : Prop where
  pos : 0 < m
  last : E (m - 1) = high
  rise : ∀ i j, i < j → j < m → E i < E j
  ends : ∀ i, i < m → E i % 64 = 0 ∧ low ≤ E i ∧ E i ≤ high
  size : ∀ i, i < m → 0 ≤ G i ∧ G i % 64 = 0 ∧ low ≤ E i - G i
  apart : ∀ i j, i < j → j < m → 0 < G i → 0 < G j → E i < E j - G j
  free : ∀ p n, 0 < n → (fitP P low high p n = true ↔ ∃ i, i < m ∧ E i - G i ≤ p ∧ p + n ≤ E i)

/-- The gap that holds a range is the first one, of those that end behind its place, that is not empty. -/
theorem Gap.the {P low high m E G} (h : Gap P low high m E G) {p n : Int} {i b : Nat} (hn : 0 < n) (hi : i < m) (h1 : 0 < G i) (hlow : ∀ k, b ≤ k → k < i → G k < 1) (hb : ∀ k, k < m → (p < E k ↔ b ≤ k)) (hbi : b ≤ i) :
    fitP P low high p n = true ↔ E i - G i ≤ p ∧ p + n ≤ E i := by
  rw [h.free p n hn]
  constructor
  · rintro ⟨k, hk, a, c⟩
    have hk1 : 0 < G k := by omega
    have hkb : b ≤ k := (hb k hk).1 (by omega)
    rcases Nat.lt_trichotomy k i with e | e | e
    · have := hlow k hkb e
      omega
    · subst e
      exact ⟨a, c⟩
    · have h2 := h.apart i k e hk h1 hk1
      have := (hb i hi).2 hbi
      omega
  · rintro ⟨a, c⟩
    exact ⟨i, hi, a, c⟩
/-- The gaps behind a taking: of gap i what is behind; what is ahead, if there is any, ends at end b. -/
def takeG (G E : Nat → Int) (i b : Nat) (at' n : Int) : Nat → Int := fun k => if k = b ∧ E i - G i < at' then at' - (E i - G i) else if k = i then E i - at' - n else G k
theorem Gap.take {P low high m E G} (h : Gap P low high m E G) {a n : Int} {i b : Nat} (hn : 0 < n) (ha : a % 64 = 0) (hnn : n % 64 = 0) (hi : i < m) (h1 : E i - G i ≤ a) (h2 : a + n ≤ E i) (hb : E i - G i < a → b < m ∧ E b = a) :
    Gap (P ++ [(a, n)]) low high m E (takeG G E i b a n) := by
  have hGi : 0 < G i := by omega
  have hei := h.ends i hi
  have hsi := h.size i hi
  have hbi : E i - G i < a → b < i := fun hc => by
    obtain ⟨hbm, hbe⟩ := hb hc
    rcases Nat.lt_trichotomy b i with e | e | e
    · exact e
    · subst e; omega
    · have := h.rise i b e hbm
      omega
  have hG0 : ∀ k, k < m → (k = b ∧ E i - G i < a) → G k = 0 := fun k hk ⟨e, hc⟩ => by
    subst e
    obtain ⟨hbm, hbe⟩ := hb hc
    by_cases h0 : 0 < G k
    · have := h.apart k i (hbi hc) hi h0 hGi
      omega
    · have := (h.size k hk).1
      omega
  refine ⟨h.pos, h.last, h.rise, h.ends, fun k hk => ?_, fun k l hkl hl gk gl => ?_, fun p q hq => ?_⟩
  · unfold takeG
    have hek := h.ends k hk
    split
    · rename_i hc
      obtain ⟨rfl, hc⟩ := hc
      obtain ⟨hbm, hbe⟩ := hb hc
      refine ⟨by omega, by omega, by omega⟩
    · split
      · rename_i e
        subst e
        refine ⟨by omega, by omega, by omega⟩
      · exact h.size k hk
  · have hk : k < m := by omega
    unfold takeG at gk gl ⊢
    by_cases cl : l = b ∧ E i - G i < a
    · rw [if_pos cl] at gl ⊢
      obtain ⟨rfl, hc⟩ := cl
      obtain ⟨hbm, hbe⟩ := hb hc
      have hli := hbi hc
      rw [if_neg (by omega), if_neg (by omega)] at gk
      have := h.apart k i (by omega) hi gk hGi
      omega
    · rw [if_neg cl] at gl ⊢
      by_cases ck : k = b ∧ E i - G i < a
      · obtain ⟨rfl, hc⟩ := ck
        obtain ⟨hbm, hbe⟩ := hb hc
        have hki := hbi hc
        by_cases e : l = i
        · rw [if_pos e] at gl ⊢
          subst e
          omega
        · rw [if_neg e] at gl ⊢
          rcases Nat.lt_trichotomy l i with e2 | e2 | e2
          · have := h.apart l i e2 hi gl hGi
            have := h.rise k l hkl hl
            omega
          · exact absurd e2 e
          · have := h.apart i l e2 hl hGi gl
            have := h.rise k i hki hi
            omega
      · rw [if_neg ck] at gk
        by_cases e : l = i
        · rw [if_pos e] at gl ⊢
          subst e
          rw [if_neg (by omega)] at gk
          have := h.apart k l hkl hl gk hGi
          omega
        · rw [if_neg e] at gl ⊢
          by_cases e2 : k = i
          · subst e2
            exact h.apart k l hkl hl hGi gl
          · rw [if_neg e2] at gk
            exact h.apart k l hkl hl gk gl
  · have hold := h.free p q hq
    have split' : fitP (P ++ [(a, n)]) low high p q = true ↔ fitP P low high p q = true ∧ (p + q ≤ a ∨ a + n ≤ p) := by
      simp only [fitP_iff, List.mem_append, List.mem_singleton]
      constructor
      · rintro ⟨a1, a2, a3⟩
        refine ⟨⟨a1, a2, fun x hx => a3 x (.inl hx)⟩, ?_⟩
        exact (metP_false hn hq).1 (a3 _ (.inr rfl))
      · rintro ⟨⟨a1, a2, a3⟩, a4⟩
        refine ⟨a1, a2, fun x hx => ?_⟩
        rcases hx with hx | rfl
        · exact a3 x hx
        · exact (metP_false hn hq).2 a4
    rw [split', hold]
    constructor
    · rintro ⟨⟨k, hk, k1, k2⟩, hd⟩
      by_cases e : k = i
      · subst e
        rcases hd with hd | hd
        · have hc : E k - G k < a := by omega
          obtain ⟨hbm, hbe⟩ := hb hc
          refine ⟨b, hbm, ?_, by omega⟩
          unfold takeG
          rw [if_pos ⟨rfl, hc⟩]
          omega
        · refine ⟨k, hk, ?_, k2⟩
          unfold takeG
          rw [if_neg (fun hc => by have := hbi hc.2; omega), if_pos rfl]
          omega
      · refine ⟨k, hk, ?_, k2⟩
        unfold takeG
        rw [if_neg (fun hc => by have := hG0 k hk hc; omega), if_neg e]
        exact k1
    · rintro ⟨k, hk, k1, k2⟩
      unfold takeG at k1
      by_cases ck : k = b ∧ E i - G i < a
      · rw [if_pos ck] at k1
        obtain ⟨rfl, hc⟩ := ck
        obtain ⟨hbm, hbe⟩ := hb hc
        exact ⟨⟨i, hi, by omega, by omega⟩, .inl (by omega)⟩
      · rw [if_neg ck] at k1
        by_cases e : k = i
        · rw [if_pos e] at k1
          subst e
          exact ⟨⟨k, hk, by omega, k2⟩, .inr (by omega)⟩
        · rw [if_neg e] at k1
          refine ⟨⟨k, hk, k1, k2⟩, ?_⟩
          have gk : 0 < G k := by omega
          rcases Nat.lt_trichotomy k i with e2 | e2 | e2
          · have := h.apart k i e2 hi gk hGi
            exact .inl (by omega)
          · exact absurd e2 e
          · have := h.apart i k e2 hk hGi gk
            exact .inr (by omega)
/-- All is free at the beginning. -/
theorem Gap.new {low high : Int} {m : Nat} {E : Nat → Int} (h0 : 0 < m) (hl : low % 64 = 0) (hlast : E (m - 1) = high) (hr : ∀ i j, i < j → j < m → E i < E j) (he : ∀ i, i < m → E i % 64 = 0 ∧ low ≤ E i) : Gap [] low high m E (fun k => if k = m - 1 then high - low else 0) := by
  have hle : ∀ i, i < m → E i ≤ high := fun i hi => by
    by_cases e : i = m - 1
    · subst e; omega
    · have := hr i (m - 1) (by omega) (by omega)
      omega
  refine ⟨h0, hlast, hr, fun i hi => ⟨(he i hi).1, (he i hi).2, hle i hi⟩, fun i hi => ?_, fun i j hij hj gi gj => ?_, fun p n hn => ?_⟩
  · have h1 := he i hi
    have h2 := he (m - 1) (by omega)
    show 0 ≤ (if i = m - 1 then high - low else 0) ∧ (if i = m - 1 then high - low else 0) % 64 = 0 ∧ low ≤ E i - (if i = m - 1 then high - low else 0)
    split
    · rename_i e
      subst e
      omega
    · omega
  · have : i = m - 1 := by
      by_cases e : i = m - 1
      · exact e
      · have gi' : 0 < (if i = m - 1 then high - low else 0) := gi
        rw [if_neg e] at gi'
        omega
    omega
  · rw [fitP_iff]
    constructor
    · rintro ⟨a, b, -⟩
      refine ⟨m - 1, by omega, ?_, by omega⟩
      show E (m - 1) - (if m - 1 = m - 1 then high - low else 0) ≤ p
      rw [if_pos rfl]
      omega
    · rintro ⟨k, hk, a, b⟩
      have a' : E k - (if k = m - 1 then high - low else 0) ≤ p := a
      have hk2 := he k hk
      have hk3 := hle k hk
      refine ⟨?_, by omega, fun x hx => by cases hx⟩
      split at a'
      · rename_i e
        subst e
        omega
      · omega
end Go.Proofs.Ytfoapghjloblnab
