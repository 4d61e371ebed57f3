/- Layer 13 (of no program): what follows of a row of steps. -/
import Derived.Test.YtfoapghjloblnabIa
namespace Go.Proofs.Ytfoapghjloblnab
set_option linter.unusedVariables false
set_option linter.unusedSimpArgs false

theorem goP_consX (low high : Int) (P : List (Int × Int)) (x : Int × Int) (l : List (Int × Int)) : goP low high P (x :: l) = match stepP P low high x with
    | none => none
    | some a => goP low high (P ++ [(a, rndP x.1)]) l := rfl
/-- Each thing stands where its step says. -/
theorem goP_at (low high : Int) : ∀ (l P0 P : List (Int × Int)), goP low high P0 l = some P → P0 = P.take P0.length ∧ P.length = P0.length + l.length ∧
    ∀ i x, l[i]? = some x → ∃ a, P[P0.length + i]? = some (a, rndP x.1) ∧ stepP (P.take (P0.length + i)) low high x = some a
  | [], P0, P, h => by
    have h : some P0 = some P := h
    injection h with h
    subst h
    exact ⟨by simp, by simp, fun i x hx => by simp at hx⟩
  | y :: l, P0, P, h => by
    rw [goP_consX] at h
    cases hs : stepP P0 low high y with
    | none => rw [hs] at h; cases h
    | some a =>
      rw [hs] at h
      obtain ⟨h1, h2, h3⟩ := goP_at low high l _ P h
      rw [List.length_append, List.length_singleton] at h1 h2 h3
      have e0 : P0 = P.take P0.length := by
        have := congrArg (List.take P0.length) h1
        rw [List.take_left' rfl, List.take_take, Nat.min_eq_left (by omega)] at this
        exact this
      refine ⟨e0, by simp; omega, fun i x hx => ?_⟩
      cases i with
      | zero =>
        have hx : y = x := by simpa using hx
        subst hx
        refine ⟨a, ?_, by rw [Nat.add_zero, ← e0]; exact hs⟩
        have := congrArg (fun q : List (Int × Int) => q[P0.length]?) h1
        rw [List.getElem?_append_right (Nat.le_refl _), Nat.sub_self, List.getElem?_take, if_pos (by omega)] at this
        rw [Nat.add_zero, ← this]
        rfl
      | succ i =>
        obtain ⟨b, g1, g2⟩ := h3 i x (by simpa using hx)
        have e : P0.length + 1 + i = P0.length + (i + 1) := by omega
        rw [e] at g1 g2
        exact ⟨b, g1, g2⟩
/-- Such a row is in the room, at whole pages. -/
theorem goP_whole {low high : Int} (hl : low % 64 = 0) : ∀ (l P0 P : List (Int × Int)), (∀ x ∈ l, thingP x = true) → WholeP P0 low high → goP low high P0 l = some P → WholeP P low high
  | [], P0, P, _, hw, h => by
    have h : some P0 = some P := h
    injection h with h
    rw [← h]
    exact hw
  | y :: l, P0, P, ht, hw, h => by
    rw [goP_consX] at h
    cases hs : stepP P0 low high y with
    | none => rw [hs] at h; cases h
    | some a =>
      rw [hs] at h
      exact goP_whole hl l _ P (fun x hx => ht x (List.mem_cons_of_mem _ hx)) (hw.push hl (ht y (List.mem_cons_self ..)) hs) h
/-- What follows: in the room, whole pages, none meets another one ahead; what is liked is had. -/
structure FolP (low high : Int) (l P : List (Int × Int)) : Prop where
  len : P.length = l.length
  size : ∀ i (h : i < P.length) (h2 : i < l.length), P[i].2 = rndP l[i].1
  inr : ∀ i (h : i < P.length), P[i].1 % 64 = 0 ∧ low ≤ P[i].1 ∧ P[i].1 + P[i].2 ≤ high
  apart : ∀ i k (h : i < P.length) (hk : k < i), ¬ (P[i].1 < P[k].1 + P[k].2 ∧ P[k].1 < P[i].1 + P[i].2)
  like : ∀ i (h : i < P.length) (h2 : i < l.length), likeP (P.take i) low high l[i] = true → P[i].1 = l[i].2
  step : ∀ i (h : i < P.length) (h2 : i < l.length), stepP (P.take i) low high l[i] = some P[i].1
theorem goP_fol {low high : Int} {l P : List (Int × Int)} (hl : low % 64 = 0) (ht : ∀ x ∈ l, thingP x = true) (h : goP low high [] l = some P) : FolP low high l P := by
  obtain ⟨-, h2, h3⟩ := goP_at low high l [] P h
  have hw := goP_whole hl l [] P ht (fun x hx => by cases hx) h
  simp only [List.length_nil, Nat.zero_add] at h2 h3
  have key : ∀ i (hi : i < P.length) (hi2 : i < l.length), P[i].2 = rndP l[i].1 ∧ stepP (P.take i) low high l[i] = some P[i].1 := fun i hi hi2 => by
    obtain ⟨a, g1, g2⟩ := h3 i l[i] (List.getElem?_eq_getElem hi2)
    rw [List.getElem?_eq_getElem hi] at g1
    injection g1 with g1
    rw [g1]
    exact ⟨rfl, g2⟩
  refine ⟨h2, fun i hi hi2 => (key i hi hi2).1, fun i hi => ?_, fun i k hi hk => ?_, fun i hi hi2 hlk => ?_, fun i hi hi2 => (key i hi hi2).2⟩
  · have := hw _ (List.getElem_mem hi)
    exact ⟨this.1, this.2.2.2.1, this.2.2.2.2⟩
  · obtain ⟨e1, e2⟩ := key i hi (by omega)
    have hwt : WholeP (P.take i) low high := fun x hx => hw x (List.mem_of_mem_take hx)
    obtain ⟨f1, f2⟩ := stepP_fit hwt hl (ht _ (List.getElem_mem (show i < l.length by omega))) e2
    obtain ⟨-, -, f3⟩ := fitP_iff.1 f2
    have hk2 : k < P.length := by omega
    have hm := f3 P[k] (List.mem_take_iff_getElem.2 ⟨k, by omega, rfl⟩)
    have h4 := hw _ (List.getElem_mem hk2)
    have h5 := hw _ (List.getElem_mem hi)
    rw [← e1] at hm
    have := (metP_false (a := P[k].1) (b := P[i].1) h4.2.2.1 h5.2.2.1).1 hm
    omega
  · have e2 := (key i hi hi2).2
    unfold stepP at e2
    rw [if_pos hlk] at e2
    injection e2 with e2
    exact e2.symm

/-! One behind the other. -/
structure ContP (P : List (Int × Int)) (low high a : Int) : Prop where
  whole : WholeP P low high
  free : ∀ p n, 0 < n → (fitP P low high p n = true ↔ a ≤ p ∧ p + n ≤ high)
theorem fit_push {P : List (Int × Int)} {low high a n p q : Int} (hn : 0 < n) (hq : 0 < q) : fitP (P ++ [(a, n)]) low high p q = true ↔ fitP P low high p q = true ∧ (p + q ≤ a ∨ a + n ≤ p) := by
  simp only [fitP_iff, List.mem_append, List.mem_singleton]
  constructor
  · rintro ⟨a1, a2, a3⟩
    refine ⟨⟨a1, a2, fun x hx => a3 x (.inl hx)⟩, ?_⟩
    exact (metP_false hn hq).1 (a3 _ (.inr rfl))
  · rintro ⟨⟨a1, a2, a3⟩, a4⟩
    refine ⟨a1, a2, fun x hx => ?_⟩
    rcases hx with hx | rfl
    · exact a3 x hx
    · exact (metP_false hn hq).2 a4
theorem ContP.start (low high : Int) : ContP [] low high low := ⟨fun x hx => (by cases hx), fun p n hn => by rw [fitP_iff]; simp⟩
theorem ContP.step {P : List (Int × Int)} {low high a : Int} (h : ContP P low high a) (hl : low % 64 = 0) (ha : a % 64 = 0) (hla : low ≤ a) {x : Int × Int} (hx : thingP x = true) (h0 : x.2 = 0) :
    (a + rndP x.1 ≤ high → stepP P low high x = some a ∧ ContP (P ++ [(a, rndP x.1)]) low high (a + rndP x.1)) ∧ (high < a + rndP x.1 → stepP P low high x = none) := by
  have hb : 1 ≤ x.1 ∧ x.1 ≤ 1099511627776 := by
    unfold thingP at hx
    simp only [Bool.and_eq_true, decide_eq_true_eq, and_assoc] at hx
    exact ⟨hx.1, hx.2.1⟩
  have hr := rndP_pos hb.1 hb.2
  have hs : stepP P low high x = freeP P low high (rndP x.1) := by
    unfold stepP likeP
    rw [h0]
    rfl
  rw [hs]
  constructor
  · intro hle
    have hf : freeP P low high (rndP x.1) = some a := by
      rw [freeP_some h.whole hl (by omega)]
      exact ⟨(h.free a _ (by omega)).2 ⟨Int.le_refl _, hle⟩, fun p hp => ((h.free p _ (by omega)).1 hp).1⟩
    refine ⟨hf, ⟨h.whole.push hl hx (by rw [hs]; exact hf), fun p n hn => ?_⟩⟩
    rw [fit_push (by omega) hn, h.free p n hn]
    omega
  · intro hgt
    rw [freeP_none h.whole hl (by omega)]
    intro p
    rw [Bool.eq_false_iff]
    intro hp
    have := (h.free p _ (by omega)).1 hp
    omega
/-- Where they stand; where the last one ends. -/
def contL : Int → List Int → List Int
  | _, [] => []
  | a, n :: l => a :: contL (a + rndP n) l
def contE : Int → List Int → Int
  | a, [] => a
  | a, n :: l => contE (a + rndP n) l
theorem contE_le : ∀ (l : List Int) (a : Int), (∀ n ∈ l, 0 ≤ rndP n) → a ≤ contE a l
  | [], a, _ => Int.le_refl _
  | n :: l, a, h => by
    have h1 := h n (List.mem_cons_self ..)
    have h2 := contE_le l (a + rndP n) (fun m hm => h m (List.mem_cons_of_mem _ hm))
    show a ≤ contE (a + rndP n) l
    omega
theorem contL_snoc : ∀ (l : List Int) (a n : Int), contL a (l ++ [n]) = contL a l ++ [contE a l] ∧ contE a (l ++ [n]) = contE a l + rndP n
  | [], a, n => ⟨rfl, rfl⟩
  | m :: l, a, n => by
    obtain ⟨h1, h2⟩ := contL_snoc l (a + rndP m) n
    exact ⟨by show a :: contL (a + rndP m) (l ++ [n]) = _; rw [h1]; rfl, h2⟩
theorem contL_length : ∀ (l : List Int) (a : Int), (contL a l).length = l.length
  | [], _ => rfl
  | n :: l, a => by show (contL (a + rndP n) l).length + 1 = l.length + 1; rw [contL_length]
theorem cont_go {low high : Int} (hl : low % 64 = 0) : ∀ (l : List Int) (P : List (Int × Int)) (a : Int), (∀ n ∈ l, 1 ≤ n ∧ n ≤ 1099511627776) → ContP P low high a → a % 64 = 0 → low ≤ a →
    (contE a l ≤ high → ∃ Q, goP low high P (l.map fun n => (n, 0)) = some Q ∧ Q.map Prod.fst = P.map Prod.fst ++ contL a l) ∧ (high < contE a l → a ≤ high → goP low high P (l.map fun n => (n, 0)) = none)
  | [], P, a, _, _, _, _ => ⟨fun _ => ⟨P, rfl, by simp [contL]⟩, fun h h2 => by have h : high < a := h; omega⟩
  | n :: l, P, a, hn, h, ha, hla => by
    have hnb := hn n (List.mem_cons_self ..)
    have hx : thingP (n, 0) = true := by unfold thingP; simp; omega
    have hr := rndP_pos hnb.1 hnb.2
    obtain ⟨s1, s2⟩ := h.step hl ha hla hx rfl
    have hrest : ∀ m ∈ l, 0 ≤ rndP m := fun m hm => by have := hn m (List.mem_cons_of_mem _ hm); have := rndP_pos this.1 this.2; omega
    have hce := contE_le l (a + rndP n) hrest
    have e0 : goP low high P ((n :: l).map fun n => (n, 0)) = match stepP P low high (n, 0) with
      | none => none
      | some b => goP low high (P ++ [(b, rndP n)]) (l.map fun n => (n, 0)) := rfl
    constructor
    · intro hle
      have hle : contE (a + rndP n) l ≤ high := hle
      obtain ⟨t1, t2⟩ := s1 (by show a + rndP n ≤ high; omega)
      obtain ⟨u1, -⟩ := cont_go hl l (P ++ [(a, rndP n)]) (a + rndP n) (fun m hm => hn m (List.mem_cons_of_mem _ hm)) t2 (by omega) (by omega)
      obtain ⟨Q, q1, q2⟩ := u1 hle
      rw [e0, t1]
      refine ⟨Q, q1, ?_⟩
      rw [q2, List.map_append, List.append_assoc]
      rfl
    · intro hgt hah
      have hgt : high < contE (a + rndP n) l := hgt
      rw [e0]
      by_cases hle : a + rndP n ≤ high
      · obtain ⟨t1, t2⟩ := s1 hle
        obtain ⟨-, u2⟩ := cont_go hl l (P ++ [(a, rndP n)]) (a + rndP n) (fun m hm => hn m (List.mem_cons_of_mem _ hm)) t2 (by omega) (by omega)
        rw [t1]
        exact u2 hgt hle
      · rw [s2 (by show high < a + rndP n; omega)]

/-! There is room for all. -/
theorem low_go {high : Int} (hh9 : high ≤ 1099511627776) : ∀ (l P : List (Int × Int)) (z : Int), (∀ x ∈ l, 1 ≤ x.1 ∧ x.1 ≤ 256 ∧ 0 ≤ x.2 ∧ x.2 + 256 ≤ z) → WholeP P 0 high → (∀ x ∈ P, x.1 + x.2 ≤ z) → z % 64 = 0 → 0 ≤ z → z + 256 * l.length ≤ high → ∃ Q, goP 0 high P l = some Q
  | [], P, z, _, _, _, _, _, _ => ⟨P, rfl⟩
  | x :: l, P, z, hx, hw, hP, hz, hz0, hh => by
    have hxb := hx x (List.mem_cons_self ..)
    have hlen : ((x :: l).length : Int) = (l.length : Int) + 1 := by simp
    rw [hlen] at hh
    have hr := rndP_pos hxb.1 (show x.1 ≤ 1099511627776 by omega)
    have hrz : rndP x.1 ≤ 256 := by omega
    have ht : thingP x = true := by unfold thingP; simp; omega
    have hfz : fitP P 0 high z (rndP x.1) = true := by
      rw [fitP_iff]
      refine ⟨hz0, by omega, fun y hy => ?_⟩
      have := hw y hy
      rw [metP_false this.2.2.1 (by omega)]
      exact .inr (hP y hy)
    have hst : ∃ a, stepP P 0 high x = some a ∧ a + rndP x.1 ≤ z + 256 := by
      unfold stepP
      by_cases hl : likeP P 0 high x = true
      · rw [if_pos hl]
        exact ⟨_, rfl, by omega⟩
      · rw [if_neg hl]
        cases hf : freeP P 0 high (rndP x.1) with
        | none =>
          have := (freeP_none hw (by decide) (by omega)).1 hf z
          rw [hfz] at this
          cases this
        | some b =>
          have := ((freeP_some hw (by decide) (by omega)).1 hf).2 z hfz
          exact ⟨b, rfl, by omega⟩
    obtain ⟨a, hs, haz⟩ := hst
    rw [goP_consX, hs]
    refine low_go hh9 l _ (z + 256) (fun y hy => ?_) (hw.push (by decide) ht hs) (fun y hy => ?_) (by omega) (by omega) (by omega)
    · have := hx y (List.mem_cons_of_mem _ hy)
      omega
    · rcases List.mem_append.1 hy with hy | hy
      · have := hP y hy; omega
      · rw [List.mem_singleton.1 hy]; exact haz
end Go.Proofs.Ytfoapghjloblnab
