/- Rows of regions, pure: which regions may be, what a page has, rows put together, and that of each set of pages there is one row. -/
import Derived.Test.YtmknkdfdkanijaaBase
namespace Go.Proofs.Ytmknkdfdkanijaa
set_option linter.unusedVariables false
set_option linter.unusedSimpArgs false

/-- A region: From, To, Perm, Kind, File, Page. -/
@[ext] structure Rg where
  f : Int
  t : Int
  p : Int
  k : Int
  fl : Int
  pg : Int
deriving DecidableEq

def Rg.v (r : Rg) : Value := .agg #[.int .i64 r.f, .int .i64 r.t, .int .i64 r.p, .int .i64 r.k, .int .i64 r.fl, .int .i64 r.pg]
/-- Its numbers are ints. -/
structure Rg.Wf (r : Rg) : Prop where
  f : (Lit.int .i64 r.f).wf = true
  t : (Lit.int .i64 r.t).wf = true
  p : (Lit.int .i64 r.p).wf = true
  k : (Lit.int .i64 r.k).wf = true
  fl : (Lit.int .i64 r.fl).wf = true
  pg : (Lit.int .i64 r.pg).wf = true

/-- A region that may be. -/
structure Rg.May (r : Rg) : Prop where
  f : 0 ≤ r.f
  ft : r.f < r.t
  t : r.t ≤ 4096
  p0 : 0 ≤ r.p
  p7 : r.p ≤ 7
  kind : (r.k = 1 ∧ 0 ≤ r.fl ∧ r.fl ≤ 9223372036854775807 ∧ 0 ≤ r.pg ∧ r.pg + (r.t - r.f) ≤ 1073741824) ∨ ((r.k = 2 ∨ r.k = 3 ∨ r.k = 4) ∧ r.fl = -1 ∧ r.pg = 0)

theorem wf64 {n : Int} (h0 : -9223372036854775808 ≤ n) (h1 : n ≤ 9223372036854775807) : (Lit.int .i64 n).wf = true := by
  have e : (Lit.int .i64 n).wf = (decide (-9223372036854775808 ≤ n) && decide (n ≤ 9223372036854775807)) := rfl
  rw [e]; simp [h0, h1]

theorem Rg.May.wf {r : Rg} (h : r.May) : r.Wf := by
  obtain ⟨h1, h2, h3, h4, h5, h6⟩ := h
  constructor <;> apply wf64 <;> omega

/-- What a region goes on with, from a page on. -/
def Rg.pgAt (r : Rg) (x : Int) : Int := if r.k = 1 then r.pg + (x - r.f) else r.pg
def Rg.part (r : Rg) (a b : Int) : Rg := ⟨a, b, r.p, r.k, r.fl, r.pgAt a⟩
/-- Does b go on where a ends? -/
def oneR (a b : Rg) : Prop := b = a.part a.t b.t
instance (a b : Rg) : Decidable (oneR a b) := by unfold oneR; infer_instance

/-- What a page has: Perm, Kind, File, Page. -/
abbrev Inf := Int × Int × Int × Int
def Rg.inf (r : Rg) (x : Int) : Inf := (r.p, r.k, r.fl, r.pgAt x)
def Rg.at_ (r : Rg) (x : Int) : Option Inf := if r.f ≤ x ∧ x < r.t then some (r.inf x) else none
def atL : List Rg → Int → Option Inf
  | [], _ => none
  | r :: l, x => (r.at_ x).or (atL l x)

theorem atL_append (l m : List Rg) (x : Int) : atL (l ++ m) x = (atL l x).or (atL m x) := by
  induction l with
  | nil => simp [atL]
  | cons r l ih => simp [atL, ih, Option.or_assoc]

theorem Rg.at_none {r : Rg} {x : Int} (h : x < r.f ∨ r.t ≤ x) : r.at_ x = none := by
  unfold Rg.at_; rw [if_neg (by omega)]
theorem Rg.at_some {r : Rg} {x : Int} (h0 : r.f ≤ x) (h1 : x < r.t) : r.at_ x = some (r.inf x) := by
  unfold Rg.at_; rw [if_pos ⟨h0, h1⟩]

/-- Regions that may be, each where the one ahead ends, or behind. -/
structure Asc (l : List Rg) : Prop where
  may : ∀ r ∈ l, r.May
  asc : l.Pairwise fun a b => a.t ≤ b.f

/-- A row that may be. -/
structure RowP (l : List Rg) : Prop where
  asc : Asc l
  no : ∀ i (h : i + 1 < l.length), ¬ oneR l[i] l[i + 1]

theorem Asc.nil : Asc [] := ⟨by simp, by simp⟩
theorem RowP.nil : RowP [] := ⟨Asc.nil, by simp⟩
theorem Asc.tail {r : Rg} {l : List Rg} (h : Asc (r :: l)) : Asc l := ⟨fun x hx => h.may x (by simp [hx]), (List.pairwise_cons.1 h.asc).2⟩
theorem Asc.head {r : Rg} {l : List Rg} (h : Asc (r :: l)) : r.May := h.may r (by simp)
theorem Asc.ahead {r : Rg} {l : List Rg} (h : Asc (r :: l)) : ∀ x ∈ l, r.t ≤ x.f := (List.pairwise_cons.1 h.asc).1
theorem Asc.left {l m : List Rg} (h : Asc (l ++ m)) : Asc l := ⟨fun x hx => h.may x (by simp [hx]), (List.pairwise_append.1 h.asc).1⟩
theorem Asc.right {l m : List Rg} (h : Asc (l ++ m)) : Asc m := ⟨fun x hx => h.may x (by simp [hx]), (List.pairwise_append.1 h.asc).2.1⟩
theorem Asc.mid {l m : List Rg} (h : Asc (l ++ m)) : ∀ a ∈ l, ∀ b ∈ m, a.t ≤ b.f := (List.pairwise_append.1 h.asc).2.2
theorem RowP.tail {r : Rg} {l : List Rg} (h : RowP (r :: l)) : RowP l := ⟨h.asc.tail, fun i hi => h.no (i + 1) (by simpa using hi)⟩

theorem atL_none {l : List Rg} {x : Int} (h : ∀ r ∈ l, x < r.f ∨ r.t ≤ x) : atL l x = none := by
  induction l with
  | nil => rfl
  | cons r l ih => simp [atL, Rg.at_none (h r (by simp)), ih fun q hq => h q (by simp [hq])]

theorem atL_some {l : List Rg} {x : Int} {i : Inf} (h : atL l x = some i) : ∃ r ∈ l, r.f ≤ x ∧ x < r.t ∧ i = r.inf x := by
  induction l with
  | nil => simp [atL] at h
  | cons r l ih =>
    unfold atL at h
    by_cases hr : r.f ≤ x ∧ x < r.t
    · rw [Rg.at_some hr.1 hr.2] at h
      exact ⟨r, by simp, hr.1, hr.2, by simpa using h.symm⟩
    · rw [Rg.at_none (by omega)] at h
      obtain ⟨q, hq, h1⟩ := ih (by simpa using h)
      exact ⟨q, by simp [hq], h1⟩

theorem Asc.at_ {l : List Rg} (h : Asc l) {r : Rg} (hr : r ∈ l) {x : Int} (h0 : r.f ≤ x) (h1 : x < r.t) : atL l x = some (r.inf x) := by
  induction l with
  | nil => simp at hr
  | cons q l ih =>
    unfold atL
    rcases List.mem_cons.1 hr with rfl | hr
    · rw [Rg.at_some h0 h1]; rfl
    · have := h.ahead r hr
      rw [Rg.at_none (by right; omega), ih h.tail hr]; rfl

theorem Asc.le4096 {l : List Rg} (h : Asc l) {x : Int} {i : Inf} (e : atL l x = some i) : 0 ≤ x ∧ x < 4096 := by
  obtain ⟨r, hr, h0, h1, _⟩ := atL_some e
  have := h.may r hr
  have := this.f; have := (h.may r hr).t
  omega

/-- Of each set of pages there is one row. -/
theorem RowP.uniq {l m : List Rg} (hl : RowP l) (hm : RowP m) (h : ∀ x, atL l x = atL m x) : l = m := by
  induction l generalizing m with
  | nil =>
    cases m with
    | nil => rfl
    | cons b m =>
      have hb := hm.asc.head
      have h1 := hm.asc.at_ (r := b) (by simp) (Int.le_refl _) hb.ft
      rw [← h b.f] at h1
      simp [atL] at h1
  | cons a l ih =>
    cases m with
    | nil =>
      have ha := hl.asc.head
      have h1 := hl.asc.at_ (r := a) (by simp) (Int.le_refl _) ha.ft
      rw [h a.f] at h1
      simp [atL] at h1
    | cons b m =>
      have ha := hl.asc.head
      have hb := hm.asc.head
      have begin_ : ∀ {a b : Rg} {l m : List Rg}, RowP (a :: l) → RowP (b :: m) → (∀ x, atL (a :: l) x = atL (b :: m) x) → b.f ≤ a.f := by
        intro a b l m hl hm h
        by_cases hlt : b.f ≤ a.f
        · exact hlt
        · exfalso
          have h1 := hl.asc.at_ (r := a) (by simp) (Int.le_refl _) hl.asc.head.ft
          rw [h a.f] at h1
          obtain ⟨r, hr, h2, h3, _⟩ := atL_some h1
          rcases List.mem_cons.1 hr with rfl | hr
          · omega
          · have := hm.asc.ahead r hr
            have := hm.asc.head.ft
            omega
      have hf : a.f = b.f := Int.le_antisymm (begin_ hm hl fun x => (h x).symm) (begin_ hl hm h)
      have e1 := hl.asc.at_ (r := a) (by simp) (Int.le_refl _) ha.ft
      have e2 := hm.asc.at_ (r := b) (x := a.f) (by simp) (by omega) (by have := hb.ft; omega)
      rw [h a.f, e2] at e1
      have e3 : b.inf a.f = a.inf a.f := by simpa using e1
      have e4 : b.p = a.p ∧ b.k = a.k ∧ b.fl = a.fl ∧ b.pg = a.pg := by
        have e5 := e3
        unfold Rg.inf Rg.pgAt at e5
        simp only [Prod.mk.injEq] at e5
        obtain ⟨x1, x2, x3, x4⟩ := e5
        refine ⟨x1, x2, x3, ?_⟩
        rw [x2] at x4
        split at x4 <;> omega
      have end_ : ∀ {a b : Rg} {l m : List Rg}, RowP (a :: l) → RowP (b :: m) → (∀ x, atL (a :: l) x = atL (b :: m) x) → a.f = b.f → (b.p = a.p ∧ b.k = a.k ∧ b.fl = a.fl ∧ b.pg = a.pg) → b.t ≤ a.t := by
        intro a b l m hl hm h hf ⟨x1, x2, x3, x4⟩
        by_cases hlt : b.t ≤ a.t
        · exact hlt
        · exfalso
          have hat := hl.asc.head.ft
          have h1 := hm.asc.at_ (r := b) (x := a.t) (by simp) (by omega) (by omega)
          rw [← h a.t] at h1
          unfold atL at h1
          rw [Rg.at_none (by right; omega)] at h1
          have h2 : atL l a.t = some (b.inf a.t) := by simpa using h1
          cases l with
          | nil => simp [atL] at h2
          | cons c l =>
            obtain ⟨r, hr, h3, h4, h5⟩ := atL_some h2
            have hac := hl.asc.ahead c (by simp)
            have hr' : r = c := by
              rcases List.mem_cons.1 hr with rfl | hr
              · rfl
              · have := hl.asc.tail.ahead r hr
                have := hl.asc.tail.head.ft
                omega
            subst hr'
            have hcf : r.f = a.t := by omega
            refine hl.no 0 (by simp) ?_
            show r = a.part a.t r.t
            unfold Rg.inf Rg.pgAt at h5
            simp only [Prod.mk.injEq] at h5
            obtain ⟨y1, y2, y3, y4⟩ := h5
            unfold Rg.part Rg.pgAt
            ext
            · exact hcf
            · rfl
            · show r.p = a.p; omega
            · show r.k = a.k; omega
            · show r.fl = a.fl; omega
            · show r.pg = if a.k = 1 then a.pg + (a.t - a.f) else a.pg
              split at y4 <;> split at y4 <;> split <;> omega
      have ht : a.t = b.t := Int.le_antisymm (end_ hm hl (fun x => (h x).symm) hf.symm ⟨e4.1.symm, e4.2.1.symm, e4.2.2.1.symm, e4.2.2.2.symm⟩) (end_ hl hm h hf e4)
      have hab : a = b := by
        obtain ⟨x1, x2, x3, x4⟩ := e4
        ext <;> omega
      subst hab
      rw [ih hl.tail hm.tail fun x => ?_]
      by_cases hx : a.t ≤ x
      · have := h x
        unfold atL at this
        rw [Rg.at_none (.inr hx)] at this
        simpa using this
      · rw [atL_none fun r hr => .inl (by have := hl.asc.ahead r hr; omega), atL_none fun r hr => .inl (by have := hm.asc.ahead r hr; omega)]

/-- One region more is put behind a row. -/
def push (l : List Rg) (r : Rg) : List Rg :=
  if r.t ≤ r.f then l else
  match l.getLast? with
  | none => l ++ [r]
  | some a => if oneR a r then l.dropLast ++ [{ a with t := r.t }] else l ++ [r]
def putAll (l : List Rg) (m : List Rg) : List Rg := m.foldl push l
theorem putAll_cons (l : List Rg) (r : Rg) (m : List Rg) : putAll l (r :: m) = putAll (push l r) m := rfl
theorem putAll_append (l m n : List Rg) : putAll l (m ++ n) = putAll (putAll l m) n := by unfold putAll; rw [List.foldl_append]

/-- All of a row end there, or ahead. -/
def EndsBy (l : List Rg) (b : Int) : Prop := ∀ a ∈ l, a.t ≤ b

theorem Asc.snoc {l : List Rg} {r : Rg} (h : Asc l) (hr : r.May) (hb : EndsBy l r.f) : Asc (l ++ [r]) := by
  refine ⟨fun x hx => ?_, List.pairwise_append.2 ⟨h.asc, by simp, fun a ha b hbm => ?_⟩⟩
  · rcases List.mem_append.1 hx with h1 | h1
    · exact h.may x h1
    · simp at h1; exact h1 ▸ hr
  · simp at hbm; subst hbm; exact hb a ha

/-- What is put behind a row joins it. -/
theorem RowP.push {l : List Rg} {r : Rg} (h : RowP l) (hr : r.May) (hb : EndsBy l r.f) : RowP (push l r) ∧ (∀ x, atL (Go.Proofs.Ytmknkdfdkanijaa.push l r) x = (atL l x).or (r.at_ x)) ∧ EndsBy (Go.Proofs.Ytmknkdfdkanijaa.push l r) r.t := by
  have hft := hr.ft
  unfold Go.Proofs.Ytmknkdfdkanijaa.push
  rw [if_neg (by omega)]
  rcases List.eq_nil_or_concat l with rfl | ⟨m, a, rfl⟩
  · simp only [List.getLast?_nil, List.nil_append]
    refine ⟨⟨Asc.snoc Asc.nil hr (by intro a ha; simp at ha), by simp⟩, fun x => by simp [atL], fun a ha => ?_⟩
    simp at ha; subst ha; exact Int.le_refl _
  · rw [List.concat_eq_append] at *
    simp only [List.getLast?_append, List.getLast?_singleton, Option.some_or, Option.or_some]
    have ha : a.May := h.asc.may a (by simp)
    have hma : ∀ x ∈ m, x.t ≤ a.f := fun x hx => h.asc.mid x hx a (by simp)
    split
    · rename_i h1
      have hone : r = a.part a.t r.t := h1
      have rf : r.f = a.t := by rw [hone]; rfl
      have rp : r.p = a.p := by rw [hone]; rfl
      have rk : r.k = a.k := by rw [hone]; rfl
      have rl : r.fl = a.fl := by rw [hone]; rfl
      have rpg : r.pg = a.pgAt a.t := by rw [hone]; rfl
      have hd : (m ++ [a]).dropLast = m := by simp
      rw [hd]
      have haft := ha.ft
      have hnew : Rg.May { a with t := r.t } := by
        refine ⟨ha.f, by show a.f < r.t; omega, hr.t, ha.p0, ha.p7, ?_⟩
        have h2 := hr.kind
        have h3 := ha.kind
        show (a.k = 1 ∧ 0 ≤ a.fl ∧ a.fl ≤ 9223372036854775807 ∧ 0 ≤ a.pg ∧ a.pg + (r.t - a.f) ≤ 1073741824) ∨ _
        rw [rk, rl, rpg, rf] at h2
        unfold Rg.pgAt at h2
        rcases h3 with ⟨k1, h3⟩ | h3
        · rw [if_pos k1] at h2
          left
          refine ⟨k1, h3.1, h3.2.1, h3.2.2.1, ?_⟩
          rcases h2 with h2 | h2 <;> omega
        · right; exact h3
      refine ⟨⟨Asc.snoc h.asc.left hnew fun x hx => hma x hx, fun i hi => ?_⟩, fun x => ?_, fun x hx => ?_⟩
      · rcases Nat.lt_or_ge (i + 1) m.length with hlt | hge
        · have := h.no i (by simp; omega)
          rw [List.getElem_append_left (by omega), List.getElem_append_left (by omega)] at this ⊢
          exact this
        · have hi' : i + 1 = m.length := by simp at hi; omega
          have := h.no i (by simp; omega)
          rw [List.getElem_append_left (by omega), List.getElem_append_right (by omega)] at this ⊢
          simp only [hi', Nat.sub_self, List.getElem_cons_zero] at this ⊢
          intro h4
          refine this ?_
          unfold oneR Rg.part at h4 ⊢
          have h5 := congrArg Rg.f h4
          have h6 := congrArg Rg.p h4
          have h7 := congrArg Rg.k h4
          have h8 := congrArg Rg.fl h4
          have h9 := congrArg Rg.pg h4
          exact Rg.ext h5 rfl h6 h7 h8 h9
      · rw [atL_append, atL_append, Option.or_assoc]
        congr 1
        show (Rg.at_ { a with t := r.t } x).or none = ((a.at_ x).or none).or (r.at_ x)
        simp only [Option.or_none]
        by_cases x1 : a.f ≤ x ∧ x < a.t
        · rw [Rg.at_some (r := a) x1.1 x1.2, Rg.at_some (r := { a with t := r.t }) x1.1 (by show x < r.t; omega)]; rfl
        · rw [Rg.at_none (r := a) (by omega)]
          by_cases x2 : r.f ≤ x ∧ x < r.t
          · rw [Rg.at_some (r := r) x2.1 x2.2, Rg.at_some (r := { a with t := r.t }) (by show a.f ≤ x; omega) x2.2]
            show some _ = some _
            congr 1
            unfold Rg.inf
            rw [rp, rk, rl]
            show (_, _, _, (if a.k = 1 then a.pg + (x - a.f) else a.pg)) = (_, _, _, (if r.k = 1 then r.pg + (x - r.f) else r.pg))
            rw [rpg, rk, rf]
            unfold Rg.pgAt
            split
            · simp only [Prod.mk.injEq, true_and]; omega
            · rfl
          · rw [Rg.at_none (r := r) (by omega), Rg.at_none (r := { a with t := r.t }) (by show x < a.f ∨ r.t ≤ x; omega)]; rfl
      · rcases List.mem_append.1 hx with h1 | h1
        · have := hma x h1; have := hr.ft; omega
        · simp at h1; subst h1; exact Int.le_refl _
    · rename_i h1
      refine ⟨⟨Asc.snoc h.asc hr hb, fun i hi => ?_⟩, fun x => ?_, fun x hx => ?_⟩
      · rcases Nat.lt_or_ge (i + 1) (m ++ [a]).length with hlt | hge
        · have := h.no i hlt
          rw [List.getElem_append_left (bs := [r]) (show i < (m ++ [a]).length by omega), List.getElem_append_left (bs := [r]) hlt]
          exact this
        · have hi' : i + 1 = (m ++ [a]).length := by simp at hi hge ⊢; omega
          have hi2 : i = m.length := by simp at hi'; omega
          subst hi2
          rw [List.getElem_append_left (bs := [r]) (show m.length < (m ++ [a]).length by simp)]
          simpa using h1
      · rw [atL_append]; simp [atL]
      · rcases List.mem_append.1 hx with h2 | h2
        · have := hb x h2; omega
        · simp at h2; subst h2; exact Int.le_refl _

/-- Nothing is put for a region without pages. -/
theorem push_none {l : List Rg} {r : Rg} (h : r.t ≤ r.f) : push l r = l := by unfold push; rw [if_pos h]

/-- Those that have pages. -/
def full (l : List Rg) : List Rg := l.filter fun r => decide (r.f < r.t)
theorem putAll_full (l m : List Rg) : putAll l m = putAll l (full m) := by
  induction m generalizing l with
  | nil => rfl
  | cons r m ih =>
    rw [putAll_cons]
    unfold full
    by_cases h : r.f < r.t
    · rw [List.filter_cons_of_pos (by simpa using h), putAll_cons]; exact ih _
    · rw [push_none (by omega), List.filter_cons_of_neg (by simpa using h)]; exact ih _

theorem putAll_ok {l m : List Rg} (hl : RowP l) (hm : Asc m) (hb : ∀ a ∈ l, ∀ b ∈ m, a.t ≤ b.f) : RowP (putAll l m) ∧ ∀ x, atL (putAll l m) x = (atL l x).or (atL m x) := by
  induction m generalizing l with
  | nil => exact ⟨hl, fun x => by simp [putAll, atL]⟩
  | cons r m ih =>
    obtain ⟨h1, h2, h3⟩ := hl.push hm.head fun a ha => hb a ha r (by simp)
    obtain ⟨h4, h5⟩ := ih h1 hm.tail fun a ha b hbm => Int.le_trans (h3 a ha) (hm.ahead b hbm)
    refine ⟨h4, fun x => ?_⟩
    rw [putAll_cons, h5, h2, Option.or_assoc]
    rfl

/-- A row put together of regions in their order. -/
def rowOf (m : List Rg) : List Rg := putAll [] m
theorem rowOf_ok {m : List Rg} (hm : Asc (full m)) : RowP (rowOf m) ∧ ∀ x, atL (rowOf m) x = atL (full m) x := by
  unfold rowOf
  rw [putAll_full]
  have := putAll_ok RowP.nil hm (by simp)
  exact ⟨this.1, fun x => by rw [this.2]; simp [atL]⟩
end Go.Proofs.Ytmknkdfdkanijaa
