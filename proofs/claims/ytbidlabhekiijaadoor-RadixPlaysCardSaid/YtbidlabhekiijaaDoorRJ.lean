/- Tables in a pool, of no program: what a store, a frame taken, a frame given back do to them. -/
import Derived.Test.YtbidlabhekiijaaDoorRH
namespace Go.Proofs.YtbidlabhekiijaaDoor
open Go.RowKit
set_option linter.unusedVariables false

/-- Tables lie in the pool's frames: these tables, with these entries; of all other frames R tells how often they are held, RS their bytes. -/
structure Lay (X : Pol) (R : Nat → Int) (RS : Nat → ByteArray) (F : Nat → Nat → Nat) (tab : Nat → Nat → Prop) (E : Nat → Nat → Sl) : Prop where
  lt : ∀ i q, i < 4 → tab i q → F i q < X.H.length
  one : ∀ i q, i < 4 → tab i q → X.H.getD (F i q) 0 = 1
  apart : ∀ i q j r, i < 4 → j < 4 → tab i q → tab j r → F i q = F j r → i = j ∧ q = r
  word : ∀ i q d, i < 4 → tab i q → d < 8 → wd (X.S.getD (F i q) ⟨#[]⟩) d = (E (i + 1) (8 * q + d)).pack
  zero : ∀ i q, i < 4 → tab i q → R (F i q) = 0
  rest : ∀ f, f < X.H.length → (∀ i q, i < 4 → tab i q → F i q ≠ f) → X.H.getD f 0 = R f
  byt : ∀ f, f < X.H.length → R f ≠ 0 → X.S.getD f ⟨#[]⟩ = RS f
/-- The pool's rows are as they should be. -/
structure Fit (X : Pol) : Prop where
  all : All64 X.S
  len : X.S.length = X.H.length
theorem Pl.fit {w : World} {p h g : Nat} {X : Pol} (a : Pl w p h g X) : Fit X := ⟨a.all, a.lenS⟩

theorem Fit.size {X : Pol} (h : Fit X) {f : Nat} (hf : f < X.H.length) : (X.S.getD f ⟨#[]⟩).size = 64 := by
  have hk : f < X.S.length := by rw [h.len]; exact hf
  have e : X.S.getD f ⟨#[]⟩ = X.S[f] := by simp [List.getD, hk]
  rw [e]
  exact h.all _ (List.getElem_mem hk)
theorem getD_set {α : Type} (l : List α) (k f : Nat) (x d : α) (hk : k < l.length) : (l.set k x).getD f d = if f = k then x else l.getD f d := by
  by_cases h : f = k
  · subst h
    rw [if_pos rfl]
    simp [List.getD, hk]
  · rw [if_neg h]
    simp [List.getD, Ne.symm h]

/-- The pool of which a word was stored. -/
def Pol.stW (X : Pol) (f d : Nat) (x : Int) : Pol := { X with S := X.S.set f (setW (X.S.getD f ⟨#[]⟩) d x) }
theorem askE_getD {H : List Int} {f : Nat} (hf : f < H.length) (h : H.getD f 0 ≠ 0) : askE H f = 0 := by
  have e : H.getD f 0 = H[f] := by simp [List.getD, hf]
  rw [askE_in hf, if_neg (by rw [← e]; exact h)]
theorem wdE_held {H : List Int} {f d : Nat} (hf : f < H.length) (h : H.getD f 0 ≠ 0) (hd : d < 8) : wdE H f ((8 * d : Nat) : Int) 4 = 0 := by
  unfold wdE
  rw [if_pos (askE_getD hf h), wid4, if_neg (by decide), if_pos (by rw [inn_iff]; omega)]
theorem stX_word {X : Pol} {f d : Nat} {x : Int} (hf : f < X.H.length) (h : X.H.getD f 0 ≠ 0) (hd : d < 8) : X.stX f ((8 * d : Nat) : Int) 4 x = X.stW f d x := by
  unfold Pol.stX Pol.stW
  rw [if_pos (wdE_held hf h hd)]
  rfl
theorem Fit.stW {X : Pol} (h : Fit X) {f d : Nat} {x : Int} (hf : f < X.H.length) : Fit (X.stW f d x) :=
  ⟨h.all.set_ (setW_size (h.size hf)), by simp [Pol.stW, h.len]⟩

def updE (E : Nat → Nat → Sl) (i q : Nat) (s : Sl) : Nat → Nat → Sl := fun j r => if j = i ∧ r = q then s else E j r
def updF (F : Nat → Nat → Nat) (i q f : Nat) : Nat → Nat → Nat := fun j r => if j = i ∧ r = q then f else F j r
section
variable {X : Pol} {R : Nat → Int} {RS : Nat → ByteArray} {F : Nat → Nat → Nat} {tab : Nat → Nat → Prop} {E : Nat → Nat → Sl}
theorem Lay.store (L : Lay X R RS F tab E) (ft : Fit X) {i q d : Nat} (hi : i < 4) (hq : tab i q) (hd : d < 8) (s : Sl) : Lay (X.stW (F i q) d s.pack) R RS F tab (updE E (i + 1) (8 * q + d) s) := by
  have hlt := L.lt i q hi hq
  have hltS : F i q < X.S.length := by rw [ft.len]; exact hlt
  have hp := s.pack_range
  refine ⟨L.lt, L.one, L.apart, ?_, L.zero, L.rest, ?_⟩
  · intro j r e hj hr he
    unfold Pol.stW updE
    simp only
    rw [getD_set _ _ _ _ _ hltS]
    by_cases hf : F j r = F i q
    · obtain ⟨rfl, rfl⟩ := L.apart j r i q hj hi hr hq hf
      rw [if_pos rfl, wd_setW (ft.size hlt) hd he hp.1 (by omega)]
      by_cases hde : e = d
      · subst hde
        rw [if_pos rfl, if_pos ⟨rfl, rfl⟩]
      · rw [if_neg hde, if_neg (by omega), L.word j r e hj hr he]
    · rw [if_neg hf, L.word j r e hj hr he, if_neg]
      rintro ⟨h1, h2⟩
      have : j = i := by omega
      subst this
      have : r = q := by omega
      subst this
      exact hf rfl
  · intro f hf hR
    unfold Pol.stW
    simp only
    rw [getD_set _ _ _ _ _ hltS, if_neg (fun e => hR (by rw [e]; exact L.zero i q hi hq)), L.byt f hf hR]
/-- The pool of which a frame that was held once was given back. -/
def Pol.drF (X : Pol) (f : Nat) : Pol := { X with H := X.H.set f 0 }
theorem addX_drop {X : Pol} {f : Nat} (hf : f < X.H.length) (h : X.H.getD f 0 = 1) : X.addX f (-1) = X.drF f ∧ askE X.H f = 0 := by
  have e : X.H.getD f 0 = X.H[f] := by simp [List.getD, hf]
  rw [e] at h
  have ha : askE X.H f = 0 := by rw [askE_in hf, if_neg (by omega)]
  refine ⟨?_, ha⟩
  rw [Pol.addX_in hf (by omega)]
  unfold Pol.drF
  rw [h, show wrap64 (1 + -1) = 0 by decide +kernel]
theorem Lay.drop (L : Lay X R RS F tab E) {i q : Nat} (hi : i < 4) (hq : tab i q) : Lay (X.drF (F i q)) R RS F (fun j r => tab j r ∧ ¬ (j = i ∧ r = q)) E := by
  have hlt := L.lt i q hi hq
  have hg : ∀ f, (X.drF (F i q)).H.getD f 0 = if f = F i q then 0 else X.H.getD f 0 := fun f => getD_set _ _ _ _ _ hlt
  have hl : (X.drF (F i q)).H.length = X.H.length := by simp [Pol.drF]
  refine ⟨fun j r hj hr => by rw [hl]; exact L.lt j r hj hr.1, fun j r hj hr => ?_, fun j r j' r' hj hj' hr hr' => L.apart j r j' r' hj hj' hr.1 hr'.1, fun j r e hj hr he => L.word j r e hj hr.1 he, fun j r hj hr => L.zero j r hj hr.1, fun f hf hn => ?_, fun f hf hR => L.byt f (by rwa [hl] at hf) hR⟩
  · rw [hg, if_neg (fun e => hr.2 (L.apart j r i q hj hi hr.1 hq e)), L.one j r hj hr.1]
  · rw [hl] at hf
    rw [hg]
    by_cases hfe : f = F i q
    · rw [if_pos hfe, hfe, L.zero i q hi hq]
    · rw [if_neg hfe]
      refine L.rest f hf fun j r hj hr e => ?_
      by_cases h : j = i ∧ r = q
      · obtain ⟨rfl, rfl⟩ := h
        exact hfe e.symm
      · exact hn j r hj ⟨hr, h⟩ e
theorem Fit.drF {X : Pol} (h : Fit X) (f : Nat) : Fit (X.drF f) := ⟨h.all, by simp [Pol.drF, h.len]⟩
/-- The pool of which a free frame was taken. -/
def Pol.taF (X : Pol) (f : Nat) : Pol := ⟨X.H.set f 1, X.S.set f zsec⟩
theorem Fit.taF {X : Pol} (h : Fit X) (f : Nat) : Fit (X.taF f) := ⟨h.all.set_ zsec_size, by simp [Pol.taF, h.len]⟩
theorem Lay.take (L : Lay X R RS F tab E) (ft : Fit X) {f i q : Nat} (hf : f < X.H.length) (h0 : X.H.getD f 0 = 0) (hi : i < 4) (hq : ¬ tab i q) (hE : ∀ d, d < 8 → E (i + 1) (8 * q + d) = Sl.zero) :
    Lay (X.taF f) R RS (updF F i q f) (fun j r => tab j r ∨ (j = i ∧ r = q)) E := by
  have hfS : f < X.S.length := by rw [ft.len]; exact hf
  have hg : ∀ k, (X.taF f).H.getD k 0 = if k = f then 1 else X.H.getD k 0 := fun k => getD_set _ _ _ _ _ hf
  have hs : ∀ k, (X.taF f).S.getD k ⟨#[]⟩ = if k = f then zsec else X.S.getD k ⟨#[]⟩ := fun k => getD_set _ _ _ _ _ hfS
  have hl : (X.taF f).H.length = X.H.length := by simp [Pol.taF]
  have hn : ∀ j r, j < 4 → tab j r → F j r ≠ f := fun j r hj hr e => by
    have := L.one j r hj hr
    rw [e, h0] at this
    cases this
  have hR : R f = 0 := by rw [← L.rest f hf hn, h0]
  have hu : ∀ j r, tab j r → updF F i q f j r = F j r := fun j r hr => by
    unfold updF
    rw [if_neg]
    rintro ⟨rfl, rfl⟩
    exact hq hr
  have hv : updF F i q f i q = f := by unfold updF; rw [if_pos ⟨rfl, rfl⟩]
  refine ⟨?_, ?_, ?_, ?_, ?_, ?_, ?_⟩
  · rintro j r hj (hr | ⟨rfl, rfl⟩)
    · rw [hu j r hr, hl]; exact L.lt j r hj hr
    · rw [hv, hl]; exact hf
  · rintro j r hj (hr | ⟨rfl, rfl⟩)
    · rw [hu j r hr, hg, if_neg (hn j r hj hr)]; exact L.one j r hj hr
    · rw [hv, hg, if_pos rfl]
  · rintro j r j' r' hj hj' (hr | ⟨rfl, rfl⟩) (hr' | ⟨rfl, rfl⟩) e
    · rw [hu j r hr, hu j' r' hr'] at e; exact L.apart j r j' r' hj hj' hr hr' e
    · rw [hu j r hr, hv] at e; exact absurd e (hn j r hj hr)
    · rw [hu j' r' hr', hv] at e; exact absurd e.symm (hn j' r' hj' hr')
    · exact ⟨rfl, rfl⟩
  · rintro j r d hj (hr | ⟨rfl, rfl⟩) hd
    · rw [hu j r hr, hs, if_neg (hn j r hj hr)]; exact L.word j r d hj hr hd
    · rw [hv, hs, if_pos rfl, zsec_wd hd, hE d hd]; rfl
  · rintro j r hj (hr | ⟨rfl, rfl⟩)
    · rw [hu j r hr]; exact L.zero j r hj hr
    · rw [hv]; exact hR
  · intro k hk hnk
    rw [hl] at hk
    have hkf : k ≠ f := fun e => hnk i q hi (.inr ⟨rfl, rfl⟩) (by rw [hv, e])
    rw [hg, if_neg hkf]
    exact L.rest k hk fun j r hj hr e => hnk j r hj (.inl hr) (by rw [hu j r hr]; exact e)
  · intro k hk hRk
    rw [hl] at hk
    rw [hs, if_neg (fun e => hRk (by rw [e]; exact hR))]
    exact L.byt k hk hRk
theorem Lay.congr (L : Lay X R RS F tab E) {G : Nat → Nat → Nat} {tab' : Nat → Nat → Prop} {E' : Nat → Nat → Sl} (h1 : ∀ i q, i < 4 → (tab' i q ↔ tab i q)) (h2 : ∀ i q, i < 4 → E' (i + 1) q = E (i + 1) q) (h3 : ∀ i q, i < 4 → tab i q → G i q = F i q) : Lay X R RS G tab' E' := by
  refine ⟨fun i q hi hq => ?_, fun i q hi hq => ?_, fun i q j r hi hj hq hr e => ?_, fun i q d hi hq hd => ?_, fun i q hi hq => ?_, fun f hf hn => L.rest f hf fun i q hi hq e => ?_, L.byt⟩
  · rw [h3 i q hi ((h1 i q hi).1 hq)]; exact L.lt i q hi ((h1 i q hi).1 hq)
  · rw [h3 i q hi ((h1 i q hi).1 hq)]; exact L.one i q hi ((h1 i q hi).1 hq)
  · rw [h3 i q hi ((h1 i q hi).1 hq), h3 j r hj ((h1 j r hj).1 hr)] at e; exact L.apart i q j r hi hj ((h1 i q hi).1 hq) ((h1 j r hj).1 hr) e
  · rw [h3 i q hi ((h1 i q hi).1 hq), h2 i _ hi]; exact L.word i q d hi ((h1 i q hi).1 hq) hd
  · rw [h3 i q hi ((h1 i q hi).1 hq)]; exact L.zero i q hi ((h1 i q hi).1 hq)
  · exact hn i q hi ((h1 i q hi).2 hq) (by rw [h3 i q hi hq]; exact e)
end

/-- A table of its own, with these entries, lies in the pool; of all other frames R and RS tell. -/
structure Own7 (X : Pol) (root : Nat) (M : Nat → Sl) (F : Nat → Nat → Nat) (R : Nat → Int) (RS : Nat → ByteArray) : Prop where
  ents : Ents M
  root : F 0 0 = root
  lay : Lay X R RS F (tabl M) (ent M F)
theorem Own7.tbl {X : Pol} {root : Nat} {M : Nat → Sl} {F : Nat → Nat → Nat} {R : Nat → Int} {RS : Nat → ByteArray} (T : Own7 X root M F R RS) : Tbl X root M F := by
  refine ⟨T.ents, T.root, fun i q hi hq => ⟨T.lay.lt i q hi hq, ?_⟩, T.lay.apart, T.lay.word⟩
  have h := T.lay.one i q hi hq
  have hlt := T.lay.lt i q hi hq
  simpa [List.getD, hlt] using h

/-- The entries, of which one is another one. -/
def setM (M : Nat → Sl) (P : Nat) (s : Sl) : Nat → Sl := fun p => if p = P then s else M p
theorem setM_same (M : Nat → Sl) (P : Nat) (s : Sl) : setM M P s P = s := if_pos rfl
theorem setM_other {M : Nat → Sl} {P p : Nat} {s : Sl} (h : p ≠ P) : setM M P s p = M p := if_neg h
theorem Ents.setM {M : Nat → Sl} (h : Ents M) {P : Nat} (hP : P < 4096) {s : Sl} (hs : s.Ok) : Ents (setM M P s) :=
  ⟨fun p => by unfold Proofs.YtbidlabhekiijaaDoor.setM; split; exact hs; exact h.ok p, fun p hp => by rw [setM_other (by omega)]; exact h.far p hp⟩
theorem live_other {M : Nat → Sl} {P i q : Nat} {s : Sl} (hq : q ≠ pre P i) : live (setM M P s) i q ↔ live M i q := by
  constructor <;> rintro ⟨p, rfl, hp⟩
  · have hne : p ≠ P := by rintro rfl; exact hq rfl
    exact ⟨p, rfl, by rwa [setM_other hne] at hp⟩
  · have hne : p ≠ P := by rintro rfl; exact hq rfl
    exact ⟨p, rfl, by rwa [setM_other hne]⟩
theorem live_set {M : Nat → Sl} {P : Nat} {s : Sl} (hs : s ≠ Sl.zero) (i : Nat) : live (setM M P s) i (pre P i) := ⟨P, rfl, by rwa [setM_same]⟩
end Go.Proofs.YtbidlabhekiijaaDoor

/- What grow does, of no program. -/
namespace Go.Proofs.YtbidlabhekiijaaDoor
open Go.RowKit
set_option linter.unusedVariables false

/-- The tables there are when those of a page's way from K to i were taken; the entries, when those that lead there were written. -/
def growT (M : Nat → Sl) (P K i : Nat) : Nat → Nat → Prop := fun j r => tabl M j r ∨ (K ≤ j ∧ j < i ∧ r = pre P j)
noncomputable def growE (M : Nat → Sl) (F G : Nat → Nat → Nat) (P K i : Nat) : Nat → Nat → Sl := fun j r => if K ≤ j ∧ j < i ∧ r = pre P j then ⟨true, false, false, false, (G j (pre P j) : Nat)⟩ else ent M F j r

/-- While tables are taken: so far to i. -/
structure Taking (X : Pol) (R : Nat → Int) (RS : Nat → ByteArray) (M : Nat → Sl) (F G : Nat → Nat → Nat) (P K i free : Nat) : Prop where
  lay : Lay X R RS G (growT M P K i) (ent M F)
  agree : ∀ j r, j < 4 → tabl M j r → G j r = F j r
  free : freeN X.H + (i - K) = free

theorem ent_below_zero {M : Nat → Sl} {F : Nat → Nat → Nat} {P i : Nat} (hi : i < 4) (h : ¬ live M i (pre P i)) {d : Nat} (hd : d < 8) : ent M F (i + 1) (8 * pre P i + d) = Sl.zero := by
  rw [ent_zero (by omega)]
  intro hl
  have := live_up hi hl
  rw [show (8 * pre P i + d) / 8 = pre P i by omega] at this
  exact h this
theorem freeN_set : ∀ {H : List Int} {k : Nat}, k < H.length → H.getD k 0 = 0 → freeN (H.set k 1) + 1 = freeN H
  | x :: l, 0, _, h => by
    have hx : x = 0 := by simpa using h
    subst hx
    simp [freeN]
  | x :: l, k + 1, hk, h => by
    have ih := freeN_set (H := l) (k := k) (by simpa using hk) (by simpa using h)
    unfold freeN at *
    rw [List.set_cons_succ, List.countP_cons, List.countP_cons]
    omega
theorem freeN_some : ∀ {H : List Int}, freeAt H < H.length ↔ 0 < freeN H
  | [] => by simp [freeAt, freeN]
  | x :: l => by
    have ih := freeN_some (H := l)
    unfold freeN at *
    by_cases hx : x = 0
    · subst hx
      simp [freeAt]
    · rw [freeAt, if_neg hx, List.countP_cons, if_neg (by simpa using hx), List.length_cons]
      omega
theorem Taking.start {X : Pol} {R : Nat → Int} {RS : Nat → ByteArray} {M : Nat → Sl} {F : Nat → Nat → Nat} {root : Nat} (T : Own7 X root M F R RS) (P K : Nat) : Taking X R RS M F F P K K (freeN X.H) :=
  ⟨T.lay.congr (fun i q hi => ⟨fun h => h.resolve_right (fun e => by omega), .inl⟩) (fun _ _ _ => rfl) (fun _ _ _ _ => rfl), fun _ _ _ _ => rfl, by omega⟩
theorem Taking.step {X : Pol} {R : Nat → Int} {RS : Nat → ByteArray} {M : Nat → Sl} {F G : Nat → Nat → Nat} {P K i free : Nat} (T : Taking X R RS M F G P K i free) (ft : Fit X) (hK : kn M P = K) (hi : K ≤ i) (h4 : i < 4) (hf : freeAt X.H < X.H.length) :
    Taking X.tkX R RS M F (updF G i (pre P i) (freeAt X.H)) P K (i + 1) free ∧ Fit X.tkX ∧ ∀ j, j < i → updF G i (pre P i) (freeAt X.H) j (pre P j) = G j (pre P j) := by
  have e : X.tkX = X.taF (freeAt X.H) := by unfold Pol.tkX Pol.taF; rw [if_pos hf]
  have h0 : X.H.getD (freeAt X.H) 0 = 0 := by
    have := freeAt_zero? hf
    simp [List.getD, this]
  have hd := kn_dead (M := M) (p := P) (i := i) (by omega) h4
  have hk1 := (kn_range M P).1
  have hq : ¬ growT M P K i i (pre P i) := by
    rintro (h | ⟨_, h, _⟩)
    · exact hd ((tabl_pos (by omega)).1 h)
    · omega
  rw [e]
  refine ⟨⟨?_, ?_, ?_⟩, ft.taF _, ?_⟩
  · refine (T.lay.take ft hf h0 h4 hq (fun d hd' => ent_below_zero h4 hd hd')).congr (fun j r hj => ?_) (fun _ _ _ => rfl) (fun _ _ _ _ => rfl)
    unfold growT
    constructor
    · rintro (h | ⟨h1, h2, h3⟩)
      · exact .inl (.inl h)
      · by_cases hji : j = i
        · subst hji; exact .inr ⟨rfl, h3⟩
        · exact .inl (.inr ⟨h1, by omega, h3⟩)
    · rintro ((h | ⟨h1, h2, h3⟩) | ⟨rfl, rfl⟩)
      · exact .inl h
      · exact .inr ⟨h1, by omega, h3⟩
      · exact .inr ⟨hi, by omega, rfl⟩
  · intro j r hj hr
    unfold updF
    rw [if_neg, T.agree j r hj hr]
    rintro ⟨rfl, rfl⟩
    exact hq (.inl hr)
  · have := freeN_set hf h0
    have := T.free
    show freeN (X.H.set _ 1) + _ = _
    omega
  · intro j hj
    unfold updF
    rw [if_neg (by omega)]
/-- One of the tables that were taken is given back. -/
structure Giving (X : Pol) (R : Nat → Int) (RS : Nat → ByteArray) (M : Nat → Sl) (F G : Nat → Nat → Nat) (P k i : Nat) : Prop where
  lay : Lay X R RS G (growT M P k i) (ent M F)
  agree : ∀ j r, j < 4 → tabl M j r → G j r = F j r
theorem Giving.step {X : Pol} {R : Nat → Int} {RS : Nat → ByteArray} {M : Nat → Sl} {F G : Nat → Nat → Nat} {P k i : Nat} (T : Giving X R RS M F G P k i) (hK : kn M P ≤ k) (hi : k < i) (h4 : i ≤ 4) :
    X.addX (G k (pre P k) : Nat) (-1) = X.drF (G k (pre P k)) ∧ askE X.H (G k (pre P k) : Nat) = 0 ∧ Giving (X.addX (G k (pre P k) : Nat) (-1)) R RS M F G P (k + 1) i := by
  have hin : growT M P k i k (pre P k) := .inr ⟨Nat.le_refl _, hi, rfl⟩
  have hd := kn_dead (M := M) (p := P) (i := k) hK (by omega)
  have hk1 := (kn_range M P).1
  have e := addX_drop (T.lay.lt k _ (by omega) hin) (T.lay.one k _ (by omega) hin)
  refine ⟨e.1, e.2, ?_, T.agree⟩
  rw [e.1]
  refine (T.lay.drop (by omega) hin).congr (fun j r hj => ?_) (fun _ _ _ => rfl) (fun _ _ _ _ => rfl)
  unfold growT
  constructor
  · rintro (h | ⟨h1, h2, h3⟩)
    · exact ⟨.inl h, by rintro ⟨rfl, rfl⟩; exact hd ((tabl_pos (by omega)).1 h)⟩
    · exact ⟨.inr ⟨by omega, h2, h3⟩, by omega⟩
  · rintro ⟨h | ⟨h1, h2, h3⟩, hn⟩
    · exact .inl h
    · refine .inr ⟨?_, h2, h3⟩
      rcases Nat.lt_or_ge k j with h | h
      · exact h
      · obtain rfl : j = k := by omega
        exact absurd ⟨rfl, h3⟩ hn
theorem Giving.done {X : Pol} {R : Nat → Int} {RS : Nat → ByteArray} {M : Nat → Sl} {F G : Nat → Nat → Nat} {P i root : Nat} (T : Giving X R RS M F G P i i) (hM : Ents M) (hr : F 0 0 = root) : Own7 X root M F R RS :=
  ⟨hM, hr, T.lay.congr (fun j r hj => ⟨.inl, fun h => h.resolve_right (fun e => by omega)⟩) (fun _ _ _ => rfl) (fun j r hj h => (T.agree j r hj (h.resolve_right (fun e => by omega))).symm)⟩

/-- While the entries that lead to new tables are written. -/
structure Putting (X : Pol) (R : Nat → Int) (RS : Nat → ByteArray) (M : Nat → Sl) (F G : Nat → Nat → Nat) (P K i : Nat) : Prop where
  lay : Lay X R RS G (growT M P K 4) (growE M F G P K i)
  agree : ∀ j r, j < 4 → tabl M j r → G j r = F j r
theorem grow_way {M : Nat → Sl} {P K i : Nat} (hK : kn M P = K) (hP : P < 4096) (hi : i < 4) : growT M P K 4 i (pre P i) := by
  rcases Nat.lt_or_ge i K with h | h
  · left
    rcases Nat.eq_zero_or_pos i with h0 | h0
    · subst h0; exact .inl ⟨rfl, pre_zero hP⟩
    · exact .inr (kn_live (by omega) h0)
  · exact .inr ⟨h, hi, rfl⟩
theorem Putting.start {X : Pol} {R : Nat → Int} {RS : Nat → ByteArray} {M : Nat → Sl} {F G : Nat → Nat → Nat} {P K free : Nat} (T : Taking X R RS M F G P K 4 free) : Putting X R RS M F G P K K :=
  ⟨T.lay.congr (fun _ _ _ => Iff.rfl) (fun i q _ => by unfold growE; rw [if_neg (by omega)]) (fun _ _ _ _ => rfl), T.agree⟩
theorem Putting.step {X : Pol} {R : Nat → Int} {RS : Nat → ByteArray} {M : Nat → Sl} {F G : Nat → Nat → Nat} {P K i : Nat} (T : Putting X R RS M F G P K (i + 1)) (ft : Fit X) (hK : kn M P = K) (hP : P < 4096) (hi : K ≤ i + 1) (h4 : i + 1 < 4) :
    X.stX (G i (pre P i) : Nat) ((8 * dig P i : Nat) : Int) 4 (Sl.mk true false false false (G (i + 1) (pre P (i + 1)) : Nat)).pack = X.stW (G i (pre P i)) (dig P i) (Sl.mk true false false false (G (i + 1) (pre P (i + 1)) : Nat)).pack ∧
    Putting (X.stX (G i (pre P i) : Nat) ((8 * dig P i : Nat) : Int) 4 (Sl.mk true false false false (G (i + 1) (pre P (i + 1)) : Nat)).pack) R RS M F G P K (i + 2) := by
  have hin := grow_way hK hP (show i < 4 by omega)
  have hlt := T.lay.lt i _ (by omega) hin
  have e := stX_word (x := (Sl.mk true false false false (G (i + 1) (pre P (i + 1)) : Nat)).pack) hlt (by rw [T.lay.one i _ (by omega) hin]; decide) (dig_lt P i)
  refine ⟨e, ?_, T.agree⟩
  rw [e]
  refine (T.lay.store ft (by omega) hin (dig_lt P i) _).congr (fun _ _ _ => Iff.rfl) (fun j r hj => ?_) (fun _ _ _ _ => rfl)
  rw [← pre_succ P i (by omega)]
  unfold updE
  unfold growE
  by_cases h : j + 1 = i + 1 ∧ r = pre P (i + 1)
  · obtain ⟨h1, rfl⟩ := h
    obtain rfl : j = i := by omega
    rw [if_pos ⟨by omega, by omega, rfl⟩, if_pos ⟨rfl, rfl⟩]
  · rw [if_neg h]
    by_cases h2 : K ≤ j + 1 ∧ j + 1 < i + 1 ∧ r = pre P (j + 1)
    · rw [if_pos h2, if_pos ⟨h2.1, by omega, h2.2.2⟩]
    · rw [if_neg h2, if_neg]
      rintro ⟨h3, h4, h5⟩
      by_cases h6 : j = i
      · subst h6; exact h ⟨rfl, h5⟩
      · exact h2 ⟨h3, by omega, h5⟩
theorem Putting.done {X : Pol} {R : Nat → Int} {RS : Nat → ByteArray} {M : Nat → Sl} {F G : Nat → Nat → Nat} {P K root : Nat} (T : Putting X R RS M F G P K 4) (ft : Fit X) (hM : Ents M) (hr : F 0 0 = root) (hK : kn M P = K) (hP : P < 4096) {s : Sl} (hs : s.may = true) :
    X.stX (G 3 (pre P 3) : Nat) ((8 * dig P 3 : Nat) : Int) 4 s.pack = X.stW (G 3 (pre P 3)) (dig P 3) s.pack ∧ wdE X.H (G 3 (pre P 3) : Nat) ((8 * dig P 3 : Nat) : Int) 4 = 0 ∧ Own7 (X.stX (G 3 (pre P 3) : Nat) ((8 * dig P 3 : Nat) : Int) 4 s.pack) root (setM M P s) G R RS := by
  have hin := grow_way hK hP (show 3 < 4 by omega)
  have hlt := T.lay.lt 3 _ (by omega) hin
  have hne : X.H.getD (G 3 (pre P 3)) 0 ≠ 0 := by rw [T.lay.one 3 _ (by omega) hin]; decide
  have e := stX_word (x := s.pack) hlt hne (dig_lt P 3)
  have hsz := Sl.may_ne hs
  refine ⟨e, wdE_held hlt hne (dig_lt P 3), hM.setM hP (.inr hs), ?_, ?_⟩
  · rw [T.agree 0 0 (by omega) (.inl ⟨rfl, rfl⟩), hr]
  · rw [e]
    refine (T.lay.store ft (by omega) hin (dig_lt P 3) _).congr (fun i q hi => ?_) (fun i q hi => ?_) (fun _ _ _ _ => rfl)
    · by_cases hq : q = pre P i
      · subst hq
        exact ⟨fun _ => grow_way hK hP hi, fun _ => .inr (live_set hsz i)⟩
      · unfold tabl growT tabl
        rw [live_other hq]
        exact ⟨.inl, fun h => h.resolve_right fun e => hq e.2.2⟩
    · rw [← pre_succ P 3 (by omega), pre_four]
      unfold updE growE
      by_cases h4 : i = 3
      · subst h4
        rw [ent_page]
        by_cases hq : q = P
        · rw [if_pos ⟨rfl, hq⟩, hq, setM_same]
        · rw [if_neg (by omega), if_neg (by omega), ent_page, setM_other hq]
      · rw [if_neg (by omega)]
        have ag : ∀ r, live M (i + 1) r → G (i + 1) r = F (i + 1) r := fun r h => T.agree _ _ (by omega) (.inr h)
        by_cases hq : q = pre P (i + 1)
        · subst hq
          rw [ent_live (by omega) (live_set hsz (i + 1))]
          by_cases hk : K ≤ i + 1
          · rw [if_pos ⟨hk, by omega, rfl⟩]
          · have hl := kn_live (M := M) (p := P) (i := i + 1) (by omega) (by omega)
            rw [if_neg (by omega), ent_live (by omega) hl, ag _ hl]
        · rw [if_neg (fun h => hq h.2.2)]
          by_cases hl : live M (i + 1) q
          · rw [ent_live (by omega) hl, ent_live (by omega) ((live_other hq).2 hl), ag _ hl]
          · rw [ent_dead (by omega) hl, ent_dead (by omega) (fun h => hl ((live_other hq).1 h))]
end Go.Proofs.YtbidlabhekiijaaDoor
