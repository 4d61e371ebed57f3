/- Package cache: a cache's pages, what is got, what goes, and what stays true; of no program. -/
import Derived.Test.YtmbjflcmbenbdaaDoorPB
namespace Go.Proofs.YtmbjflcmbenbdaaDoor
open Go.RowKit
set_option linter.unusedVariables false
set_option linter.unusedSimpArgs false

/-- A page of the ring: its key (file f, page q), its frame, whether it is fresh. -/
structure Pg where
  f : Int
  q : Int
  fr : Nat
  fresh : Bool
def Pg.key (x : Pg) : Int × Int := (x.f, x.q)
/-- A cache: its pool, its ring, its hand, its hits, its fills. -/
structure Cc where
  X : Pol
  R : List Pg
  hand : Nat
  hits : Nat
  fills : Nat
def newC (n : Nat) : Cc := ⟨newP n, [], 0, 0, 0⟩
/-- The page of a key, if it is there. -/
def pgF (R : List Pg) (f q : Int) : Option Pg := R.find? fun x => x.f == f && x.q == q
/-- The page of a key is there, and is wanted again. -/
def wantL (R : List Pg) (f q : Int) : List Pg := R.map fun x => if x.f = f ∧ x.q = q then { x with fresh := true } else x
def Cc.hit (C : Cc) (x : Pg) : Cc := { C with X := C.X.addX x.fr 1, R := wantL C.R x.f x.q, hits := C.hits + 1 }
/-- A page comes, with these bytes. -/
def Cc.fill (C : Cc) (f q : Int) (d : ByteArray) : Cc :=
  { C with X := ((C.X.tkX).flX (freeAt C.X.H) d).addX (freeAt C.X.H) 1, R := C.R ++ [⟨f, q, freeAt C.X.H, false⟩], fills := C.fills + 1 }
/-- What is fresh is not fresh any more. -/
def staleL (R : List Pg) (f q : Int) : List Pg := R.map fun x => if x.f = f ∧ x.q = q then { x with fresh := false } else x
/-- The page at this place is passed over. -/
def passB (X : Pol) (x : Pg) : Bool := decide (1 < heldI X.H x.fr) || x.fresh
def passL (X : Pol) (R : List Pg) (x : Pg) : List Pg := if 1 < heldI X.H x.fr then R else if x.fresh then staleL R x.f x.q else R
/-- From step i on, m steps: the ring, and the place of the page that goes. -/
def roundC (X : Pol) (hand n : Nat) : Nat → Nat → List Pg → List Pg × Option Nat
  | 0, _, R => (R, none)
  | m + 1, i, R => match R[(hand + i) % n]? with
    | none => (R, none)
    | some x => if passB X x then roundC X hand n m (i + 1) (passL X R x) else (R, some ((hand + i) % n))
/-- The page at a place goes. -/
def Cc.rm (C : Cc) (at_ : Nat) (x : Pg) : Cc := { C with X := C.X.addX x.fr (-1), R := C.R.eraseIdx at_, hand := if at_ = C.R.length - 1 then 0 else at_ }
/-- One is looked for that goes. -/
def Cc.look (C : Cc) : List Pg × Option Nat := roundC C.X C.hand C.R.length (2 * C.R.length) 0 C.R
def Cc.evC (C : Cc) : Cc := match C.look.2 with
  | none => { C with R := C.look.1 }
  | some k => match C.look.1[k]? with
    | none => { C with R := C.look.1 }
    | some x => ({ C with R := C.look.1 } : Cc).rm k x
def Cc.evK (C : Cc) : Option Pg := match C.look.2 with
  | none => none
  | some k => C.look.1[k]?

section
variable {X : Pol} {R : List Pg} {hand n : Nat}
theorem staleL_key (f q : Int) : (staleL R f q).map Pg.key = R.map Pg.key := by
  unfold staleL; rw [List.map_map]; apply List.map_congr_left; intro x _; simp only [Function.comp]; split <;> rfl
theorem staleL_fr (f q : Int) : (staleL R f q).map Pg.fr = R.map Pg.fr := by
  unfold staleL; rw [List.map_map]; apply List.map_congr_left; intro x _; simp only [Function.comp]; split <;> rfl
theorem wantL_key (f q : Int) : (wantL R f q).map Pg.key = R.map Pg.key := by
  unfold wantL; rw [List.map_map]; apply List.map_congr_left; intro x _; simp only [Function.comp]; split <;> rfl
theorem wantL_fr (f q : Int) : (wantL R f q).map Pg.fr = R.map Pg.fr := by
  unfold wantL; rw [List.map_map]; apply List.map_congr_left; intro x _; simp only [Function.comp]; split <;> rfl
theorem passL_key (x : Pg) : (passL X R x).map Pg.key = R.map Pg.key := by unfold passL; split; rfl; split; exact staleL_key _ _; rfl
theorem passL_fr (x : Pg) : (passL X R x).map Pg.fr = R.map Pg.fr := by unfold passL; split; rfl; split; exact staleL_fr _ _; rfl
theorem len_of_key {A B : List Pg} (h : A.map Pg.key = B.map Pg.key) : A.length = B.length := by have := congrArg List.length h; simpa using this
/-- The steps change no page but for what is fresh. -/
theorem roundC_key : ∀ (m i : Nat) (R : List Pg), (roundC X hand n m i R).1.map Pg.key = R.map Pg.key ∧ (roundC X hand n m i R).1.map Pg.fr = R.map Pg.fr
  | 0, _, R => ⟨rfl, rfl⟩
  | m + 1, i, R => by
    unfold roundC
    split
    · exact ⟨rfl, rfl⟩
    · rename_i x hx
      split
      · obtain ⟨h1, h2⟩ := roundC_key m (i + 1) (passL X R x)
        exact ⟨h1.trans (passL_key x), h2.trans (passL_fr x)⟩
      · exact ⟨rfl, rfl⟩
/-- What goes was not passed over. -/
theorem roundC_some : ∀ (m i : Nat) (R : List Pg) (k : Nat), (roundC X hand n m i R).2 = some k → ∃ x, (roundC X hand n m i R).1[k]? = some x ∧ passB X x = false
  | 0, _, R, k, h => by simp [roundC] at h
  | m + 1, i, R, k, h => by
    unfold roundC at h ⊢
    split at h
    · simp at h
    · rename_i x hx
      split at h
      · rename_i hp
        obtain ⟨y, h1, h2⟩ := roundC_some m (i + 1) _ k h
        simp only [hp, if_true]
        exact ⟨y, h1, h2⟩
      · rename_i hp
        simp only [hp]
        simp at h
        subst h
        exact ⟨x, by simpa using hx, by simpa using hp⟩
theorem roundC_succ (m i : Nat) (R : List Pg) : roundC X hand n (m + 1) i R = match R[(hand + i) % n]? with
    | none => (R, none)
    | some x => if passB X x then roundC X hand n m (i + 1) (passL X R x) else (R, some ((hand + i) % n)) := rfl
/-- A run of steps in two. -/
theorem roundC_add : ∀ (a b i : Nat) (R : List Pg), (roundC X hand n a i R).2 = none → (∀ j, (hand + j) % n < R.length) → roundC X hand n (a + b) i R = roundC X hand n b (i + a) (roundC X hand n a i R).1
  | 0, b, i, R, _, _ => by simp [roundC]
  | a + 1, b, i, R, h, hl => by
    rw [show a + 1 + b = (a + b) + 1 by omega, roundC_succ (a + b) i R, roundC_succ a i R]
    rw [roundC_succ a i R] at h
    rw [List.getElem?_eq_getElem (hl i)] at h ⊢
    dsimp only at h ⊢
    split
    · rename_i hp
      rw [if_pos hp] at h
      rw [roundC_add a b (i + 1) _ h (fun j => by rw [len_of_key (passL_key _)]; exact hl j), show i + 1 + a = i + (a + 1) by omega]
    · rename_i hp
      simp [hp] at h
end
section
variable {X : Pol} {hand n : Nat}
/-- Pages whose frames nobody else holds are not fresh: at these places. -/
def Dull (X : Pol) (R : List Pg) (P : Nat → Prop) : Prop := ∀ k x, P k → R[k]? = some x → 1 < heldI X.H x.fr ∨ x.fresh = false
theorem Dull.pass {R : List Pg} {P : Nat → Prop} (h : Dull X R P) (x : Pg) : Dull X (passL X R x) P := by
  unfold passL
  split
  · exact h
  · split
    · intro k y hk hy
      unfold staleL at hy
      rw [List.getElem?_map] at hy
      cases hR : R[k]? with
      | none => rw [hR] at hy; simp at hy
      | some z =>
        rw [hR] at hy
        simp at hy
        have := h k z hk hR
        split at hy
        · subst hy; exact .inr rfl
        · subst hy; exact this
    · exact h
/-- Where none went, the places that were passed are dull. -/
theorem roundC_dull : ∀ (m i : Nat) (R : List Pg) (P : Nat → Prop), (roundC X hand n m i R).2 = none → (∀ j, (hand + j) % n < R.length) → Dull X R P → Dull X (roundC X hand n m i R).1 (fun k => P k ∨ ∃ j, i ≤ j ∧ j < i + m ∧ k = (hand + j) % n)
  | 0, i, R, P, _, _, hd => fun k x hk hx => by
    rcases hk with hk | ⟨j, h1, h2, _⟩
    · exact hd k x hk hx
    · omega
  | m + 1, i, R, P, h, hl, hd => by
    unfold roundC at h ⊢
    rw [List.getElem?_eq_getElem (hl i)] at h ⊢
    simp only at h ⊢
    split
    · rename_i hp
      simp only [hp, if_true] at h
      have hd2 : Dull X (passL X R (R[(hand + i) % n]'(hl i))) (fun k => P k ∨ k = (hand + i) % n) := by
        intro k x hk hx
        rcases hk with hk | hk
        · exact hd.pass _ k x hk hx
        · subst hk
          unfold passL at hx
          unfold passB at hp
          split at hx
          · rename_i h1
            rw [List.getElem?_eq_getElem (hl i)] at hx
            injection hx with hx
            subst hx
            exact .inl h1
          · rename_i h1
            simp [h1] at hp
            rw [if_pos hp] at hx
            unfold staleL at hx
            rw [List.getElem?_map, List.getElem?_eq_getElem (hl i)] at hx
            simp at hx
            subst hx
            exact .inr rfl
      have h3 := roundC_dull m (i + 1) _ _ h (fun j => by rw [len_of_key (passL_key _)]; exact hl j) hd2
      intro k x hk hx
      refine h3 k x ?_ hx
      rcases hk with hk | ⟨j, h1, h2, h4⟩
      · exact .inl (.inl hk)
      · by_cases e : j = i
        · subst e; exact .inl (.inr h4)
        · exact .inr ⟨j, by omega, by omega, h4⟩
    · rename_i hp
      simp [hp] at h
/-- Every place is gone by in a round. -/
theorem all_places {n hand k : Nat} (i : Nat) (hk : k < n) : ∃ j, i ≤ j ∧ j < i + n ∧ k = (hand + j) % n := by
  refine ⟨i + (k + n - (hand + i) % n) % n, by omega, ?_, ?_⟩
  · have := Nat.mod_lt (k + n - (hand + i) % n) (show 0 < n by omega); omega
  · have h1 := Nat.mod_lt (hand + i) (show 0 < n by omega)
    rw [← Nat.add_assoc, Nat.add_mod, Nat.mod_mod]
    generalize (hand + i) % n = r at *
    have e : (r + (k + n - r) % n) % n = (r + (k + n - r)) % n := by
      conv => rhs; rw [Nat.add_mod, Nat.mod_eq_of_lt h1]
    rw [e, show r + (k + n - r) = k + n by omega, Nat.add_mod_right, Nat.mod_eq_of_lt hk]
/-- What is found is found. -/
theorem roundC_mono : ∀ (m b i : Nat) (R : List Pg) (k : Nat), (roundC X hand n m i R).2 = some k → roundC X hand n (m + b) i R = roundC X hand n m i R
  | 0, b, i, R, k, h => by simp [roundC] at h
  | m + 1, b, i, R, k, h => by
    rw [show m + 1 + b = (m + b) + 1 by omega]
    unfold roundC at h ⊢
    split
    · rfl
    · rename_i x hx
      rw [hx] at h
      simp only at h
      split
      · rename_i hp
        simp only [hp, if_true] at h
        exact roundC_mono m b (i + 1) _ k h
      · rfl
/-- A round over dull pages passes over what others hold. -/
theorem roundC_held : ∀ (m i : Nat) (R : List Pg), (roundC X hand n m i R).2 = none → (∀ j, (hand + j) % n < R.length) → Dull X R (fun _ => True) → ∀ j, i ≤ j → j < i + m → ∀ x, R[(hand + j) % n]? = some x → 1 < heldI X.H x.fr
  | 0, i, R, _, _, _, j, h1, h2, x, _ => by omega
  | m + 1, i, R, h, hl, hd, j, h1, h2, x, hx => by
    unfold roundC at h
    rw [List.getElem?_eq_getElem (hl i)] at h
    simp only at h
    split at h
    · rename_i hp
      have h3 : 1 < heldI X.H (R[(hand + i) % n]'(hl i)).fr := by
        rcases hd _ _ trivial (List.getElem?_eq_getElem (hl i)) with h4 | h4
        · exact h4
        · unfold passB at hp
          rw [h4] at hp
          simpa using hp
      have h5 : passL X R (R[(hand + i) % n]'(hl i)) = R := by unfold passL; rw [if_pos h3]
      rw [h5] at h
      by_cases e : j = i
      · subst e
        rw [List.getElem?_eq_getElem (hl j)] at hx
        injection hx with hx
        subst hx
        exact h3
      · exact roundC_held m (i + 1) R h hl hd j (by omega) (by omega) x hx
    · simp at h
/-- A page that nobody else holds is there: one goes. -/
theorem roundC_finds {R : List Pg} (hn : n = R.length) (h : (roundC X hand n (2 * n) 0 R).2 = none) : ∀ x ∈ R, 1 < heldI X.H x.fr := by
  intro x hx
  obtain ⟨k, hk, rfl⟩ := List.mem_iff_getElem.1 hx
  subst hn
  have hpos : 0 < R.length := by omega
  have hl : ∀ j, (hand + j) % R.length < R.length := fun j => Nat.mod_lt _ hpos
  have h1 : (roundC X hand R.length R.length 0 R).2 = none := by
    cases e : (roundC X hand R.length R.length 0 R).2 with
    | none => rfl
    | some t =>
      have h2 := roundC_mono R.length R.length 0 R t e
      rw [← Nat.two_mul] at h2
      rw [h2, e] at h
      cases h
  have h2 := roundC_add (X := X) (hand := hand) (n := R.length) R.length R.length 0 R h1 hl
  rw [← Nat.two_mul] at h2
  rw [h2] at h
  obtain ⟨k1, k2⟩ := roundC_key (X := X) (hand := hand) (n := R.length) R.length 0 R
  have hlen := len_of_key k1
  have d1 := roundC_dull R.length 0 R (fun _ => False) h1 hl (fun _ _ h => h.elim)
  have d2 : Dull X (roundC X hand R.length R.length 0 R).1 (fun _ => True) := by
    intro k x _ hx
    have hk : k < (roundC X hand R.length R.length 0 R).1.length := (List.getElem?_eq_some_iff.1 hx).1
    refine d1 k x (.inr ?_) hx
    exact all_places 0 (by omega)
  obtain ⟨j, j1, j2, j3⟩ := all_places (hand := hand) (0 + R.length) hk
  have hk1 : k < (roundC X hand R.length R.length 0 R).1.length := by omega
  have h3 := roundC_held R.length (0 + R.length) _ h (fun j => by rw [hlen]; exact hl j) d2 j j1 j2 ((roundC X hand R.length R.length 0 R).1[k]'hk1) (by rw [← j3]; exact List.getElem?_eq_getElem hk1)
  have h4 : ((roundC X hand R.length R.length 0 R).1[k]'hk1).fr = R[k].fr := by
    have h5 : ((roundC X hand R.length R.length 0 R).1.map Pg.fr)[k]? = (R.map Pg.fr)[k]? := by rw [k2]
    rw [List.getElem?_map, List.getElem?_map, List.getElem?_eq_getElem hk1, List.getElem?_eq_getElem hk] at h5
    simpa using h5
  rw [h4] at h3
  exact h3
end

/-- One more, one less. -/
def bump (o : Nat → Nat) (k : Nat) : Nat → Nat := fun j => if j = k then o j + 1 else o j
def less (o : Nat → Nat) (k : Nat) : Nat → Nat := fun j => if j = k then o j - 1 else o j
/-- What stays true of a cache over a pool of n frames: o is how often others hold each frame, dat what a page has. -/
structure Inv (n : Nat) (dat : Int → Int → ByteArray) (C : Cc) (o : Nat → Nat) : Prop where
  lenH : C.X.H.length = n
  lenS : C.X.S.length = n
  held : ∀ k, k < n → C.X.H[k]? = some ((o k + if k ∈ C.R.map Pg.fr then 1 else 0 : Nat) : Int)
  own : ∀ k, 0 < o k → k ∈ C.R.map Pg.fr
  fr : ∀ k ∈ C.R.map Pg.fr, k < n
  once : (C.R.map Pg.fr).Nodup
  keys : (C.R.map Pg.key).Nodup
  dat : ∀ x ∈ C.R, C.X.S[x.fr]? = some (dat x.f x.q)
  hand : C.hand < C.R.length ∨ (C.R = [] ∧ C.hand = 0)
  few : ∀ k, o k ≤ 1000
theorem wrap_small {x : Int} (h0 : -5000 ≤ x) (h1 : x ≤ 5000) : wrap64 x = x := by
  unfold wrap64; omega
section
variable {n : Nat} {dat : Int → Int → ByteArray} {C : Cc} {o : Nat → Nat}
theorem mem_fr {R : List Pg} {x : Pg} (h : x ∈ R) : x.fr ∈ R.map Pg.fr := List.mem_map.2 ⟨x, h, rfl⟩
theorem Inv.new (n : Nat) (dat : Int → Int → ByteArray) : Inv n dat (newC n) (fun _ => 0) := by
  refine ⟨by simp [newC, newP], by simp [newC, newP], fun k hk => ?_, fun k h => by omega, ?_, by simp [newC], by simp [newC], by simp [newC], .inr ⟨rfl, rfl⟩, fun k => by omega⟩
  · simp [newC, newP, hk]
  · simp [newC]
theorem Inv.at_ (I : Inv n dat C o) {k : Nat} (hk : k < n) : ∃ h : k < C.X.H.length, C.X.H[k] = ((o k + if k ∈ C.R.map Pg.fr then 1 else 0 : Nat) : Int) := by
  have h := I.held k hk
  obtain ⟨h1, h2⟩ := List.getElem?_eq_some_iff.1 h
  exact ⟨h1, h2⟩
theorem Inv.hd (I : Inv n dat C o) {k : Nat} (hk : k < n) : heldI C.X.H k = ((o k + if k ∈ C.R.map Pg.fr then 1 else 0 : Nat) : Int) := by
  obtain ⟨h1, h2⟩ := I.at_ hk
  unfold heldI
  rw [if_pos ⟨by omega, by omega⟩]
  simp only [Int.toNat_natCast]
  rw [List.getD_eq_getElem?_getD, List.getElem?_eq_getElem h1, h2]
  rfl
theorem Inv.ask (I : Inv n dat C o) {k : Nat} (h : k ∈ C.R.map Pg.fr) : askE C.X.H k = 0 := by
  obtain ⟨h1, h2⟩ := I.at_ (I.fr k h)
  rw [askE_in h1, if_neg]
  rw [h2, if_pos h]
  omega
/-- The frame of a page is held once more, or once less. -/
theorem Inv.addX (I : Inv n dat C o) {k : Nat} (h : k ∈ C.R.map Pg.fr) (z : Int) (hz : -1 ≤ z ∧ z ≤ 1) : C.X.addX k z = { C.X with H := C.X.H.set k (((o k + 1 : Nat) : Int) + z) } := by
  obtain ⟨h1, h2⟩ := I.at_ (I.fr k h)
  have hf := I.few k
  rw [if_pos h] at h2
  rw [Pol.addX_in h1 (by rw [h2]; omega), h2, wrap_small (by omega) (by omega)]
/-- Others hold a page's frame once more, or once less. -/
theorem Inv.turn (I : Inv n dat C o) {k : Nat} (h : k ∈ C.R.map Pg.fr) (z : Int) (hz : -1 ≤ z ∧ z ≤ 1) (o' : Nat → Nat) (ho : ((o' k : Nat) : Int) = o k + z) (hf : o' k ≤ 1000) (ho' : ∀ j, j ≠ k → o' j = o j) : Inv n dat { C with X := C.X.addX k z } o' := by
  rw [I.addX h z hz]
  refine ⟨by simpa using I.lenH, I.lenS, fun j hj => ?_, fun j hj => ?_, I.fr, I.once, I.keys, I.dat, I.hand, fun j => ?_⟩
  · show (C.X.H.set k _)[j]? = _
    rw [List.getElem?_set]
    by_cases e : k = j
    · subst e
      rw [if_pos rfl, if_pos (by rw [I.lenH]; exact hj), if_pos h]
      congr 1
      omega
    · rw [if_neg e, ho' j (fun h => e h.symm)]
      exact I.held j hj
  · by_cases e : j = k
    · subst e; exact h
    · rw [ho' j e] at hj; exact I.own j hj
  · by_cases e : j = k
    · subst e; exact hf
    · rw [ho' j e]; exact I.few j
theorem Inv.hold (I : Inv n dat C o) {k : Nat} (h : k ∈ C.R.map Pg.fr) (hf : o k < 1000) : Inv n dat { C with X := C.X.addX k 1 } (bump o k) :=
  I.turn h 1 (by omega) _ (by simp [bump]) (by simp [bump]; omega) (fun j hj => by simp [bump, hj])
theorem Inv.drop (I : Inv n dat C o) {k : Nat} (h : 0 < o k) : Inv n dat { C with X := C.X.addX k (-1) } (less o k) :=
  I.turn (I.own k h) (-1) (by omega) _ (by simp [less]; omega) (by simp [less]; have := I.few k; omega) (fun j hj => by simp [less, hj])
/-- The ring's pages are the same but for what is fresh. -/
theorem Inv.ring (I : Inv n dat C o) {R : List Pg} (h1 : R.map Pg.key = C.R.map Pg.key) (h2 : R.map Pg.fr = C.R.map Pg.fr) (a b : Nat) : Inv n dat ⟨C.X, R, C.hand, a, b⟩ o := by
  have hl := len_of_key h1
  refine ⟨I.lenH, I.lenS, fun k hk => by show _ = some ((o k + if k ∈ R.map Pg.fr then 1 else 0 : Nat) : Int); rw [h2]; exact I.held k hk, fun k hk => by show k ∈ R.map Pg.fr; rw [h2]; exact I.own k hk, fun k hk => I.fr k (by rw [← h2]; exact hk), by show (R.map Pg.fr).Nodup; rw [h2]; exact I.once, by show (R.map Pg.key).Nodup; rw [h1]; exact I.keys, fun x hx => ?_, ?_, I.few⟩
  · obtain ⟨k, hk, rfl⟩ := List.mem_iff_getElem.1 (show x ∈ R from hx)
    have hk' : k < C.R.length := by omega
    have e1 : (R.map Pg.key)[k]? = (C.R.map Pg.key)[k]? := by rw [h1]
    have e2 : (R.map Pg.fr)[k]? = (C.R.map Pg.fr)[k]? := by rw [h2]
    rw [List.getElem?_map, List.getElem?_map, List.getElem?_eq_getElem hk, List.getElem?_eq_getElem hk'] at e1 e2
    simp [Pg.key] at e1 e2
    have := I.dat _ (List.getElem_mem hk')
    rw [← e1.1, ← e1.2, ← e2] at this
    exact this
  · show C.hand < R.length ∨ _
    rcases I.hand with h | ⟨h, h'⟩
    · exact .inl (by omega)
    · refine .inr ⟨?_, h'⟩
      rw [h] at hl
      exact List.length_eq_zero_iff.1 hl
theorem Inv.hit (I : Inv n dat C o) {x : Pg} (h : x ∈ C.R) (hf : o x.fr < 1000) : Inv n dat (C.hit x) (bump o x.fr) :=
  (I.hold (mem_fr h) hf).ring (C := { C with X := C.X.addX x.fr 1 }) (wantL_key _ _) (wantL_fr _ _) _ _
theorem Inv.take (I : Inv n dat C o) (hfree : freeAt C.X.H < C.X.H.length) (d : ByteArray) (hd : d.size = 64) :
    ((C.X.tkX).flX (freeAt C.X.H) d).addX (freeAt C.X.H) 1 = ⟨C.X.H.set (freeAt C.X.H) 2, C.X.S.set (freeAt C.X.H) d⟩ := by
  have h1 : C.X.tkX = ⟨C.X.H.set (freeAt C.X.H) 1, C.X.S.set (freeAt C.X.H) zsec⟩ := by unfold Pol.tkX; rw [if_pos hfree]
  have hk : freeAt C.X.H < (C.X.H.set (freeAt C.X.H) 1).length := by simpa using hfree
  have h2 : askE (C.X.H.set (freeAt C.X.H) 1) (freeAt C.X.H) = 0 := by rw [askE_in hk]; simp
  rw [h1]
  have h3 : (⟨C.X.H.set (freeAt C.X.H) 1, C.X.S.set (freeAt C.X.H) zsec⟩ : Pol).flX (freeAt C.X.H) d = ⟨C.X.H.set (freeAt C.X.H) 1, C.X.S.set (freeAt C.X.H) d⟩ := by
    unfold Pol.flX Pol.flE
    rw [if_pos (by rw [if_pos h2, if_pos hd])]
    simp
  rw [h3, Pol.addX_in (X := ⟨C.X.H.set (freeAt C.X.H) 1, C.X.S.set (freeAt C.X.H) d⟩) hk (by simp)]
  simp [wrap64]
theorem Inv.fill (I : Inv n dat C o) (hfree : freeAt C.X.H < C.X.H.length) (f q : Int) (hk : (f, q) ∉ C.R.map Pg.key) (hd : (dat f q).size = 64) :
    Inv n dat (C.fill f q (dat f q)) (bump o (freeAt C.X.H)) ∧ o (freeAt C.X.H) = 0 ∧ freeAt C.X.H ∉ C.R.map Pg.fr := by
  have hn : freeAt C.X.H < n := by rw [← I.lenH]; exact hfree
  have h0 := freeAt_zero hfree
  obtain ⟨_, h1⟩ := I.at_ hn
  rw [h0] at h1
  have hno : freeAt C.X.H ∉ C.R.map Pg.fr := fun h => by rw [if_pos h] at h1; omega
  have ho : o (freeAt C.X.H) = 0 := by rw [if_neg hno] at h1; omega
  refine ⟨?_, ho, hno⟩
  unfold Cc.fill
  rw [I.take hfree _ hd]
  generalize freeAt C.X.H = k at *
  have hm : ∀ j, j ∈ (C.R ++ [(⟨f, q, k, false⟩ : Pg)]).map Pg.fr ↔ j ∈ C.R.map Pg.fr ∨ j = k := fun j => by simp
  refine ⟨by simpa using I.lenH, by simpa using I.lenS, fun j hj => ?_, fun j hj => ?_, fun j hj => ?_, ?_, ?_, ?_, .inl ?_, fun j => ?_⟩
  · show (C.X.H.set k 2)[j]? = some ((bump o k j + if j ∈ (C.R ++ [(⟨f, q, k, false⟩ : Pg)]).map Pg.fr then 1 else 0 : Nat) : Int)
    rw [List.getElem?_set]
    by_cases e : k = j
    · subst e
      rw [if_pos rfl, if_pos (by rw [I.lenH]; exact hj), if_pos ((hm k).2 (.inr rfl))]
      simp [bump, ho]
    · rw [if_neg e, I.held j hj]
      have hm' : j ∈ (C.R ++ [(⟨f, q, k, false⟩ : Pg)]).map Pg.fr ↔ j ∈ C.R.map Pg.fr := by rw [hm]; exact ⟨fun h => h.resolve_right (fun h => e h.symm), .inl⟩
      simp only [hm', bump, if_neg (fun h : j = k => e h.symm)]
  · refine (hm j).2 ?_
    by_cases e : j = k
    · exact .inr e
    · simp only [bump, if_neg e] at hj
      exact .inl (I.own j hj)
  · rcases (hm j).1 hj with h | h
    · exact I.fr j h
    · rw [h]; exact hn
  · show ((C.R ++ [(⟨f, q, k, false⟩ : Pg)]).map Pg.fr).Nodup
    rw [List.map_append, List.nodup_append]
    refine ⟨I.once, by simp, fun a ha b hb => ?_⟩
    simp at hb
    subst hb
    exact fun e => hno (e ▸ ha)
  · show ((C.R ++ [(⟨f, q, k, false⟩ : Pg)]).map Pg.key).Nodup
    rw [List.map_append, List.nodup_append]
    refine ⟨I.keys, by simp, fun a ha b hb => ?_⟩
    simp [Pg.key] at hb
    subst hb
    exact fun e => hk (e ▸ ha)
  · intro x hx
    show (C.X.S.set k (dat f q))[x.fr]? = _
    rw [List.getElem?_set]
    rcases List.mem_append.1 (show x ∈ C.R ++ [(⟨f, q, k, false⟩ : Pg)] from hx) with h | h
    · rw [if_neg (fun e => hno (by rw [e]; exact mem_fr h))]
      exact I.dat x h
    · simp at h
      subst h
      rw [if_pos rfl, if_pos (by rw [I.lenS]; exact hn)]
  · show C.hand < (C.R ++ [_]).length
    rcases I.hand with h | ⟨h, h'⟩
    · simp; omega
    · simp [h']
  · by_cases e : j = k
    · subst e; simp [bump, ho]
    · simp [bump, e]; exact I.few j
theorem map_rm {α β : Type} (f : α → β) (l : List α) (k : Nat) : (l.eraseIdx k).map f = (l.map f).eraseIdx k := by
  rw [List.eraseIdx_eq_take_drop_succ, List.eraseIdx_eq_take_drop_succ, List.map_append, List.map_take, List.map_drop]
theorem perm_rm {R : List Pg} {k : Nat} {x : Pg} (hk : R[k]? = some x) : R.Perm (x :: R.eraseIdx k) := by
  obtain ⟨h, rfl⟩ := List.getElem?_eq_some_iff.1 hk
  have e : R = R.take k ++ R[k] :: R.drop (k + 1) := by simp
  rw [List.eraseIdx_eq_take_drop_succ]
  conv => lhs; rw [e]
  exact List.perm_middle
theorem Inv.rm (I : Inv n dat C o) {k : Nat} {x : Pg} (hk : C.R[k]? = some x) (ho : o x.fr = 0) : Inv n dat (C.rm k x) o := by
  have hx : x ∈ C.R := List.mem_of_getElem? hk
  have hkl : k < C.R.length := (List.getElem?_eq_some_iff.1 hk).1
  have hp := perm_rm hk
  have pf := hp.map Pg.fr
  have pk := hp.map Pg.key
  rw [List.map_cons] at pf pk
  have nf := pf.nodup_iff.1 I.once
  have nk := pk.nodup_iff.1 I.keys
  obtain ⟨nf1, nf2⟩ := List.nodup_cons.1 nf
  obtain ⟨_, nk2⟩ := List.nodup_cons.1 nk
  have hm : ∀ j, j ∈ C.R.map Pg.fr ↔ j = x.fr ∨ j ∈ (C.R.eraseIdx k).map Pg.fr := fun j => by rw [pf.mem_iff]; simp
  unfold Cc.rm
  rw [I.addX (mem_fr hx) (-1) (by omega), ho]
  refine ⟨by simpa using I.lenH, I.lenS, fun j hj => ?_, fun j hj => ?_, fun j hj => I.fr j ((hm j).2 (.inr hj)), nf2, nk2, fun y hy => I.dat y (hp.mem_iff.2 (by simp [hy])), ?_, I.few⟩
  · show (C.X.H.set x.fr _)[j]? = some ((o j + if j ∈ (C.R.eraseIdx k).map Pg.fr then 1 else 0 : Nat) : Int)
    rw [List.getElem?_set]
    by_cases e : x.fr = j
    · subst e
      rw [if_pos rfl, if_pos (by rw [I.lenH]; exact hj), if_neg nf1, ho]
      rfl
    · rw [if_neg e, I.held j hj]
      have hm' : j ∈ C.R.map Pg.fr ↔ j ∈ (C.R.eraseIdx k).map Pg.fr := by rw [hm]; exact ⟨fun h => h.resolve_left (fun h => e h.symm), .inr⟩
      simp only [hm']
  · rcases (hm j).1 (I.own j hj) with h | h
    · subst h; omega
    · exact h
  · show (if k = C.R.length - 1 then 0 else k) < (C.R.eraseIdx k).length ∨ _
    have hl : (C.R.eraseIdx k).length = C.R.length - 1 := by rw [List.length_eraseIdx, if_pos hkl]
    rw [hl]
    by_cases e : C.R.length = 1
    · exact .inr ⟨List.length_eq_zero_iff.1 (by rw [hl]; omega), by show (if k = C.R.length - 1 then 0 else k) = 0; split <;> omega⟩
    · left; split <;> omega
/-- One is looked for that goes: it, and what stays true. -/
theorem Inv.evict (I : Inv n dat C o) : Inv n dat C.evC o ∧ C.evC.hits = C.hits ∧ C.evC.fills = C.fills ∧
    ((C.evK = none ∧ C.evC.R.map Pg.key = C.R.map Pg.key ∧ C.evC.R.map Pg.fr = C.R.map Pg.fr ∧ C.evC.X = C.X ∧ ∀ x ∈ C.R, 0 < o x.fr) ∨
     ∃ k x, C.evK = some x ∧ o x.fr = 0 ∧ (C.R.map Pg.key)[k]? = some x.key ∧ (C.R.map Pg.fr)[k]? = some x.fr ∧ C.evC.R.map Pg.key = (C.R.map Pg.key).eraseIdx k ∧ C.evC.R.map Pg.fr = (C.R.map Pg.fr).eraseIdx k ∧ C.evC.R.length + 1 = C.R.length) := by
  obtain ⟨k1, k2⟩ := roundC_key (X := C.X) (hand := C.hand) (n := C.R.length) (2 * C.R.length) 0 C.R
  have hlen := len_of_key k1
  have hR : ∀ x ∈ C.R, x.fr < n := fun x hx => I.fr _ (mem_fr hx)
  have hh : ∀ x ∈ C.R, heldI C.X.H x.fr = ((o x.fr + 1 : Nat) : Int) := fun x hx => by rw [I.hd (hR x hx), if_pos (mem_fr hx)]
  unfold Cc.evC Cc.evK
  cases e : C.look.2 with
  | none =>
    dsimp only
    refine ⟨I.ring k1 k2 _ _, rfl, rfl, .inl ⟨rfl, k1, k2, rfl, fun x hx => ?_⟩⟩
    have h1 := roundC_finds rfl e x hx
    rw [hh x hx] at h1
    omega
  | some k =>
    dsimp only
    obtain ⟨x, h1, h2⟩ := roundC_some _ _ _ k e
    have h1' : C.look.1[k]? = some x := h1
    rw [h1']
    dsimp only
    have I1 : Inv n dat ⟨C.X, C.look.1, C.hand, C.hits, C.fills⟩ o := I.ring k1 k2 _ _
    have e1 : (C.R.map Pg.key)[k]? = some x.key := by rw [← k1, List.getElem?_map, h1]; rfl
    have e2 : (C.R.map Pg.fr)[k]? = some x.fr := by rw [← k2, List.getElem?_map, h1]; rfl
    have hkl : k < C.look.1.length := (List.getElem?_eq_some_iff.1 h1').1
    have hm : x.fr ∈ C.R.map Pg.fr := List.mem_of_getElem? e2
    have ho : o x.fr = 0 := by
      unfold passB at h2
      have h3 := I.hd (I.fr _ hm)
      rw [if_pos hm] at h3
      rw [h3] at h2
      simp at h2
      omega
    refine ⟨I1.rm h1' ho, rfl, rfl, .inr ⟨k, x, rfl, ho, e1, e2, ?_, ?_, ?_⟩⟩
    · show (C.look.1.eraseIdx k).map Pg.key = _
      rw [← k1]; exact map_rm Pg.key _ k
    · show (C.look.1.eraseIdx k).map Pg.fr = _
      rw [← k2]; exact map_rm Pg.fr _ k
    · show (C.look.1.eraseIdx k).length + 1 = _
      rw [List.length_eraseIdx, if_pos hkl]
      have : C.look.1.length = C.R.length := hlen
      omega
/-- How many frames are free. -/
theorem Inv.fre (I : Inv n dat C o) : freeN C.X.H + C.R.length = n := by
  have e1 : C.X.H = (List.range n).map fun k => ((o k + if k ∈ C.R.map Pg.fr then 1 else 0 : Nat) : Int) := by
    apply List.ext_getElem?
    intro k
    by_cases hk : k < n
    · rw [I.held k hk]; simp [hk]
    · rw [List.getElem?_eq_none (by rw [I.lenH]; omega), List.getElem?_eq_none (by simp; omega)]
  have e2 : freeN C.X.H = (List.range n).countP fun k => !decide (k ∈ C.R.map Pg.fr) := by
    unfold freeN
    rw [e1, List.countP_map]
    apply List.countP_congr
    intro k _
    by_cases hm : k ∈ C.R.map Pg.fr
    · simp only [Function.comp, if_pos hm, decide_true, hm]; simp; omega
    · have : o k = 0 := by
        rcases Nat.eq_zero_or_pos (o k) with h | h
        · exact h
        · exact absurd (I.own k h) hm
      simp only [Function.comp, if_neg hm, this, hm]; simp
  have e3 : (List.range n).countP (fun k => decide (k ∈ C.R.map Pg.fr)) = C.R.length := by
    rw [List.countP_eq_length_filter]
    have hp : ((List.range n).filter fun k => decide (k ∈ C.R.map Pg.fr)).Perm (C.R.map Pg.fr) := by
      refine (List.perm_ext_iff_of_nodup ((List.nodup_range).filter _) I.once).2 fun k => ?_
      rw [List.mem_filter]
      simp only [List.mem_range, decide_eq_true_eq]
      exact ⟨fun h => h.2, fun h => ⟨I.fr k h, h⟩⟩
    rw [hp.length_eq, List.length_map]
  have e4 := List.length_eq_countP_add_countP (p := fun k => decide (k ∈ C.R.map Pg.fr)) (l := List.range n)
  rw [e3, List.length_range] at e4
  rw [e2]
  have e5 : (List.range n).countP (fun k => !decide (k ∈ C.R.map Pg.fr)) = (List.range n).countP (fun k => decide ¬ (decide (k ∈ C.R.map Pg.fr)) = true) := by
    apply List.countP_congr
    intro k _
    simp
  omega
theorem freeAt_of_freeN {H : List Int} (h : 0 < freeN H) : freeAt H < H.length := by
  obtain ⟨x, hx, h0⟩ := List.countP_pos_iff.1 (show 0 < H.countP fun x => decide (x = 0) from h)
  obtain ⟨k, hk, rfl⟩ := List.mem_iff_getElem.1 hx
  have h1 : H[k] = 0 := by simpa using h0
  rcases Nat.lt_or_ge (freeAt H) H.length with h2 | h2
  · exact h2
  · have := freeAt_hit hk (by omega) h1; omega
theorem Inv.room (I : Inv n dat C o) (h : C.R.length < n) : freeAt C.X.H < C.X.H.length := freeAt_of_freeN (by have := I.fre; omega)
theorem Inv.full (I : Inv n dat C o) (h : ¬ freeAt C.X.H < C.X.H.length) : C.R.length = n := by
  have h1 := I.fre
  rcases Nat.lt_or_ge C.R.length n with h2 | h2
  · exact absurd (I.room h2) h
  · omega
theorem Inv.many (I : Inv n dat C o) : C.R.length ≤ n := by have := I.fre; omega
/-- The page of a key. -/
theorem pgF_some {R : List Pg} {f q : Int} {x : Pg} (h : pgF R f q = some x) : x ∈ R ∧ x.f = f ∧ x.q = q := by
  unfold pgF at h
  have h1 := List.find?_some h
  simp at h1
  exact ⟨List.mem_of_find?_eq_some h, h1.1, h1.2⟩
theorem pgF_none {R : List Pg} {f q : Int} : pgF R f q = none ↔ (f, q) ∉ R.map Pg.key := by
  unfold pgF
  rw [List.find?_eq_none]
  constructor
  · intro h hm
    obtain ⟨x, hx, e⟩ := List.mem_map.1 hm
    have := h x hx
    simp [Pg.key] at e
    simp [e] at this
  · intro h x hx hc
    simp at hc
    exact h (List.mem_map.2 ⟨x, hx, by simp [Pg.key, hc]⟩)
theorem pgF_mem {R : List Pg} (hn : (R.map Pg.key).Nodup) {x : Pg} (hx : x ∈ R) : pgF R x.f x.q = some x := by
  cases h : pgF R x.f x.q with
  | none => exact absurd (List.mem_map.2 ⟨x, hx, rfl⟩) (pgF_none.1 h)
  | some y =>
    obtain ⟨h1, h2, h3⟩ := pgF_some h
    obtain ⟨i, hi, rfl⟩ := List.mem_iff_getElem.1 hx
    obtain ⟨j, hj, rfl⟩ := List.mem_iff_getElem.1 h1
    have ek : (R.map Pg.key)[i]'(by simpa using hi) = (R.map Pg.key)[j]'(by simpa using hj) := by simp [Pg.key, h2, h3]
    have e : i = j := by
      rcases Nat.lt_trichotomy i j with h | h | h
      · exact absurd ek ((List.pairwise_iff_getElem.1 hn) i j (by simpa using hi) (by simpa using hj) h)
      · exact h
      · exact absurd ek.symm ((List.pairwise_iff_getElem.1 hn) j i (by simpa using hj) (by simpa using hi) h)
    subst e
    rfl
end
end Go.Proofs.YtmbjflcmbenbdaaDoor
