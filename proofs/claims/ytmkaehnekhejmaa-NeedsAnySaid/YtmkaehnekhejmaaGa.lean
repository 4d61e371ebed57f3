/- Layer 12 (of no program): a closure, as a walk over names; what follows of it. -/
import Derived.Lib.Hide
namespace Go.Proofs.Ytmkaehnekhejmaa
set_option linter.unusedVariables false
set_option linter.unusedSimpArgs false

instance : LawfulBEq ByteArray where
  eq_of_beq h := ByteArray.ext (eq_of_beq (α := Array UInt8) h)
  rfl := beq_self_eq_true (α := Array UInt8) _
/-- A library: its name, and what it needs. -/
structure Lb where
  name : ByteArray
  need : List ByteArray
def findL (L : List Lb) (s : ByteArray) : Option Lb := L.find? fun b => decide (b.name = s)
def there (L : List Lb) (s : ByteArray) : Bool := (findL L s).isSome
def needOf (L : List Lb) (s : ByteArray) : List ByteArray := ((findL L s).map Lb.need).getD []
def posL (L : List Lb) (s : ByteArray) : Nat := L.findIdx fun b => decide (b.name = s)
/-- A closure: its names, how deep each is, and those that are missing. -/
structure Wk where
  N : List ByteArray
  D : List Nat
  M : List ByteArray
def meet1 (L : List Lb) (d : Nat) (s : Wk) (nm : ByteArray) : Wk :=
  if there L nm = true then (if nm ∈ s.N then s else ⟨s.N ++ [nm], s.D ++ [d], s.M⟩)
  else (if nm ∈ s.M then s else ⟨s.N, s.D, s.M ++ [nm]⟩)
def meetL (L : List Lb) (d : Nat) (s : Wk) (l : List ByteArray) : Wk := l.foldl (meet1 L d) s
def stepW (L : List Lb) (x : Wk × Nat) : Wk × Nat := (meetL L (x.1.D.getD x.2 0 + 1) x.1 (needOf L (x.1.N.getD x.2 default)), x.2 + 1)
def runW (L : List Lb) : Nat → Wk × Nat → Wk × Nat
  | 0, x => x
  | n + 1, x => if x.2 < x.1.N.length then runW L n (stepW L x) else x
def startW (L : List Lb) (r : ByteArray) : Wk := meet1 L 0 ⟨[], [], []⟩ r
def cloW (L : List Lb) (r : ByteArray) : Wk := (runW L (L.length + 1) (startW L r, 0)).1

theorem there_find {L : List Lb} {s : ByteArray} (h : there L s = true) : ∃ b, findL L s = some b ∧ b ∈ L ∧ b.name = s := by
  obtain ⟨b, hb⟩ := Option.isSome_iff_exists.1 h
  exact ⟨b, hb, List.mem_of_find?_eq_some hb, by simpa using List.find?_some hb⟩
theorem there_pos {L : List Lb} {s : ByteArray} (h : there L s = true) : ∃ hp : posL L s < L.length, L[posL L s].name = s ∧ needOf L s = L[posL L s].need := by
  obtain ⟨b, hb, hm, hn⟩ := there_find h
  have hlt : posL L s < L.length := List.findIdx_lt_length_of_exists ⟨b, hm, by simpa using hn⟩
  have hat : L[posL L s].name = s := by
    have := List.findIdx_getElem (w := hlt) (p := fun b : Lb => decide (b.name = s)) (xs := L)
    exact of_decide_eq_true this
  refine ⟨hlt, hat, ?_⟩
  have hb2 : findL L s = some L[posL L s] := by
    unfold findL
    rw [List.find?_eq_some_iff_getElem]
    exact ⟨by simpa using hat, posL L s, hlt, rfl, fun j hj => by
      have := List.not_of_lt_findIdx hj
      simpa using this⟩
  unfold needOf
  rw [hb2]
  rfl
theorem there_of_mem {L : List Lb} {b : Lb} (h : b ∈ L) : there L b.name = true := by
  unfold there findL
  rw [List.find?_isSome]
  exact ⟨b, h, by simp⟩
theorem there_no {L : List Lb} {s : ByteArray} (h : there L s = false) : ∀ b ∈ L, b.name ≠ s := fun b hb e => by
  have := there_of_mem hb
  rw [e, h] at this
  cases this

theorem nodup_lt : ∀ (n : Nat) (l : List Nat), l.Nodup → (∀ x ∈ l, x < n) → l.length ≤ n
  | 0, l, _, h => by
    cases l with
    | nil => exact Nat.le_refl _
    | cons a l => exact absurd (h a (by simp)) (by omega)
  | n + 1, l, hd, h => by
    have h1 := nodup_lt n (l.erase n) (hd.erase n) (fun x hx => by
      have h2 := h x (List.mem_of_mem_erase hx)
      have h3 : x ≠ n := fun e => by subst e; exact (List.Nodup.not_mem_erase hd) hx
      omega)
    have h4 := List.length_erase (a := n) (l := l)
    split at h4 <;> omega

theorem runW_stop {L : List Lb} {n : Nat} {x : Wk × Nat} (h : ¬ x.2 < x.1.N.length) : runW L n x = x := by
  cases n with
  | zero => rfl
  | succ n => unfold runW; rw [if_neg h]
theorem runW_add (L : List Lb) : ∀ (a b : Nat) (x : Wk × Nat), runW L (a + b) x = runW L b (runW L a x)
  | 0, b, x => by rw [Nat.zero_add]; rfl
  | a + 1, b, x => by
    by_cases h : x.2 < x.1.N.length
    · have h1 : ∀ n, runW L (n + 1) x = runW L n (stepW L x) := fun n => by
        show (if x.2 < x.1.N.length then runW L n (stepW L x) else x) = _
        rw [if_pos h]
      rw [show a + 1 + b = (a + b) + 1 by omega, h1, h1, runW_add L a b]
    · rw [runW_stop h, runW_stop h, runW_stop h]

/-- What holds while a closure is gone over: g of its names were. -/
structure Inv (L : List Lb) (r : ByteArray) (s : Wk) (g : Nat) : Prop where
  nd : s.N.Nodup
  th : ∀ x ∈ s.N, there L x = true
  mis : ∀ x ∈ s.M, there L x = false
  len : s.D.length = s.N.length
  le : g ≤ s.N.length
  root : there L r = true → s.N[0]? = some r ∧ s.D[0]? = some 0
  noroot : there L r = false → s.N = [] ∧ s.M = [r]
  beh : ∀ i x, s.N[i + 1]? = some x → ∃ k y, k ≤ i ∧ s.N[k]? = some y ∧ x ∈ needOf L y
  closed : ∀ k y, k < g → s.N[k]? = some y → ∀ z ∈ needOf L y, z ∈ s.N ∨ z ∈ s.M
  mono : ∀ (i j a b : Nat), i ≤ j → s.D[i]? = some a → s.D[j]? = some b → a ≤ b
  top : ∀ (a b j : Nat), s.D[g]? = some a → s.D[j]? = some b → b ≤ a + 1
  mnd : s.M.Nodup

theorem Inv.start (L : List Lb) (r : ByteArray) : Inv L r (startW L r) 0 := by
  unfold startW meet1
  by_cases h : there L r = true
  · rw [if_pos h, if_neg (by simp)]
    refine ⟨by simp, by simp [h], by simp, rfl, Nat.zero_le _, fun _ => ⟨rfl, rfl⟩, fun h' => (by rw [h] at h'; cases h'), fun i x hx => by simp at hx, fun k y hk => by omega, ?_, ?_, by simp⟩
    · intro i j a b hij ha hb
      cases i with
      | zero => simp at ha; omega
      | succ i => simp at ha
    · intro a b j ha hb
      cases j with
      | zero => simp at hb; omega
      | succ j => simp at hb
  · have h' : there L r = false := by simpa using h
    rw [if_neg h, if_neg (by simp)]
    exact ⟨by simp, by simp, by simp [h'], rfl, Nat.zero_le _, fun h'' => absurd h'' h, fun _ => ⟨rfl, rfl⟩, fun i x hx => by simp at hx, fun k y hk => by omega, fun i j a b hij ha => by simp at ha, fun a b j ha => by simp at ha, by simp⟩

theorem get_snoc {α : Type} {l : List α} {x y : α} {i : Nat} (h : (l ++ [x])[i]? = some y) : l[i]? = some y ∨ (i = l.length ∧ y = x) := by
  rw [List.getElem?_append] at h
  split at h
  · exact .inl h
  · rename_i hi
    by_cases e : i - l.length = 0
    · rw [e] at h
      simp at h
      exact .inr ⟨by omega, h.symm⟩
    · rw [List.getElem?_eq_none (by simp; omega)] at h
      cases h
theorem get_app {α : Type} {l m : List α} {y : α} {i : Nat} (h : l[i]? = some y) : (l ++ m)[i]? = some y := by
  rw [List.getElem?_append_left (List.getElem?_eq_some_iff.1 h).1]
  exact h
theorem Inv.meet {L : List Lb} {r : ByteArray} {s : Wk} {g e : Nat} {y nm : ByteArray} (h : Inv L r s g) (hy : s.N[g]? = some y) (he : s.D[g]? = some e) (hnm : nm ∈ needOf L y) :
    Inv L r (meet1 L (e + 1) s nm) g ∧ (meet1 L (e + 1) s nm).N[g]? = some y ∧ (meet1 L (e + 1) s nm).D[g]? = some e ∧ (nm ∈ (meet1 L (e + 1) s nm).N ∨ nm ∈ (meet1 L (e + 1) s nm).M) ∧ (∀ z ∈ s.N, z ∈ (meet1 L (e + 1) s nm).N) ∧ (∀ z ∈ s.M, z ∈ (meet1 L (e + 1) s nm).M) := by
  have hrt : there L r = true := by
    cases hq : there L r with
    | true => rfl
    | false => rw [(h.noroot hq).1] at hy; simp at hy
  unfold meet1
  by_cases ht : there L nm = true
  · rw [if_pos ht]
    by_cases hm : nm ∈ s.N
    · rw [if_pos hm]
      exact ⟨h, hy, he, .inl hm, fun _ hz => hz, fun _ hz => hz⟩
    · rw [if_neg hm]
      refine ⟨⟨?_, ?_, h.mis, ?_, ?_, ?_, fun h' => (by rw [hrt] at h'; cases h'), ?_, ?_, ?_, ?_, h.mnd⟩, get_app hy, get_app he, .inl (by simp), fun z hz => List.mem_append_left _ hz, fun _ hz => hz⟩
      · show (s.N ++ [nm]).Nodup
        rw [List.nodup_append]
        exact ⟨h.nd, by simp, fun a ha b hb => by simp at hb; subst hb; exact fun e => hm (e ▸ ha)⟩
      · intro x hx
        rcases List.mem_append.1 hx with h1 | h1
        · exact h.th x h1
        · simp at h1; rw [h1]; exact ht
      · simp [h.len]
      · have := h.le; simp; omega
      · exact fun _ => ⟨get_app (h.root hrt).1, get_app (h.root hrt).2⟩
      · intro i x hx
        rcases get_snoc hx with h1 | ⟨h1, rfl⟩
        · obtain ⟨k, y', hk, hy', hn⟩ := h.beh i x h1
          exact ⟨k, y', hk, get_app hy', hn⟩
        · have := (List.getElem?_eq_some_iff.1 hy).1
          exact ⟨g, y, by omega, get_app hy, hnm⟩
      · intro k z hk hz w hw
        rcases get_snoc hz with h1 | ⟨h1, rfl⟩
        · rcases h.closed k z hk h1 w hw with h2 | h2
          · exact .inl (List.mem_append_left _ h2)
          · exact .inr h2
        · have := h.le; omega
      · intro i j a b hij ha hb
        rcases get_snoc ha with h1 | ⟨h1, rfl⟩
        · rcases get_snoc hb with h2 | ⟨h2, rfl⟩
          · exact h.mono i j a b hij h1 h2
          · exact h.top e a i he h1
        · rcases get_snoc hb with h2 | ⟨h2, rfl⟩
          · have := (List.getElem?_eq_some_iff.1 h2).1
            omega
          · exact Nat.le_refl _
      · intro a b j ha hb
        have ha' : a = e := by
          rw [get_app he] at ha
          injection ha with ha
          exact ha.symm
        subst ha'
        rcases get_snoc hb with h2 | ⟨h2, rfl⟩
        · exact h.top a b j he h2
        · exact Nat.le_refl _
  · have ht' : there L nm = false := by simpa using ht
    rw [if_neg ht]
    by_cases hm : nm ∈ s.M
    · rw [if_pos hm]
      exact ⟨h, hy, he, .inr hm, fun _ hz => hz, fun _ hz => hz⟩
    · rw [if_neg hm]
      refine ⟨⟨h.nd, h.th, ?_, h.len, h.le, h.root, fun h' => (by rw [hrt] at h'; cases h'), h.beh, ?_, h.mono, h.top, ?_⟩, hy, he, .inr (by simp), fun _ hz => hz, fun z hz => List.mem_append_left _ hz⟩
      · intro x hx
        rcases List.mem_append.1 hx with h1 | h1
        · exact h.mis x h1
        · simp at h1; rw [h1]; exact ht'
      · intro k z hk hz w hw
        rcases h.closed k z hk hz w hw with h2 | h2
        · exact .inl h2
        · exact .inr (List.mem_append_left _ h2)
      · show (s.M ++ [nm]).Nodup
        rw [List.nodup_append]
        exact ⟨h.mnd, by simp, fun a ha b hb => by simp at hb; subst hb; exact fun e => hm (e ▸ ha)⟩
theorem Inv.meets {L : List Lb} {r : ByteArray} {g e : Nat} {y : ByteArray} : ∀ (l : List ByteArray) (s : Wk), Inv L r s g → s.N[g]? = some y → s.D[g]? = some e → (∀ z ∈ l, z ∈ needOf L y) →
    Inv L r (meetL L (e + 1) s l) g ∧ (meetL L (e + 1) s l).N[g]? = some y ∧ (meetL L (e + 1) s l).D[g]? = some e ∧ (∀ z ∈ l, z ∈ (meetL L (e + 1) s l).N ∨ z ∈ (meetL L (e + 1) s l).M) ∧ (∀ z ∈ s.N, z ∈ (meetL L (e + 1) s l).N) ∧ (∀ z ∈ s.M, z ∈ (meetL L (e + 1) s l).M)
  | [], s, h, hy, he, _ => ⟨h, hy, he, fun z hz => (by cases hz), fun _ hz => hz, fun _ hz => hz⟩
  | nm :: l, s, h, hy, he, hl => by
    obtain ⟨a1, a2, a3, a4, a5, a6⟩ := h.meet hy he (hl nm (by simp))
    obtain ⟨b1, b2, b3, b4, b5, b6⟩ := Inv.meets l _ a1 a2 a3 (fun z hz => hl z (List.mem_cons_of_mem _ hz))
    refine ⟨b1, b2, b3, fun z hz => ?_, fun z hz => b5 z (a5 z hz), fun z hz => b6 z (a6 z hz)⟩
    rcases List.mem_cons.1 hz with h1 | h1
    · subst h1
      rcases a4 with h2 | h2
      · exact .inl (b5 _ h2)
      · exact .inr (b6 _ h2)
    · exact b4 z h1
theorem Inv.step {L : List Lb} {r : ByteArray} {s : Wk} {g : Nat} (h : Inv L r s g) (hg : g < s.N.length) : Inv L r (stepW L (s, g)).1 (g + 1) := by
  have hy : s.N[g]? = some s.N[g] := List.getElem?_eq_getElem hg
  have he : s.D[g]? = some (s.D[g]'(by rw [h.len]; exact hg)) := List.getElem?_eq_getElem (by rw [h.len]; exact hg)
  have e1 : s.N.getD g default = s.N[g] := by rw [List.getD_eq_getElem?_getD, hy]; rfl
  have e2 : s.D.getD g 0 = s.D[g]'(by rw [h.len]; exact hg) := by rw [List.getD_eq_getElem?_getD, he]; rfl
  unfold stepW
  simp only
  rw [e1, e2]
  obtain ⟨b1, b2, b3, b4, b5, b6⟩ := Inv.meets (needOf L s.N[g]) s h hy he (fun z hz => hz)
  generalize meetL L (s.D[g]'(by rw [h.len]; exact hg) + 1) s (needOf L s.N[g]) = t at *
  refine ⟨b1.nd, b1.th, b1.mis, b1.len, (List.getElem?_eq_some_iff.1 b2).1, b1.root, b1.noroot, b1.beh, ?_, b1.mono, ?_, b1.mnd⟩
  · intro k y hk hky z hz
    by_cases hkg : k = g
    · subst hkg
      rw [b2] at hky
      injection hky with hky
      subst hky
      exact b4 z hz
    · exact b1.closed k y (by omega) hky z hz
  · intro a b j ha hb
    have h1 := b1.mono g (g + 1) _ a (by omega) b3 ha
    have h2 := b1.top _ b j b3 hb
    omega
theorem Inv.run {L : List Lb} {r : ByteArray} : ∀ (n : Nat) (x : Wk × Nat), Inv L r x.1 x.2 → Inv L r (runW L n x).1 (runW L n x).2
  | 0, x, h => h
  | n + 1, x, h => by
    unfold runW
    split
    · rename_i hg
      exact Inv.run n _ (h.step hg)
    · exact h
theorem Inv.many {L : List Lb} {r : ByteArray} {s : Wk} {g : Nat} (h : Inv L r s g) : s.N.length ≤ L.length := by
  have h1 := nodup_lt L.length (s.N.map (posL L)) (by
    rw [List.nodup_iff_pairwise_ne, List.pairwise_map]
    refine (List.nodup_iff_pairwise_ne.1 h.nd).imp_of_mem ?_
    intro a b ha hb hab e
    obtain ⟨p1, q1, _⟩ := there_pos (h.th a ha)
    obtain ⟨p2, q2, _⟩ := there_pos (h.th b hb)
    apply hab
    rw [← q1, ← q2]
    congr 2) (by
    intro x hx
    obtain ⟨a, ha, rfl⟩ := List.mem_map.1 hx
    exact (there_pos (h.th a ha)).1)
  simpa using h1
theorem runW_end (L : List Lb) : ∀ (n : Nat) (x : Wk × Nat), (runW L n x).2 = x.2 + n ∨ ¬ (runW L n x).2 < (runW L n x).1.N.length
  | 0, x => .inl rfl
  | n + 1, x => by
    unfold runW
    split
    · rcases runW_end L n (stepW L x) with h | h
      · left; rw [h]; unfold stepW; simp; omega
      · exact .inr h
    · rename_i h; exact .inr h
/-- All is gone over, whoever counts. -/
theorem run_clo (L : List Lb) (r : ByteArray) (n : Nat) (hn : L.length < n) : runW L n (startW L r, 0) = (cloW L r, (cloW L r).N.length) := by
  have hi := Inv.run (L.length + 1) (startW L r, 0) (Inv.start L r)
  have hs : ¬ (runW L (L.length + 1) (startW L r, 0)).2 < (runW L (L.length + 1) (startW L r, 0)).1.N.length := by
    rcases runW_end L (L.length + 1) (startW L r, 0) with h | h
    · have h1 := hi.le
      have h2 := hi.many
      rw [h] at h1
      simp at h1
      omega
    · exact h
  have e : n = (L.length + 1) + (n - (L.length + 1)) := by omega
  rw [e, runW_add, runW_stop hs]
  unfold cloW
  have h1 := hi.le
  generalize runW L (L.length + 1) (startW L r, 0) = z at *
  obtain ⟨z1, z2⟩ := z
  simp only at *
  rw [show z2 = z1.N.length by omega]
theorem clo_inv (L : List Lb) (r : ByteArray) : Inv L r (cloW L r) (cloW L r).N.length := by
  have h := Inv.run (L.length + 1) (startW L r, 0) (Inv.start L r)
  rw [run_clo L r (L.length + 1) (Nat.lt_succ_self _)] at h
  exact h
theorem clo_closed {L : List Lb} {r y z : ByteArray} (hy : y ∈ (cloW L r).N) (hz : z ∈ needOf L y) : z ∈ (cloW L r).N ∨ z ∈ (cloW L r).M := by
  obtain ⟨k, hk, he⟩ := List.getElem_of_mem hy
  exact (clo_inv L r).closed k y hk (by rw [List.getElem?_eq_getElem hk, he]) z hz
theorem clo_closed_there {L : List Lb} {r y z : ByteArray} (hy : y ∈ (cloW L r).N) (hz : z ∈ needOf L y) (ht : there L z = true) : z ∈ (cloW L r).N := by
  rcases clo_closed hy hz with h | h
  · exact h
  · rw [(clo_inv L r).mis z h] at ht; cases ht

/-- What is needed, at once or over others; and itself. -/
inductive Rt (L : List Lb) : ByteArray → ByteArray → Prop
  | refl (a : ByteArray) : Rt L a a
  | step {a b c : ByteArray} : Rt L a b → c ∈ needOf L b → there L c = true → Rt L a c
theorem mem_clo {L : List Lb} {r x : ByteArray} (hr : there L r = true) : x ∈ (cloW L r).N ↔ Rt L r x := by
  have hi := clo_inv L r
  constructor
  · intro hx
    obtain ⟨k, hk, rfl⟩ := List.getElem_of_mem hx
    induction k using Nat.strongRecOn with
    | ind k ih =>
      cases k with
      | zero =>
        have h0 := (hi.root hr).1
        rw [List.getElem?_eq_getElem hk] at h0
        injection h0 with h0
        rw [h0]
        exact .refl _
      | succ k =>
        obtain ⟨j, y, hj, hy, hn⟩ := hi.beh k _ (List.getElem?_eq_getElem hk)
        obtain ⟨hjl, he⟩ := List.getElem?_eq_some_iff.1 hy
        have := ih j (by omega) hjl (List.getElem_mem hjl)
        rw [he] at this
        exact .step this hn (hi.th _ (List.getElem_mem hk))
  · intro h
    induction h with
    | refl => exact List.mem_of_getElem? (hi.root hr).1
    | step _ hc ht ih => exact clo_closed_there ih hc ht
theorem Rt.trans {L : List Lb} {a b c : ByteArray} (h : Rt L a b) (k : Rt L b c) : Rt L a c := by
  induction k with
  | refl => exact h
  | step _ hc ht ih => exact .step ih hc ht
/-- Does one of a closure need itself? -/
def CycN (L : List Lb) (r : ByteArray) : Prop := ∃ x ∈ (cloW L r).N, ∃ z ∈ needOf L x, there L z = true ∧ Rt L z x
def rndW (L : List Lb) (r : ByteArray) : Bool := (cloW L r).N.any fun x => (needOf L x).any fun z => there L z && decide (x ∈ (cloW L z).N)
theorem rndW_iff (L : List Lb) (r : ByteArray) : rndW L r = true ↔ CycN L r := by
  unfold rndW CycN
  simp only [List.any_eq_true, Bool.and_eq_true, decide_eq_true_eq]
  constructor
  · rintro ⟨x, hx, z, hz, ht, hm⟩
    exact ⟨x, hx, z, hz, ht, (mem_clo ht).1 hm⟩
  · rintro ⟨x, hx, z, hz, ht, hm⟩
    exact ⟨x, hx, z, hz, ht, (mem_clo ht).2 hm⟩
/-- What is told of a closure. -/
def ordE (L : List Lb) (r : ByteArray) : Int := if (cloW L r).N.length = 0 then 12 else if 0 < (cloW L r).M.length ∨ 64 < (cloW L r).N.length then 17 else 0
def ordN (L : List Lb) (r : ByteArray) : List ByteArray := if ordE L r = 0 then (cloW L r).N else []
def depW (L : List Lb) (r x : ByteArray) : Int := if x ∈ (cloW L r).N then (((cloW L r).D.getD ((cloW L r).N.idxOf x) 0 : Nat) : Int) else -1
theorem clo_empty {L : List Lb} {r : ByteArray} : (cloW L r).N.length = 0 ↔ there L r = false := by
  have hi := clo_inv L r
  constructor
  · intro h
    cases hq : there L r with
    | false => rfl
    | true =>
      have := (hi.root hq).1
      rw [List.getElem?_eq_none (by omega)] at this
      cases this
  · intro h
    rw [(hi.noroot h).1]
    rfl
end Go.Proofs.Ytmkaehnekhejmaa
