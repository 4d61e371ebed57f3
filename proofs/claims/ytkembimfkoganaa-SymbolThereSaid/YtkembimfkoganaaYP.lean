/- What is found in a table of symbols, of no program: chains, and the last one of a name. -/
import Derived.Test.YtkembimfkoganaaYO
import Derived.Test.YtkembimfkoganaaYM
namespace Go.Proofs.Ytkembimfkoganaa
open Go.RowKit
set_option linter.unusedVariables false
set_option linter.unusedSimpArgs false

/-- The greatest below i that is so. -/
def lastOf (p : Nat → Bool) : Nat → Option Nat
  | 0 => none
  | i + 1 => if p i then some i else lastOf p i
theorem lastOf_congr {p q : Nat → Bool} : ∀ i, (∀ j, j < i → p j = q j) → lastOf p i = lastOf q i
  | 0, _ => rfl
  | i + 1, h => by
    unfold lastOf
    rw [h i (by omega), lastOf_congr i (fun j hj => h j (by omega))]
theorem lastOf_lt {p : Nat → Bool} : ∀ i j, lastOf p i = some j → j < i
  | i + 1, j, h => by
    unfold lastOf at h
    split at h
    · injection h with h; omega
    · have := lastOf_lt i j h; omega
def qT (ns : List ByteArray) (h j : Nat) : Bool := putIn ns j && hN ns j == h
/-- The greatest below i that is in a chain; 0: none. -/
def gT (ns : List ByteArray) (h : Nat) : Nat → Nat
  | 0 => 0
  | i + 1 => if qT ns h i then i else gT ns h i
def descL (ns : List ByteArray) (h : Nat) : Nat → List Nat
  | 0 => []
  | i + 1 => if qT ns h i then i :: descL ns h i else descL ns h i
theorem getD_set (l : List Nat) (i x j : Nat) (hj : j < l.length) : (l.set i x).getD j 0 = if i = j then x else l.getD j 0 := by
  simp only [List.getD_eq_getElem?_getD, List.getElem?_set]
  by_cases h : i = j
  · subst h
    simp [hj]
  · simp [h]
theorem stT_first (ns : List ByteArray) (h : Nat) (hh : h < bN ns.length) : ∀ i, (stT ns i).1.getD h 0 = gT ns h i
  | 0 => by
    unfold stT gT
    simp only [List.getD_eq_getElem?_getD]
    rw [List.getElem?_replicate, if_pos hh]
    rfl
  | i + 1 => by
    have ih := stT_first ns h hh i
    have hl := stT_l1 ns i
    unfold stT gT qT
    by_cases hp : putIn ns i = true
    · rw [if_pos hp, hp, Bool.true_and]
      simp only
      rw [getD_set _ _ _ _ (by omega), ih]
      by_cases e : hN ns i = h
      · simp [e]
      · simp [e]
    · rw [if_neg hp]
      simp only [Bool.not_eq_true] at hp
      rw [hp, Bool.false_and, if_neg (by simp)]
      exact ih
theorem stT_next (ns : List ByteArray) (j : Nat) (hj : j < ns.length) : ∀ i, (stT ns i).2.getD j 0 = if j < i ∧ putIn ns j = true then gT ns (hN ns j) j else 0
  | 0 => by
    unfold stT
    simp only [List.getD_eq_getElem?_getD]
    rw [List.getElem?_replicate, if_pos hj, if_neg (by omega)]
    rfl
  | i + 1 => by
    have ih := stT_next ns j hj i
    have hl := stT_l2 ns i
    unfold stT
    by_cases hp : putIn ns i = true
    · rw [if_pos hp]
      simp only
      rw [getD_set _ _ _ _ (by omega), ih, stT_first ns _ (hN_lt ns i)]
      by_cases e : i = j
      · subst e
        rw [if_pos rfl, if_pos ⟨by omega, hp⟩]
      · rw [if_neg e]
        by_cases h2 : j < i ∧ putIn ns j = true
        · rw [if_pos h2, if_pos ⟨by omega, h2.2⟩]
        · rw [if_neg h2, if_neg (fun x => h2 ⟨by omega, x.2⟩)]
    · rw [if_neg hp, ih]
      by_cases h2 : j < i ∧ putIn ns j = true
      · rw [if_pos h2, if_pos ⟨by omega, h2.2⟩]
      · rw [if_neg h2, if_neg]
        rintro ⟨a, b⟩
        by_cases e : j = i
        · subst e; exact hp b
        · exact h2 ⟨by omega, b⟩
theorem desc_of_g (ns : List ByteArray) (h : Nat) : ∀ i, (gT ns h i = 0 → descL ns h i = []) ∧ (gT ns h i ≠ 0 → gT ns h i < i ∧ putIn ns (gT ns h i) = true ∧ hN ns (gT ns h i) = h ∧ descL ns h i = gT ns h i :: descL ns h (gT ns h i))
  | 0 => ⟨fun _ => rfl, fun h => absurd rfl h⟩
  | i + 1 => by
    obtain ⟨i1, i2⟩ := desc_of_g ns h i
    by_cases hq : qT ns h i = true
    · have e1 : gT ns h (i + 1) = i := by show (if qT ns h i = true then i else _) = i; rw [if_pos hq]
      have e2 : descL ns h (i + 1) = i :: descL ns h i := by show (if qT ns h i = true then _ else _) = _; rw [if_pos hq]
      have hp : putIn ns i = true ∧ hN ns i = h := by
        unfold qT at hq
        simpa using hq
      rw [e1, e2]
      refine ⟨fun h0 => ?_, fun _ => ⟨by omega, hp.1, hp.2, rfl⟩⟩
      subst h0
      have := hp.1
      unfold putIn at this
      simp at this
    · have e1 : gT ns h (i + 1) = gT ns h i := by show (if qT ns h i = true then i else _) = _; rw [if_neg hq]
      have e2 : descL ns h (i + 1) = descL ns h i := by show (if qT ns h i = true then _ else _) = _; rw [if_neg hq]
      rw [e1, e2]
      exact ⟨i1, fun h0 => by obtain ⟨a, b, c, d⟩ := i2 h0; exact ⟨by omega, b, c, d⟩⟩
theorem chn_desc (num : Nat → Nat) (n b : Nat) (ns : List ByteArray) (h : Nat) (h1 : ∀ x, x < n → putIn ns x = true → hN ns x = h → num (2 + b + x) = gT ns h x) :
    ∀ m i at_, i ≤ n → i ≤ m → num at_ = gT ns h i → chnL num n b m at_ = descL ns h i
  | 0, i, at_, _, hm, _ => by
    obtain rfl : i = 0 := by omega
    rfl
  | m + 1, i, at_, hn, hm, hg => by
    obtain ⟨i1, i2⟩ := desc_of_g ns h i
    unfold chnL
    rw [hg]
    by_cases h0 : gT ns h i = 0
    · rw [if_pos (.inl h0), i1 h0]
    · obtain ⟨a, b', c, d⟩ := i2 h0
      rw [if_neg (by omega), d, chn_desc num n b ns h h1 m (gT ns h i) _ (by omega) (by omega) (h1 _ (by omega) b' c)]
theorem find_desc (ns : List ByteArray) (h : Nat) (p : Nat → Bool) : ∀ i, (descL ns h i).find? p = lastOf (fun j => qT ns h j && p j) i
  | 0 => rfl
  | i + 1 => by
    have ih := find_desc ns h p i
    unfold descL lastOf
    by_cases hq : qT ns h i = true
    · rw [if_pos hq, List.find?_cons, hq, Bool.true_and, ih]
      cases p i <;> simp
    · rw [if_neg hq, ih]
      simp only [Bool.not_eq_true] at hq
      rw [hq]
      simp

/-- What made's view and table say. -/
structure MdY (A : Nat) (ns : List ByteArray) (L : List Sy) (V : ByteArray) (d : Dyn) : Prop where
  v : V = mkb (zbL A ++ nbM ns ++ L.flatMap Sy.bytes ++ tabY ns)
  f1 : d.f 1 = (A : Int)
  f2 : d.f 2 = ((nbM ns).length : Nat)
  f3 : d.f 3 = ((A + (nbM ns).length : Nat) : Int)
  f4 : d.f 4 = ((A + (nbM ns).length + 24 * ns.length : Nat) : Int)
  a : 1 ≤ A ∧ A ≤ 100
  len : L.length = ns.length
  few : ns.length ≤ 12
  off : ∀ i (h : i < L.length), L[i].n = ((nbM (ns.take i)).length : Nat)
  small : ∀ s ∈ L, s.small
  nz : ∀ s ∈ ns, s.size ≤ 8 ∧ ∀ c ∈ s.data.toList, c ≠ 0
section
variable {A : Nat} {ns : List ByteArray} {L : List Sy} {V : ByteArray} {d : Dyn}
theorem MdY.size (h : MdY A ns L V d) : V.size = A + (nbM ns).length + 24 * ns.length + 8 + 4 * bN ns.length + 4 * ns.length := by
  rw [h.v, mkb_size, List.length_append, List.length_append, List.length_append, flat_bytesY, tabY_length, h.len]
  simp [zbL]
  omega
theorem MdY.read (h : MdY A ns L V d) {i : Nat} (hi : i < L.length) : rdOk V (d.f 3) i = true ∧ rdS V (d.f 3) i = L[i] := by
  have e : zbL A ++ nbM ns ++ L.flatMap Sy.bytes ++ tabY ns = (zbL A ++ nbM ns ++ (L.take i).flatMap Sy.bytes) ++ L[i].bytes ++ ((L.drop (i + 1)).flatMap Sy.bytes ++ tabY ns) := by
    conv => lhs; rw [← List.take_append_drop i L, List.drop_eq_getElem_cons hi, List.flatMap_append, List.flatMap_cons]
    simp only [List.append_assoc]
  rw [h.v, e, h.f3]
  refine rd_at _ _ L[i] (A + (nbM ns).length) i ?_ (by have := h.a; omega) (h.small _ (List.getElem_mem hi))
  rw [List.length_append, List.length_append, flat_bytesY, List.length_take]
  simp [zbL]
  omega
/-- The table's numbers. -/
def numsT (ns : List ByteArray) : List Nat := [bN ns.length, ns.length] ++ (stT ns ns.length).1 ++ (stT ns ns.length).2
theorem tab_nums (ns : List ByteArray) : tabY ns = nbytes (numsT ns) := by unfold tabY numsT nbytes; rw [List.flatMap_append, List.flatMap_append]
theorem MdY.num (h : MdY A ns L V d) {j : Nat} (hj : j < (numsT ns).length) : numV V (d.f 4) j = (numsT ns)[j] := by
  have hle := stT_le ns ns.length
  have hb : bN ns.length ≤ 12 := by have := h.few; unfold bN; omega
  have hx : (numsT ns)[j] < 4294967296 := by
    have hm := List.getElem_mem hj
    generalize (numsT ns)[j] = x at hm
    unfold numsT at hm
    have hf := h.few
    rcases List.mem_append.1 hm with hm | hm
    · rcases List.mem_append.1 hm with hm | hm
      · simp at hm; omega
      · have := hle.1 _ hm; omega
    · have := hle.2 _ hm; omega
  have e : zbL A ++ nbM ns ++ L.flatMap Sy.bytes ++ tabY ns = (zbL A ++ nbM ns ++ L.flatMap Sy.bytes ++ nbytes ((numsT ns).take j)) ++ putL (numsT ns)[j] 4 ++ nbytes ((numsT ns).drop (j + 1)) := by
    rw [tab_nums]
    conv => lhs; rw [← List.take_append_drop j (numsT ns), List.drop_eq_getElem_cons hj]
    unfold nbytes
    rw [List.flatMap_append, List.flatMap_cons]
    simp only [List.append_assoc]
  have hg := getN_mid (zbL A ++ nbM ns ++ L.flatMap Sy.bytes ++ nbytes ((numsT ns).take j)) (putL (numsT ns)[j] 4) (nbytes ((numsT ns).drop (j + 1))) (A + (nbM ns).length + 24 * ns.length) (4 * j) 0 4 (by
    rw [List.length_append, List.length_append, List.length_append, flat_bytesY, nbytes_length, List.length_take, h.len]
    simp [zbL]
    omega) (by omega) (by omega) (by rw [putL_length]; omega)
  rw [← e, ← h.v, List.drop_zero, List.take_of_length_le (by rw [putL_length]; omega), getL_putLY, Nat.mod_eq_of_lt (by omega), show (((4 * j : Nat) : Int) + ((0 : Nat) : Int)) = (j : Int) * 4 by omega] at hg
  unfold numV
  have hs := h.size
  have ha := h.a
  rw [h.f4, if_pos (by omega)]
  simp only [show ((4 : Nat) : Int) = 4 from rfl] at hg
  rw [hg]
  rfl
theorem numsT_length (ns : List ByteArray) : (numsT ns).length = 2 + bN ns.length + ns.length := by
  unfold numsT
  rw [List.length_append, List.length_append, stT_l1, stT_l2]
  rfl
theorem MdY.cnt (h : MdY A ns L V d) : cntV V (d.f 4) = ns.length := by
  have h1 := h.num (j := 1) (by rw [numsT_length]; omega)
  have e : (numsT ns)[1]'(by rw [numsT_length]; omega) = ns.length := by simp [numsT]
  rw [e] at h1
  unfold cntV
  rw [h1, if_pos (by have := h.few; omega)]
theorem MdY.num0 (h : MdY A ns L V d) : numV V (d.f 4) 0 = bN ns.length := by
  have h1 := h.num (j := 0) (by rw [numsT_length]; omega)
  rw [h1]
  simp [numsT]
theorem MdY.first (h : MdY A ns L V d) {q : Nat} (hq : q < bN ns.length) : numV V (d.f 4) (2 + q) = gT ns q ns.length := by
  have h1 := h.num (j := 2 + q) (by rw [numsT_length]; omega)
  have hl := stT_l1 ns ns.length
  rw [h1, ← stT_first ns q hq ns.length, List.getD_eq_getElem?_getD, List.getElem?_eq_getElem (by omega)]
  unfold numsT
  rw [List.getElem_append_left (by simp; omega), List.getElem_append_right (by simp)]
  simp
theorem MdY.next (h : MdY A ns L V d) {x : Nat} (hx : x < ns.length) (hp : putIn ns x = true) : numV V (d.f 4) (2 + bN ns.length + x) = gT ns (hN ns x) x := by
  have h1 := h.num (j := 2 + bN ns.length + x) (by rw [numsT_length]; omega)
  have hl := stT_l1 ns ns.length
  have hl2 := stT_l2 ns ns.length
  have h2 := stT_next ns x hx ns.length
  rw [if_pos ⟨hx, hp⟩] at h2
  rw [h1, ← h2, List.getD_eq_getElem?_getD, List.getElem?_eq_getElem (by omega)]
  unfold numsT
  rw [List.getElem_append_right (by simp; omega)]
  simp [hl]
  congr 1
  omega
end
end Go.Proofs.Ytkembimfkoganaa
