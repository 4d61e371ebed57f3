/- What is found in made's view: names, and the last symbol of a name; of no program. -/
import Derived.Test.YtkembimfkoganaaYP
namespace Go.Proofs.Ytkembimfkoganaa
open Go.RowKit
set_option linter.unusedVariables false
set_option linter.unusedSimpArgs false

theorem findIdx_zeroY : ∀ (l r : List UInt8), (∀ c ∈ l, c ≠ 0) → (l ++ 0 :: r).findIdx (· == 0) = l.length
  | [], r, _ => by simp [List.findIdx_cons]
  | c :: l, r, h => by
    have h1 : (c == 0) = false := by simpa using h c (List.mem_cons_self ..)
    rw [List.cons_append, List.findIdx_cons, h1, cond_false, findIdx_zeroY l r (fun x hx => h x (List.mem_cons_of_mem _ hx)), List.length_cons]
section
variable {A : Nat} {ns : List ByteArray} {L : List Sy} {V : ByteArray} {d : Dyn}
/-- The names' bytes, from the ith on. -/
theorem nb_split (ns : List ByteArray) {i : Nat} (hi : i < ns.length) : nbM ns = nbM (ns.take i) ++ (ns[i].data.toList ++ 0 :: nbM (ns.drop (i + 1))) := by
  conv => lhs; rw [← List.take_append_drop i ns, List.drop_eq_getElem_cons hi]
  unfold nbM
  rw [List.flatMap_append, List.flatMap_cons]
  simp only [List.append_assoc]
  rfl
theorem MdY.drop (h : MdY A ns L V d) {i : Nat} (hi : i < ns.length) : ∃ r, V.data.toList.drop (A + (nbM (ns.take i)).length) = ns[i].data.toList ++ 0 :: r := by
  refine ⟨nbM (ns.drop (i + 1)) ++ (L.flatMap Sy.bytes ++ tabY ns), ?_⟩
  rw [h.v, mkb_data]
  have e : zbL A ++ nbM ns ++ L.flatMap Sy.bytes ++ tabY ns = (zbL A ++ nbM (ns.take i)) ++ (ns[i].data.toList ++ 0 :: (nbM (ns.drop (i + 1)) ++ (L.flatMap Sy.bytes ++ tabY ns))) := by
    rw [nb_split ns hi]
    simp only [List.append_assoc, List.cons_append]
  rw [e, List.drop_left' (by rw [List.length_append]; simp [zbL])]
theorem MdY.names (h : MdY A ns L V d) : nmsB V (d.f 1) (d.f 2) = true ∧ nmsS V (d.f 1) (d.f 2) = mkb (nbM ns) := by
  have hs := h.size
  have ha := h.a
  rw [h.f1, h.f2]
  constructor
  · unfold nmsB
    rw [decide_eq_true (by omega), decide_eq_true (by omega), decide_eq_true (by omega)]
    rfl
  · unfold nmsS
    simp only [Int.toNat_natCast]
    rw [Nat.min_eq_left (by omega), extract_mkb, extract_mkb, mkb_data]
    congr 1
    have hvd : V.data.toList = zbL A ++ (nbM ns ++ (L.flatMap Sy.bytes ++ tabY ns)) := by rw [h.v, mkb_data]; simp only [List.append_assoc]
    rw [List.drop_zero, Nat.sub_zero, List.take_take, hvd, List.drop_left' (by simp [zbL]), List.take_append_of_le_length (by omega), List.take_of_length_le (by omega)]
theorem MdY.name (h : MdY A ns L V d) {i : Nat} (hi : i < L.length) : nameOk V d L[i].n = true ∧ nameS V d L[i].n = ns[i]'(by rw [← h.len]; exact hi) := by
  have hi2 : i < ns.length := by rw [← h.len]; exact hi
  obtain ⟨n1, n2⟩ := h.names
  obtain ⟨z1, z2⟩ := h.nz _ (List.getElem_mem hi2)
  have hz : zat (mkb (nbM ns)) (nbM (ns.take i)).length = ns[i].size := by
    unfold zat
    rw [mkb_data, nb_split ns hi2, List.drop_left, findIdx_zeroY _ _ z2, len_data]
  have hsz : (nbM (ns.take i)).length + ns[i].size < (mkb (nbM ns)).size := by
    rw [mkb_size]
    conv => rhs; rw [nb_split ns hi2]
    rw [List.length_append, List.length_append, len_data, List.length_cons]
    omega
  obtain ⟨t1, t2⟩ := text_yes (s := mkb (nbM ns)) (a := (nbM (ns.take i)).length) (most := 24) (by rw [hz]; exact hsz) (by rw [hz]; omega)
  unfold nameOk nameS
  rw [n1, n2, h.off i hi, t1, t2, hz]
  refine ⟨rfl, ?_⟩
  rw [if_pos rfl, extract_mkb, mkb_data, Nat.add_sub_cancel_left, nb_split ns hi2, List.drop_left, ← len_data, List.take_left]
  exact mkb_of _

/-- Is it a symbol that is looked for? -/
def cndY (ns : List ByteArray) (L : List Sy) (nm : ByteArray) (j : Nat) : Bool := (decide (0 < j) && decide ((nmT ns j).size ≠ 0)) && (((nmT ns j).toList == nm.toList) && (L.getD j ⟨0, false, 0⟩).d)
theorem toList_eqY {a b : ByteArray} (h : (a.toList == b.toList) = true) : a = b := by
  have h1 : a.toList = b.toList := by simpa using h
  rw [Lib.toList_data, Lib.toList_data] at h1
  rw [← mkb_of a, ← mkb_of b, h1]
theorem MdY.ok (h : MdY A ns L V d) (nm : ByteArray) {j : Nat} (hj : j < ns.length) : (qT ns (hashL nm.data.toList % bN ns.length) j && okY V d nm j) = cndY ns L nm j := by
  have hjl : j < L.length := by rw [h.len]; exact hj
  obtain ⟨r1, r2⟩ := h.read hjl
  obtain ⟨m1, m2⟩ := h.name hjl
  have e1 : okY V d nm j = (L[j].d && (ns[j].toList == nm.toList)) := by
    unfold okY
    rw [r2, m1, m2, Bool.true_and]
  have e2 : nmT ns j = ns[j] := by unfold nmT; rw [List.getD_eq_getElem?_getD, List.getElem?_eq_getElem hj]; rfl
  have e3 : L.getD j ⟨0, false, 0⟩ = L[j] := by rw [List.getD_eq_getElem?_getD, List.getElem?_eq_getElem hjl]; rfl
  unfold cndY qT
  rw [e1, e3, e2]
  have hp : putIn ns j = (decide (0 < j) && decide (ns[j].size ≠ 0)) := by unfold putIn; rw [e2]
  rw [hp]
  by_cases hn : (ns[j].toList == nm.toList) = true
  · have hh : hN ns j = hashL nm.data.toList % bN ns.length := by unfold hN; rw [e2, toList_eqY hn]
    rw [hn, hh]
    simp
  · simp only [Bool.not_eq_true] at hn
    rw [hn]
    simp
theorem MdY.find (h : MdY A ns L V d) (nm : ByteArray) : fndI V d nm = lastOf (cndY ns L nm) ns.length := by
  have hb := bN_pos ns.length
  have hseq : seqY V (d.f 4) (hashL nm.data.toList) = descL ns (hashL nm.data.toList % bN ns.length) ns.length := by
    unfold seqY
    rw [h.num0, if_neg (by omega), h.cnt]
    refine chn_desc _ ns.length (bN ns.length) ns _ (fun x hx hp hh => ?_) ns.length ns.length _ (Nat.le_refl _) (Nat.le_refl _) ?_
    · rw [h.next hx hp, hh]
    · exact h.first (Nat.mod_lt _ hb)
  unfold fndI
  rw [hseq, find_desc]
  exact lastOf_congr _ (fun j hj => h.ok nm hj)
theorem MdY.told (h : MdY A ns L V d) (nm : ByteArray) : fndS V d nm = (match lastOf (cndY ns L nm) ns.length with | some j => L.getD j ⟨0, false, 0⟩ | none => ⟨0, false, 0⟩) := by
  unfold fndS
  rw [h.find nm]
  cases hl : lastOf (cndY ns L nm) ns.length with
  | none => rfl
  | some j =>
    have hj : j < L.length := by rw [h.len]; exact lastOf_lt _ _ hl
    simp only
    rw [(h.read hj).2, List.getD_eq_getElem?_getD, List.getElem?_eq_getElem hj]
    rfl
end
/-- A text that is cut at its first byte 0 has none. -/
theorem findIdx_take : ∀ l : List UInt8, ∀ c ∈ l.take (l.findIdx (· == 0)), c ≠ 0
  | [], c, h => by simp at h
  | x :: l, c, h => by
    rw [List.findIdx_cons] at h
    by_cases hx : (x == 0) = true
    · rw [hx] at h
      simp at h
    · simp only [Bool.not_eq_true] at hx
      rw [hx, cond_false, List.take_succ_cons] at h
      rcases List.mem_cons.1 h with e | e
      · subst e; simpa using hx
      · exact findIdx_take l c e
theorem cutZ_nz (S : ByteArray) : ∀ c ∈ (cutZ S).data.toList, c ≠ 0 := by
  unfold cutZ zat
  rw [List.drop_zero, extract_mkb, mkb_data, List.drop_zero, Nat.sub_zero]
  exact findIdx_take _
theorem made_MdY (ah : Int) (ss : List ByteArray) (zs : List Int) : MdY (aheadY ah) (nmsM ss (cntM ss)) (symsM ss zs (cntM ss)) (mkb (VM ah ss zs)) (DM ah ss) := by
  have hc : cntM ss ≤ ss.length := by unfold cntM; omega
  have hc2 : cntM ss ≤ 12 := by unfold cntM; omega
  have hl := nmsM_length ss hc
  refine ⟨rfl, rfl, rfl, rfl, ?_, ?_, ?_, ?_, ?_, ?_, ?_⟩
  · rw [hl]; rfl
  · unfold aheadY; omega
  · rw [symsM_length, hl]
  · rw [hl]; exact hc2
  · intro i hi
    rw [symsM_at]
    rw [symsM_length] at hi
    show ((nbM (nmsM ss i)).length : Int) = _
    have e : (nmsM ss (cntM ss)).take i = nmsM ss i := by
      unfold nmsM
      rw [← List.map_take, List.take_take, Nat.min_eq_left (by omega)]
    rw [e]
  · intro s hs
    obtain ⟨i, hi, rfl⟩ := List.getElem_of_mem hs
    rw [symsM_at]
    rw [symsM_length] at hi
    have h1 := nbM_le (nmsM ss i) (nmsM_size ss i)
    rw [nmsM_length ss (by omega)] at h1
    have h2 := valM_in zs i
    exact ⟨by show (0 : Int) ≤ ((nbM (nmsM ss i)).length : Nat); omega, by show (((nbM (nmsM ss i)).length : Nat) : Int) < _; omega, h2.1, by show valM zs i ≤ _; omega⟩
  · intro s hs
    refine ⟨nmsM_size ss _ s hs, ?_⟩
    obtain ⟨t, _, rfl⟩ := List.mem_map.1 hs
    exact cutZ_nz _
end Go.Proofs.Ytkembimfkoganaa
