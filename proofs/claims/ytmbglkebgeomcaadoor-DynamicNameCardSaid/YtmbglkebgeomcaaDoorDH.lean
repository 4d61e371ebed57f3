/- Package dynamic: what was written is read (of no program). -/
import Derived.Test.YtmbglkebgeomcaaDoorDG
namespace Go.Proofs.YtmbglkebgeomcaaDoor
open Go.RowKit
set_option linter.unusedVariables false
set_option linter.unusedSimpArgs false

theorem getL_putL9 : ∀ W x, getL (putL x W) = x % 256 ^ W
  | 0, x => by simp [putL, getL, Nat.mod_one]
  | W + 1, x => by
    rw [putL, getL, getL_putL9 W (x / 256), Nat.pow_succ, Nat.mul_comm (256 ^ W) 256, Nat.mod_mul]
    simp
/-- Entries that fit into their bytes. -/
def Fits (l : List (Int × Int)) : Prop := ∀ e ∈ l, (0 ≤ e.1 ∧ e.1 < 18446744073709551616) ∧ 0 ≤ e.2 ∧ e.2 < 18446744073709551616
theorem entsL_cons (e : Int × Int) (l : List (Int × Int)) : entsL (e :: l) = entL e.1 e.2 ++ entsL l := by simp [entsL]
theorem entsL_drop : ∀ (l : List (Int × Int)) (i : Nat) (X : List UInt8), i ≤ l.length → (entsL l ++ X).drop (i * 16) = entsL (l.drop i) ++ X
  | l, 0, X, _ => by simp
  | [], i + 1, X, h => by simp at h
  | e :: l, i + 1, X, h => by
    rw [List.drop_succ_cons, ← entsL_drop l i X (by simpa using h), entsL_cons, show (i + 1) * 16 = 16 + i * 16 by omega, ← List.drop_drop, List.append_assoc]
    rw [List.drop_left' (entL_length _ _)]
theorem ent_read (l : List (Int × Int)) (X : List UInt8) (hf : Fits l) {i : Nat} (hi : i < l.length) : entAt (mkb (entsL l ++ X)) i = l[i] := by
  obtain ⟨⟨h1, h2⟩, h3, h4⟩ := hf l[i] (List.getElem_mem hi)
  have hlen : (mkb (entsL l ++ X)).size = 16 * l.length + X.length := by rw [mkb_size, List.length_append, entsL_length]
  have hd := entsL_drop l i X (by omega)
  rw [List.drop_eq_getElem_cons hi, entsL_cons] at hd
  have p1 : partL (mkb (entsL l ++ X)) (i * 16) 8 = putL l[i].1.toNat 8 := by
    unfold partL
    rw [mkb_data, hd, entL, List.append_assoc, List.append_assoc, List.take_append_of_le_length (by rw [putL_length]; omega), List.take_of_length_le (by rw [putL_length]; omega)]
  have p2 : partL (mkb (entsL l ++ X)) (i * 16 + 8) 8 = putL l[i].2.toNat 8 := by
    unfold partL
    rw [mkb_data, ← List.drop_drop, hd, entL, List.append_assoc, List.append_assoc, List.drop_append_of_le_length (by rw [putL_length]; omega), List.drop_of_length_le (by rw [putL_length]; omega), List.nil_append, List.take_append_of_le_length (by rw [putL_length]; omega), List.take_of_length_le (by rw [putL_length]; omega)]
  unfold entAt getN
  rw [if_pos (by rw [hol_iff, hlen]; omega), if_pos (by rw [hol_iff, hlen]; omega)]
  rw [show ((i : Int) * 16).toNat = i * 16 by omega, show ((i : Int) * 16 + 8).toNat = i * 16 + 8 by omega, show (8 : Int).toNat = 8 from rfl, p1, p2, getL_putL9, getL_putL9]
  rw [Nat.mod_eq_of_lt (by omega), Nat.mod_eq_of_lt (by omega), Int.toNat_of_nonneg h1, Int.toNat_of_nonneg h3]
theorem ents_read (l : List (Int × Int)) (X : List UInt8) (hf : Fits l) : ∃ T, entsOf (mkb (entsL l ++ X)) = l ++ T ∧ T.length = X.length / 16 := by
  have hlen : (mkb (entsL l ++ X)).size / 16 = l.length + X.length / 16 := by rw [mkb_size, List.length_append, entsL_length]; omega
  have hel : (entsOf (mkb (entsL l ++ X))).length = l.length + X.length / 16 := by unfold entsOf; rw [List.length_map, List.length_range, hlen]
  refine ⟨(entsOf (mkb (entsL l ++ X))).drop l.length, ?_, by rw [List.length_drop, hel]; omega⟩
  conv => lhs; rw [← List.take_append_drop l.length (entsOf (mkb (entsL l ++ X)))]
  congr 1
  refine List.ext_getElem (by rw [List.length_take, hel]; omega) fun i h1 h2 => ?_
  rw [List.getElem_take]
  unfold entsOf
  rw [List.getElem_map, List.getElem_range]
  exact ent_read l X hf h2

/-- Entries that may stand behind others. -/
def okL : List (Int × Int) → List (Int × Int) → Prop
  | _, [] => True
  | L, e :: r => e.1 ≠ 0 ∧ mostI e.1 ≠ 0 ∧ cntI L e.1 ≠ mostI e.1 ∧ mayI e.1 e.2 = true ∧ okL (L ++ [e]) r
theorem rdL_ok : ∀ (E L T : List (Int × Int)), okL L E → rdL (E ++ T) L = rdL T (L ++ E)
  | [], L, T, _ => by simp
  | e :: r, L, T, h => by
    obtain ⟨h1, h2, h3, h4, h5⟩ := h
    rw [List.cons_append, rdL, if_neg h1, if_neg h2, if_neg h3, if_pos h4, rdL_ok r (L ++ [e]) T h5, List.append_assoc]
    rfl
theorem cntI_append (A B : List (Int × Int)) (t : Int) : cntI (A ++ B) t = cntI A t + cntI B t := by unfold cntI; rw [List.countP_append]; omega
theorem cntI_cons (e : Int × Int) (B : List (Int × Int)) (t : Int) : cntI (e :: B) t = (if e.1 = t then 1 else 0) + cntI B t := by
  have := cntI_snoc [] e t
  rw [show e :: B = [e] ++ B from rfl, cntI_append]
  simp only [List.nil_append] at this
  rw [this]
  simp [cntI]
theorem okL_of : ∀ (E L : List (Int × Int)), (∀ e ∈ E, e.1 ≠ 0 ∧ mostI e.1 ≠ 0 ∧ mayI e.1 e.2 = true) → (∀ e ∈ E, cntI (L ++ E) e.1 ≤ mostI e.1) → okL L E
  | [], _, _, _ => trivial
  | e :: r, L, h1, h2 => by
    obtain ⟨a1, a2, a3⟩ := h1 e (by simp)
    have h3 := h2 e (by simp)
    rw [cntI_append, cntI_cons, if_pos rfl] at h3
    have h4 := cntI_nonneg r e.1
    refine ⟨a1, a2, by omega, a3, okL_of r (L ++ [e]) (fun x hx => h1 x (by simp [hx])) fun x hx => ?_⟩
    have := h2 x (by simp [hx])
    rw [List.append_assoc]
    exact this

/-- A table whose numbers may be written. -/
structure Dyn.Ok (d : Dyn) : Prop where
  need : ∀ n ∈ d.needed, 0 ≤ n ∧ n ≤ 1099511627776
  few : d.needed.length ≤ 64
  num : ∀ j, 0 ≤ d.f j ∧ d.f j ≤ 1099511627776
  rel : d.f 6 % 24 = 0
theorem Dyn.nums_eq (d : Dyn) : d.nums 8 = d.one 0 ++ d.one 1 ++ d.one 2 ++ d.one 3 ++ d.one 4 ++ d.one 5 ++ d.one 6 ++ d.one 7 := by
  simp [Dyn.nums, List.range_succ]
theorem cnt_one (d : Dyn) (q : Nat) (t : Int) : cntI (d.one q) t ≤ if ordL.getD q 0 = t then 1 else 0 := by
  unfold Dyn.one
  split
  · rw [cntI_cons]; simp [cntI]
  · simp only [cntI, List.countP_nil]; split <;> simp
theorem cnt_need (d : Dyn) (t : Int) : cntI d.need t = if t = 1 then (d.needed.length : Int) else 0 := by
  unfold cntI Dyn.need
  rw [List.countP_map]
  by_cases h : t = 1
  · subst h
    rw [if_pos rfl]
    have : List.countP ((fun e : Int × Int => e.1 == 1) ∘ fun n => (1, max n 0)) d.needed = d.needed.length := by
      rw [List.countP_eq_length]
      intro a _
      rfl
    rw [this]
  · rw [if_neg h]
    have : List.countP ((fun e : Int × Int => e.1 == t) ∘ fun n => (1, max n 0)) d.needed = 0 := by
      rw [List.countP_eq_zero]
      intro a _
      simp
      omega
    rw [this]
    rfl
theorem cnt_ents (d : Dyn) (t : Int) : cntI d.ents t ≤ (if t = 1 then (d.needed.length : Int) else 0) + ((if 4 = t then 1 else 0) + (if 5 = t then 1 else 0) + (if 6 = t then 1 else 0) + (if 7 = t then 1 else 0) + (if 8 = t then 1 else 0) + (if 10 = t then 1 else 0) + (if 14 = t then 1 else 0) + (if 1879047669 = t then 1 else 0)) + (if 9 = t then 1 else 0) + (if 11 = t then 1 else 0) := by
  unfold Dyn.ents
  rw [Dyn.nums_eq]
  simp only [cntI_append, cnt_need]
  have h0 := cnt_one d 0 t
  have h1 := cnt_one d 1 t
  have h2 := cnt_one d 2 t
  have h3 := cnt_one d 3 t
  have h4 := cnt_one d 4 t
  have h5 := cnt_one d 5 t
  have h6 := cnt_one d 6 t
  have h7 := cnt_one d 7 t
  simp only [ordL, List.getD_cons_zero, List.getD_cons_succ] at h0 h1 h2 h3 h4 h5 h6 h7
  have hr : cntI d.rs t ≤ if 9 = t then 1 else 0 := by
    unfold Dyn.rs
    split
    · rw [cntI_cons]; simp [cntI]
    · simp only [cntI, List.countP_nil]; split <;> simp
  have hs : cntI d.ss t ≤ if 11 = t then 1 else 0 := by
    unfold Dyn.ss
    split
    · rw [cntI_cons]; simp [cntI]
    · simp only [cntI, List.countP_nil]; split <;> simp
  omega
theorem mem_ents (d : Dyn) {e : Int × Int} (h : e ∈ d.ents) : (∃ n ∈ d.needed, e = (1, max n 0)) ∨ (∃ q : Nat, q < 8 ∧ 0 < d.f (fixL.getD q 0) ∧ e = (ordL.getD q 0, d.f (fixL.getD q 0))) ∨ e = (9, 24) ∨ e = (11, 24) := by
  unfold Dyn.ents at h
  rcases List.mem_append.1 h with h | h
  · rcases List.mem_append.1 h with h | h
    · rcases List.mem_append.1 h with h | h
      · obtain ⟨n, hn, rfl⟩ := List.mem_map.1 h
        exact .inl ⟨n, hn, rfl⟩
      · obtain ⟨q, hq, hm⟩ := List.mem_flatMap.1 h
        unfold Dyn.one at hm
        split at hm
        · rename_i h0
          exact .inr (.inl ⟨q, List.mem_range.1 hq, h0, List.mem_singleton.1 hm⟩)
        · cases hm
    · unfold Dyn.rs at h
      split at h
      · exact .inr (.inr (.inl (List.mem_singleton.1 h)))
      · cases h
  · unfold Dyn.ss at h
    split at h
    · exact .inr (.inr (.inr (List.mem_singleton.1 h)))
    · cases h
theorem Dyn.Ok.base {d : Dyn} (h : d.Ok) {e : Int × Int} (he : e ∈ d.ents) : (e.1 ≠ 0 ∧ mostI e.1 ≠ 0 ∧ mayI e.1 e.2 = true) ∧ cntI d.ents e.1 ≤ mostI e.1 ∧ (0 ≤ e.1 ∧ e.1 < 18446744073709551616) ∧ 0 ≤ e.2 ∧ e.2 < 18446744073709551616 := by
  have hc := cnt_ents d e.1
  have hfew := h.few
  rcases mem_ents d he with ⟨n, hn, rfl⟩ | ⟨q, hq, h0, rfl⟩ | rfl | rfl
  · obtain ⟨n1, n2⟩ := h.need n hn
    simp only at hc ⊢
    refine ⟨⟨by decide, by decide, ?_⟩, ?_, by omega, by omega, by omega⟩
    · simp [mayI]; omega
    · rw [show mostI 1 = 64 from rfl]
      simp at hc
      omega
  · obtain ⟨m1, m2⟩ := h.num (fixL.getD q 0)
    have hrel := h.rel
    simp only at hc ⊢
    refine ⟨?_, ?_, ?_, by omega, by omega⟩
    · match q, hq with
      | 0, _ => exact ⟨by decide, by decide, decide_eq_true m2⟩
      | 1, _ => exact ⟨by decide, by decide, decide_eq_true m2⟩
      | 2, _ => exact ⟨by decide, by decide, decide_eq_true m2⟩
      | 3, _ => exact ⟨by decide, by decide, decide_eq_true m2⟩
      | 4, _ => exact ⟨by decide, by decide, by
          show (decide (d.f 6 ≤ 1099511627776) && (d.f 6 % 24 == 0)) = true
          rw [decide_eq_true (show d.f 6 ≤ 1099511627776 from m2), hrel]
          rfl⟩
      | 5, _ => exact ⟨by decide, by decide, decide_eq_true m2⟩
      | 6, _ => exact ⟨by decide, by decide, decide_eq_true m2⟩
      | 7, _ => exact ⟨by decide, by decide, decide_eq_true m2⟩
    · match q, hq with
      | 0, _ => simp [ordL] at hc; simpa [ordL, mostI] using hc
      | 1, _ => simp [ordL] at hc; simpa [ordL, mostI] using hc
      | 2, _ => simp [ordL] at hc; simpa [ordL, mostI] using hc
      | 3, _ => simp [ordL] at hc; simpa [ordL, mostI] using hc
      | 4, _ => simp [ordL] at hc; simpa [ordL, mostI] using hc
      | 5, _ => simp [ordL] at hc; simpa [ordL, mostI] using hc
      | 6, _ => simp [ordL] at hc; simpa [ordL, mostI] using hc
      | 7, _ => simp [ordL] at hc; simpa [ordL, mostI] using hc
    · match q, hq with
      | 0, _ => decide
      | 1, _ => decide
      | 2, _ => decide
      | 3, _ => decide
      | 4, _ => decide
      | 5, _ => decide
      | 6, _ => decide
      | 7, _ => decide
  · simp at hc
    exact ⟨⟨by decide, by decide, by decide⟩, by simpa [mostI] using hc, by decide, by decide, by decide⟩
  · simp at hc
    exact ⟨⟨by decide, by decide, by decide⟩, by simpa [mostI] using hc, by decide, by decide, by decide⟩
theorem Dyn.Ok.okL {d : Dyn} (h : d.Ok) : okL [] d.ents := okL_of _ _ (fun e he => (h.base he).1) (fun e he => by simpa using (h.base he).2.1)
theorem Dyn.Ok.fits {d : Dyn} (h : d.Ok) : Fits (d.ents ++ [(0, 0)]) := fun e he => by
  rcases List.mem_append.1 he with he | he
  · exact (h.base he).2.2
  · rw [List.mem_singleton.1 he]
    decide
/-- What was written is read, whatever stands behind. -/
theorem Dyn.Ok.read {d : Dyn} (h : d.Ok) (X : List UInt8) : readO (mkb (d.tabL ++ X)) = some d.ents := by
  obtain ⟨T, hT, _⟩ := ents_read (d.ents ++ [(0, 0)]) X h.fits
  unfold readO Dyn.tabL
  rw [hT, List.append_assoc, rdL_ok d.ents [] _ h.okL]
  simp [rdL]
/-- Without its last byte it is none. -/
theorem Dyn.Ok.less {d : Dyn} (h : d.Ok) : readO (mkb (d.tabL.take (d.tabL.length - 1))) = Option.none := by
  have hf : Fits d.ents := fun e he => (h.base he).2.2
  have hl : d.tabL.length = 16 * d.ents.length + 16 := by unfold Dyn.tabL; rw [entsL_length]; simp; omega
  have ht : d.tabL.take (d.tabL.length - 1) = entsL d.ents ++ (entL 0 0).take 15 := by
    rw [hl]
    unfold Dyn.tabL
    rw [entsL_append, entsL_one, List.take_append, entsL_length, List.take_of_length_le (by rw [entsL_length]; omega)]
    congr 2
    omega
  obtain ⟨T, hT, hTl⟩ := ents_read d.ents ((entL 0 0).take 15) hf
  have h0 : T = [] := by
    have : ((entL 0 0).take 15).length = 15 := by rw [List.length_take, entL_length]; rfl
    rw [this] at hTl
    exact List.length_eq_zero_iff.1 hTl
  unfold readO
  rw [ht, hT, h0, rdL_ok d.ents [] _ h.okL]
  rfl

theorem say_need : ∀ (l : List Int) (d : Dyn), (l.map fun n => ((1 : Int), max n 0)).foldl (fun d e => d.say e.1 e.2) d = ⟨d.needed ++ l.map fun n => max n 0, d.f⟩
  | [], d => by simp
  | n :: l, d => by
    rw [List.map_cons, List.foldl_cons, say_need l]
    simp [Dyn.say]
theorem say_one (d0 d : Dyn) {q : Nat} (hq : q < 8) : (d0.one q).foldl (fun d e => d.say e.1 e.2) d = ⟨d.needed, fun j => if j = fixL.getD q 0 ∧ 0 < d0.f (fixL.getD q 0) then d0.f (fixL.getD q 0) else d.f j⟩ := by
  have h1 : ordL.getD q 0 ≠ 1 := by
    match q, hq with
    | 0, _ => decide
    | 1, _ => decide
    | 2, _ => decide
    | 3, _ => decide
    | 4, _ => decide
    | 5, _ => decide
    | 6, _ => decide
    | 7, _ => decide
  have h2 := fldI_ord hq
  have h3 := (fixL_in hq).1
  unfold Dyn.one
  split
  · rename_i h
    simp only [List.foldl_cons, List.foldl_nil, Dyn.say]
    rw [if_neg h1, h2]
    congr 1
    funext j
    by_cases hj : j = fixL.getD q 0
    · rw [if_pos ⟨hj, by omega⟩, if_pos ⟨hj, h⟩]
    · rw [if_neg (fun x => hj x.1), if_neg (fun x => hj x.1)]
  · rename_i h
    simp only [List.foldl_nil]
    obtain ⟨n, f⟩ := d
    congr 1
    funext j
    rw [if_neg (fun x => h x.2)]
theorem say_none (d : Dyn) (t n : Int) (h1 : t ≠ 1) (h0 : fldI t = 0) : d.say t n = d := by
  unfold Dyn.say
  rw [if_neg h1, h0]
  obtain ⟨l, f⟩ := d
  congr 1
  funext j
  simp
/-- What is read of it: the same, but numbers below 0 as 0. -/
theorem dyn_told (d : Dyn) : (dynL d.ents).needed = (d.needed.map fun n => max n 0) ∧ ∀ q, q < 8 → (dynL d.ents).f (fixL.getD q 0) = max (d.f (fixL.getD q 0)) 0 := by
  have hr : ∀ x : Dyn, d.rs.foldl (fun d e => d.say e.1 e.2) x = x := fun x => by
    unfold Dyn.rs
    split
    · exact say_none x 9 24 (by decide) (by decide)
    · rfl
  have hs : ∀ x : Dyn, d.ss.foldl (fun d e => d.say e.1 e.2) x = x := fun x => by
    unfold Dyn.ss
    split
    · exact say_none x 11 24 (by decide) (by decide)
    · rfl
  unfold dynL Dyn.ents
  rw [List.foldl_append, List.foldl_append, List.foldl_append, hr, hs, Dyn.need, say_need, Dyn.nums_eq]
  simp only [List.foldl_append]
  rw [say_one d _ (by decide : 0 < 8), say_one d _ (by decide : 1 < 8), say_one d _ (by decide : 2 < 8), say_one d _ (by decide : 3 < 8), say_one d _ (by decide : 4 < 8), say_one d _ (by decide : 5 < 8), say_one d _ (by decide : 6 < 8), say_one d _ (by decide : 7 < 8)]
  simp only [fixL, List.getD_cons_zero, List.getD_cons_succ, Dyn.none]
  refine ⟨by simp, fun q hq => ?_⟩
  match q, hq with
  | 0, _ => simp; omega
  | 1, _ => simp; omega
  | 2, _ => simp; omega
  | 3, _ => simp; omega
  | 4, _ => simp; omega
  | 5, _ => simp; omega
  | 6, _ => simp; omega
  | 7, _ => simp; omega
theorem Dyn.Ok.same {d : Dyn} (h : d.Ok) : sameD (dynL d.ents) d = true := by
  obtain ⟨h1, h2⟩ := dyn_told d
  unfold sameD
  rw [decide_eq_true (p := sameN (dynL d.ents) d 8) (fun q hq => by rw [h2 q hq]; have := (h.num (fixL.getD q 0)).1; omega)]
  rw [decide_eq_true]
  · rfl
  rw [h1]
  conv => rhs; rw [← List.map_id d.needed]
  exact List.map_congr_left fun n hn => by have := (h.need n hn).1; simp; omega
end Go.Proofs.YtmbglkebgeomcaaDoor
