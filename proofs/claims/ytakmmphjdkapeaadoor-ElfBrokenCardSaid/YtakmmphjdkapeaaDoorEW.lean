/- Layer 8: what the reference's Parse reads is what the program's does; of no program. -/
import Derived.Test.YtakmmphjdkapeaaDoorEX
import Derived.Test.YtakmmphjdkapeaaDoorEV
namespace Go.Proofs.YtakmmphjdkapeaaDoor
open Go.RowKit
set_option linter.unusedVariables false
set_option linter.unusedSimpArgs false

/-- A segment, an image, as the reference reads them. -/
def rsegAt (f : ByteArray) (a : Nat) : Seg := ⟨getR f a 4, getR f (a + 4) 4, getR f (a + 8) 8, getR f (a + 16) 8, getR f (a + 32) 8, getR f (a + 40) 8, getR f (a + 48) 8⟩
def rsegsAt (f : ByteArray) (k : Nat) : List Seg := (List.range k).map fun i => rsegAt f (64 + 56 * i)
def rImg (f : ByteArray) (n : Nat) : Img := ⟨getR f 16 2, getR f 24 8, rsegsAt f n⟩
theorem rsegsAt_length (f : ByteArray) (k : Nat) : (rsegsAt f k).length = k := by simp [rsegsAt]
theorem rsegsAt_succ (f : ByteArray) (k : Nat) : rsegsAt f (k + 1) = rsegsAt f k ++ [rsegAt f (64 + 56 * k)] := by simp [rsegsAt, List.range_succ]
theorem rsegAt_wf (f : ByteArray) (a : Nat) : (rsegAt f a).wf := ⟨getR_wf _ _ _, getR_wf _ _ _, getR_wf _ _ _, getR_wf _ _ _, getR_wf _ _ _, getR_wf _ _ _, getR_wf _ _ _⟩

theorem num_of_get {s : ByteArray} {a w : Nat} (h : 0 ≤ getR s a w) : numS s a w = getR s a w := by
  have h1 := getN_range s a w
  unfold getR at h ⊢
  unfold numS
  split
  · rename_i h2
    exact IntWalk.wrap64_in _ (by omega)
  · rename_i h2
    rw [if_neg h2] at h
    omega
theorem get_of_num {s : ByteArray} {a w : Nat} (hh : hol s.size a w = true) (h : 0 ≤ numS s a w) (h3 : numS s a w ≤ 1099511627776) : numS s a w = getR s a w := by
  have h1 := getN_range s a w
  unfold numS at h h3 ⊢
  have h2 : wrap64 (getN s a w) = getN s a w := by
    by_cases h4 : getN s a w ≤ 9223372036854775807
    · exact IntWalk.wrap64_in _ (by omega)
    · exfalso
      have : wrap64 (getN s a w) = getN s a w - 18446744073709551616 := by unfold wrap64; omega
      omega
  rw [h2] at h h3 ⊢
  unfold getR
  rw [if_pos ⟨hh, h3⟩]
theorem hol_in {s : ByteArray} {a w : Nat} (h1 : 1 ≤ w) (h2 : w ≤ 8) (h3 : a + w ≤ s.size) : hol s.size a w = true := hol_iff.2 ⟨by omega, by omega, by omega, by omega, by omega⟩
theorem get_two {s : ByteArray} {a : Nat} (h : a + 2 ≤ s.size) : getR s a 2 = numS s a 2 := by
  have h1 := getL_lt16 s a
  have h2 := numS_two s a
  exact (get_of_num (hol_in (by omega) (by omega) h) h2.1 (by omega)).symm
theorem seg_same {f : ByteArray} {a : Nat} {z : Int} (h : a + 56 ≤ f.size) (hm : (segAt f a).May z ∨ (rsegAt f a).May z) : segAt f a = rsegAt f a := by
  have e : segAt f a = ⟨numS f a 4, numS f (a + 4) 4, numS f (a + 8) 8, numS f (a + 16) 8, numS f (a + 32) 8, numS f (a + 40) 8, numS f (a + 48) 8⟩ := rfl
  rcases hm with hm | hm
  · rw [e] at hm ⊢
    unfold rsegAt
    have h0 := hm.ty
    have h1 := hm.fl
    have h2 := hm.off
    have h3 := hm.ad
    have h4 := hm.sz
    have h5 := hm.mem
    have h6 := hm.al
    simp only at h0 h1 h2 h3 h4 h5 h6
    rw [← get_of_num (hol_in (by omega) (by omega) (by omega)) h0.1 (by omega), ← get_of_num (hol_in (by omega) (by omega) (by omega)) h1.1 (by omega), ← get_of_num (hol_in (by omega) (by omega) (by omega)) h2.1 (by omega),
      ← get_of_num (hol_in (by omega) (by omega) (by omega)) h3.1 (by omega), ← get_of_num (hol_in (by omega) (by omega) (by omega)) h4.1 (by omega), ← get_of_num (hol_in (by omega) (by omega) (by omega)) h5.1 (by omega), ← get_of_num (hol_in (by omega) (by omega) (by omega)) h6.1 (by omega)]
  · rw [e]
    unfold rsegAt at hm ⊢
    have h0 := hm.ty
    have h1 := hm.fl
    have h2 := hm.off
    have h3 := hm.ad
    have h4 := hm.sz
    have h5 := hm.mem
    have h6 := hm.al
    simp only at h0 h1 h2 h3 h4 h5 h6
    rw [num_of_get h0.1, num_of_get h1.1, num_of_get h2.1, num_of_get h3.1, num_of_get h4.1, num_of_get h5.1, num_of_get h6.1]
theorem chk_may {x : Img} {size : Int} (h : x.chk size = true) : ∀ s, s ∈ x.segs → s.May size := by
  unfold Img.chk at h
  simp only [Bool.and_eq_true] at h
  obtain ⟨⟨⟨-, hs⟩, -⟩, -⟩ := h
  exact stand_may hs
theorem img_same {f : ByteArray} {n : Nat} (hs : 64 + 56 * n ≤ f.size) (hn : manyS f = n) (h : (readS f).chk f.size = true ∨ (rImg f n).chk f.size = true) : readS f = rImg f n := by
  have hk : numS f 16 2 = getR f 16 2 := (get_two (by omega)).symm
  have he : numS f 24 8 = getR f 24 8 := by
    rcases h with h | h
    · have := chk_entry h
      have h2 : (readS f).entry = numS f 24 8 := rfl
      rw [h2] at this
      exact get_of_num (hol_in (by omega) (by omega) (by omega)) this.1 this.2
    · have := chk_entry h
      exact num_of_get this.1
  have hsg : segsAt f n = rsegsAt f n := by
    refine List.map_congr_left fun i hi => ?_
    have hi2 : i < n := List.mem_range.1 hi
    refine seg_same (z := f.size) (by omega) ?_
    rcases h with h | h
    · refine .inl (chk_may h _ ?_)
      show _ ∈ segsAt f (manyS f)
      rw [hn]
      exact List.mem_map.2 ⟨i, hi, rfl⟩
    · exact .inr (chk_may h _ (List.mem_map.2 ⟨i, hi, rfl⟩))
  unfold readS rImg
  rw [hk, he, hn, hsg]

theorem many_get (f : ByteArray) : (∀ n : Nat, getR f 56 2 = n → 1 ≤ n → n ≤ 16 → manyS f = n) ∧ (¬ (1 ≤ getR f 56 2 ∧ getR f 56 2 ≤ 16) → manyS f = 0 ∨ manyS f = 17) := by
  have h2 := numS_two f 56
  by_cases h : 56 + 2 ≤ f.size
  · have e := get_two h
    rw [e]
    unfold manyS
    exact ⟨fun n hn h3 h4 => by omega, fun h3 => by omega⟩
  · have hh : ¬ hol f.size (56 : Nat) (2 : Nat) = true := fun h5 => by have := hol_iff.1 h5; omega
    have e1 : getR f 56 2 = -1 := by unfold getR; rw [if_neg (fun h5 => hh h5.1)]
    have e2 : numS f 56 2 = 0 := by unfold numS getN; rw [if_neg hh]; exact IntWalk.wrap64_in _ (by omega)
    rw [e1]
    unfold manyS
    rw [e2]
    exact ⟨fun n hn h3 h4 => by omega, fun h3 => .inl rfl⟩
/-- No image: too few, too many segments, or the headers aren't all there. -/
theorem parse_none {f : ByteArray} (h : ¬ (1 ≤ getR f 56 2 ∧ getR f 56 2 ≤ 16 ∧ 64 + 56 * getR f 56 2 ≤ f.size)) : parseB f = false := by
  cases hp : parseB f
  · rfl
  · exfalso
    unfold parseB at hp
    simp only [Bool.and_eq_true] at hp
    obtain ⟨h1, h2, h3⟩ := chk_size hp.1
    have hl : (readS f).segs.length = manyS f := segsAt_length _ _
    rw [hl] at h1 h2 h3
    have hm := many_get f
    by_cases hh : 1 ≤ getR f 56 2 ∧ getR f 56 2 ≤ 16
    · have := hm.1 (getR f 56 2).toNat (by omega) (by omega) (by omega)
      omega
    · have := hm.2 hh
      omega
theorem eq_getD {l m : List UInt8} (h : l.length = m.length) : l = m ↔ ∀ j, j < l.length → l.getD j 0 = m.getD j 0 := by
  constructor
  · rintro rfl j _
    rfl
  · intro hj
    refine List.ext_getElem h fun j h1 h2 => ?_
    have := hj j h1
    simp only [List.getD_eq_getElem?_getD, List.getElem?_eq_getElem h1, List.getElem?_eq_getElem h2, Option.getD_some] at this
    exact this
/-- The file's first bytes, with a header's bytes where any may stand. -/
def plainS (f : ByteArray) (x : Img) (n k : Nat) : ByteArray := lentS (mkb (f.data.toList.take (64 + 56 * n))) (mkb x.headL) k
theorem headed_plain {f : ByteArray} {x : Img} {n : Nat} (hn : x.segs.length = n) (hs : 64 + 56 * n ≤ f.size) : headedS f x = decide (mkb x.headL = plainS f x n n) := by
  have hH : (mkb x.headL).size = 64 + 56 * n := by rw [mkb_size, headL_len, hn]
  have hT : (mkb (f.data.toList.take (64 + 56 * n))).size = 64 + 56 * n := by rw [mkb_size, List.length_take, len_data]; omega
  obtain ⟨s1, b1⟩ := lentS_facts (h := mkb x.headL) (f := f) n (by omega) hs
  obtain ⟨s2, b2⟩ := lentS_facts (h := mkb (f.data.toList.take (64 + 56 * n))) (f := mkb x.headL) n (by omega) (by omega)
  have hfT : ∀ j, j < 64 + 56 * n → (mkb (f.data.toList.take (64 + 56 * n))).data.toList.getD j 0 = f.data.toList.getD j 0 := fun j hj => by
    rw [mkb_data]
    simp only [List.getD_eq_getElem?_getD, List.getElem?_take_of_lt hj]
  unfold headedS plainS
  rw [hn, ← Lib.hasPrefix_of_take]
  generalize hA : lentS (mkb x.headL) f n = P1 at *
  generalize hC : lentS (mkb (f.data.toList.take (64 + 56 * n))) (mkb x.headL) n = P2 at *
  rw [Bool.eq_iff_iff]
  simp only [Bool.and_eq_true, decide_eq_true_eq, beq_iff_eq]
  have l1 : P1.data.toList.length = 64 + 56 * n := by rw [len_data]; omega
  have l2 : P2.data.toList.length = 64 + 56 * n := by rw [len_data]; omega
  have l3 : f.data.toList.length = f.size := len_data _
  have l4 : x.headL.length = 64 + 56 * n := by rw [headL_len, hn]
  rw [l1]
  have e1 : (List.take (64 + 56 * n) f.data.toList = P1.data.toList) ↔ ∀ j, j < 64 + 56 * n → freeK n j = false → f.data.toList.getD j 0 = x.headL.getD j 0 := by
    rw [eq_getD (by rw [List.length_take]; omega)]
    have hlt : (List.take (64 + 56 * n) f.data.toList).length = 64 + 56 * n := by rw [List.length_take]; omega
    rw [hlt]
    refine forall_congr' fun j => forall_congr' fun hj => ?_
    rw [b1 j (by omega), mkb_data]
    have : (List.take (64 + 56 * n) f.data.toList).getD j 0 = f.data.toList.getD j 0 := by simp only [List.getD_eq_getElem?_getD, List.getElem?_take_of_lt hj]
    rw [this]
    cases freeK n j <;> simp
  have e2 : (mkb x.headL = P2) ↔ ∀ j, j < 64 + 56 * n → freeK n j = false → f.data.toList.getD j 0 = x.headL.getD j 0 := by
    have e3 : (mkb x.headL = P2) ↔ (x.headL = P2.data.toList) := ⟨fun h => by rw [← h, mkb_data], fun h => by rw [h, mkb_of]⟩
    rw [e3, eq_getD (by omega), l4]
    refine forall_congr' fun j => forall_congr' fun hj => ?_
    rw [b2 j (by omega), mkb_data, hfT j hj]
    cases freeK n j
    · simp; exact ⟨fun h => h.symm, fun h => h.symm⟩
    · simp
  rw [e1, e2]
  exact ⟨fun h => h.2, fun h => ⟨by omega, h⟩⟩
/-- The program's answer is the reference's. -/
theorem parse_ref {f : ByteArray} {n : Nat} (hn : getR f 56 2 = n) (h1 : 1 ≤ n) (h2 : n ≤ 16) (hs : 64 + 56 * n ≤ f.size) :
    parseB f = ((rImg f n).chk f.size && decide (mkb (rImg f n).headL = plainS f (rImg f n) n n)) ∧ (parseB f = true → readS f = rImg f n) := by
  have hm := (many_get f).1 n hn h1 h2
  have hl : (rImg f n).segs.length = n := rsegsAt_length _ _
  refine ⟨?_, fun h => ?_⟩
  · rw [← headed_plain hl hs]
    cases hc : (rImg f n).chk f.size
    · cases hp : parseB f
      · rfl
      · exfalso
        unfold parseB at hp
        simp only [Bool.and_eq_true] at hp
        rw [img_same hs hm (.inl hp.1)] at hp
        rw [hc] at hp
        exact absurd hp.1 (by simp)
    · unfold parseB
      rw [img_same hs hm (.inr hc), hc]
  · unfold parseB at h
    simp only [Bool.and_eq_true] at h
    exact img_same hs hm (.inl h.1)

theorem flat_drop {l : List Seg} {k : Nat} (hk : k < l.length) : (l.flatMap segL).drop (56 * k) = segL l[k] ++ (l.drop (k + 1)).flatMap segL := by
  have e : l = l.take k ++ (l[k] :: l.drop (k + 1)) := by rw [← List.drop_eq_getElem_cons hk, List.take_append_drop]
  have h1 : ((l.take k).flatMap segL).length = 56 * k := by rw [segsL_length, List.length_take]; omega
  have h2 : l.flatMap segL = (l.take k).flatMap segL ++ (segL l[k] ++ (l.drop (k + 1)).flatMap segL) := by
    conv => lhs; rw [e]
    rw [List.flatMap_append, List.flatMap_cons]
  rw [h2, ← h1, List.drop_left]
theorem drop_take {A B C : List UInt8} {a b : Nat} (h : A.length = a) (h2 : B.length = b) : ((A ++ (B ++ C)).drop a).take b = B := by rw [← h, List.drop_left, ← h2, List.take_left]
theorem head_ad (x : Img) {k : Nat} (hk : k < x.segs.length) : (x.headL.drop (64 + 56 * k + 24)).take 8 = numL x.segs[k].ad 8 := by
  have hl : ∀ n k, (numL n k).length = k := fun n k => putL_length _ _
  have e1 : x.headL.drop (64 + 56 * k + 24) = ((x.segs.flatMap segL).drop (56 * k)).drop 24 := by
    unfold Img.headL
    rw [List.drop_drop, show 64 + 56 * k + 24 = x.baseL.length + (56 * k + 24) by rw [baseL_length]; omega, List.drop_length_add_append]
  rw [e1, flat_drop hk, segL_eq]
  generalize x.segs[k] = s
  have e2 : (numL s.ty 4 ++ (numL s.fl 4 ++ (numL s.off 8 ++ (numL s.ad 8 ++ (numL s.ad 8 ++ (numL s.sz 8 ++ (numL s.mem 8 ++ numL s.al 8))))))) ++ (x.segs.drop (k + 1)).flatMap segL = (numL s.ty 4 ++ numL s.fl 4 ++ numL s.off 8 ++ numL s.ad 8) ++ (numL s.ad 8 ++ (numL s.sz 8 ++ (numL s.mem 8 ++ numL s.al 8) ++ (x.segs.drop (k + 1)).flatMap segL)) := by simp
  rw [e2]
  exact drop_take (by simp [hl]) (hl _ _)
theorem head_z1 (x : Img) : (x.headL.drop 40).take 12 = List.replicate 12 0 := by
  have hl : ∀ n k, (numL n k).length = k := fun n k => putL_length _ _
  have e : x.headL = ([127, 69, 76, 70, 2, 1, 1, 0, 0, 0, 0, 0, 0, 0, 0, 0] ++ numL x.kind 2 ++ numL 62 2 ++ numL 1 4 ++ numL x.entry 8 ++ numL 64 8) ++ (List.replicate 12 0 ++ (numL 64 2 ++ numL 56 2 ++ numL x.segs.length 2 ++ List.replicate 6 0 ++ x.segs.flatMap segL)) := by
    unfold Img.headL Img.baseL
    simp only [List.append_assoc]
  rw [e]
  exact drop_take (by simp [hl]) (by simp)
theorem head_z2 (x : Img) : (x.headL.drop 58).take 6 = List.replicate 6 0 := by
  have hl : ∀ n k, (numL n k).length = k := fun n k => putL_length _ _
  have e : x.headL = ([127, 69, 76, 70, 2, 1, 1, 0, 0, 0, 0, 0, 0, 0, 0, 0] ++ numL x.kind 2 ++ numL 62 2 ++ numL 1 4 ++ numL x.entry 8 ++ numL 64 8 ++ List.replicate 12 0 ++ numL 64 2 ++ numL 56 2 ++ numL x.segs.length 2) ++ (List.replicate 6 0 ++ x.segs.flatMap segL) := by
    unfold Img.headL Img.baseL
    simp only [List.append_assoc]
  rw [e]
  exact drop_take (by simp [hl]) (by simp)
/-- The reference's rounds. -/
theorem plain_zero {f : ByteArray} {x : Img} {n : Nat} (hn : x.segs.length = n) (hs : 64 + 56 * n ≤ f.size) :
    plainS f x n 0 = mkb ((f.data.toList.take 40 ++ List.replicate 12 0) ++ (f.data.toList.drop 52).take 6 ++ List.replicate 6 0 ++ (f.data.toList.drop 64).take (56 * n)) := by
  unfold plainS lentS lend
  simp only [mkb_data]
  rw [head_z1, head_z2]
  congr 1
  have hfl : f.data.toList.length = f.size := len_data _
  generalize f.data.toList = F at *
  have l1 : (F.take 40).length = 40 := by rw [List.length_take]; omega
  have e1 : (F.take (64 + 56 * n)).take 40 = F.take 40 := by rw [List.take_take]; congr 1; omega
  have e2 : ∀ a, a ≤ 64 → (F.take (64 + 56 * n)).drop a = (F.drop a).take (64 + 56 * n - a) := fun a ha => List.drop_take ..
  rw [e1, e2 _ (by omega)]
  have e3 : ((F.take 40 ++ List.replicate 12 (0 : UInt8)) ++ (F.drop (40 + 12)).take (64 + 56 * n - (40 + 12))).take 58 = (F.take 40 ++ List.replicate 12 0) ++ (F.drop 52).take 6 := by
    rw [List.take_append, List.take_of_length_le (by simp [l1])]
    congr 1
    rw [List.length_append, l1, List.length_replicate, List.take_take]
    congr 1
    omega
  have e4 : ((F.take 40 ++ List.replicate 12 (0 : UInt8)) ++ (F.drop (40 + 12)).take (64 + 56 * n - (40 + 12))).drop (58 + 6) = (F.drop 64).take (56 * n) := by
    rw [List.drop_append, List.drop_of_length_le (by simp [l1]), List.nil_append, List.length_append, l1, List.length_replicate, List.drop_take, List.drop_drop]
    congr 1
    omega
  rw [e3, e4]
theorem plain_succ {f : ByteArray} {x : Img} {n k : Nat} (hn : x.segs.length = n) (hk : k < n) {s : Seg} (hsg : x.segs[k] = s) :
    plainS f x n (k + 1) = mkb ((plainS f x n k).data.toList.take (64 + 56 * k + 24) ++ numL s.ad 8 ++ (plainS f x n k).data.toList.drop (64 + 56 * k + 32)) := by
  unfold plainS
  show lend _ _ _ _ = _
  unfold lend
  rw [mkb_data, head_ad x (by omega), hsg]
theorem plain_size {f : ByteArray} {x : Img} {n k : Nat} (hn : x.segs.length = n) (hk : k ≤ n) (hs : 64 + 56 * n ≤ f.size) : (plainS f x n k).size = 64 + 56 * n := by
  have hH : (mkb x.headL).size = 64 + 56 * n := by rw [mkb_size, headL_len, hn]
  have hT : (mkb (f.data.toList.take (64 + 56 * n))).size = 64 + 56 * n := by rw [mkb_size, List.length_take, len_data]; omega
  unfold plainS
  rw [(lentS_facts k (by omega) (by omega)).1, hT]
end Go.Proofs.YtakmmphjdkapeaaDoor
