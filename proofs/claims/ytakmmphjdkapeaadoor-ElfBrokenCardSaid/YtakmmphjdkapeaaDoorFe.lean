/- Layer 8: what was written is read; of no program. -/
import Derived.Test.YtakmmphjdkapeaaDoorFd
namespace Go.Proofs.YtakmmphjdkapeaaDoor
open Go.RowKit
set_option linter.unusedVariables false
set_option linter.unusedSimpArgs false

theorem getL_putL8 : ∀ W x, getL (putL x W) = x % 256 ^ W
  | 0, x => by simp [putL, getL, Nat.mod_one]
  | W + 1, x => by
    rw [putL, getL, getL_putL8 W (x / 256), Nat.pow_succ, Nat.mul_comm (256 ^ W) 256, Nat.mod_mul]
    have h : (UInt8.ofNat x).toNat = x % 256 := UInt8.toNat_ofNat'
    first | rw [h] | (simp only [UInt8.toNat_ofNat']; rfl) | skip
/-- A number that stands at its place. -/
theorem num_at {f : ByteArray} {a w : Nat} {v : Int} {H : List UInt8} (hw1 : 1 ≤ w) (hw8 : w ≤ 8) (ha : a + w ≤ f.size) (hf : ∀ j, j < w → f.data.toList.getD (a + j) 0 = H.getD (a + j) 0) (hH : ∀ j, j < w → H.getD (a + j) 0 = (numL v w).getD j 0)
    (h0 : 0 ≤ v) (h1 : v.toNat < 256 ^ w) (h2 : v ≤ 9223372036854775807) : numS f a w = v := by
  have hfl : f.data.toList.length = f.size := len_data _
  have hp : partL f a w = numL v w := by
    refine List.ext_getElem (by rw [partL_length ha]; unfold numL; rw [putL_length]) fun j h5 h4 => ?_
    have h3 := h5
    rw [partL_length ha] at h3
    have e := (hf j h3).trans (hH j h3)
    rw [List.getD_eq_getElem?_getD, List.getD_eq_getElem?_getD, List.getElem?_eq_getElem (by omega), List.getElem?_eq_getElem h4] at e
    simp only [Option.getD_some] at e
    have e2 : (partL f a w)[j]'h5 = f.data.toList[a + j]'(by omega) := by simp [partL]
    rw [e2]
    exact e
  unfold numS getN
  rw [if_pos (hol_in hw1 hw8 ha)]
  rw [Int.toNat_natCast, Int.toNat_natCast, hp]
  unfold numL
  rw [getL_putL8, Nat.mod_eq_of_lt h1, Int.toNat_of_nonneg h0]
  exact IntWalk.wrap64_in _ (by omega)
theorem getD_mid {A B C : List UInt8} {a j : Nat} (h : A.length = a) (hj : j < B.length) : (A ++ (B ++ C)).getD (a + j) 0 = B.getD j 0 := by
  simp only [List.getD_eq_getElem?_getD]
  rw [List.getElem?_append_right (by omega), show a + j - A.length = j by omega, List.getElem?_append_left hj]
theorem numL_length (n : Int) (k : Nat) : (numL n k).length = k := by unfold numL; exact putL_length _ _
/-- The header's numbers, each at its place. -/
theorem head_kind (x : Img) : ∀ j, j < 2 → x.headL.getD (16 + j) 0 = (numL x.kind 2).getD j 0 := fun j hj => by
  have e : x.headL = [127, 69, 76, 70, 2, 1, 1, 0, 0, 0, 0, 0, 0, 0, 0, 0] ++ (numL x.kind 2 ++ (numL 62 2 ++ numL 1 4 ++ numL x.entry 8 ++ numL 64 8 ++ List.replicate 12 0 ++ numL 64 2 ++ numL 56 2 ++ numL x.segs.length 2 ++ List.replicate 6 0 ++ x.segs.flatMap segL)) := by
    unfold Img.headL Img.baseL
    simp only [List.append_assoc]
  rw [e]
  exact getD_mid rfl (by rw [numL_length]; exact hj)
theorem head_entry (x : Img) : ∀ j, j < 8 → x.headL.getD (24 + j) 0 = (numL x.entry 8).getD j 0 := fun j hj => by
  have e : x.headL = ([127, 69, 76, 70, 2, 1, 1, 0, 0, 0, 0, 0, 0, 0, 0, 0] ++ numL x.kind 2 ++ numL 62 2 ++ numL 1 4) ++ (numL x.entry 8 ++ (numL 64 8 ++ List.replicate 12 0 ++ numL 64 2 ++ numL 56 2 ++ numL x.segs.length 2 ++ List.replicate 6 0 ++ x.segs.flatMap segL)) := by
    unfold Img.headL Img.baseL
    simp only [List.append_assoc]
  rw [e]
  exact getD_mid (by simp [numL_length]) (by rw [numL_length]; exact hj)
theorem head_many (x : Img) : ∀ j, j < 2 → x.headL.getD (56 + j) 0 = (numL x.segs.length 2).getD j 0 := fun j hj => by
  have e : x.headL = ([127, 69, 76, 70, 2, 1, 1, 0, 0, 0, 0, 0, 0, 0, 0, 0] ++ numL x.kind 2 ++ numL 62 2 ++ numL 1 4 ++ numL x.entry 8 ++ numL 64 8 ++ List.replicate 12 0 ++ numL 64 2 ++ numL 56 2) ++ (numL x.segs.length 2 ++ (List.replicate 6 0 ++ x.segs.flatMap segL)) := by
    unfold Img.headL Img.baseL
    simp only [List.append_assoc]
  rw [e]
  exact getD_mid (by simp [numL_length]) (by rw [numL_length]; exact hj)
theorem head_seg (x : Img) {k : Nat} (hk : k < x.segs.length) {t : Nat} (ht : t < 56) : x.headL.getD (64 + 56 * k + t) 0 = (segL x.segs[k]).getD t 0 := by
  have e1 : x.headL.drop (64 + 56 * k) = (x.segs.flatMap segL).drop (56 * k) := by
    unfold Img.headL
    rw [show 64 + 56 * k = x.baseL.length + 56 * k by rw [baseL_length], List.drop_length_add_append]
  rw [flat_drop hk] at e1
  have e2 : x.headL.getD (64 + 56 * k + t) 0 = (x.headL.drop (64 + 56 * k)).getD t 0 := by
    simp only [List.getD_eq_getElem?_getD, List.getElem?_drop]
  rw [e2, e1]
  simp only [List.getD_eq_getElem?_getD]
  rw [List.getElem?_append_left (by rw [segL_length]; exact ht)]
/-- A segment's numbers, each at its place. -/
theorem seg_num (s : Seg) : (∀ j, j < 4 → (segL s).getD (0 + j) 0 = (numL s.ty 4).getD j 0) ∧ (∀ j, j < 4 → (segL s).getD (4 + j) 0 = (numL s.fl 4).getD j 0) ∧ (∀ j, j < 8 → (segL s).getD (8 + j) 0 = (numL s.off 8).getD j 0) ∧
    (∀ j, j < 8 → (segL s).getD (16 + j) 0 = (numL s.ad 8).getD j 0) ∧ (∀ j, j < 8 → (segL s).getD (32 + j) 0 = (numL s.sz 8).getD j 0) ∧ (∀ j, j < 8 → (segL s).getD (40 + j) 0 = (numL s.mem 8).getD j 0) ∧ (∀ j, j < 8 → (segL s).getD (48 + j) 0 = (numL s.al 8).getD j 0) := by
  rw [segL_eq]
  refine ⟨fun j hj => ?_, fun j hj => ?_, fun j hj => ?_, fun j hj => ?_, fun j hj => ?_, fun j hj => ?_, fun j hj => ?_⟩
  · exact getD_mid (A := []) (B := numL s.ty 4) rfl (by rw [numL_length]; exact hj)
  · exact getD_mid (A := numL s.ty 4) (B := numL s.fl 4) (numL_length _ _) (by rw [numL_length]; exact hj)
  · rw [show numL s.ty 4 ++ (numL s.fl 4 ++ (numL s.off 8 ++ (numL s.ad 8 ++ (numL s.ad 8 ++ (numL s.sz 8 ++ (numL s.mem 8 ++ numL s.al 8)))))) = (numL s.ty 4 ++ numL s.fl 4) ++ (numL s.off 8 ++ (numL s.ad 8 ++ (numL s.ad 8 ++ (numL s.sz 8 ++ (numL s.mem 8 ++ numL s.al 8))))) by simp]
    exact getD_mid (by simp [numL_length]) (by rw [numL_length]; exact hj)
  · rw [show numL s.ty 4 ++ (numL s.fl 4 ++ (numL s.off 8 ++ (numL s.ad 8 ++ (numL s.ad 8 ++ (numL s.sz 8 ++ (numL s.mem 8 ++ numL s.al 8)))))) = (numL s.ty 4 ++ numL s.fl 4 ++ numL s.off 8) ++ (numL s.ad 8 ++ (numL s.ad 8 ++ (numL s.sz 8 ++ (numL s.mem 8 ++ numL s.al 8)))) by simp]
    exact getD_mid (by simp [numL_length]) (by rw [numL_length]; exact hj)
  · rw [show numL s.ty 4 ++ (numL s.fl 4 ++ (numL s.off 8 ++ (numL s.ad 8 ++ (numL s.ad 8 ++ (numL s.sz 8 ++ (numL s.mem 8 ++ numL s.al 8)))))) = (numL s.ty 4 ++ numL s.fl 4 ++ numL s.off 8 ++ numL s.ad 8 ++ numL s.ad 8) ++ (numL s.sz 8 ++ (numL s.mem 8 ++ numL s.al 8)) by simp]
    exact getD_mid (by simp [numL_length]) (by rw [numL_length]; exact hj)
  · rw [show numL s.ty 4 ++ (numL s.fl 4 ++ (numL s.off 8 ++ (numL s.ad 8 ++ (numL s.ad 8 ++ (numL s.sz 8 ++ (numL s.mem 8 ++ numL s.al 8)))))) = (numL s.ty 4 ++ numL s.fl 4 ++ numL s.off 8 ++ numL s.ad 8 ++ numL s.ad 8 ++ numL s.sz 8) ++ (numL s.mem 8 ++ numL s.al 8) by simp]
    exact getD_mid (by simp [numL_length]) (by rw [numL_length]; exact hj)
  · rw [show numL s.ty 4 ++ (numL s.fl 4 ++ (numL s.off 8 ++ (numL s.ad 8 ++ (numL s.ad 8 ++ (numL s.sz 8 ++ (numL s.mem 8 ++ numL s.al 8)))))) = (numL s.ty 4 ++ numL s.fl 4 ++ numL s.off 8 ++ numL s.ad 8 ++ numL s.ad 8 ++ numL s.sz 8 ++ numL s.mem 8) ++ (numL s.al 8 ++ []) by simp]
    exact getD_mid (by simp [numL_length]) (by rw [numL_length]; exact hj)

/-- A segment's numbers, an image's, fit into their places. -/
structure Seg.Fits (s : Seg) : Prop where
  ty : 0 ≤ s.ty ∧ s.ty < 4294967296
  fl : 0 ≤ s.fl ∧ s.fl < 4294967296
  off : 0 ≤ s.off ∧ s.off ≤ 9223372036854775807
  ad : 0 ≤ s.ad ∧ s.ad ≤ 9223372036854775807
  sz : 0 ≤ s.sz ∧ s.sz ≤ 9223372036854775807
  mem : 0 ≤ s.mem ∧ s.mem ≤ 9223372036854775807
  al : 0 ≤ s.al ∧ s.al ≤ 9223372036854775807
structure Img.Fits (x : Img) : Prop where
  kind : 0 ≤ x.kind ∧ x.kind < 65536
  entry : 0 ≤ x.entry ∧ x.entry ≤ 9223372036854775807
  len : x.segs.length ≤ 16
  segs : ∀ s, s ∈ x.segs → s.Fits
theorem May.fits {s : Seg} {z : Int} (h : s.May z) : s.Fits := ⟨by have := h.ty; omega, by have := h.fl; omega, by have := h.off; omega, by have := h.ad; omega, by have := h.sz; omega, by have := h.mem; omega, by have := h.al; omega⟩
/-- A file that begins with an image's headers, but where any bytes may stand, has that image. -/
theorem read_written {f : ByteArray} {x : Img} {n : Nat} (hx : x.Fits) (hn : x.segs.length = n) (hs : 64 + 56 * n ≤ f.size) (hf : ∀ j, j < 64 + 56 * n → freeK n j = false → f.data.toList.getD j 0 = x.headL.getD j 0) : readS f = x ∧ headedS f x = true := by
  have p2 : (256 : Nat) ^ 2 = 65536 := by decide
  have p4 : (256 : Nat) ^ 4 = 4294967296 := by decide
  have p8 : (256 : Nat) ^ 8 = 18446744073709551616 := by decide
  have hl := hx.len
  have hfree : ∀ j, (j < 40 ∨ (52 ≤ j ∧ j < 58)) → freeK n j = false := fun j hj => by
    cases h : freeK n j
    · rfl
    · rw [freeK_iff] at h; omega
  have hkind : numS f 16 2 = x.kind := num_at (by omega) (by omega) (by omega) (fun j hj => hf _ (by omega) (hfree _ (by omega))) (head_kind x) hx.kind.1 (by have := hx.kind; omega) (by have := hx.kind; omega)
  have hentry : numS f 24 8 = x.entry := num_at (by omega) (by omega) (by omega) (fun j hj => hf _ (by omega) (hfree _ (by omega))) (head_entry x) hx.entry.1 (by have := hx.entry; omega) hx.entry.2
  have hmany : numS f 56 2 = (x.segs.length : Int) := num_at (by omega) (by omega) (by omega) (fun j hj => hf _ (by omega) (hfree _ (by omega))) (head_many x) (by omega) (by omega) (by omega)
  have hm : manyS f = n := by unfold manyS; rw [hmany]; omega
  have hseg : ∀ k (hk : k < n), segAt f (64 + 56 * k) = x.segs[k]'(by omega) := fun k hk => by
    have hk2 : k < x.segs.length := by omega
    have hft := hx.segs _ (List.getElem_mem hk2)
    have hh := fun t ht => head_seg x hk2 (t := t) ht
    obtain ⟨q0, q1, q2, q3, q4, q5, q6⟩ := seg_num (x.segs[k]'hk2)
    generalize (x.segs[k]'hk2) = s at *
    have hfr : ∀ t, t < 24 ∨ (32 ≤ t ∧ t < 56) → f.data.toList.getD (64 + 56 * k + t) 0 = x.headL.getD (64 + 56 * k + t) 0 := fun t ht => hf _ (by omega) (by
      cases h : freeK n (64 + 56 * k + t)
      · rfl
      · rw [freeK_iff] at h
        have e : (64 + 56 * k + t - 64) % 56 = t := by rw [show 64 + 56 * k + t - 64 = t + 56 * k by omega, Nat.add_mul_mod_self_left, Nat.mod_eq_of_lt (by omega)]
        rw [e] at h
        omega)
    have num : ∀ (o w : Nat) (v : Int), 1 ≤ w → w ≤ 8 → (o + w ≤ 24 ∨ (32 ≤ o ∧ o + w ≤ 56)) → (∀ j, j < w → (segL s).getD (o + j) 0 = (numL v w).getD j 0) → 0 ≤ v → v.toNat < 256 ^ w → v ≤ 9223372036854775807 → numS f (64 + 56 * k + o) w = v := fun o w v h1 h2 h3 h4 h5 h6 h7 =>
      num_at (H := x.headL) h1 h2 (by omega) (fun j hj => by rw [Nat.add_assoc]; exact hfr (o + j) (by omega)) (fun j hj => by rw [Nat.add_assoc, hh (o + j) (by omega)]; exact h4 j hj) h5 h6 h7
    have e0 := num 0 4 s.ty (by omega) (by omega) (by omega) q0 hft.ty.1 (by have := hft.ty; omega) (by have := hft.ty; omega)
    have e1 := num 4 4 s.fl (by omega) (by omega) (by omega) q1 hft.fl.1 (by have := hft.fl; omega) (by have := hft.fl; omega)
    have e2 := num 8 8 s.off (by omega) (by omega) (by omega) q2 hft.off.1 (by have := hft.off; omega) hft.off.2
    have e3 := num 16 8 s.ad (by omega) (by omega) (by omega) q3 hft.ad.1 (by have := hft.ad; omega) hft.ad.2
    have e4 := num 32 8 s.sz (by omega) (by omega) (by omega) q4 hft.sz.1 (by have := hft.sz; omega) hft.sz.2
    have e5 := num 40 8 s.mem (by omega) (by omega) (by omega) q5 hft.mem.1 (by have := hft.mem; omega) hft.mem.2
    have e6 := num 48 8 s.al (by omega) (by omega) (by omega) q6 hft.al.1 (by have := hft.al; omega) hft.al.2
    have e : segAt f (64 + 56 * k) = ⟨numS f (64 + 56 * k + 0) 4, numS f (64 + 56 * k + 4) 4, numS f (64 + 56 * k + 8) 8, numS f (64 + 56 * k + 16) 8, numS f (64 + 56 * k + 32) 8, numS f (64 + 56 * k + 40) 8, numS f (64 + 56 * k + 48) 8⟩ := rfl
    rw [e, e0, e1, e2, e3, e4, e5, e6]
  have hsegs : segsAt f n = x.segs := by
    refine List.ext_getElem (by rw [segsAt_length, hn]) fun k h3 h2 => ?_
    have h1 := h3
    rw [segsAt_length] at h1
    have e2 : (segsAt f n)[k]'h3 = segAt f (64 + 56 * k) := by simp [segsAt]
    rw [e2]
    exact hseg k h1
  refine ⟨by unfold readS; rw [hkind, hentry, hm, hsegs], ?_⟩
  rw [headed_plain hn hs]
  apply decide_eq_true
  have hH : (mkb x.headL).size = 64 + 56 * n := by rw [mkb_size, headL_len, hn]
  have hT : (mkb (f.data.toList.take (64 + 56 * n))).size = 64 + 56 * n := by rw [mkb_size, List.length_take, len_data]; omega
  obtain ⟨s2, b2⟩ := lentS_facts (h := mkb (f.data.toList.take (64 + 56 * n))) (f := mkb x.headL) n (by omega) (by omega)
  unfold plainS
  rw [← mkb_of (lentS _ _ _)]
  congr 1
  rw [eq_getD (by rw [len_data, s2, hT, headL_len, hn]), headL_len, hn]
  intro j hj
  rw [b2 j (by omega), mkb_data, mkb_data]
  cases h : freeK n j
  · rw [← hf j hj h]
    simp only [List.getD_eq_getElem?_getD, List.getElem?_take_of_lt hj]
    simp
  · simp
end Go.Proofs.YtakmmphjdkapeaaDoor
