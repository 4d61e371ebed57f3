/- Page tables, of no program: pages, their prefixes, which tables there are; what is gone over. -/
import Derived.Test.YtbidlabhekiijaaDoorRA
import Derived.Test.YtbidlabhekiijaaDoorWK
namespace Go.Proofs.YtbidlabhekiijaaDoor
open Go.RowKit
set_option linter.unusedVariables false

/-- The pages' entries: none behind the last page; each may be. -/
structure Ents (M : Nat → Sl) : Prop where
  ok : ∀ p, (M p).Ok
  far : ∀ p, 4096 ≤ p → M p = Sl.zero

/-- Is there an entry of a page with this prefix of so many digits? -/
def live (M : Nat → Sl) (i q : Nat) : Prop := ∃ p, p / 8 ^ (4 - i) = q ∧ M p ≠ Sl.zero
/-- Is there the table (the root always is)? -/
def tabl (M : Nat → Sl) (i q : Nat) : Prop := (i = 0 ∧ q = 0) ∨ live M i q
open Classical in
/-- The entry that leads to (i, q): a page's own, or the next table's. -/
noncomputable def ent (M : Nat → Sl) (F : Nat → Nat → Nat) (i q : Nat) : Sl := if i = 4 then M q else if live M i q then ⟨true, false, false, false, (F i q : Nat)⟩ else Sl.zero

theorem live_four {M : Nat → Sl} {q : Nat} : live M 4 q ↔ M q ≠ Sl.zero := by
  unfold live
  simp
theorem div_step (p i : Nat) (hi : i < 4) : p / 8 ^ (4 - (i + 1)) / 8 = p / 8 ^ (4 - i) := by
  rw [Nat.div_div_eq_div_mul, ← Nat.pow_succ, show (4 - (i + 1)).succ = 4 - i by omega]
theorem live_up {M : Nat → Sl} {i q : Nat} (hi : i < 4) (h : live M (i + 1) q) : live M i (q / 8) := by
  obtain ⟨p, e, hp⟩ := h
  exact ⟨p, by rw [← div_step p i hi, e], hp⟩
theorem live_down {M : Nat → Sl} {i q : Nat} (hi : i < 4) : live M i q ↔ ∃ d, d < 8 ∧ live M (i + 1) (8 * q + d) := by
  constructor
  · rintro ⟨p, e, hp⟩
    have h := div_step p i hi
    rw [e] at h
    refine ⟨p / 8 ^ (4 - (i + 1)) % 8, Nat.mod_lt _ (by omega), p, ?_, hp⟩
    omega
  · rintro ⟨d, hd, h⟩
    have := live_up hi h
    rwa [show (8 * q + d) / 8 = q by omega] at this
theorem live_lt {M : Nat → Sl} (hM : Ents M) {i q : Nat} (hi : i ≤ 4) (h : live M i q) : q < 8 ^ i := by
  obtain ⟨p, rfl, hp⟩ := h
  have hlt : p < 4096 := Nat.lt_of_not_le fun h => hp (hM.far p h)
  rw [Nat.div_lt_iff_lt_mul (Nat.pow_pos (by omega)), ← Nat.pow_add, show i + (4 - i) = 4 by omega]
  exact hlt
theorem tabl_live {M : Nat → Sl} {i q : Nat} (h : live M i q) : tabl M i q := .inr h
theorem tabl_pos {M : Nat → Sl} {i q : Nat} (hi : 0 < i) : tabl M i q ↔ live M i q := ⟨fun h => h.resolve_left fun e => by omega, .inr⟩
theorem ent_page (M : Nat → Sl) (F : Nat → Nat → Nat) (q : Nat) : ent M F 4 q = M q := by unfold ent; rw [if_pos rfl]
theorem ent_live {M : Nat → Sl} {F : Nat → Nat → Nat} {i q : Nat} (hi : i < 4) (h : live M i q) : ent M F i q = ⟨true, false, false, false, (F i q : Nat)⟩ := by unfold ent; rw [if_neg (by omega), if_pos h]
theorem ent_dead {M : Nat → Sl} {F : Nat → Nat → Nat} {i q : Nat} (hi : i < 4) (h : ¬ live M i q) : ent M F i q = Sl.zero := by unfold ent; rw [if_neg (by omega), if_neg h]
theorem ent_zero {M : Nat → Sl} {F : Nat → Nat → Nat} {i q : Nat} (hi : i ≤ 4) : ent M F i q = Sl.zero ↔ ¬ live M i q := by
  by_cases h4 : i = 4
  · subst h4
    rw [ent_page, live_four]
    exact ⟨fun h k => k h, fun h => Classical.byContradiction h⟩
  · by_cases h : live M i q
    · rw [ent_live (by omega) h]
      constructor
      · intro e
        have := congrArg Sl.h e
        cases this
      · exact fun e => absurd h e
    · rw [ent_dead (by omega) h]
      exact ⟨fun _ => h, fun _ => rfl⟩

/-- The word d of a page. -/
def wd (s : ByteArray) (d : Nat) : Int := getN s ((8 * d : Nat) : Int) 8

/-- A table with these entries lies in the pool: each table in a frame of its own, held once. -/
structure Tbl (X : Pol) (root : Nat) (M : Nat → Sl) (F : Nat → Nat → Nat) : Prop where
  ents : Ents M
  root : F 0 0 = root
  frame : ∀ i q, i < 4 → tabl M i q → ∃ h : F i q < X.H.length, X.H[F i q] = 1
  apart : ∀ i q j r, i < 4 → j < 4 → tabl M i q → tabl M j r → F i q = F j r → i = j ∧ q = r
  word : ∀ i q d, i < 4 → tabl M i q → d < 8 → wd (X.S.getD (F i q) ⟨#[]⟩) d = (ent M F (i + 1) (8 * q + d)).pack

theorem live_iff_page {M : Nat → Sl} {p : Nat} (h : M p ≠ Sl.zero) (i : Nat) : live M i (p / 8 ^ (4 - i)) := ⟨p, rfl, h⟩
end Go.Proofs.YtbidlabhekiijaaDoor

/- Words of eight bytes in a page: loaded, stored, all zero. -/
namespace Go.Proofs.YtbidlabhekiijaaDoor
open Go.RowKit
set_option linter.unusedVariables false

theorem wd_eq {s : ByteArray} {d : Nat} (hs : s.size = 64) (hd : d < 8) : wd s d = (getL (partL s (8 * d) 8) : Int) := by
  unfold wd getN
  rw [if_pos (by rw [hol_iff, hs]; omega)]
  rfl
theorem wd_range {s : ByteArray} {d : Nat} : 0 ≤ wd s d ∧ wd s d < 18446744073709551616 := by
  unfold wd getN
  split
  · rename_i h
    rw [hol_iff] at h
    have := getL_lt64 (l := partL s (Int.toNat ((8 * d : Nat) : Int)) (Int.toNat 8)) (by rw [partL_length (by omega)]; decide)
    omega
  · omega
theorem wid4 : wid 4 = 8 := rfl
theorem clip4 {n : Int} (h : 0 ≤ n ∧ n < 18446744073709551616) : clipS 4 n = n := by
  unfold clipS
  simp
  try omega
theorem part_part {s : ByteArray} {d : Nat} (hs : s.size = 64) (hd : d < 8) : readV 4 (partS s ((8 * d : Nat) : Int) 8) = wd s d := by
  have hi : inn ((8 * d : Nat) : Int) 8 s.size = true := by rw [inn_iff, hs]; omega
  have e1 : partS s ((8 * d : Nat) : Int) 8 = s.extract (8 * d) (8 * d + 8) := by
    unfold partS
    rw [if_pos hi]
    rfl
  have e2 : (s.extract (8 * d) (8 * d + 8)).size = 8 := by rw [ByteArray.size_extract]; omega
  have e3 : (s.extract (8 * d) (8 * d + 8)).data.toList = partL s (8 * d) 8 := by
    rw [extract_mkb, mkb_data, Nat.add_sub_cancel_left]
    rfl
  have hr := wd_range (s := s) (d := d)
  rw [wd_eq hs hd] at hr ⊢
  rw [e1]
  unfold readV
  rw [wid4, if_neg (by decide), if_neg (by rw [e2]; simp)]
  have e4 : getN (s.extract (8 * d) (8 * d + 8)) 0 8 = (getL (partL s (8 * d) 8) : Int) := by
    unfold getN
    rw [if_pos (by rw [hol_iff, e2]; omega)]
    congr 2
    show (((s.extract (8 * d) (8 * d + 8)).data.toList.drop 0).take 8) = _
    rw [e3, List.drop_zero, List.take_of_length_le (by rw [partL_length (by omega)]; exact Nat.le_refl _)]
  rw [e4, clip4 hr]
theorem askE_one {H : List Int} {f : Nat} (hf : f < H.length) (h1 : H[f] = 1) : askE H f = 0 := by rw [askE_in hf, if_neg (by omega)]
/-- The word that Load tells. -/
theorem ld_word {H : List Int} {S : List ByteArray} {f d : Nat} (hf : f < H.length) (h1 : H[f] ≠ 0) (hs : (S.getD f ⟨#[]⟩).size = 64) (hd : d < 8) : ldV H S f ((8 * d : Nat) : Int) 4 = wd (S.getD f ⟨#[]⟩) d ∧ wdE H f ((8 * d : Nat) : Int) 4 = 0 := by
  have ha : askE H f = 0 := by rw [askE_in hf, if_neg h1]
  have e : wdE H f ((8 * d : Nat) : Int) 4 = 0 := by
    unfold wdE
    rw [if_pos ha, wid4, if_neg (by decide), if_pos (by rw [inn_iff]; omega)]
  refine ⟨?_, e⟩
  unfold ldV
  rw [if_pos e, Int.toNat_natCast, wid4, part_part hs hd]

/-- A page of which a word was set. -/
def setW (o : ByteArray) (d : Nat) (x : Int) : ByteArray := setS o ((8 * d : Nat) : Int) 8 x.toNat
theorem setW_size {o : ByteArray} {d : Nat} {x : Int} (ho : o.size = 64) : (setW o d x).size = 64 := setS_size ho
theorem setW_data {o : ByteArray} {d : Nat} {x : Int} (ho : o.size = 64) (hd : d < 8) : (setW o d x).data.toList = o.data.toList.take (8 * d) ++ putL x.toNat 8 ++ o.data.toList.drop (8 * d + 8) := by
  unfold setW setS
  rw [if_pos (by rw [hol_iff, ho]; omega), mkb_data]
  rfl
theorem wd_setW {o : ByteArray} {d e : Nat} {x : Int} (ho : o.size = 64) (hd : d < 8) (he : e < 8) (x0 : 0 ≤ x) (x1 : x < 18446744073709551616) : wd (setW o d x) e = if e = d then x else wd o e := by
  have hl : o.data.toList.length = 64 := by rw [len_data, ho]
  have hp : (putL x.toNat 8).length = 8 := putL_length _ _
  have ht : (o.data.toList.take (8 * d)).length = 8 * d := by rw [List.length_take]; omega
  rw [wd_eq (setW_size ho) he]
  unfold partL
  rw [setW_data ho hd]
  by_cases h : e = d
  · subst h
    rw [if_pos rfl, List.append_assoc, List.drop_left' ht, List.take_left' hp, getL_putL2]
    have : x.toNat % 256 ^ 8 = x.toNat := Nat.mod_eq_of_lt (by omega)
    omega
  · rw [if_neg h, wd_eq ho he]
    congr 2
    unfold partL
    apply List.ext_getElem?
    intro i
    by_cases hi : i < 8
    · rw [List.getElem?_take_of_lt hi, List.getElem?_take_of_lt hi, List.getElem?_drop, List.getElem?_drop]
      by_cases hlt : e < d
      · rw [List.append_assoc, List.getElem?_append_left (by omega), List.getElem?_take_of_lt (by omega)]
      · rw [List.getElem?_append_right (by simp only [List.length_append]; omega), List.getElem?_drop]
        congr 1
        simp only [List.length_append]
        omega
    · rw [List.getElem?_eq_none (by rw [List.length_take]; omega), List.getElem?_eq_none (by rw [List.length_take]; omega)]
theorem getL_zero : ∀ {l : List UInt8}, getL l = 0 → ∀ b ∈ l, b = 0
  | [], _, b, hb => by cases hb
  | a :: l, h, b, hb => by
    unfold getL at h
    have ha : a.toNat = 0 := by omega
    have hl : getL l = 0 := by omega
    rcases List.mem_cons.1 hb with rfl | hb
    · exact UInt8.toNat_inj.1 (by simpa using ha)
    · exact getL_zero hl b hb
theorem getL_zeros : ∀ n, getL (List.replicate n 0) = 0
  | 0 => rfl
  | n + 1 => by rw [List.replicate_succ]; unfold getL; rw [getL_zeros n]; rfl
theorem zsec_wd {d : Nat} (hd : d < 8) : wd zsec d = 0 := by
  rw [wd_eq zsec_size hd]
  unfold partL zsec
  rw [mkb_data, List.drop_replicate, List.take_replicate, getL_zeros]
  rfl
theorem page_zero {s : ByteArray} (hs : s.size = 64) : s = zsec ↔ ∀ d, d < 8 → wd s d = 0 := by
  constructor
  · rintro rfl d hd
    exact zsec_wd hd
  · intro h
    have hl : s.data.toList.length = 64 := by rw [len_data, hs]
    rw [← mkb_of s]
    unfold zsec
    congr 1
    apply List.ext_getElem
    · rw [hl, List.length_replicate]
    · intro i h1 h2
      rw [List.getElem_replicate]
      have hd : i / 8 < 8 := by omega
      have hz := h (i / 8) hd
      rw [wd_eq hs hd] at hz
      have hz' : getL (partL s (8 * (i / 8)) 8) = 0 := by omega
      refine getL_zero hz' _ ?_
      unfold partL
      rw [List.mem_iff_getElem?]
      refine ⟨i % 8, ?_⟩
      rw [List.getElem?_take_of_lt (Nat.mod_lt _ (by omega)), List.getElem?_drop, show 8 * (i / 8) + i % 8 = i by omega, List.getElem?_eq_getElem h1]
end Go.Proofs.YtbidlabhekiijaaDoor
