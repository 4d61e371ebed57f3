/- Layer 8: the images of plain numbers: what they are; of no program. -/
import Derived.Test.YtakmmphjdkapeaaDoorFc
namespace Go.Proofs.YtakmmphjdkapeaaDoor
open Go.RowKit
set_option linter.unusedVariables false
set_option linter.unusedSimpArgs false

theorem specP_pos {l : List Q4} {p : Int} (h : 0 ≤ p) : 0 ≤ specP p l := by have := specP_in l p; omega
/-- A segment of plain numbers, whatever its flags. -/
theorem seg_may {q : Q4} {P size fl : Int} (h0 : 0 ≤ P) (h1 : P ≤ 100) (hs : 1024 + (P + q.pg) * 64 ≤ size) (hfl : 0 ≤ fl ∧ fl ≤ 7) : Seg.May { q.seg P with fl := fl } size := by
  have hp := pg_in q
  have hm := mem_in q
  have hz := sz_in q
  have e : q.seg P = ⟨1, q.d % 8, 1024 + P * 64 + q.b % 64, P * 64 + q.b % 64, q.sz, q.mem, 64⟩ := rfl
  rw [e]
  have hb : 0 ≤ q.b % 64 ∧ q.b % 64 < 64 := by omega
  generalize q.b % 64 = b at *
  exact ⟨by show 0 ≤ (1 : Int) ∧ (1 : Int) ≤ 1073741824; omega, hfl, by show 0 ≤ 1024 + P * 64 + b ∧ 1024 + P * 64 + b ≤ 1099511627776; omega, by show 0 ≤ P * 64 + b ∧ P * 64 + b ≤ 1099511627776; omega, by show 0 ≤ q.sz ∧ q.sz ≤ 1099511627776; omega,
    by show 0 ≤ q.mem ∧ q.mem ≤ 1099511627776; omega, by show 0 ≤ (64 : Int) ∧ (64 : Int) ≤ 1099511627776; omega,
    fun _ => by show 0 < q.mem ∧ (64 : Int) = 64 ∧ (P * 64 + b) % 64 = (1024 + P * 64 + b) % 64; omega, fun _ => by show 1024 + P * 64 + b + q.sz ≤ size ∧ q.sz ≤ q.mem ∧ P * 64 + b + q.mem ≤ 262144; omega⟩
theorem seg_pages {q : Q4} {P fl : Int} (h0 : 0 ≤ P) : Seg.from_ { q.seg P with fl := fl } = P ∧ Seg.to_ { q.seg P with fl := fl } ≤ P + q.pg ∧ P + 1 ≤ Seg.to_ { q.seg P with fl := fl } := by
  have hp := pg_in q
  have hm := mem_in q
  have e : q.seg P = ⟨1, q.d % 8, 1024 + P * 64 + q.b % 64, P * 64 + q.b % 64, q.sz, q.mem, 64⟩ := rfl
  have ha : 0 ≤ (q.seg P).ad := by rw [e]; show 0 ≤ P * 64 + q.b % 64; omega
  have hmm : 0 ≤ (q.seg P).mem := by show 0 ≤ q.mem; omega
  rw [Seg.from_eq (s := { q.seg P with fl := fl }) ha, Seg.to_eq (s := { q.seg P with fl := fl }) ha hmm]
  show (P * 64 + q.b % 64) / 64 = P ∧ (P * 64 + q.b % 64 + q.mem + 63) / 64 ≤ P + q.pg ∧ P + 1 ≤ (P * 64 + q.b % 64 + q.mem + 63) / 64
  omega
theorem seg_self (q : Q4) (P : Int) : ({ q.seg P with fl := q.d % 8 } : Seg) = q.seg P := rfl
theorem spec_rises : ∀ (l : List Q4) (p e size : Int), e ≤ p → 0 ≤ p → p + 4 * l.length ≤ 100 → 1024 + specP p l * 64 ≤ size → rises size e (specL p l) = true
  | [], _, _, _, _, _, _, _ => rfl
  | q :: l, p, e, size, he, h0, hl, hs => by
    have hp := pg_in q
    have hP := specP_in l (p + q.pg)
    have hl2 : ((q :: l).length : Int) = l.length + 1 := by simp
    rw [hl2] at hl
    have hs2 : 1024 + specP (p + q.pg) l * 64 ≤ size := hs
    have h1 := seg_may (q := q) (P := p) (size := size) (fl := q.d % 8) h0 (by omega) (by omega) (by omega)
    have h2 := seg_pages (q := q) (P := p) (fl := q.d % 8) h0
    rw [seg_self] at h1 h2
    have ih := spec_rises l (p + q.pg) (q.seg p).to_ size (by omega) (by omega) (by omega) hs2
    show ((q.seg p).may size && (if (q.seg p).ty = 1 then !decide ((q.seg p).from_ < e) && rises size (q.seg p).to_ (specL (p + q.pg) l) else rises size e (specL (p + q.pg) l))) = true
    rw [Seg.may_iff.2 h1, if_pos (show (q.seg p).ty = 1 from rfl), ih, decide_eq_false (by omega)]
    rfl
theorem spec_mem : ∀ {l : List Q4} {p : Int} {s : Seg}, s ∈ specL p l → ∃ (q : Q4) (P : Int), s = q.seg P ∧ p ≤ P ∧ P + q.pg ≤ specP p l
  | [], _, _, h => by cases h
  | q :: l, p, s, h => by
    have hp := pg_in q
    have hP := specP_in l (p + q.pg)
    rcases List.mem_cons.1 h with rfl | h
    · exact ⟨q, p, rfl, Int.le_refl _, show p + q.pg ≤ specP (p + q.pg) l by omega⟩
    · obtain ⟨q2, P, rfl, h1, h2⟩ := spec_mem h
      exact ⟨q2, P, rfl, by omega, h2⟩
/-- What an image of plain numbers is: none, one as it stands, or one whose first segment may be executed. -/
theorem sg_cases (p : SpecIn) : (p.sg = [] ∧ p.img = ⟨3, 0, []⟩) ∨ ∃ (q : Q4) (l : List Q4) (fl : Int), p.qs.take 4 = q :: l ∧ 0 ≤ fl ∧ fl ≤ 7 ∧ p.img.segs = { q.seg 0 with fl := fl } :: specL (0 + q.pg) l ∧
    ((p.img.kind = 3 ∧ p.img.entry = 0) ∨ (p.img.kind = 2 ∧ fl % 2 = 1 ∧ (q.seg 0).ad ≤ p.img.entry ∧ p.img.entry < (q.seg 0).ad + (q.seg 0).mem)) := by
  have e : p.sg = specL 0 (p.qs.take 4) := rfl
  have ei : p.img = imgOf p.kind p.entry p.sg := rfl
  cases h : p.qs.take 4 with
  | nil =>
    rw [h] at e
    exact .inl ⟨e, by rw [ei, e]; rfl⟩
  | cons q l =>
    rw [h] at e
    have e2 : p.sg = q.seg 0 :: specL (0 + q.pg) l := e
    have ei2 : p.img = if p.kind % 2 = 1 then execI (q.seg 0) (specL (0 + q.pg) l) p.entry else ⟨3, 0, q.seg 0 :: specL (0 + q.pg) l⟩ := by rw [ei, e2]; rfl
    have hd : 0 ≤ q.d % 8 ∧ q.d % 8 ≤ 7 := by omega
    have hm := mem_in q
    by_cases hk : p.kind % 2 = 1
    · rw [if_pos hk] at ei2
      refine .inr ⟨q, l, orF (q.d % 8), rfl, ?_, ?_, by rw [ei2]; rfl, .inr ⟨by rw [ei2]; rfl, ?_, ?_⟩⟩
      · unfold orF; split <;> omega
      · unfold orF; split <;> omega
      · unfold orF; split <;> omega
      · rw [ei2]
        show (q.seg 0).ad ≤ (q.seg 0).ad + (p.entry.tmod q.mem + q.mem).tmod q.mem ∧ (q.seg 0).ad + (p.entry.tmod q.mem + q.mem).tmod q.mem < (q.seg 0).ad + q.mem
        obtain ⟨r, k, h1, h2, h3, h4, h5, h6⟩ := rest_nat p.entry q.mem (by omega)
        rw [h1, h4]
        omega
    · rw [if_neg hk] at ei2
      exact .inr ⟨q, l, q.d % 8, rfl, hd.1, hd.2, by rw [ei2]; rfl, .inl ⟨by rw [ei2], by rw [ei2]⟩⟩
theorem take4_len (p : SpecIn) : (p.qs.take 4).length ≤ 4 := by rw [List.length_take]; omega
/-- The segments of such an image rise. -/
theorem img_rises (p : SpecIn) : rises p.size 0 p.img.segs = true := by
  rcases sg_cases p with ⟨-, h⟩ | ⟨q, l, fl, hq, hf0, hf7, hs, -⟩
  · rw [h]; rfl
  · have hl := take4_len p
    rw [hq] at hl
    simp only [List.length_cons] at hl
    have hp := pg_in q
    have hP := specP_in l (0 + q.pg)
    have hsz : p.size = 1024 + specP (0 + q.pg) l * 64 := by
      show 1024 + specP 0 (p.qs.take 4) * 64 = _
      rw [hq]
      rfl
    have h1 := seg_may (q := q) (P := 0) (size := p.size) (fl := fl) (by omega) (by omega) (by omega) ⟨hf0, hf7⟩
    have h2 := seg_pages (q := q) (P := 0) (fl := fl) (by omega)
    rw [hs]
    have ih := spec_rises l (0 + q.pg) (Seg.to_ { q.seg 0 with fl := fl }) p.size (by omega) (by omega) (by omega) (by omega)
    show (Seg.may { q.seg 0 with fl := fl } p.size && (if (1 : Int) = 1 then !decide (Seg.from_ { q.seg 0 with fl := fl } < 0) && rises p.size (Seg.to_ { q.seg 0 with fl := fl }) (specL (0 + q.pg) l) else rises p.size 0 (specL (0 + q.pg) l))) = true
    rw [Seg.may_iff.2 h1, if_pos rfl, ih, decide_eq_false (by omega)]
    rfl
theorem img_len (p : SpecIn) : p.img.segs.length ≤ 4 := by
  rcases sg_cases p with ⟨-, h⟩ | ⟨q, l, fl, hq, -, -, hs, -⟩
  · rw [h]; exact Nat.zero_le _
  · have hl := take4_len p
    rw [hq] at hl
    rw [hs, List.length_cons, specL_length]
    simpa using hl
theorem img_ty (p : SpecIn) : ∀ s, s ∈ p.img.segs → s.ty = 1 ∧ 1024 ≤ s.off := by
  rcases sg_cases p with ⟨-, h⟩ | ⟨q, l, fl, hq, -, -, hs, -⟩
  · rw [h]; intro s hs; cases hs
  · rw [hs]
    intro s h
    have hp := pg_in q
    rcases List.mem_cons.1 h with rfl | h
    · exact ⟨rfl, show 1024 ≤ 1024 + 0 * 64 + q.b % 64 by omega⟩
    · obtain ⟨q2, P, rfl, h1, h2⟩ := spec_mem h
      exact ⟨rfl, show 1024 ≤ 1024 + P * 64 + q2.b % 64 by omega⟩
theorem size_in (p : SpecIn) : 1024 ≤ p.size ∧ p.size ≤ 2048 := by
  have h := specP_in (p.qs.take 4) 0
  have hl := take4_len p
  show 1024 ≤ 1024 + specP 0 (p.qs.take 4) * 64 ∧ 1024 + specP 0 (p.qs.take 4) * 64 ≤ 2048
  omega
theorem img_may (p : SpecIn) : ∀ s, s ∈ p.img.segs → s.May p.size := rises_may (img_rises p)
theorem May.wf {s : Seg} {z : Int} (h : s.May z) : s.wf := ⟨i64_wf (by have := h.ty; omega), i64_wf (by have := h.fl; omega), i64_wf (by have := h.off; omega), i64_wf (by have := h.ad; omega), i64_wf (by have := h.sz; omega), i64_wf (by have := h.mem; omega), i64_wf (by have := h.al; omega)⟩
theorem img_kind (p : SpecIn) : (p.img.kind = 2 ∨ p.img.kind = 3) ∧ 0 ≤ p.img.entry ∧ p.img.entry ≤ 262144 := by
  rcases sg_cases p with ⟨-, h⟩ | ⟨q, l, fl, hq, -, -, hs, h | h⟩
  · rw [h]; exact ⟨.inr rfl, by decide, by decide⟩
  · rw [h.1, h.2]; exact ⟨.inr rfl, by decide, by decide⟩
  · have hm := mem_in q
    have hp := pg_in q
    have ha : (q.seg 0).ad = 0 * 64 + q.b % 64 := rfl
    have hmm : (q.seg 0).mem = q.mem := rfl
    exact ⟨.inl h.1, by omega, by omega⟩
/-- An image of plain numbers may be, if it has a segment. -/
theorem img_chk (p : SpecIn) : p.img.chk p.size = decide (p.img.segs ≠ []) := by
  have hlen := img_len p
  have hty := img_ty p
  have hr := img_rises p
  have hk := img_kind p
  have hz := size_in p
  rcases sg_cases p with ⟨-, h⟩ | ⟨q, l, fl, hq, hf0, hf7, hs, hb⟩
  · rw [h]; simp [Img.chk]
  · have hne : p.img.segs ≠ [] := by rw [hs]; simp
    rw [decide_eq_true hne]
    have hlp : 1 ≤ p.img.segs.length := List.length_pos_iff.2 hne
    have hloads : 0 < loadsN p.img.segs := by
      unfold loadsN
      rw [hs, List.countP_cons_of_pos (by simp; rfl)]
      omega
    have hdyns : dynsN p.img.segs = 0 := by
      unfold dynsN
      rw [List.countP_eq_zero]
      intro s hs
      have := (hty s hs).1
      simp [this]
    have hcar : carriedS p.img.segs = true := by
      unfold carriedS
      rw [List.all_eq_true]
      intro s hs
      have := (hty s hs).1
      simp [this]
    have hbeg : beginsS p.img = true := by
      unfold beginsS
      rcases hb with ⟨h1, h2⟩ | ⟨h1, h2, h3, h4⟩
      · rw [h1, h2]; rfl
      · rw [hs, List.any_cons]
        have : Seg.has { q.seg 0 with fl := fl } p.img.entry = true := by
          show (fl % 2 == 1 && decide ((q.seg 0).ad ≤ p.img.entry) && decide (p.img.entry < (q.seg 0).ad + (q.seg 0).mem)) = true
          rw [decide_eq_true h3, decide_eq_true h4]
          simpa using h2
        rw [this]
        rw [show (({ q.seg 0 with fl := fl } : Seg).ty == 1) = true from rfl]
        simp
    unfold Img.chk standS
    rw [hr, hcar, hbeg, hdyns, decide_eq_true hloads, decide_eq_true hlp, decide_eq_true (show p.img.segs.length ≤ 16 by omega), decide_eq_true (show 64 + (p.img.segs.length : Int) * 56 ≤ p.size by omega)]
    rcases hk.1 with h | h <;> rw [h] <;> rfl
end Go.Proofs.YtakmmphjdkapeaaDoor
