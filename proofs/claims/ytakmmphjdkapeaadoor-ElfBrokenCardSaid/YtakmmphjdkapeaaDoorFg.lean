/- Layer 8: images of which one thing is otherwise than it must be; of no program. -/
import Derived.Test.YtakmmphjdkapeaaDoorFf
import Derived.Test.YtakmmphjdkapeaaDoorFa
namespace Go.Proofs.YtakmmphjdkapeaaDoor
open Go.RowKit
set_option linter.unusedVariables false
set_option linter.unusedSimpArgs false

theorem no_may {x : Img} {size : Int} {s : Seg} (hs : s ∈ x.segs) (h : ¬ s.May size) : x.chk size = false := by
  cases hc : x.chk size
  · rfl
  · exact absurd (chk_may hc s hs) h
theorem rises_at2 {size : Int} : ∀ (l : List Seg) (e : Int) (s : Seg), rises size e (l ++ [s]) = true → (∀ t, t ∈ l ++ [s] → t.ty = 1) → lastTo l e ≤ s.from_
  | [], e, s, h, ht => by
    have h1 : s.ty = 1 := ht s (by simp)
    show e ≤ s.from_
    simp only [List.nil_append] at h
    unfold rises at h
    rw [if_pos h1] at h
    simp only [Bool.and_eq_true, Bool.not_eq_true', decide_eq_false_iff_not] at h
    omega
  | t :: l, e, s, h, ht => by
    have h1 : t.ty = 1 := ht t (by simp)
    simp only [List.cons_append] at h
    unfold rises at h
    rw [if_pos h1] at h
    simp only [Bool.and_eq_true] at h
    show lastTo l (if t.ty = 1 then t.to_ else e) ≤ s.from_
    rw [if_pos h1]
    exact rises_at2 l t.to_ s h.2.2 (fun u hu => ht u (by simp at hu ⊢; exact .inr hu))
theorem last_ge {size : Int} : ∀ (l : List Seg) (e : Int), rises size e l = true → (∀ t, t ∈ l → t.ty = 1 ∧ t.from_ ≤ t.to_) → e ≤ lastTo l e
  | [], _, _, _ => Int.le_refl _
  | s :: l, e, h, ht => by
    have h1 := ht s (by simp)
    unfold rises at h
    rw [if_pos h1.1] at h
    simp only [Bool.and_eq_true, Bool.not_eq_true', decide_eq_false_iff_not] at h
    have ih := last_ge l s.to_ h.2.2 (fun t h => ht t (by simp [h]))
    show e ≤ lastTo l (if s.ty = 1 then s.to_ else e)
    rw [if_pos h1.1]
    omega
/-- It may not be; but with a number below 0, it is written as it is. -/
structure Brk (K : Nat) (size : Int) (x : Img) : Prop where
  no : x.chk size = false
  fits : K ≠ 11 → x.Fits
  len : x.segs.length ≤ 5
  kind : (Lit.int .i64 x.kind).wf = true
  entry : (Lit.int .i64 x.entry).wf = true
  wf : ∀ s, s ∈ x.segs → s.wf
theorem Seg.Fits.wf {s : Seg} (h : s.Fits) : s.wf := ⟨i64_wf (by have := h.ty; omega), i64_wf (by have := h.fl; omega), i64_wf (by have := h.off; omega), i64_wf (by have := h.ad; omega), i64_wf (by have := h.sz; omega), i64_wf (by have := h.mem; omega), i64_wf (by have := h.al; omega)⟩
theorem Brk.of {K : Nat} {size : Int} {x : Img} (no : x.chk size = false) (hf : x.Fits) (hl : x.segs.length ≤ 5) : Brk K size x := ⟨no, fun _ => hf, hl, i64_wf (by have := hf.kind; omega), i64_wf (by have := hf.entry; omega), fun s hs => (hf.segs s hs).wf⟩
/-- What is said of the image ahead. -/
structure Ahd (size kind entry : Int) (s : Seg) (l : List Seg) : Prop where
  siz : 1024 ≤ size ∧ size ≤ 2048
  kind : kind = 2 ∨ kind = 3
  entry : 0 ≤ entry ∧ entry ≤ 262144
  len : l.length ≤ 3
  may : s.May size
  mays : ∀ t, t ∈ l → t.May size
  ty : s.ty = 1
  tys : ∀ t, t ∈ l → t.ty = 1
  off : 1024 ≤ s.off
  rise : rises size 0 (s :: l) = true
theorem ahd_of {p : SpecIn} {s : Seg} {l : List Seg} (h : p.img.segs = s :: l) : Ahd p.size p.img.kind p.img.entry s l := by
  have h1 := img_len p
  have h2 := img_may p
  have h3 := img_ty p
  have h4 := img_rises p
  rw [h] at h1 h2 h3 h4
  exact ⟨size_in p, (img_kind p).1, (img_kind p).2, by simpa using h1, h2 s (by simp), fun t ht => h2 t (by simp [ht]), (h3 s (by simp)).1, fun t ht => (h3 t (by simp [ht])).1, (h3 s (by simp)).2, h4⟩
section
variable {size kind entry : Int} {s : Seg} {l : List Seg} (h : Ahd size kind entry s l)
include h
theorem Ahd.fits_with {kind' entry' : Int} {s' : Seg} {l' : List Seg} (hk : 0 ≤ kind' ∧ kind' < 65536) (he : 0 ≤ entry' ∧ entry' ≤ 9223372036854775807) (hs : s'.Fits) (hl : l'.length ≤ 4) (hl2 : ∀ t, t ∈ l' → t = s ∨ t ∈ l) : Img.Fits ⟨kind', entry', s' :: l'⟩ :=
  ⟨hk, he, by simp only [List.length_cons]; omega, fun t ht => by
    rcases List.mem_cons.1 ht with rfl | ht
    · exact hs
    · rcases hl2 t ht with rfl | h2
      · exact May.fits h.may
      · exact May.fits (h.mays t h2)⟩
theorem Ahd.kd : 0 ≤ kind ∧ kind < 65536 := by have := h.kind; omega
theorem Ahd.en : 0 ≤ entry ∧ entry ≤ 9223372036854775807 := by have := h.entry; omega
/-- One with another first segment, which may not be. -/
theorem Ahd.seg {K : Nat} {s' : Seg} (hs : s'.Fits) (hn : ¬ s'.May size) : Brk K size ⟨kind, entry, s' :: l⟩ :=
  Brk.of (no_may (s := s') (by simp) hn) (h.fits_with h.kd h.en hs (by have := h.len; omega) (fun t ht => .inr ht)) (by have := h.len; simp only [List.length_cons]; omega)
theorem Ahd.b0 : Brk 0 size ⟨1, entry, s :: l⟩ := Brk.of (by unfold Img.chk; rfl) (h.fits_with (by omega) h.en (May.fits h.may) (by have := h.len; omega) (fun t ht => .inr ht)) (by have := h.len; simp only [List.length_cons]; omega)
theorem Ahd.b1 : Brk 1 size ⟨kind, entry, ⟨s.ty, s.fl, s.off, s.ad, s.sz, s.mem, 128⟩ :: l⟩ := by
  have hf := May.fits h.may
  refine h.seg ⟨hf.ty, hf.fl, hf.off, hf.ad, hf.sz, hf.mem, by show 0 ≤ (128 : Int) ∧ (128 : Int) ≤ 9223372036854775807; omega⟩ (fun hm => ?_)
  have h1 : (0 < s.mem ∧ (128 : Int) = 64 ∧ s.ad % 64 = s.off % 64) := hm.load h.ty
  omega
theorem Ahd.b2 : Brk 2 size ⟨kind, entry, ⟨s.ty, s.fl, size + 64 + s.off % 64, s.ad, s.sz, s.mem, s.al⟩ :: l⟩ := by
  have hf := May.fits h.may
  have hz := h.siz
  refine h.seg ⟨hf.ty, hf.fl, by show 0 ≤ size + 64 + s.off % 64 ∧ size + 64 + s.off % 64 ≤ 9223372036854775807; omega, hf.ad, hf.sz, hf.mem, hf.al⟩ (fun hm => ?_)
  have h1 : size + 64 + s.off % 64 + s.sz ≤ size ∧ _ := hm.both (.inl h.ty)
  have := hf.sz
  omega
theorem Ahd.b3 : Brk 3 size ⟨kind, entry, ⟨s.ty, s.fl, s.off, s.ad, s.mem + 1, s.mem, s.al⟩ :: l⟩ := by
  have hf := May.fits h.may
  have hm2 := h.may.mem
  refine h.seg ⟨hf.ty, hf.fl, hf.off, hf.ad, by show 0 ≤ s.mem + 1 ∧ s.mem + 1 ≤ 9223372036854775807; omega, hf.mem, hf.al⟩ (fun hm => ?_)
  have h1 : s.off + (s.mem + 1) ≤ size ∧ s.mem + 1 ≤ s.mem ∧ s.ad + s.mem ≤ 262144 := hm.both (.inl h.ty)
  omega
theorem Ahd.b4 : Brk 4 size ⟨kind, entry, ⟨s.ty, s.fl, s.off, 262144, s.sz, s.mem, s.al⟩ :: l⟩ := by
  have hf := May.fits h.may
  have hm2 := h.may.load h.ty
  refine h.seg ⟨hf.ty, hf.fl, hf.off, by show 0 ≤ (262144 : Int) ∧ (262144 : Int) ≤ 9223372036854775807; omega, hf.sz, hf.mem, hf.al⟩ (fun hm => ?_)
  have h1 : s.off + s.sz ≤ size ∧ s.sz ≤ s.mem ∧ 262144 + s.mem ≤ 262144 := hm.both (.inl h.ty)
  omega
theorem Ahd.b5 : Brk 5 size ⟨kind, entry, ⟨s.ty, 8, s.off, s.ad, s.sz, s.mem, s.al⟩ :: l⟩ := by
  have hf := May.fits h.may
  refine h.seg ⟨hf.ty, by show 0 ≤ (8 : Int) ∧ (8 : Int) < 4294967296; omega, hf.off, hf.ad, hf.sz, hf.mem, hf.al⟩ (fun hm => ?_)
  have h1 : 0 ≤ (8 : Int) ∧ (8 : Int) ≤ 7 := hm.fl
  omega
theorem Ahd.b6 : Brk 6 size ⟨kind, entry, ⟨s.ty, s.fl, s.off + 1, s.ad, s.sz, s.mem, s.al⟩ :: l⟩ := by
  have hf := May.fits h.may
  have hm2 := h.may.load h.ty
  have ho := h.may.off
  refine h.seg ⟨hf.ty, hf.fl, by show 0 ≤ s.off + 1 ∧ s.off + 1 ≤ 9223372036854775807; omega, hf.ad, hf.sz, hf.mem, hf.al⟩ (fun hm => ?_)
  have h1 : 0 < s.mem ∧ s.al = 64 ∧ s.ad % 64 = (s.off + 1) % 64 := hm.load h.ty
  omega
theorem Ahd.b7 : Brk 7 size ⟨kind, entry, ⟨s.ty, s.fl, s.off, s.ad, 0, 0, s.al⟩ :: l⟩ := by
  have hf := May.fits h.may
  refine h.seg ⟨hf.ty, hf.fl, hf.off, hf.ad, by show 0 ≤ (0 : Int) ∧ (0 : Int) ≤ 9223372036854775807; omega, by show 0 ≤ (0 : Int) ∧ (0 : Int) ≤ 9223372036854775807; omega, hf.al⟩ (fun hm => ?_)
  have h1 : 0 < (0 : Int) ∧ s.al = 64 ∧ s.ad % 64 = s.off % 64 := hm.load h.ty
  omega
theorem Ahd.b8 : Brk 8 size ⟨kind, entry, [⟨7, s.fl, s.off, s.ad, s.sz, s.mem, s.al⟩]⟩ := by
  have hf := May.fits h.may
  refine Brk.of ?_ (h.fits_with h.kd h.en ⟨by show 0 ≤ (7 : Int) ∧ (7 : Int) < 4294967296; omega, hf.fl, hf.off, hf.ad, hf.sz, hf.mem, hf.al⟩ (by simp) (fun t ht => by cases ht)) (by simp)
  have : standS [⟨7, s.fl, s.off, s.ad, s.sz, s.mem, s.al⟩] size = false := by
    unfold standS loadsN
    simp
  unfold Img.chk
  simp only
  rw [this]
  simp
theorem Ahd.b9 : Brk 9 size ⟨kind, entry, s :: (l ++ [s])⟩ := by
  have hf := May.fits h.may
  have hl := h.len
  refine Brk.of (chk_rises ?_) (h.fits_with h.kd h.en hf (by simp; omega) (fun t ht => by rcases List.mem_append.1 ht with h | h; exact .inr h; exact .inl (List.mem_singleton.1 h))) (by simp; omega)
  show rises size 0 ((s :: l) ++ [s]) = false
  cases hr : rises size 0 ((s :: l) ++ [s])
  · rfl
  · exfalso
    have hft : ∀ t : Seg, t.May size → t.ty = 1 → t.from_ + 1 ≤ t.to_ := fun t hm ht => by
      have h1 := hm.ad
      have h2 := hm.mem
      have h3 := hm.load ht
      rw [Seg.from_eq h1.1, Seg.to_eq h1.1 h2.1]
      omega
    have h1 := rises_at2 (s :: l) 0 s hr (fun t ht => by
      simp at ht
      rcases ht with rfl | h2 | rfl
      · exact h.ty
      · exact h.tys t h2
      · exact h.ty)
    have hr2 := h.rise
    unfold rises at hr2
    rw [if_pos h.ty] at hr2
    simp only [Bool.and_eq_true] at hr2
    have h2 := last_ge l s.to_ hr2.2.2 (fun t ht => ⟨h.tys t ht, by have := hft t (h.mays t ht) (h.tys t ht); omega⟩)
    have h3 : lastTo (s :: l) 0 = lastTo l s.to_ := by
      show lastTo l (if s.ty = 1 then s.to_ else 0) = _
      rw [if_pos h.ty]
    have h4 := hft s h.may h.ty
    omega
theorem Ahd.b10 : Brk 10 size ⟨kind, 524288, s :: l⟩ := by
  have hf := May.fits h.may
  have hl := h.len
  refine Brk.of ?_ (h.fits_with h.kd (by omega) hf (by omega) (fun t ht => .inr ht)) (by simp only [List.length_cons]; omega)
  have : beginsS ⟨kind, 524288, s :: l⟩ = false := by
    unfold beginsS
    rw [Bool.or_eq_false_iff]
    refine ⟨by simp, ?_⟩
    rw [List.any_eq_false]
    intro t ht
    have hm : t.May size := by
      rcases List.mem_cons.1 ht with rfl | h2
      · exact h.may
      · exact h.mays t h2
    have hty : t.ty = 1 := by
      rcases List.mem_cons.1 ht with rfl | h2
      · exact h.ty
      · exact h.tys t h2
    have h3 := hm.both (.inl hty)
    unfold Seg.has
    rw [decide_eq_false (show ¬ (524288 : Int) < t.ad + t.mem by omega)]
    simp
  unfold Img.chk
  rw [this]
  simp
theorem Ahd.b11 : Brk 11 size ⟨kind, entry, ⟨s.ty, s.fl, s.off, s.ad, s.sz, -1, s.al⟩ :: l⟩ := by
  have hw := May.wf h.may
  refine ⟨no_may (s := ⟨s.ty, s.fl, s.off, s.ad, s.sz, -1, s.al⟩) (by simp) (fun hm => ?_), fun h2 => absurd rfl h2, by have := h.len; simp only [List.length_cons]; omega, i64_wf (by have := h.kd; simp only; omega), i64_wf (by have := h.en; simp only; omega), fun t ht => ?_⟩
  · have h1 : 0 ≤ (-1 : Int) ∧ _ := hm.mem
    omega
  · rcases List.mem_cons.1 ht with rfl | ht
    · exact ⟨hw.ty, hw.fl, hw.off, hw.ad, hw.sz, by show (Lit.int .i64 (-1)).wf = true; decide, hw.al⟩
    · exact May.wf (h.mays t ht)
end
/-- What such an image's file is told. -/
theorem brk_parse {K : Nat} {size : Nat} {x : Img} {F : ByteArray} (h : Brk K size x) (hK : K ≠ 11) (hz : 1024 ≤ size) (hs : F.size = size) (hF : ∀ j, j < x.headL.length → F.data.toList.getD j 0 = x.headL.getD j 0) : parseX F = Img.zero ∧ parseE F = 16 := by
  have hl := h.len
  have hhl := headL_len x
  obtain ⟨h1, h2⟩ := read_written (h.fits hK) rfl (by omega) (fun j hj _ => hF j (by omega))
  have hb : parseB F = false := by
    unfold parseB
    rw [h1, hs, h.no]
    rfl
  unfold parseX parseE
  rw [hb]
  exact ⟨rfl, rfl⟩
end Go.Proofs.YtakmmphjdkapeaaDoor
