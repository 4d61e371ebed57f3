/- Layer 8: a segment, an image, and what the document says of them; of no program. -/
import Derived.Test.YtakmmphjdkapeaaDoorOctG
import Derived.Test.YtakmmphjdkapeaaDoorOpen
import Derived.Test.YtakmmphjdkapeaaDoorBut
namespace Go.Proofs.YtakmmphjdkapeaaDoor
open Go.RowKit
set_option linter.unusedVariables false

/-- A segment. -/
structure Seg where
  (ty fl off ad sz mem al : Int)
deriving DecidableEq
/-- An image. -/
structure Img where
  (kind entry : Int)
  segs : List Seg
deriving DecidableEq
def Seg.cs (s : Seg) : Array Value := #[.int .i64 s.ty, .int .i64 s.fl, .int .i64 s.off, .int .i64 s.ad, .int .i64 s.sz, .int .i64 s.mem, .int .i64 s.al]
def Seg.v (s : Seg) : Value := .agg s.cs
/-- Its numbers are ints. -/
structure Seg.wf (s : Seg) : Prop where
  ty : (Lit.int .i64 s.ty).wf = true
  fl : (Lit.int .i64 s.fl).wf = true
  off : (Lit.int .i64 s.off).wf = true
  ad : (Lit.int .i64 s.ad).wf = true
  sz : (Lit.int .i64 s.sz).wf = true
  mem : (Lit.int .i64 s.mem).wf = true
  al : (Lit.int .i64 s.al).wf = true

/-- The slice at A has these segments. -/
def SegRow (w : World) (A : Option Addr) (l : List Seg) : Prop := ∀ i (hi : i < l.length), ∃ ad, A = some ad ∧ ad.block < w.heap.size ∧ (∀ j, j < 7 → w.cell? (ad.add (i * 7 + j)) = (l[i].cs)[j]?) ∧ l[i].wf
theorem SegRow.below {w w' : World} {A : Option Addr} {l : List Seg} (h : SegRow w A l) (hb : Below w.heap.size w w') : SegRow w' A l := fun i hi => by
  obtain ⟨ad, e, hlt, hc, hw⟩ := h i hi
  refine ⟨ad, e, Nat.lt_of_lt_of_le hlt hb.size, fun j hj => ?_, hw⟩
  have hbl : (ad.add (i * 7 + j)).block = ad.block := by unfold Addr.add; split <;> rfl
  rw [hb.cell (by rw [hbl]; exact hlt)]
  exact hc j hj
theorem SegRow.drewN {w : World} {A : Option Addr} {l : List Seg} (h : SegRow w A l) (n : Nat) : SegRow (w.drewN n) A l := h
theorem SegRow.wf {w : World} {A : Option Addr} {l : List Seg} (h : SegRow w A l) (i : Nat) (hi : i < l.length) : l[i].wf := by
  obtain ⟨_, _, _, _, hw⟩ := h i hi
  exact hw
/-- The cells of one, as a walk asks for them. -/
theorem SegRow.at_ {w : World} {A : Option Addr} {l : List Seg} (h : SegRow w A l) {i : Nat} (hi : i < l.length) : ∃ ad, A = some ad ∧ ad.block < w.heap.size ∧ l[i].wf ∧
    w.cell? (ad.add (i * 7)) = some (.int .i64 l[i].ty) ∧
    w.cell? ⟨(ad.add (i * 7)).block, (ad.add (i * 7)).off + 1, none⟩ = some (.int .i64 l[i].fl) ∧
    w.cell? ⟨(ad.add (i * 7)).block, (ad.add (i * 7)).off + 2, none⟩ = some (.int .i64 l[i].off) ∧
    w.cell? ⟨(ad.add (i * 7)).block, (ad.add (i * 7)).off + 3, none⟩ = some (.int .i64 l[i].ad) ∧
    w.cell? ⟨(ad.add (i * 7)).block, (ad.add (i * 7)).off + 4, none⟩ = some (.int .i64 l[i].sz) ∧
    w.cell? ⟨(ad.add (i * 7)).block, (ad.add (i * 7)).off + 5, none⟩ = some (.int .i64 l[i].mem) ∧
    w.cell? ⟨(ad.add (i * 7)).block, (ad.add (i * 7)).off + 6, none⟩ = some (.int .i64 l[i].al) := by
  obtain ⟨ad, e, hlt, hc, hw⟩ := h i hi
  have hs : ∀ j, 0 < j → (⟨(ad.add (i * 7)).block, (ad.add (i * 7)).off + j, none⟩ : Addr) = ad.add (i * 7 + j) := fun j hj => by
    rw [← Go.Deep.add_add]
    show _ = (ad.add (i * 7)).add j
    generalize ad.add (i * 7) = q
    unfold Addr.add
    split <;> simp_all
  refine ⟨ad, e, hlt, hw, ?_, ?_, ?_, ?_, ?_, ?_, ?_⟩
  · exact hc 0 (by omega)
  all_goals rw [hs _ (by omega)]
  · exact hc 1 (by omega)
  · exact hc 2 (by omega)
  · exact hc 3 (by omega)
  · exact hc 4 (by omega)
  · exact hc 5 (by omega)
  · exact hc 6 (by omega)

/-- A segment's first page, and the one behind its last one. -/
def Seg.from_ (s : Seg) : Int := s.ad.tdiv 64
def Seg.to_ (s : Seg) : Int := s.ad.tdiv 64 + s.mem.tdiv 64 + (s.ad.tmod 64 + s.mem.tmod 64 + 63).tdiv 64
theorem Seg.from_eq {s : Seg} (h : 0 ≤ s.ad) : s.from_ = s.ad / 64 := Int.tdiv_eq_ediv_of_nonneg h
theorem Seg.to_eq {s : Seg} (h : 0 ≤ s.ad) (h2 : 0 ≤ s.mem) : s.to_ = (s.ad + s.mem + 63) / 64 := by
  unfold Seg.to_
  rw [Int.tdiv_eq_ediv_of_nonneg h, Int.tdiv_eq_ediv_of_nonneg h2, Int.tmod_eq_emod_of_nonneg h, Int.tmod_eq_emod_of_nonneg h2, Int.tdiv_eq_ediv_of_nonneg (by omega)]
  omega

/-- A number from 0 to g. -/
def upto (g n : Int) : Bool := decide (0 ≤ n) && decide (n ≤ g)
theorem upto_iff {g n : Int} : upto g n = true ↔ 0 ≤ n ∧ n ≤ g := by unfold upto; simp
/-- May a segment be, of a file of so many bytes? -/
def Seg.may (s : Seg) (size : Int) : Bool :=
  upto 1073741824 s.ty && upto 7 s.fl && upto 1099511627776 s.off && upto 1099511627776 s.ad && upto 1099511627776 s.sz && upto 1099511627776 s.mem && upto 1099511627776 s.al &&
    (!(s.ty == 1) || (decide (0 < s.mem) && s.al == 64 && s.ad.tmod 64 == s.off.tmod 64)) && (!(s.ty == 1 || s.ty == 2) || (inn s.off s.sz size && decide (s.sz ≤ s.mem) && inn s.ad s.mem 262144))
structure Seg.May (s : Seg) (size : Int) : Prop where
  ty : 0 ≤ s.ty ∧ s.ty ≤ 1073741824
  fl : 0 ≤ s.fl ∧ s.fl ≤ 7
  off : 0 ≤ s.off ∧ s.off ≤ 1099511627776
  ad : 0 ≤ s.ad ∧ s.ad ≤ 1099511627776
  sz : 0 ≤ s.sz ∧ s.sz ≤ 1099511627776
  mem : 0 ≤ s.mem ∧ s.mem ≤ 1099511627776
  al : 0 ≤ s.al ∧ s.al ≤ 1099511627776
  load : s.ty = 1 → 0 < s.mem ∧ s.al = 64 ∧ s.ad % 64 = s.off % 64
  both : s.ty = 1 ∨ s.ty = 2 → s.off + s.sz ≤ size ∧ s.sz ≤ s.mem ∧ s.ad + s.mem ≤ 262144
theorem Seg.may_iff {s : Seg} {size : Int} : s.may size = true ↔ s.May size := by
  unfold Seg.may
  simp only [Bool.and_eq_true, upto_iff, Bool.or_eq_true, Bool.not_eq_true', inn_iff, decide_eq_true_eq, beq_eq_false_iff_ne, ne_eq, Bool.or_eq_false_iff, beq_iff_eq]
  constructor
  · rintro ⟨⟨⟨⟨⟨⟨⟨⟨h1, h2⟩, h3⟩, h4⟩, h5⟩, h6⟩, h7⟩, h8⟩, h9⟩
    have e1 := Int.tmod_eq_emod_of_nonneg (b := 64) h4.1
    have e2 := Int.tmod_eq_emod_of_nonneg (b := 64) h3.1
    rw [e1, e2] at h8
    exact ⟨h1, h2, h3, h4, h5, h6, h7, fun h => by omega, fun h => by omega⟩
  · rintro ⟨h1, h2, h3, h4, h5, h6, h7, h8, h9⟩
    rw [Int.tmod_eq_emod_of_nonneg (b := 64) h4.1, Int.tmod_eq_emod_of_nonneg (b := 64) h3.1]
    refine ⟨⟨⟨⟨⟨⟨⟨⟨h1, h2⟩, h3⟩, h4⟩, h5⟩, h6⟩, h7⟩, ?_⟩, ?_⟩
    · by_cases h : s.ty = 1
      · have := h8 h; right; omega
      · left; exact h
    · by_cases h : s.ty = 1 ∨ s.ty = 2
      · have := h9 h; right; omega
      · left; omega

/-- Segments rise, each may be: behind page e. -/
def rises (size : Int) : Int → List Seg → Bool
  | _, [] => true
  | e, s :: l => s.may size && (if s.ty = 1 then !decide (s.from_ < e) && rises size s.to_ l else rises size e l)
def loadsN (l : List Seg) : Nat := l.countP fun s => s.ty = 1
def dynsN (l : List Seg) : Nat := l.countP fun s => s.ty = 2
def standS (l : List Seg) (size : Int) : Bool := rises size 0 l && decide (0 < loadsN l) && decide (dynsN l ≤ 1)
/-- Is one within another, which is loaded? -/
def Seg.within (s t : Seg) : Bool := inn (s.ad - t.ad) s.mem t.mem && decide (s.off - t.off = s.ad - t.ad)
def carriedS (l : List Seg) : Bool := l.all fun s => !(s.ty == 2) || l.any fun t => t.ty == 1 && s.within t
def Seg.has (t : Seg) (entry : Int) : Bool := t.fl % 2 == 1 && decide (t.ad ≤ entry) && decide (entry < t.ad + t.mem)
def beginsS (x : Img) : Bool := (x.kind == 3 && x.entry == 0) || x.segs.any fun t => t.ty == 1 && t.has x.entry
/-- May an image be, of a file of so many bytes? -/
def Img.chk (x : Img) (size : Int) : Bool :=
  (x.kind == 2 || x.kind == 3) && decide (1 ≤ x.segs.length) && decide (x.segs.length ≤ 16) && decide (64 + x.segs.length * 56 ≤ size) && standS x.segs size && carriedS x.segs && beginsS x
def Img.err (x : Img) (size : Int) : Int := if x.chk size then 0 else 16
/-- How many bytes its SegLoads take. -/
def lastTo : List Seg → Int → Int
  | [], e => e
  | s :: l, e => lastTo l (if s.ty = 1 then s.to_ else e)
def Img.span (x : Img) : Int := lastTo x.segs 0 * 64
end Go.Proofs.YtakmmphjdkapeaaDoor
