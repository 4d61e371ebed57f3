/- Regions that come in; rows of regions as they lie; rows of one's own. -/
import Derived.Test.YtmknkdfdkanijaaUB
import Derived.Test.YtmknkdfdkanijaaBut
import Derived.Test.YtmknkdfdkanijaaRowI
import Derived.Test.YtmknkdfdkanijaaLaw
import Derived.Test.YtmknkdfdkanijaaOpen
import Derived.Test.YtmknkdfdkanijaaBits
import Derived.Deep.Fields
import Derived.Laws.StructEq
import Derived.Laws.Tables
import Derived.Deep.RegionHeld3
import Derived.BigRegion
import Derived.Deep.CutRange
import Derived.Deep.CutBlock
import Derived.RegionTactic
import Derived.Deep.RegionLaw
namespace Go.Proofs.Ytmknkdfdkanijaa
open Go.RowKit Go.ChangeShapes Go.WideShapes Go.Deep
set_option linter.unusedVariables false
set_option linter.unusedSimpArgs false

def Rg.cs (r : Rg) : Array Value := #[.int .i64 r.f, .int .i64 r.t, .int .i64 r.p, .int .i64 r.k, .int .i64 r.fl, .int .i64 r.pg]
/-- A struct of fields of one cell each. -/
theorem open_fieldsU {H : Type} {enc : TypeId × Value → H} {P : Program} {w : World} {base : Nat} {spare : Nat → Bool} {held : Bool} {r : Reach} {b0 : Nat} {t : TypeId} {v : Value} {d : DataW H} {ps : List MemPlace} {fs : Array Field}
    (ht : P.underlying t = some (.struct fs)) (hone : oneCellFields P fs = true) (hC : P.cellsOf t = fs.size) (hv : Value.okWide P w r b0 t v) (h : DataW.Trod enc P w base spare held t v d ps) :
    ∃ cs : List Value, v = .agg cs.toArray ∧ cs.length = fs.size ∧ ∀ (j : Nat) (f : Field), fs[j]? = some f → ∃ (u : Value) (y : DataW H × List MemPlace) (fuel : Nat), cs[j]? = some u ∧ DataW.trod enc P w base spare held fuel f.type [u] = some y := by
  obtain ⟨cs, rfl, hsz⟩ := okWide_struct ht hv
  rw [hC] at hsz
  obtain ⟨fuel, hy⟩ := h
  obtain ⟨xs, m, _, _, hlen, hxl, hel⟩ := DataW.trod_struct ht hy
  refine ⟨cs.toList, rfl, by simpa using hsz, fun j f hj => ?_⟩
  obtain ⟨ho, hk⟩ := hone_of hone j f hj
  have hjl : j < fs.size := (Array.getElem?_eq_some_iff.1 hj).1
  have h1 := hel j f hj
  have hl : cs.toList.length = fs.size := by simpa using hsz
  simp only [Value.cells] at h1
  rw [ho, hk, List.drop_eq_getElem_cons (by omega), List.getElem?_eq_getElem (by omega)] at h1
  exact ⟨_, _, m, List.getElem?_eq_getElem (by omega), h1⟩
theorem listU6 {l : List Value} {a b c d e f : Value} (hs : l.length = 6) (h0 : l[0]? = some a) (h1 : l[1]? = some b) (h2 : l[2]? = some c) (h3 : l[3]? = some d) (h4 : l[4]? = some e) (h5 : l[5]? = some f) : l = [a, b, c, d, e, f] := by
  match l, hs with
  | [c0, c1, c2, c3, c4, c5], _ =>
    simp only [List.getElem?_cons_zero, List.getElem?_cons_succ, Option.some.injEq] at h0 h1 h2 h3 h4 h5
    rw [h0, h1, h2, h3, h4, h5]
/-- A region that comes in. -/
theorem open_regionU {H : Type} {enc : TypeId × Value → H} {w : World} {base : Nat} {spare : Nat → Bool} {held : Bool} {r : Reach} {b0 : Nat} {v : Value} {d : DataW H} {ps : List MemPlace}
    (hv : Value.okWide Try.prog w r b0 29 v) (h : DataW.Trod enc Try.prog w base spare held 29 v d ps) : ∃ s : Rg, v = .agg s.cs ∧ s.Wf := by
  obtain ⟨cs, rfl, hsz, hel⟩ := open_fieldsU Try.underlying29 (by kernel_rfl) (by kernel_rfl) hv h
  obtain ⟨u0, _, _, c0, t0⟩ := hel 0 _ rfl
  obtain ⟨u1, _, _, c1, t1⟩ := hel 1 _ rfl
  obtain ⟨u2, _, _, c2, t2⟩ := hel 2 _ rfl
  obtain ⟨u3, _, _, c3, t3⟩ := hel 3 _ rfl
  obtain ⟨u4, _, _, c4, t4⟩ := hel 4 _ rfl
  obtain ⟨u5, _, _, c5, t5⟩ := hel 5 _ rfl
  obtain ⟨x0, h0, _, w0⟩ := DataW.trod_int Try.underlying3 t0
  obtain ⟨x1, h1, _, w1⟩ := DataW.trod_int Try.underlying3 t1
  obtain ⟨x2, h2, _, w2⟩ := DataW.trod_int Try.underlying3 t2
  obtain ⟨x3, h3, _, w3⟩ := DataW.trod_int Try.underlying3 t3
  obtain ⟨x4, h4, _, w4⟩ := DataW.trod_int Try.underlying3 t4
  obtain ⟨x5, h5, _, w5⟩ := DataW.trod_int Try.underlying3 t5
  cases h0
  cases h1
  cases h2
  cases h3
  cases h4
  cases h5
  rw [listU6 hsz c0 c1 c2 c3 c4 c5]
  exact ⟨⟨x0, x1, x2, x3, x4, x5⟩, rfl, w0, w1, w2, w3, w4, w5⟩

theorem blk_twoU (w : World) (o : Obj) (t : TypeId) (cs : Array Value) : Blk ((w.alloc o).alloc (.cells cs t)) (w.heap.size + 1) t cs := by
  have := Blk.new (w.alloc o) t cs
  rw [show (w.alloc o).heap.size = w.heap.size + 1 by simp] at this
  exact this
/-- The slice at A has these regions. -/
def RgRow (w : World) (A : Option Addr) (l : List Rg) : Prop := ∀ i (hi : i < l.length), ∃ ad, A = some ad ∧ ad.block < w.heap.size ∧ (∀ j, j < 6 → w.cell? (ad.add (i * 6 + j)) = (l[i].cs)[j]?) ∧ l[i].Wf
theorem RgRow.below {w w' : World} {A : Option Addr} {l : List Rg} (h : RgRow w A l) {n : Nat} (hn : n = w.heap.size) (hb : Below n w w') : RgRow w' A l := fun i hi => by
  obtain ⟨ad, h1, h2, h3, h4⟩ := h i hi
  refine ⟨ad, h1, Nat.lt_of_lt_of_le h2 hb.size, fun j hj => (hb.cell ?_).trans (h3 j hj), h4⟩
  have : (ad.add (i * 6 + j)).block = ad.block := by unfold Addr.add; split <;> rfl
  omega
theorem RgRow.but {S : Nat → Prop} {w w' : World} {A : Option Addr} {l : List Rg} (h : RgRow w A l) (hb : But S w w') (hS : ∀ ad, A = some ad → ¬ S ad.block) : RgRow w' A l := fun i hi => by
  obtain ⟨ad, h1, h2, h3, h4⟩ := h i hi
  have e : (ad.add (i * 6)).block = ad.block := by unfold Addr.add; split <;> rfl
  refine ⟨ad, h1, Nat.lt_of_lt_of_le h2 hb.size, fun j hj => ?_, h4⟩
  have e : (ad.add (i * 6 + j)).block = ad.block := by unfold Addr.add; split <;> rfl
  have h5 := h3 j hj
  rw [← h5]
  exact World.cell?_of_block (w := w) (hb.block _ (by rw [e]; exact h2) (by rw [e]; exact hS ad h1))
theorem RgRow.drewN {w : World} {A : Option Addr} {l : List Rg} (h : RgRow w A l) (n : Nat) : RgRow (w.drewN n) A l := h
theorem RgRow.wf {w : World} {A : Option Addr} {l : List Rg} (h : RgRow w A l) (i : Nat) (hi : i < l.length) : l[i].Wf := by
  obtain ⟨_, _, _, _, hw⟩ := h i hi
  exact hw
theorem RgRow.nil (w : World) (A : Option Addr) : RgRow w A [] := fun i hi => absurd hi (by simp)
theorem RgRow.at_ {w : World} {A : Option Addr} {l : List Rg} (h : RgRow w A l) {i : Nat} (hi : i < l.length) : ∃ ad, A = some ad ∧ ad.block < w.heap.size ∧ l[i].Wf ∧
    w.cell? (ad.add (i * 6)) = some (.int .i64 l[i].f) ∧
    w.cell? ⟨(ad.add (i * 6)).block, (ad.add (i * 6)).off + 1, none⟩ = some (.int .i64 l[i].t) ∧
    w.cell? ⟨(ad.add (i * 6)).block, (ad.add (i * 6)).off + 2, none⟩ = some (.int .i64 l[i].p) ∧
    w.cell? ⟨(ad.add (i * 6)).block, (ad.add (i * 6)).off + 3, none⟩ = some (.int .i64 l[i].k) ∧
    w.cell? ⟨(ad.add (i * 6)).block, (ad.add (i * 6)).off + 4, none⟩ = some (.int .i64 l[i].fl) ∧
    w.cell? ⟨(ad.add (i * 6)).block, (ad.add (i * 6)).off + 5, none⟩ = some (.int .i64 l[i].pg) := by
  obtain ⟨ad, e, hlt, hc, hw⟩ := h i hi
  have hs : ∀ j, 0 < j → (⟨(ad.add (i * 6)).block, (ad.add (i * 6)).off + j, none⟩ : Addr) = ad.add (i * 6 + j) := fun j hj => by
    rw [← Go.Deep.add_add]
    show _ = (ad.add (i * 6)).add j
    generalize ad.add (i * 6) = q
    unfold Addr.add
    split <;> simp_all
  refine ⟨ad, e, hlt, hw, ?_, ?_, ?_, ?_, ?_, ?_⟩
  · exact hc 0 (by omega)
  all_goals rw [hs _ (by omega)]
  · exact hc 1 (by omega)
  · exact hc 2 (by omega)
  · exact hc 3 (by omega)
  · exact hc 4 (by omega)
  · exact hc 5 (by omega)
/-- A part of a row lies in it. -/
theorem RgRow.take {w : World} {A : Option Addr} {l : List Rg} (h : RgRow w A l) (n : Nat) : RgRow w A (l.take n) := fun i hi => by
  have h1 := h i (by rw [List.length_take] at hi; omega)
  simpa using h1
theorem RgRow.drop {w : World} {ad : Addr} {l : List Rg} (h : RgRow w (some ad) l) (n : Nat) : RgRow w (some (ad.add (n * 6))) (l.drop n) := fun i hi => by
  rw [List.length_drop] at hi
  obtain ⟨ad', e, h1, h2, h3⟩ := h (n + i) (by omega)
  cases e
  have eb : (ad.add (n * 6)).block = ad.block := by unfold Addr.add; split <;> rfl
  refine ⟨_, rfl, by rw [eb]; exact h1, fun j hj => ?_, by rw [List.getElem_drop]; exact h3⟩
  rw [Go.Deep.add_add, show n * 6 + (i * 6 + j) = (n + i) * 6 + j by omega, h2 j hj, List.getElem_drop]

/-- The cells of regions. -/
def rgCells (l : List Rg) : List Value := l.flatMap fun s => s.cs.toList
theorem rgCells_length : ∀ l, (rgCells l).length = l.length * 6
  | [] => rfl
  | e :: l => by
    have h := rgCells_length l
    unfold rgCells at *
    rw [List.flatMap_cons, List.length_append, h]
    simp [Rg.cs]; omega
theorem rgCells_at : ∀ (l : List Rg) (k : Nat) (h : k < l.length) (j : Nat), j < 6 → (rgCells l)[k * 6 + j]? = (l[k].cs)[j]?
  | e :: l, 0, _, j, hj => by
    unfold rgCells
    rw [List.flatMap_cons, Nat.zero_mul, Nat.zero_add, List.getElem?_append_left (by simp [Rg.cs]; omega)]
    simp
  | e :: l, k + 1, h, j, hj => by
    have h1 := rgCells_at l k (by simpa using h) j hj
    unfold rgCells at *
    rw [List.flatMap_cons, List.getElem?_append_right (by simp [Rg.cs]; omega), show (k + 1) * 6 + j - e.cs.toList.length = k * 6 + j by simp [Rg.cs]; omega]
    exact h1
theorem rgCells_append (l m : List Rg) : rgCells (l ++ m) = rgCells l ++ rgCells m := by simp [rgCells]
theorem rgCells_snoc (l : List Rg) (s : Rg) : rgCells (l ++ [s]) = rgCells l ++ [.int .i64 s.f, .int .i64 s.t, .int .i64 s.p, .int .i64 s.k, .int .i64 s.fl, .int .i64 s.pg] := by simp [rgCells, Rg.cs]
theorem rgCells_t (l : List Rg) (s : Rg) (z : Int) : (rgCells (l ++ [s])).set (l.length * 6 + 1) (.int .i64 z) = rgCells (l ++ [{ s with t := z }]) := by
  rw [rgCells_append, rgCells_append, List.set_append_right _ _ (by rw [rgCells_length]; omega), rgCells_length, show l.length * 6 + 1 - l.length * 6 = 1 by omega]
  simp [rgCells, Rg.cs]

/-- What a call's own row of regions is. -/
theorem RgRow.of_own {w : World} {B n : Nat} {v : Value} {l : List Rg} (h : w.ownsRow B 29 6 v n (rgCells l)) (hw : ∀ s, s ∈ l → s.Wf) : n = l.length ∧ ∃ A c, v = .slice A l.length c ∧ RgRow w A l ∧ ∀ ad, A = some ad → B ≤ ad.block := by
  have hl := h.1
  rw [rgCells_length] at hl
  obtain rfl : n = l.length := by omega
  refine ⟨rfl, ?_⟩
  rcases h.2 with ⟨rfl, h0⟩ | ⟨g, cap, cur, rfl, hbg, hg, _, _, _, ht⟩
  · have : l = [] := List.length_eq_zero_iff.1 h0
    subst this
    exact ⟨none, 0, rfl, fun i hi => absurd hi (by simp), fun ad e => by cases e⟩
  · refine ⟨_, cap, rfl, fun i hi => ⟨⟨g, 0, none⟩, rfl, (show Blk w g _ cur from hg).lt, fun j hj => ?_, hw _ (List.getElem_mem hi)⟩, fun ad e => by cases e; exact hbg⟩
    have h1 := rgCells_at l i hi j hj
    rw [← ht, List.getElem?_take, if_pos (by omega)] at h1
    have e : (⟨g, 0, none⟩ : Addr).add (i * 6 + j) = ⟨g, i * 6 + j, none⟩ := by unfold Addr.add; split <;> simp_all
    rw [e, (show Blk w g _ cur from hg).cell]
    simpa using h1
theorem infoRg : (Try.prog.info? 29).map (fun i => (i.zero, i.size, i.bytes)) = some (some (.agg #[.int .i64 0, .int .i64 0, .int .i64 0, .int .i64 0, .int .i64 0, .int .i64 0]), 6, 48) := by kernel_rfl
@[go_sem] theorem eq_rg (a b c d e f a' b' c' d' e' f' : Int) (w : World) : (Op.equalIn 10000 29 (.agg #[.int .i64 a, .int .i64 b, .int .i64 c, .int .i64 d, .int .i64 e, .int .i64 f]) (.agg #[.int .i64 a', .int .i64 b', .int .i64 c', .int .i64 d', .int .i64 e', .int .i64 f'])).run Try.prog w = .ok (a == a' && b == b' && c == c' && d == d' && e == e' && f == f') w := by
  have u2 := Try.underlying3
  have hS : Try.prog.underlying 29 = some (.struct (Try.prog.fieldsOf 29)) := by kernel_rfl
  rw [show (10000 : Nat) = 9999 + 1 from rfl, run_equalIn_agg w 9999 29 _ _ hS (by kernel_rfl)]
  simp only [Program.fieldsOf, Try.underlying29]
  go_simp
  by_cases h1 : a = a' <;> by_cases h2 : b = b' <;> by_cases h3 : c = c' <;> by_cases h4 : d = d' <;> by_cases h5 : e = e' <;> by_cases h6 : f = f' <;> simp [h1, h2, h3, h4, h5, h6]
end Go.Proofs.Ytmknkdfdkanijaa
