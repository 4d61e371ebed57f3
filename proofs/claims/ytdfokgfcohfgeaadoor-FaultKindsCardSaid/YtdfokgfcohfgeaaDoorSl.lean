/- An entry of a page (api.Slot): as it is, as it comes in, whether it may be; with radix in the seat: its templates. -/
import Derived.Test.YtdfokgfcohfgeaaDoorBase
import Derived.Test.YtdfokgfcohfgeaaDoorLaw
import Derived.Test.YtdfokgfcohfgeaaDoorOpen
import Derived.Test.YtdfokgfcohfgeaaDoorBits
import Derived.Deep.Fields
import Derived.Laws.StructEq
import Derived.Laws.Tables
namespace Go.Proofs.YtdfokgfcohfgeaaDoor
open Go.RowKit Go.ChangeShapes Go.WideShapes Go.Deep
set_option linter.unusedVariables false
set_option linter.unusedSimpArgs false

/-- An entry. -/
structure Sl where
  h : Bool
  w : Bool
  c : Bool
  o : Bool
  n : Int
def Sl.zero : Sl := ⟨false, false, false, false, 0⟩
def Sl.isZ (s : Sl) : Bool := !s.h && !s.w && !s.c && !s.o && s.n == 0
theorem Sl.isZ_iff {s : Sl} : s.isZ = true ↔ s = Sl.zero := by
  obtain ⟨h, w, c, o, n⟩ := s
  unfold Sl.isZ Sl.zero
  cases h <;> cases w <;> cases c <;> cases o <;> simp
theorem Sl.isZ_zero : Sl.zero.isZ = true := rfl
theorem Sl.notZ_iff {s : Sl} : s.isZ = false ↔ s ≠ Sl.zero := by
  rw [Ne, ← Sl.isZ_iff]; simp
def Sl.may (s : Sl) : Bool := (s.h != s.o) && !(s.w && s.c) && decide (0 ≤ s.n) && decide (s.n ≤ 1048576)
def Sl.v (s : Sl) : Value := .agg #[.bool s.h, .bool s.w, .bool s.c, .bool s.o, .int .i64 s.n]
def Sl.cs (s : Sl) : Array Value := #[.bool s.h, .bool s.w, .bool s.c, .bool s.o, .int .i64 s.n]
theorem Sl.may_iff {s : Sl} : s.may = true ↔ s.h ≠ s.o ∧ ¬ (s.w = true ∧ s.c = true) ∧ 0 ≤ s.n ∧ s.n ≤ 1048576 := by
  unfold Sl.may
  cases s.h <;> cases s.o <;> cases s.w <;> cases s.c <;> simp
theorem Sl.zero_may : Sl.zero.may = false := rfl
/-- An entry that may be, or none. -/
def Sl.Ok (s : Sl) : Prop := s = Sl.zero ∨ s.may = true
@[go_sem] theorem build_sl0 (w : World) : (Instr.build 25 #[]).run Tryd.prog w = .ok (.agg #[.bool false, .bool false, .bool false, .bool false, .int .i64 0]) w := run_build w 25 _ _ (by kernel_rfl)
@[go_sem] theorem eq_sl (a1 a2 a3 a4 b1 b2 b3 b4 : Bool) (n m : Int) (w : World) : (Op.equalIn 10000 25 (.agg #[.bool a1, .bool a2, .bool a3, .bool a4, .int .i64 n]) (.agg #[.bool b1, .bool b2, .bool b3, .bool b4, .int .i64 m])).run Tryd.prog w = .ok (a1 == b1 && a2 == b2 && a3 == b3 && a4 == b4 && n == m) w := by
  have u1 := Tryd.underlying4
  have u2 := Tryd.underlying3
  have hS : Tryd.prog.underlying 25 = some (.struct (Tryd.prog.fieldsOf 25)) := by kernel_rfl
  rw [show (10000 : Nat) = 9999 + 1 from rfl, run_equalIn_agg w 9999 25 _ _ hS (by kernel_rfl)]
  simp only [Program.fieldsOf, Tryd.underlying25]
  go_simp
  by_cases h1 : a1 = b1 <;> by_cases h2 : a2 = b2 <;> by_cases h3 : a3 = b3 <;> by_cases h4 : a4 = b4 <;> by_cases h5 : n = m <;> simp [h1, h2, h3, h4, h5]
def zslotV : Value := .agg #[.bool false, .bool false, .bool false, .bool false, .int .i64 0]
/-- A struct of fields of one cell each. -/
theorem open_fields {H : Type} {enc : TypeId × Value → H} {P : Program} {w : World} {base : Nat} {spare : Nat → Bool} {held : Bool} {r : Reach} {b0 : Nat} {t : TypeId} {v : Value} {d : DataW H} {ps : List MemPlace} {fs : Array Field}
    (ht : P.underlying t = some (.struct fs)) (hone : oneCellFields P fs = true) (hC : P.cellsOf t = fs.size) (hv : Value.okWide P w r b0 t v) (h : DataW.Trod enc P w base spare held t v d ps) :
    ∃ cs : List Value, v = .agg cs.toArray ∧ cs.length = fs.size ∧ ∀ (j : Nat) (f : Field), fs[j]? = some f → ∃ (u : Value) (y : DataW H × List MemPlace) (fuel : Nat), cs[j]? = some u ∧ DataW.trod enc P w base spare held fuel f.type [u] = some y := by
  obtain ⟨cs, rfl, hsz⟩ := okWide_struct ht hv
  rw [hC] at hsz
  obtain ⟨fuel, hy⟩ := h
  obtain ⟨xs, m, _, _, hlen, hxl, hel⟩ := DataW.trod_struct ht hy
  refine ⟨cs.toList, rfl, by simpa using hsz, fun j f hj => ?_⟩
  obtain ⟨ho, hk⟩ := hone_of hone j f hj
  have hjl : j < fs.size := (Array.getElem?_eq_some_iff.1 hj).1
  have h1 := hel j f hj
  have hl : cs.toList.length = fs.size := by simpa using hsz
  simp only [Value.cells] at h1
  rw [ho, hk, List.drop_eq_getElem_cons (by omega), List.getElem?_eq_getElem (by omega)] at h1
  exact ⟨_, _, m, List.getElem?_eq_getElem (by omega), h1⟩
theorem list5 {l : List Value} {u0 u1 u2 u3 u4 : Value} (h : l.length = 5) (h0 : l[0]? = some u0) (h1 : l[1]? = some u1) (h2 : l[2]? = some u2) (h3 : l[3]? = some u3) (h4 : l[4]? = some u4) : l = [u0, u1, u2, u3, u4] := by
  match l, h with
  | [c0, c1, c2, c3, c4], _ =>
    simp only [List.getElem?_cons_zero, List.getElem?_cons_succ, Option.some.injEq] at h0 h1 h2 h3 h4
    rw [h0, h1, h2, h3, h4]
set_option maxRecDepth 100000 in
/-- An entry that comes in. -/
theorem open_slot {H : Type} {enc : TypeId × Value → H} {w : World} {base : Nat} {spare : Nat → Bool} {held : Bool} {r : Reach} {b0 : Nat} {v : Value} {d : DataW H} {ps : List MemPlace}
    (hv : Value.okWide Tryd.prog w r b0 25 v) (h : DataW.Trod enc Tryd.prog w base spare held 25 v d ps) : ∃ s : Sl, v = s.v ∧ (Lit.int .i64 s.n).wf = true := by
  obtain ⟨cs, rfl, hsz, hel⟩ := open_fields Tryd.underlying25 (by kernel_rfl) (by kernel_rfl) hv h
  obtain ⟨u0, _, _, c0, t0⟩ := hel 0 _ rfl
  obtain ⟨u1, _, _, c1, t1⟩ := hel 1 _ rfl
  obtain ⟨u2, _, _, c2, t2⟩ := hel 2 _ rfl
  obtain ⟨u3, _, _, c3, t3⟩ := hel 3 _ rfl
  obtain ⟨u4, _, _, c4, t4⟩ := hel 4 _ rfl
  obtain ⟨b0, h0, _⟩ := DataW.trod_bool Tryd.underlying4 t0
  obtain ⟨b1, h1, _⟩ := DataW.trod_bool Tryd.underlying4 t1
  obtain ⟨b2, h2, _⟩ := DataW.trod_bool Tryd.underlying4 t2
  obtain ⟨b3, h3, _⟩ := DataW.trod_bool Tryd.underlying4 t3
  obtain ⟨n, h4, _, hw⟩ := DataW.trod_int Tryd.underlying3 t4
  cases h0
  cases h1
  cases h2
  cases h3
  cases h4
  rw [list5 hsz c0 c1 c2 c3 c4]
  exact ⟨⟨b0, b1, b2, b3, n⟩, rfl, hw⟩

set_option maxHeartbeats 1600000 in
theorem refMay_any (s : Sl) (w : World) : Calls Tryd.prog 10 #[s.v] w fun e w' => e = .returned (.bool s.may) ∧ Below w.heap.size w w' := by
  obtain ⟨a, b, c, d, n⟩ := s
  have hB : Below w.heap.size w (w.alloc (.cells #[.bool a, .bool b, .bool c, .bool d, .int .i64 n] 25)) := (Below.refl _ _).alloc (Nat.le_refl _) _
  have HB := Lib.hid hB
  clear hB
  unfold Sl.v Sl.may
  by_cases h1 : a = d
  · subst h1
    cases a <;>
    · go_enter Tryd.func10, Tryd.ntmps10
      go_wp2
      go_ret
      exact ⟨rfl, HB.out⟩
  · obtain rfl : d = !a := by cases a <;> cases d <;> simp_all
    clear h1
    obtain ⟨p, hp⟩ : ∃ p, decide (0 ≤ n) = p := ⟨_, rfl⟩
    obtain ⟨q, hq⟩ : ∃ q, decide (n ≤ 1048576) = q := ⟨_, rfl⟩
    rw [hp, hq]
    cases p <;> cases q <;>
    cases a <;> cases b <;> cases c <;>
    · go_enter Tryd.func10, Tryd.ntmps10
      go_wp2
      go_ret
      exact ⟨rfl, HB.out⟩
end Go.Proofs.YtdfokgfcohfgeaaDoor
