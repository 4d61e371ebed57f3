/- What is read of a symbol that was written; a symbol that comes in. -/
import Derived.Test.YtkembimfkoganaaYD
import Derived.Test.YtkembimfkoganaaYL
import Derived.Deep.Fields
import Derived.Test.YtkembimfkoganaaOpen
import Derived.Laws.StructEq
import Derived.Laws.Tables
namespace Go.Proofs.Ytkembimfkoganaa
open Go.RowKit Go.ChangeShapes Go.WideShapes Go.Deep
set_option linter.unusedVariables false
set_option linter.unusedSimpArgs false

theorem getL_putLY : ∀ W x, getL (putL x W) = x % 256 ^ W
  | 0, x => by simp [putL, getL, Nat.mod_one]
  | W + 1, x => by
    have hx : (UInt8.ofNat x).toNat = x % 256 := by simp
    rw [putL, getL, getL_putLY W (x / 256), Nat.pow_succ, Nat.mul_comm (256 ^ W) 256, Nat.mod_mul, hx]

/-- A symbol as it is read: a name's place in four bytes, a value to 2^40. -/
structure Sy.small (s : Sy) : Prop where
  n0 : 0 ≤ s.n
  n1 : s.n < 4294967296
  v0 : 0 ≤ s.v
  v1 : s.v ≤ 1099511627776
theorem Sy.small.wf {s : Sy} (h : s.small) : s.wf := ⟨WalkArith.wf_i64 (by have := h.n0; have := h.n1; omega), WalkArith.wf_i64 (by have := h.v0; have := h.v1; omega)⟩

/-- A number within the part of a text that stands between P and Q. -/
theorem getN_mid (P B Q : List UInt8) (f a j w : Nat) (hP : P.length = f + a) (hw : 1 ≤ w) (hw8 : w ≤ 8) (hj : j + w ≤ B.length) :
    getN (restS (mkb (P ++ B ++ Q)) f) (a + j : Int) w = getL ((B.drop j).take w) := by
  have hV : (mkb (P ++ B ++ Q)).size = f + a + B.length + Q.length := by rw [mkb_size]; simp [hP]; omega
  have hr : restS (mkb (P ++ B ++ Q)) f = mkb ((P ++ B ++ Q).drop f) := by
    unfold restS
    rw [Int.toNat_natCast, extract_mkb, mkb_data, List.take_of_length_le (by rw [List.length_drop, mkb_size]; exact Nat.le_refl _)]
  have hl : (mkb ((P ++ B ++ Q).drop f)).size = a + B.length + Q.length := by rw [mkb_size]; simp [hP]; omega
  rw [hr]
  unfold getN
  rw [if_pos (by rw [hol_iff, hl]; omega)]
  congr 2
  unfold partL
  rw [mkb_data, List.drop_drop, show f + ((a + j : Int)).toNat = P.length + j by omega, Int.toNat_natCast, List.append_assoc, List.drop_length_add_append, List.drop_append_of_le_length (by omega), List.take_append_of_le_length (by simp; omega)]

theorem take_putY (n k : Nat) (Q : List UInt8) : (putL n k ++ Q).take k = putL n k := by
  rw [List.take_append_of_le_length (by rw [putL_length]; exact Nat.le_refl _), List.take_of_length_le (by rw [putL_length]; exact Nat.le_refl _)]
theorem Sy.p0 (s : Sy) : (s.bytes.drop 0).take 4 = putL s.n.toNat 4 := by
  unfold Sy.bytes
  rw [List.drop_zero]
  simp only [List.append_assoc]
  exact take_putY _ _ _
theorem Sy.p6 (s : Sy) : (s.bytes.drop 6).take 2 = putL (dB s.d) 2 := by
  have e : s.bytes = (putL s.n.toNat 4 ++ [18, 0]) ++ (putL (dB s.d) 2 ++ (putL s.v.toNat 8 ++ putL 0 8)) := by unfold Sy.bytes; simp only [List.append_assoc]
  rw [e, List.drop_left' (by simp [putL_length])]
  exact take_putY _ _ _
theorem Sy.p8 (s : Sy) : (s.bytes.drop 8).take 8 = putL s.v.toNat 8 := by
  have e : s.bytes = (putL s.n.toNat 4 ++ [18, 0] ++ putL (dB s.d) 2) ++ (putL s.v.toNat 8 ++ putL 0 8) := by unfold Sy.bytes; simp only [List.append_assoc]
  rw [e, List.drop_left' (by simp [putL_length])]
  exact take_putY _ _ _

/-- A symbol that stands at its place is read. -/
theorem rd_at (P Q : List UInt8) (s : Sy) (f k : Nat) (hP : P.length = f + 24 * k) (h1 : 1 ≤ f) (hs : s.small) :
    rdOk (mkb (P ++ s.bytes ++ Q)) f k = true ∧ rdS (mkb (P ++ s.bytes ++ Q)) f k = s := by
  have hV : (mkb (P ++ s.bytes ++ Q)).size = f + 24 * k + 24 + Q.length := by rw [mkb_size]; simp [hP, s.bytes_length]; omega
  have g0 := getN_mid P s.bytes Q f (24 * k) 0 4 hP (by omega) (by omega) (by rw [s.bytes_length]; omega)
  have g6 := getN_mid P s.bytes Q f (24 * k) 6 2 hP (by omega) (by omega) (by rw [s.bytes_length]; omega)
  have g8 := getN_mid P s.bytes Q f (24 * k) 8 8 hP (by omega) (by omega) (by rw [s.bytes_length]; omega)
  rw [s.p0, getL_putLY] at g0
  rw [s.p6, getL_putLY] at g6
  rw [s.p8, getL_putLY] at g8
  rw [show (((24 * k : Nat) : Int) + (0 : Nat)) = (k : Int) * 24 by omega] at g0
  rw [show (((24 * k : Nat) : Int) + (6 : Nat)) = (k : Int) * 24 + 6 by omega] at g6
  rw [show (((24 * k : Nat) : Int) + (8 : Nat)) = (k : Int) * 24 + 8 by omega] at g8
  obtain ⟨n, d, v⟩ := s
  obtain ⟨n0, n1, v0, v1⟩ := hs
  simp only at *
  rw [Nat.mod_eq_of_lt (show n.toNat < 256 ^ 4 by omega), Int.toNat_of_nonneg n0] at g0
  rw [Nat.mod_eq_of_lt (show v.toNat < 256 ^ 8 by omega), Int.toNat_of_nonneg v0] at g8
  have hd : (!((((dB d) % 256 ^ 2 : Nat) : Int) == 0)) = d := by cases d <;> rfl
  have hm : (1 : Int) ≤ (f : Int) ∧ (f : Int) ≤ (mkb (P ++ (⟨n, d, v⟩ : Sy).bytes ++ Q)).size ∧ (0 : Int) ≤ (k : Int) ∧ (k : Int) < ((mkb (P ++ (⟨n, d, v⟩ : Sy).bytes ++ Q)).size - (f : Int)) / 24 := by
    rw [hV]; omega
  simp only [show ((4 : Nat) : Int) = 4 from rfl] at g0
  simp only [show ((2 : Nat) : Int) = 2 from rfl] at g6
  simp only [show ((8 : Nat) : Int) = 8 from rfl] at g8
  obtain ⟨e1, e2⟩ := rd_yes hm (by rw [g8]; exact v1)
  exact ⟨e1, by rw [e2, g0, g6, g8, hd]⟩
theorem rd_beyond (V : ByteArray) (f i : Int) (h : ¬ i < (V.size - f) / 24) : rdOk V f i = false := (rd_no (s := V) (f := f) (i := i) (fun x => h x.2.2.2)).1

def zsymV : Value := .agg #[.int .i64 0, .bool false, .int .i64 0]
/-- A struct of fields of one cell each. -/
theorem open_fieldsY {H : Type} {enc : TypeId × Value → H} {P : Program} {w : World} {base : Nat} {spare : Nat → Bool} {held : Bool} {r : Reach} {b0 : Nat} {t : TypeId} {v : Value} {d : DataW H} {ps : List MemPlace} {fs : Array Field}
    (ht : P.underlying t = some (.struct fs)) (hone : oneCellFields P fs = true) (hC : P.cellsOf t = fs.size) (hv : Value.okWide P w r b0 t v) (h : DataW.Trod enc P w base spare held t v d ps) :
    ∃ cs : List Value, v = .agg cs.toArray ∧ cs.length = fs.size ∧ ∀ (j : Nat) (f : Field), fs[j]? = some f → ∃ (u : Value) (y : DataW H × List MemPlace) (fuel : Nat), cs[j]? = some u ∧ DataW.trod enc P w base spare held fuel f.type [u] = some y := by
  obtain ⟨cs, rfl, hsz⟩ := okWide_struct ht hv
  rw [hC] at hsz
  obtain ⟨fuel, hy⟩ := h
  obtain ⟨xs, m, _, _, hlen, hxl, hel⟩ := DataW.trod_struct ht hy
  refine ⟨cs.toList, rfl, by simpa using hsz, fun j f hj => ?_⟩
  obtain ⟨ho, hk⟩ := hone_of hone j f hj
  have hjl : j < fs.size := (Array.getElem?_eq_some_iff.1 hj).1
  have h1 := hel j f hj
  have hl : cs.toList.length = fs.size := by simpa using hsz
  simp only [Value.cells] at h1
  rw [ho, hk, List.drop_eq_getElem_cons (by omega), List.getElem?_eq_getElem (by omega)] at h1
  exact ⟨_, _, m, List.getElem?_eq_getElem (by omega), h1⟩
theorem listY3 {l : List Value} {a b c : Value} (hs : l.length = 3) (h0 : l[0]? = some a) (h1 : l[1]? = some b) (h2 : l[2]? = some c) : l = [a, b, c] := by
  match l, hs with
  | [c0, c1, c2], _ =>
    simp only [List.getElem?_cons_zero, List.getElem?_cons_succ, Option.some.injEq] at h0 h1 h2
    rw [h0, h1, h2]
/-- A symbol that comes in. -/
theorem open_symY {H : Type} {enc : TypeId × Value → H} {w : World} {base : Nat} {spare : Nat → Bool} {held : Bool} {r : Reach} {b0 : Nat} {v : Value} {d : DataW H} {ps : List MemPlace}
    (hv : Value.okWide Try.prog w r b0 23 v) (h : DataW.Trod enc Try.prog w base spare held 23 v d ps) : ∃ s : Sy, v = .agg s.cs ∧ s.wf := by
  obtain ⟨cs, rfl, hsz, hel⟩ := open_fieldsY Try.underlying23 (by kernel_rfl) (by kernel_rfl) hv h
  obtain ⟨u0, _, _, c0, t0⟩ := hel 0 _ rfl
  obtain ⟨u1, _, _, c1, t1⟩ := hel 1 _ rfl
  obtain ⟨u2, _, _, c2, t2⟩ := hel 2 _ rfl
  obtain ⟨n, h0, _, w0⟩ := DataW.trod_int Try.underlying3 t0
  obtain ⟨b, h1, _⟩ := DataW.trod_bool Try.underlying4 t1
  obtain ⟨z, h2, _, w2⟩ := DataW.trod_int Try.underlying3 t2
  cases h0
  cases h1
  cases h2
  rw [listY3 hsz c0 c1 c2]
  exact ⟨⟨n, b, z⟩, rfl, w0, w2⟩

@[go_sem] theorem eq_sy (n m v u : Int) (a b : Bool) (w : World) : (Op.equalIn 10000 23 (.agg #[.int .i64 n, .bool a, .int .i64 v]) (.agg #[.int .i64 m, .bool b, .int .i64 u])).run Try.prog w = .ok (n == m && a == b && v == u) w := by
  have u1 := Try.underlying4
  have u2 := Try.underlying3
  have hS : Try.prog.underlying 23 = some (.struct (Try.prog.fieldsOf 23)) := by kernel_rfl
  rw [show (10000 : Nat) = 9999 + 1 from rfl, run_equalIn_agg w 9999 23 _ _ hS (by kernel_rfl)]
  simp only [Program.fieldsOf, Try.underlying23]
  go_simp
  by_cases h1 : n = m <;> by_cases h2 : a = b <;> by_cases h3 : v = u <;> simp [h1, h2, h3]
end Go.Proofs.Ytkembimfkoganaa
