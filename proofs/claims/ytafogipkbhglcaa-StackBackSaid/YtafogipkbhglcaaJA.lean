/- Layer 17, pure: what a stack is; pairs as they lie. -/
import Derived.Test.YtafogipkbhglcaaEC
import Derived.Test.YtafogipkbhglcaaOctC
import Derived.Test.YtafogipkbhglcaaOctD
import Derived.Test.YtafogipkbhglcaaOctF
import Derived.Test.YtafogipkbhglcaaRowI
import Derived.Test.YtafogipkbhglcaaLaw
namespace Go.Proofs.Ytafogipkbhglcaa
open Go.RowKit Go.ChangeShapes Go.WideShapes Go.Deep
set_option linter.unusedVariables false
set_option linter.unusedSimpArgs false

/-- Texts one behind the other, each with a byte 0 behind. -/
def endL (ss : List ByteArray) : List UInt8 := ss.flatMap fun s => s.data.toList ++ [0]
theorem endL_snoc (ss : List ByteArray) (s : ByteArray) : endL (ss ++ [s]) = endL ss ++ (s.data.toList ++ [0]) := by simp [endL]
theorem endL_append (a b : List ByteArray) : endL (a ++ b) = endL a ++ endL b := by simp [endL]
theorem endL_take {ss : List ByteArray} {k : Nat} (h : k < ss.length) : endL (ss.take (k + 1)) = endL (ss.take k) ++ (ss[k].data.toList ++ [0]) := by
  rw [List.take_succ_eq_append_getElem h, endL_snoc]
def tlen (ss : List ByteArray) : Nat := (endL ss).length
theorem tlen_nil : tlen [] = 0 := rfl
theorem tlen_append (a b : List ByteArray) : tlen (a ++ b) = tlen a + tlen b := by unfold tlen; rw [endL_append, List.length_append]
theorem tlen_cons (s : ByteArray) (ss : List ByteArray) : tlen (s :: ss) = s.size + 1 + tlen ss := by
  unfold tlen endL
  rw [List.flatMap_cons, List.length_append, List.length_append, len_data]
  rfl
theorem tlen_take {ss : List ByteArray} {k : Nat} (h : k < ss.length) : tlen (ss.take (k + 1)) = tlen (ss.take k) + (ss[k].size + 1) := by
  unfold tlen
  rw [endL_take h, List.length_append, List.length_append, len_data]
  rfl
theorem tlen_le {ss : List ByteArray} {m : Nat} (h : ∀ s ∈ ss, s.size ≤ m) : tlen ss ≤ ss.length * (m + 1) := by
  induction ss with
  | nil => simp [tlen_nil]
  | cons s ss ih =>
    have h1 := h s (by simp)
    have h2 := ih (fun x hx => h x (by simp [hx]))
    rw [tlen_cons, List.length_cons, Nat.add_mul]
    omega
theorem tlen_take_le (ss : List ByteArray) (k : Nat) : tlen (ss.take k) ≤ tlen ss := by
  have := tlen_append (ss.take k) (ss.drop k)
  rw [List.take_append_drop] at this
  omega

/-- Numbers of eight bytes. -/
def nums (l : List Nat) : List UInt8 := l.flatMap fun n => putL n 8
theorem nums_length (l : List Nat) : (nums l).length = 8 * l.length := by
  induction l with
  | nil => rfl
  | cons x F ih => unfold nums at *; rw [List.flatMap_cons, List.length_append, ih, putL_length, List.length_cons]; omega
theorem nums_append (a b : List Nat) : nums (a ++ b) = nums a ++ nums b := by simp [nums]
theorem nums_one (x : Nat) : nums [x] = putL x 8 := by simp [nums]
theorem nums_nil : nums [] = [] := rfl

/-- Where texts are, one behind the other, from a place on. -/
def placesL (a : Nat) (ss : List ByteArray) : List Nat := (List.range ss.length).map fun k => a + tlen (ss.take k)
theorem placesL_length (a : Nat) (ss : List ByteArray) : (placesL a ss).length = ss.length := by simp [placesL]
theorem placesL_nil (a : Nat) : placesL a [] = [] := rfl
theorem placesL_snoc (a : Nat) (ss : List ByteArray) (s : ByteArray) : placesL a (ss ++ [s]) = placesL a ss ++ [a + tlen ss] := by
  unfold placesL
  rw [List.length_append, List.length_singleton, List.range_succ, List.map_append]
  congr 1
  · apply List.map_congr_left
    intro k hk
    rw [List.mem_range] at hk
    rw [List.take_append_of_le_length (by omega)]
  · simp
theorem placesL_take {a : Nat} {ss : List ByteArray} {k : Nat} (h : k < ss.length) : placesL a (ss.take (k + 1)) = placesL a (ss.take k) ++ [a + tlen (ss.take k)] := by
  rw [List.take_succ_eq_append_getElem h, placesL_snoc]
theorem placesL_at {a : Nat} {ss : List ByteArray} {k : Nat} (h : k < ss.length) : (placesL a ss)[k]? = some (a + tlen (ss.take k)) := by
  unfold placesL
  rw [List.getElem?_map, List.getElem?_range h]
  rfl

/-- A number of a program's beginning. -/
structure Pa where
  t : Int
  v : Int
deriving DecidableEq
def Pa.cs (p : Pa) : Array Value := #[.int .i64 p.t, .int .i64 p.v]
def Pa.wf (p : Pa) : Prop := (Lit.int .i64 p.t).wf = true ∧ (Lit.int .i64 p.v).wf = true
def Pa.may (p : Pa) : Bool := decide (1 ≤ p.t) && decide (p.t ≤ 1099511627776) && decide (0 ≤ p.v) && decide (p.v ≤ 1099511627776)
theorem Pa.may_iff {p : Pa} : p.may = true ↔ 1 ≤ p.t ∧ p.t ≤ 1099511627776 ∧ 0 ≤ p.v ∧ p.v ≤ 1099511627776 := by simp [Pa.may, and_assoc]
def auxL (l : List Pa) : List Nat := l.flatMap fun p => [p.t.toNat, p.v.toNat]
theorem auxL_snoc (l : List Pa) (p : Pa) : auxL (l ++ [p]) = auxL l ++ [p.t.toNat, p.v.toNat] := by simp [auxL]
theorem auxL_take {l : List Pa} {k : Nat} (h : k < l.length) : auxL (l.take (k + 1)) = auxL (l.take k) ++ [l[k].t.toNat, l[k].v.toNat] := by
  rw [List.take_succ_eq_append_getElem h, auxL_snoc]
theorem auxL_length (l : List Pa) : (auxL l).length = 2 * l.length := by
  induction l with
  | nil => rfl
  | cons x F ih => unfold auxL at *; rw [List.flatMap_cons, List.length_append, ih, List.length_cons]; simp; omega

/-- What a stack has ahead of its texts. -/
def headL (a : Nat) (args env : List ByteArray) (aux : List Pa) : List Nat := [args.length] ++ (placesL a args ++ [0]) ++ (placesL (a + tlen args) env ++ [0]) ++ auxL aux ++ [0, 0]
def rawN (args env : List ByteArray) (aux : List Pa) : Nat := 8 * (args.length + env.length + 2 * aux.length + 5) + tlen args + tlen env
def sizeN (args env : List ByteArray) (aux : List Pa) : Nat := (rawN args env aux + 15) / 16 * 16
theorem sizeN_le (args env : List ByteArray) (aux : List Pa) : rawN args env aux ≤ sizeN args env aux ∧ sizeN args env aux < rawN args env aux + 16 := by unfold sizeN; omega
theorem headL_length (a : Nat) (args env : List ByteArray) (aux : List Pa) : (headL a args env aux).length = args.length + env.length + 2 * aux.length + 5 := by
  unfold headL
  simp only [List.length_append, placesL_length, auxL_length, List.length_singleton, List.length_cons, List.length_nil]
  omega
/-- All texts. -/
def textL (args env : List ByteArray) : List UInt8 := endL args ++ endL env
theorem textL_length (args env : List ByteArray) : (textL args env).length = tlen args + tlen env := by unfold textL tlen; rw [List.length_append]
def builtL (top : Nat) (args env : List ByteArray) (aux : List Pa) : List UInt8 :=
  fillL (nums (headL (top - (tlen args + tlen env)) args env aux)) (sizeN args env aux - (tlen args + tlen env)) ++ textL args env
theorem builtL_length (top : Nat) (args env : List ByteArray) (aux : List Pa) : (builtL top args env aux).length = sizeN args env aux := by
  have := sizeN_le args env aux
  unfold builtL
  rw [List.length_append, fillL_length, textL_length]
  unfold rawN at this
  omega

/-- Has no text a byte 0? -/
def plainB (ss : List ByteArray) : Bool := ss.all fun s => !s.data.toList.contains 0
def auxB (l : List Pa) : Bool := l.all Pa.may
def mayB (top : Int) (args env : List ByteArray) (aux : List Pa) : Bool :=
  decide (0 ≤ top) && decide (top ≤ 262144) && decide (top % 16 = 0) && plainB args && plainB env && auxB aux
def buildE (top : Int) (args env : List ByteArray) (aux : List Pa) : Int :=
  if mayB top args env aux then (if sizeN args env aux ≤ 1024 ∧ (sizeN args env aux : Int) ≤ top then 0 else 11) else 1
def buildP (top : Int) (args env : List ByteArray) (aux : List Pa) : Int := if buildE top args env aux = 0 then top - sizeN args env aux else 0
def buildS (top : Int) (args env : List ByteArray) (aux : List Pa) : ByteArray := if buildE top args env aux = 0 then mkb (builtL top.toNat args env aux) else ⟨#[]⟩
theorem build_no {top : Int} {args env : List ByteArray} {aux : List Pa} (h : mayB top args env aux = false) : buildE top args env aux = 1 ∧ buildP top args env aux = 0 ∧ buildS top args env aux = ⟨#[]⟩ := by
  have e : buildE top args env aux = 1 := by unfold buildE; rw [h]; rfl
  unfold buildP buildS
  rw [e]
  exact ⟨rfl, rfl, rfl⟩
theorem build_far {top : Int} {args env : List ByteArray} {aux : List Pa} (h : mayB top args env aux = true) (hs : ¬ (sizeN args env aux ≤ 1024 ∧ (sizeN args env aux : Int) ≤ top)) :
    buildE top args env aux = 11 ∧ buildP top args env aux = 0 ∧ buildS top args env aux = ⟨#[]⟩ := by
  have e : buildE top args env aux = 11 := by unfold buildE; rw [h, if_pos rfl, if_neg hs]
  unfold buildP buildS
  rw [e]
  exact ⟨rfl, rfl, rfl⟩
theorem build_yes {top : Int} {args env : List ByteArray} {aux : List Pa} (h : mayB top args env aux = true) (hs : sizeN args env aux ≤ 1024 ∧ (sizeN args env aux : Int) ≤ top) :
    buildE top args env aux = 0 ∧ buildP top args env aux = top - sizeN args env aux ∧ buildS top args env aux = mkb (builtL top.toNat args env aux) := by
  have e : buildE top args env aux = 0 := by unfold buildE; rw [h, if_pos rfl, if_pos hs]
  unfold buildP buildS
  rw [e]
  exact ⟨rfl, rfl, rfl⟩

/-- The slice at A has these pairs. -/
def PaRow (w : World) (A : Option Addr) (l : List Pa) : Prop := ∀ i (hi : i < l.length), ∃ ad, A = some ad ∧ ad.block < w.heap.size ∧ (∀ j, j < 2 → w.cell? (ad.add (i * 2 + j)) = (l[i].cs)[j]?) ∧ l[i].wf
theorem PaRow.nil (w : World) (A : Option Addr) : PaRow w A [] := fun i hi => absurd hi (by simp)
theorem PaRow.below {w w' : World} {A : Option Addr} {l : List Pa} (h : PaRow w A l) {n : Nat} (hn : n = w.heap.size) (hb : Below n w w') : PaRow w' A l := fun i hi => by
  obtain ⟨ad, h1, h2, h3, h4⟩ := h i hi
  refine ⟨ad, h1, Nat.lt_of_lt_of_le h2 hb.size, fun j hj => (hb.cell ?_).trans (h3 j hj), h4⟩
  have : (ad.add (i * 2 + j)).block = ad.block := by unfold Addr.add; split <;> rfl
  omega
theorem PaRow.at_ {w : World} {A : Option Addr} {l : List Pa} (h : PaRow w A l) {i : Nat} (hi : i < l.length) : ∃ ad, A = some ad ∧ ad.block < w.heap.size ∧ l[i].wf ∧
    w.cell? (ad.add (i * 2)) = some (.int .i64 l[i].t) ∧
    w.cell? ⟨(ad.add (i * 2)).block, (ad.add (i * 2)).off + 1, none⟩ = some (.int .i64 l[i].v) := by
  obtain ⟨ad, e, hlt, hc, hw⟩ := h i hi
  have hs : ∀ j, 0 < j → (⟨(ad.add (i * 2)).block, (ad.add (i * 2)).off + j, none⟩ : Addr) = ad.add (i * 2 + j) := fun j hj => by
    rw [← Go.Deep.add_add]
    show _ = (ad.add (i * 2)).add j
    generalize ad.add (i * 2) = q
    unfold Addr.add
    split <;> simp_all
  refine ⟨ad, e, hlt, hw, ?_, ?_⟩
  · exact hc 0 (by omega)
  · rw [hs _ (by omega)]
    exact hc 1 (by omega)
theorem PaRow.wf {w : World} {A : Option Addr} {l : List Pa} (h : PaRow w A l) (i : Nat) (hi : i < l.length) : l[i].wf := by
  obtain ⟨_, _, _, _, hw⟩ := h i hi
  exact hw
def paCells (l : List Pa) : List Value := l.flatMap fun s => s.cs.toList
theorem paCells_length : ∀ l, (paCells l).length = l.length * 2
  | [] => rfl
  | e :: l => by
    have h := paCells_length l
    unfold paCells at *
    rw [List.flatMap_cons, List.length_append, h]
    simp [Pa.cs]; omega
theorem paCells_at : ∀ (l : List Pa) (k : Nat) (h : k < l.length) (j : Nat), j < 2 → (paCells l)[k * 2 + j]? = (l[k].cs)[j]?
  | e :: l, 0, _, j, hj => by
    unfold paCells
    rw [List.flatMap_cons, Nat.zero_mul, Nat.zero_add, List.getElem?_append_left (by simp [Pa.cs]; omega)]
    simp
  | e :: l, k + 1, h, j, hj => by
    have h1 := paCells_at l k (by simpa using h) j hj
    unfold paCells at *
    rw [List.flatMap_cons, List.getElem?_append_right (by simp [Pa.cs]; omega), show (k + 1) * 2 + j - e.cs.toList.length = k * 2 + j by simp [Pa.cs]; omega]
    exact h1
theorem paCells_snoc (l : List Pa) (s : Pa) : paCells (l ++ [s]) = paCells l ++ [.int .i64 s.t, .int .i64 s.v] := by simp [paCells, Pa.cs]
theorem PaRow.of_own {w : World} {B n : Nat} {v : Value} {l : List Pa} (h : w.ownsRow B 40 2 v n (paCells l)) (hw : ∀ s, s ∈ l → s.wf) : n = l.length ∧ ∃ A c, v = .slice A l.length c ∧ PaRow w A l := by
  have hl := h.1
  rw [paCells_length] at hl
  obtain rfl : n = l.length := by omega
  refine ⟨rfl, ?_⟩
  rcases h.2 with ⟨rfl, h0⟩ | ⟨g, cap, cur, rfl, hbg, hg, _, _, _, ht⟩
  · have : l = [] := List.length_eq_zero_iff.1 h0
    subst this
    exact ⟨none, 0, rfl, fun i hi => absurd hi (by simp)⟩
  · refine ⟨_, cap, rfl, fun i hi => ⟨⟨g, 0, none⟩, rfl, (show Blk w g _ cur from hg).lt, fun j hj => ?_, hw _ (List.getElem_mem hi)⟩⟩
    have h1 := paCells_at l i hi j hj
    rw [← ht, List.getElem?_take, if_pos (by omega)] at h1
    have e : (⟨g, 0, none⟩ : Addr).add (i * 2 + j) = ⟨g, i * 2 + j, none⟩ := by unfold Addr.add; split <;> simp_all
    rw [e, (show Blk w g _ cur from hg).cell]
    simpa using h1
theorem infoPa : (Try.prog.info? 40).map (fun i => (i.zero, i.size, i.bytes)) = some (some (.agg #[.int .i64 0, .int .i64 0]), 2, 16) := by kernel_rfl

section
variable {H : Type} {enc : TypeId × Value → H} {w : World} {base : Nat} {spare : Nat → Bool} {held : Bool} {r : Reach} {b0 : Nat} {v : Value} {d : DataW H} {ps : List MemPlace}
/-- A slice of pairs that comes in. -/
theorem open_pairs17 (hv : Value.okWide Try.prog w r b0 23 v) (h : DataW.Trod enc Try.prog w base spare held 23 v d ps) : ∃ A l c, v = .slice A (List.length l) c ∧ l.length ≤ maxLen ∧ PaRow w A l := by
  obtain ⟨A, n, c, rfl, hn, hi⟩ := open_fields_row Try.underlying23 Try.underlying40 (by kernel_rfl) (by kernel_rfl) (by decide) hv h
  obtain ⟨zs, hl, hz⟩ := list_of (Q := fun i (z : Pa) => ∃ ad, A = some ad ∧ ad.block < w.heap.size ∧ (∀ j, j < 2 → w.cell? (ad.add (i * 2 + j)) = (z.cs)[j]?) ∧ z.wf) n (fun i h => by
    obtain ⟨ad, rfl, hb, hf⟩ := hi i h
    obtain ⟨u0, y0, m0, c0, t0⟩ := hf 0 _ rfl
    obtain ⟨u1, y1, m1, c1, t1⟩ := hf 1 _ rfl
    obtain ⟨p, h0, _, w0⟩ := DataW.trod_int Try.underlying3 t0
    obtain ⟨k, h1, _, w1⟩ := DataW.trod_int Try.underlying3 t1
    injection h0 with h0
    injection h1 with h1
    subst h0 h1
    refine ⟨⟨p, k⟩, ad, rfl, hb, fun j hj => ?_, w0, w1⟩
    match j, hj with
    | 0, _ => show w.cell? _ = some (.int .i64 p); simpa using c0
    | 1, _ => show w.cell? _ = some (.int .i64 k); simpa using c1)
  subst hl
  exact ⟨A, zs, c, rfl, hn, hz⟩
end

theorem strRow_below17 {w w' : World} {A : Option Addr} {ss : List ByteArray} (h : StrRow w A ss) {n : Nat} (hn : n = w.heap.size) (hb : Below n w w') : StrRow w' A ss := fun i hi => by
  obtain ⟨ad, h1, h2, h3, h4⟩ := h i hi
  refine ⟨ad, h1, Nat.lt_of_lt_of_le h2 hb.size, (hb.cell ?_).trans h3, h4⟩
  have : (ad.add i).block = ad.block := by unfold Addr.add; split <;> rfl
  omega
theorem strRow_nil (w : World) (A : Option Addr) : StrRow w A [] := fun i hi => absurd hi (by simp)
end Go.Proofs.Ytafogipkbhglcaa
