/- Layer 8: programs by plain numbers (Spec): what comes in, and the image that is meant. -/
import Derived.Test.YtakmmphjdkapeaaDoorEZ
namespace Go.Proofs.YtakmmphjdkapeaaDoor
open Go.RowKit Go.ChangeShapes Go.WideShapes Go.Deep
set_option linter.unusedVariables false
set_option linter.unusedSimpArgs false

/-- Four numbers. -/
structure Q4 where (a b c d : Int)
def Q4.cs (q : Q4) : Array Value := #[.int .i64 q.a, .int .i64 q.b, .int .i64 q.c, .int .i64 q.d]
structure Q4.wf (q : Q4) : Prop where
  a : (Lit.int .i64 q.a).wf = true
  b : (Lit.int .i64 q.b).wf = true
  c : (Lit.int .i64 q.c).wf = true
  d : (Lit.int .i64 q.d).wf = true
def QRow (w : World) (A : Option Addr) (l : List Q4) : Prop := ∀ i (hi : i < l.length), ∃ ad, A = some ad ∧ ad.block < w.heap.size ∧ (∀ j, j < 4 → w.cell? (ad.add (i * 4 + j)) = (l[i].cs)[j]?) ∧ l[i].wf
theorem QRow.below {w w' : World} {A : Option Addr} {l : List Q4} (h : QRow w A l) (hb : Below w.heap.size w w') : QRow w' A l := fun i hi => by
  obtain ⟨ad, e, hlt, hc, hw⟩ := h i hi
  refine ⟨ad, e, Nat.lt_of_lt_of_le hlt hb.size, fun j hj => ?_, hw⟩
  have hbl : (ad.add (i * 4 + j)).block = ad.block := by unfold Addr.add; split <;> rfl
  rw [hb.cell (by rw [hbl]; exact hlt)]
  exact hc j hj
theorem QRow.at_ {w : World} {A : Option Addr} {l : List Q4} (h : QRow w A l) {i : Nat} (hi : i < l.length) : ∃ ad, A = some ad ∧ ad.block < w.heap.size ∧ l[i].wf ∧
    w.cell? (ad.add (i * 4)) = some (.int .i64 l[i].a) ∧
    w.cell? ⟨(ad.add (i * 4)).block, (ad.add (i * 4)).off + 1, none⟩ = some (.int .i64 l[i].b) ∧
    w.cell? ⟨(ad.add (i * 4)).block, (ad.add (i * 4)).off + 2, none⟩ = some (.int .i64 l[i].c) ∧
    w.cell? ⟨(ad.add (i * 4)).block, (ad.add (i * 4)).off + 3, none⟩ = some (.int .i64 l[i].d) := by
  obtain ⟨ad, e, hlt, hc, hw⟩ := h i hi
  have hs : ∀ j, 0 < j → (⟨(ad.add (i * 4)).block, (ad.add (i * 4)).off + j, none⟩ : Addr) = ad.add (i * 4 + j) := fun j hj => by
    rw [← Go.Deep.add_add]
    show _ = (ad.add (i * 4)).add j
    generalize ad.add (i * 4) = q
    unfold Addr.add
    split <;> simp_all
  refine ⟨ad, e, hlt, hw, ?_, ?_, ?_, ?_⟩
  · exact hc 0 (by omega)
  all_goals rw [hs _ (by omega)]
  · exact hc 1 (by omega)
  · exact hc 2 (by omega)
  · exact hc 3 (by omega)
/-- A program by plain numbers, that comes in. -/
structure SpecIn where
  kind : Int
  entry : Int
  qs : List Q4
  A : Option Addr
  c : Nat
def SpecIn.v (p : SpecIn) : Value := .agg #[.int .i64 p.kind, .int .i64 p.entry, .slice p.A p.qs.length p.c]
structure SpecIn.In (p : SpecIn) (w : World) : Prop where
  kind : (Lit.int .i64 p.kind).wf = true
  entry : (Lit.int .i64 p.entry).wf = true
  len : p.qs.length ≤ p.c
  cap : p.c ≤ maxLen
  row : QRow w p.A p.qs
def zspecV : Value := .agg #[.int .i64 0, .int .i64 0, .slice none 0 0]
set_option maxRecDepth 100000 in
theorem open_spec {H : Type} {enc : TypeId × Value → H} {w : World} {base : Nat} {spare : Nat → Bool} {held : Bool} {r : Reach} {b0 : Nat} {v : Value} {d : DataW H} {ps : List MemPlace}
    (hv : Value.okWide Tryd.prog w r b0 41 v) (h : DataW.Trod enc Tryd.prog w base spare held 41 v d ps) : ∃ p : SpecIn, v = p.v ∧ p.In w := by
  obtain ⟨cs, rfl, hsz⟩ := okWide_struct Tryd.underlying41 hv
  obtain ⟨fuel, hy⟩ := h
  obtain ⟨hlen, hf⟩ := fields_trod Tryd.underlying41 (by kernel_rfl) (by kernel_rfl) hy
  obtain ⟨u0, _, _, c0, t0⟩ := hf 0 _ rfl
  obtain ⟨u1, _, _, c1, t1⟩ := hf 1 _ rfl
  obtain ⟨u2, _, _, c2, t2⟩ := hf 2 _ rfl
  obtain ⟨n0, h0, _, w0⟩ := DataW.trod_int Tryd.underlying3 t0
  obtain ⟨n1, h1, _, w1⟩ := DataW.trod_int Tryd.underlying3 t1
  have hC : Tryd.prog.cellsOf 80 = 4 := by kernel_rfl
  obtain ⟨A, n, c, rfl, hn, hc, hi⟩ := row_trod Tryd.underlying39 (by rw [hC]; decide) t2
  rw [hC] at hi
  obtain ⟨zs, hl, hz⟩ := list_of (Q := fun i (z : Q4) => ∃ ad, A = some ad ∧ ad.block < w.heap.size ∧ (∀ j, j < 4 → w.cell? (ad.add (i * 4 + j)) = (z.cs)[j]?) ∧ z.wf) n (fun i h => by
    obtain ⟨ad, rfl, hb, m, cs, y, hlen, hat, hy⟩ := hi i h
    obtain ⟨-, hg⟩ := ints_trod Tryd.underlying80 Tryd.underlying3 (by kernel_rfl) hC hy
    obtain ⟨z0, e0, k0⟩ := hg 0 (by omega)
    obtain ⟨z1, e1, k1⟩ := hg 1 (by omega)
    obtain ⟨z2, e2, k2⟩ := hg 2 (by omega)
    obtain ⟨z3, e3, k3⟩ := hg 3 (by omega)
    refine ⟨⟨z0, z1, z2, z3⟩, ad, rfl, hb, fun j hj => ?_, ⟨k0, k1, k2, k3⟩⟩
    rw [hat j hj]
    match j, hj with
    | 0, _ => exact e0
    | 1, _ => exact e1
    | 2, _ => exact e2
    | 3, _ => exact e3)
  subst hl
  cases h0
  cases h1
  have e := list3 (l := (Value.agg cs).cells.toList) hlen c0 c1 c2
  have e2 : cs = #[.int .i64 n0, .int .i64 n1, .slice A zs.length c] := by
    have : cs.toList = [.int .i64 n0, .int .i64 n1, .slice A zs.length c] := e
    rw [← Array.toArray_toList (xs := cs), this]
  exact ⟨⟨n0, n1, zs, A, c⟩, by rw [e2]; rfl, ⟨w0, w1, hn, hc, hz⟩⟩

/-- How many pages, how many bytes of memory and of the file; the segment from page p on. -/
def Q4.pg (q : Q4) : Int := 1 + q.a % 4
def Q4.mem (q : Q4) : Int := if q.pg * 64 - q.b % 64 - q.c % 32 < 1 then 1 else q.pg * 64 - q.b % 64 - q.c % 32
def Q4.sz (q : Q4) : Int := if q.mem - q.d / 8 % 16 < 0 then 0 else q.mem - q.d / 8 % 16
def Q4.seg (q : Q4) (p : Int) : Seg := ⟨1, q.d % 8, 1024 + p * 64 + q.b % 64, p * 64 + q.b % 64, q.sz, q.mem, 64⟩
def specP : Int → List Q4 → Int
  | p, [] => p
  | p, q :: l => specP (p + q.pg) l
def specL : Int → List Q4 → List Seg
  | _, [] => []
  | p, q :: l => q.seg p :: specL (p + q.pg) l
theorem specP_snoc : ∀ (l : List Q4) (q : Q4) (p : Int), specP p (l ++ [q]) = specP p l + q.pg
  | [], _, _ => rfl
  | _ :: l, q, p => specP_snoc l q _
theorem specL_snoc : ∀ (l : List Q4) (q : Q4) (p : Int), specL p (l ++ [q]) = specL p l ++ [q.seg (specP p l)]
  | [], _, _ => rfl
  | r :: l, q, p => by show r.seg p :: specL _ (l ++ [q]) = _; rw [specL_snoc l q]; rfl
theorem specL_length : ∀ (l : List Q4) (p : Int), (specL p l).length = l.length
  | [], _ => rfl
  | r :: l, p => by show (specL _ l).length + 1 = l.length + 1; rw [specL_length l]
theorem pg_in (q : Q4) : 1 ≤ q.pg ∧ q.pg ≤ 4 := by unfold Q4.pg; omega
theorem mem_in (q : Q4) : 1 ≤ q.mem ∧ q.mem + q.b % 64 ≤ q.pg * 64 := by
  have := pg_in q
  unfold Q4.mem
  split <;> omega
theorem sz_in (q : Q4) : 0 ≤ q.sz ∧ q.sz ≤ q.mem := by
  have := mem_in q
  unfold Q4.sz
  split <;> omega
theorem specP_in : ∀ (l : List Q4) (p : Int), p + l.length ≤ specP p l ∧ specP p l ≤ p + 4 * l.length
  | [], p => by show p + ((0 : Nat) : Int) ≤ p ∧ p ≤ p + 4 * ((0 : Nat) : Int); omega
  | q :: l, p => by
    have h1 := specP_in l (p + q.pg)
    have h2 := pg_in q
    show p + ((l.length + 1 : Nat) : Int) ≤ specP (p + q.pg) l ∧ specP (p + q.pg) l ≤ p + 4 * ((l.length + 1 : Nat) : Int)
    omega
/-- A segment's flags, so that it may be executed. -/
def orF (fl : Int) : Int := if fl % 2 = 1 then fl else fl + 1
def SpecIn.sg (p : SpecIn) : List Seg := specL 0 (p.qs.take 4)
def SpecIn.size (p : SpecIn) : Int := 1024 + specP 0 (p.qs.take 4) * 64
def execI (s : Seg) (l : List Seg) (entry : Int) : Img := ⟨2, s.ad + (entry.tmod s.mem + s.mem).tmod s.mem, { s with fl := orF s.fl } :: l⟩
def imgOf (kind entry : Int) (l : List Seg) : Img :=
  match l with
  | [] => ⟨3, 0, []⟩
  | s :: l => if kind % 2 = 1 then execI s l entry else ⟨3, 0, s :: l⟩
def SpecIn.img (p : SpecIn) : Img := imgOf p.kind p.entry p.sg
end Go.Proofs.YtakmmphjdkapeaaDoor
