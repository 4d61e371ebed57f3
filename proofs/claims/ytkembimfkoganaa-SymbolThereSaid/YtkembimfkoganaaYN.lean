/- Layer 10: a program's names and values that come in; what made puts together; two rows of the law's own. -/
import Derived.Test.YtkembimfkoganaaYI
import Derived.Test.YtkembimfkoganaaBits
import Derived.Test.YtkembimfkoganaaOctF
namespace Go.Proofs.Ytkembimfkoganaa
open Go.RowKit Go.ChangeShapes Go.WideShapes Go.Deep
set_option linter.unusedVariables false
set_option linter.unusedSimpArgs false

section
variable {H : Type} {enc : TypeId × Value → H} {P : Program} {w : World} {base : Nat} {spare : Nat → Bool} {held : Bool} {r : Reach} {b0 : Nat} {t e : TypeId} {v : Value} {d : DataW H} {ps : List MemPlace}
/-- A struct of fields of one cell each, as it is read. -/
theorem fieldsY_trod {fs : Array Field} {fuel : Nat} {cs : List Value} {y : DataW H × List MemPlace} (ht : P.underlying t = some (.struct fs)) (hone : oneCellFields P fs = true) (hC : P.cellsOf t = fs.size) (h : DataW.trod enc P w base spare held fuel t cs = some y) :
    cs.length = fs.size ∧ ∀ (j : Nat) (f : Field), fs[j]? = some f → ∃ (u : Value) (y : DataW H × List MemPlace) (m : Nat), cs[j]? = some u ∧ DataW.trod enc P w base spare held m f.type [u] = some y := by
  obtain ⟨xs, m, _, _, hlen, hxl, hel⟩ := DataW.trod_struct ht h
  rw [hC] at hlen
  refine ⟨hlen, fun j f hj => ?_⟩
  obtain ⟨ho, hk⟩ := hone_of hone j f hj
  have hjl : j < fs.size := (Array.getElem?_eq_some_iff.1 hj).1
  have h1 := hel j f hj
  rw [ho, hk, List.drop_eq_getElem_cons (by omega), List.getElem?_eq_getElem (by omega)] at h1
  exact ⟨_, _, m, List.getElem?_eq_getElem (by omega), h1⟩
/-- A slice, as it is read. -/
theorem rowY_trod {fuel : Nat} {u : Value} {y : DataW H × List MemPlace} (ht : P.underlying t = some (.slice e)) (hc : 0 < P.cellsOf e) (h : DataW.trod enc P w base spare held fuel t [u] = some y) :
    ∃ A n c, u = .slice A n c ∧ n ≤ c ∧ c ≤ maxLen ∧ ∀ i, i < n → ∃ ad, A = some ad ∧ ad.block < w.heap.size ∧ ∃ (m : Nat) (cs : List Value) (y : DataW H × List MemPlace), cs.length = P.cellsOf e ∧ (∀ j, j < P.cellsOf e → w.cell? (ad.add (i * P.cellsOf e + j)) = cs[j]?) ∧ DataW.trod enc P w base spare held m e cs = some y := by
  rcases open_slice ht h with ⟨h1, _⟩ | ⟨a, len, cap, m, f, D, Pl, h1, hb, hl, hm, hmm, hx, hi⟩
  · injection h1 with h1
    exact ⟨none, 0, 0, h1, Nat.le_refl _, Nat.zero_le _, fun i hi => absurd hi (by omega)⟩
  · injection h1 with h1
    refine ⟨some a, len, cap, h1, hl, hm, fun i hil => ?_⟩
    obtain ⟨cs, hcs, hy⟩ := hi i (by rw [hmm]; split <;> omega)
    obtain ⟨_, hlen, hat⟩ := World.cells?_some hcs
    have hbl : (a.add (i * P.cellsOf e)).block = a.block := by unfold Addr.add; split <;> rfl
    have h0 := hat 0 (by omega)
    have h00 : cs[0]? = some (cs[0]'(by omega)) := List.getElem?_eq_getElem (by omega)
    rw [h00] at h0
    have hlt := World.block_lt_of_cell? w _ h0
    have hb0 : ((a.add (i * P.cellsOf e)).add 0).block = a.block := by rw [← hbl]; unfold Addr.add; split <;> rfl
    rw [hb0] at hlt
    exact ⟨a, rfl, hlt, f, cs, _, hlen, fun j hj => by rw [← hat j hj, ← Go.Deep.add_add], hy⟩
end
section
variable {H : Type} {enc : TypeId × Value → H} {w : World} {base : Nat} {spare : Nat → Bool} {held : Bool} {r : Reach} {b0 : Nat} {v : Value} {d : DataW H} {ps : List MemPlace}
theorem openS_trod {fuel : Nat} {u : Value} {y : DataW H × List MemPlace} (h : DataW.trod enc Try.prog w base spare held fuel 24 [u] = some y) :
    ∃ A l c, u = .slice A (List.length l) c ∧ l.length ≤ maxLen ∧ StrRow w A l := by
  have hC : Try.prog.cellsOf 9 = 1 := by kernel_rfl
  obtain ⟨A, n, c, rfl, hn, hc, hi⟩ := rowY_trod Try.underlying24 (by rw [hC]; decide) h
  rw [hC] at hi
  obtain ⟨zs, hl, hz⟩ := list_of (Q := fun i (z : ByteArray) => ∃ ad, A = some ad ∧ ad.block < w.heap.size ∧ w.cell? (ad.add i) = some (.string z) ∧ z.size ≤ maxLen) n (fun i h => by
    obtain ⟨ad, rfl, hb, m, cs, y, hlen, hat, hy⟩ := hi i h
    have h0 := hat 0 (by omega)
    match cs, hlen with
    | [u0], _ =>
      obtain ⟨z, hz, _, hw⟩ := DataW.trod_string Try.underlying9 hy
      injection hz with hz
      subst hz
      refine ⟨z, ad, rfl, hb, ?_, hw⟩
      simpa using h0)
  subst hl
  exact ⟨A, zs, c, rfl, by omega, hz⟩
theorem openI_trod {fuel : Nat} {u : Value} {y : DataW H × List MemPlace} (h : DataW.trod enc Try.prog w base spare held fuel 34 [u] = some y) :
    ∃ A l c, u = .slice A (List.length l) c ∧ l.length ≤ maxLen ∧ IntRow w A l := by
  have hC : Try.prog.cellsOf 3 = 1 := by kernel_rfl
  obtain ⟨A, n, c, rfl, hn, hc, hi⟩ := rowY_trod Try.underlying34 (by rw [hC]; decide) h
  rw [hC] at hi
  obtain ⟨zs, hl, hz⟩ := list_of (Q := fun i (z : Int) => ∃ ad, A = some ad ∧ ad.block < w.heap.size ∧ w.cell? (ad.add i) = some (.int .i64 z) ∧ (Lit.int .i64 z).wf = true) n (fun i h => by
    obtain ⟨ad, rfl, hb, m, cs, y, hlen, hat, hy⟩ := hi i h
    have h0 := hat 0 (by omega)
    match cs, hlen with
    | [u0], _ =>
      obtain ⟨z, hz, _, hw⟩ := DataW.trod_int Try.underlying3 hy
      injection hz with hz
      subst hz
      refine ⟨z, ad, rfl, hb, ?_, hw⟩
      simpa using h0)
  subst hl
  exact ⟨A, zs, c, rfl, by omega, hz⟩
/-- A program's names and values, and what is ahead. -/
structure PrgIn where
  ss : List ByteArray
  zs : List Int
  ah : Int
  A1 : Option Addr
  c1 : Nat
  A2 : Option Addr
  c2 : Nat
def PrgIn.cs (p : PrgIn) : Array Value := #[.slice p.A1 p.ss.length p.c1, .slice p.A2 p.zs.length p.c2, .int .i64 p.ah]
structure PrgIn.In (p : PrgIn) (w : World) : Prop where
  l1 : p.ss.length ≤ maxLen
  l2 : p.zs.length ≤ maxLen
  r1 : StrRow w p.A1 p.ss
  r2 : IntRow w p.A2 p.zs
  wf : (Lit.int .i64 p.ah).wf = true
def zprgV : Value := .agg #[.slice none 0 0, .slice none 0 0, .int .i64 0]
set_option maxRecDepth 100000 in
theorem open_prgY (hv : Value.okWide Try.prog w r b0 36 v) (h : DataW.Trod enc Try.prog w base spare held 36 v d ps) : ∃ p : PrgIn, v = .agg p.cs ∧ p.In w := by
  obtain ⟨cs, rfl, hsz⟩ := okWide_struct Try.underlying36 hv
  obtain ⟨fuel, hy⟩ := h
  obtain ⟨hlen, hf⟩ := fieldsY_trod Try.underlying36 (by kernel_rfl) (by kernel_rfl) hy
  obtain ⟨u0, _, _, c0, t0⟩ := hf 0 _ rfl
  obtain ⟨u1, _, _, c1, t1⟩ := hf 1 _ rfl
  obtain ⟨u2, _, _, c2, t2⟩ := hf 2 _ rfl
  obtain ⟨A1, ss, k1, rfl, l1, r1⟩ := openS_trod t0
  obtain ⟨A2, zs, k2, rfl, l2, r2⟩ := openI_trod t1
  obtain ⟨ah, h2, _, w2⟩ := DataW.trod_int Try.underlying3 t2
  cases h2
  have e := listY3 (l := (Value.agg cs).cells.toList) hlen c0 c1 c2
  have e2 : cs = #[.slice A1 ss.length k1, .slice A2 zs.length k2, .int .i64 ah] := by
    have : cs.toList = [.slice A1 ss.length k1, .slice A2 zs.length k2, .int .i64 ah] := e
    rw [← Array.toArray_toList (xs := cs), this]
  exact ⟨⟨ss, zs, ah, A1, k1, A2, k2⟩, by rw [e2]; rfl, ⟨l1, l2, r1, r2, w2⟩⟩
end

/-- A text, up to its first byte 0. -/
def cutZ (S : ByteArray) : ByteArray := S.extract 0 (zat S 0)
theorem cutZ_size (S : ByteArray) : (cutZ S).size ≤ S.size := by
  unfold cutZ
  rw [extract_mkb, mkb_size, List.drop_zero, List.length_take, len_data]
  omega
def nmS (S : ByteArray) : ByteArray := cutZ (shortSY S 8)
theorem nmS_size (S : ByteArray) : (nmS S).size ≤ 8 := Nat.le_trans (cutZ_size _) (shortSY_size S 8)
def nmsM (ss : List ByteArray) (k : Nat) : List ByteArray := (ss.take k).map nmS
theorem nmsM_succ (ss : List ByteArray) {k : Nat} (h : k < ss.length) : nmsM ss (k + 1) = nmsM ss k ++ [nmS ss[k]] := by
  unfold nmsM
  rw [List.take_succ_eq_append_getElem h, List.map_append]
  rfl
theorem nmsM_length (ss : List ByteArray) {k : Nat} (h : k ≤ ss.length) : (nmsM ss k).length = k := by simp [nmsM]; omega
theorem nmsM_size (ss : List ByteArray) (k : Nat) : ∀ s ∈ nmsM ss k, s.size ≤ 8 := by
  intro s hs
  obtain ⟨t, _, rfl⟩ := List.mem_map.1 hs
  exact nmS_size t
/-- The names' bytes. -/
def nbM (l : List ByteArray) : List UInt8 := l.flatMap fun s => s.data.toList ++ [0]
theorem nbM_snoc (l : List ByteArray) (s : ByteArray) : nbM (l ++ [s]) = nbM l ++ (s.data.toList ++ [0]) := by unfold nbM; rw [List.flatMap_append]; simp
theorem nbM_le (l : List ByteArray) (h : ∀ s ∈ l, s.size ≤ 8) : (nbM l).length ≤ 9 * l.length := by
  induction l with
  | nil => exact Nat.le_refl _
  | cons s l ih =>
    have h1 := ih (fun x hx => h x (List.mem_cons_of_mem _ hx))
    have h2 := h s (List.mem_cons_self ..)
    unfold nbM at *
    rw [List.flatMap_cons, List.length_append, List.length_append, len_data]
    simp only [List.length_cons, List.length_nil]
    omega
/-- The ith value. -/
def valM (zs : List Int) (i : Nat) : Int := zs.getD i 0 % 4096
theorem valM_in (zs : List Int) (i : Nat) : 0 ≤ valM zs i ∧ valM zs i < 4096 := by unfold valM; omega
def symM (ss : List ByteArray) (zs : List Int) (i : Nat) : Sy := ⟨((nbM (nmsM ss i)).length : Nat), !(valM zs i % 4 == 0), valM zs i⟩
def symsM (ss : List ByteArray) (zs : List Int) (k : Nat) : List Sy := (List.range k).map (symM ss zs)
theorem symsM_succ (ss : List ByteArray) (zs : List Int) (k : Nat) : symsM ss zs (k + 1) = symsM ss zs k ++ [symM ss zs k] := by unfold symsM; rw [List.range_succ, List.map_append]; rfl
theorem symsM_at (ss : List ByteArray) (zs : List Int) {k i : Nat} (h : i < (symsM ss zs k).length) : (symsM ss zs k)[i] = symM ss zs i := by simp [symsM]
theorem symM_wf (ss : List ByteArray) (zs : List Int) {i : Nat} (h : i ≤ 12) : (symM ss zs i).wf := by
  have h1 := nbM_le (nmsM ss i) (nmsM_size ss i)
  have h2 := valM_in zs i
  have h3 : (nmsM ss i).length ≤ i := by simp [nmsM]; omega
  exact ⟨WalkArith.wf_i64 (by show _ ≤ (((nbM (nmsM ss i)).length : Nat) : Int) ∧ (((nbM (nmsM ss i)).length : Nat) : Int) ≤ _; omega), WalkArith.wf_i64 (by show _ ≤ valM zs i ∧ valM zs i ≤ _; omega)⟩
theorem symsM_length (ss : List ByteArray) (zs : List Int) (k : Nat) : (symsM ss zs k).length = k := by simp [symsM]
def zbL (n : Nat) : List UInt8 := List.replicate n 0
theorem fill_zb (n : Nat) : fillS ⟨#[]⟩ (n : Int) = mkb (zbL n) := by
  unfold fillS
  rw [if_neg (by omega), Int.toNat_natCast]
  simp [fillL, zbL]

/-- The cells of symbols. -/
def syCells (l : List Sy) : List Value := l.flatMap fun s => s.cs.toList
theorem syCells_length : ∀ l, (syCells l).length = l.length * 3
  | [] => rfl
  | s :: l => by
    have h := syCells_length l
    unfold syCells at *
    rw [List.flatMap_cons, List.length_append, h]
    simp [Sy.cs]; omega
theorem syCells_at : ∀ (l : List Sy) (k : Nat) (h : k < l.length) (j : Nat), j < 3 → (syCells l)[k * 3 + j]? = (l[k].cs)[j]?
  | s :: l, 0, _, j, hj => by
    unfold syCells
    rw [List.flatMap_cons, List.getElem?_append_left (by simp [Sy.cs]; omega)]
    simp
  | s :: l, k + 1, h, j, hj => by
    have h1 := syCells_at l k (by simpa using h) j hj
    unfold syCells at *
    rw [List.flatMap_cons, List.getElem?_append_right (by simp [Sy.cs]; omega)]
    rw [show (k + 1) * 3 + j - s.cs.toList.length = k * 3 + j by simp [Sy.cs]; omega, h1]
    rfl
theorem syCells_snoc (l : List Sy) (s : Sy) : syCells (l ++ [s]) = syCells l ++ [.int .i64 s.n, .bool s.d, .int .i64 s.v] := by simp [syCells, Sy.cs]
/-- A row of symbols. -/
def SyRow (w : World) (A : Option Addr) (l : List Sy) : Prop := ∀ i (hi : i < l.length), ∃ ad, A = some ad ∧ ad.block < w.heap.size ∧ ∀ j, j < 3 → w.cell? (ad.add (i * 3 + j)) = (l[i].cs)[j]?
theorem SyRow.below {w w' : World} {A : Option Addr} {l : List Sy} (h : SyRow w A l) {n : Nat} (hn : n = w.heap.size) (hb : Below n w w') : SyRow w' A l := fun i hi => by
  obtain ⟨ad, h1, h2, h3⟩ := h i hi
  refine ⟨ad, h1, Nat.lt_of_lt_of_le h2 hb.size, fun j hj => (hb.cell ?_).trans (h3 j hj)⟩
  have : (ad.add (i * 3 + j)).block = ad.block := by unfold Addr.add; split <;> rfl
  omega
theorem SyRow.at_ {w : World} {A : Option Addr} {l : List Sy} (h : SyRow w A l) {i : Nat} (hi : i < l.length) : ∃ ad, A = some ad ∧ ad.block < w.heap.size ∧
    w.cell? (ad.add (i * 3)) = some (.int .i64 l[i].n) ∧
    w.cell? ⟨(ad.add (i * 3)).block, (ad.add (i * 3)).off + 1, none⟩ = some (.bool l[i].d) ∧
    w.cell? ⟨(ad.add (i * 3)).block, (ad.add (i * 3)).off + 2, none⟩ = some (.int .i64 l[i].v) := by
  obtain ⟨ad, e, hlt, hc⟩ := h i hi
  have hs : ∀ j, 0 < j → (⟨(ad.add (i * 3)).block, (ad.add (i * 3)).off + j, none⟩ : Addr) = ad.add (i * 3 + j) := fun j hj => by
    rw [← Go.Deep.add_add]
    show _ = (ad.add (i * 3)).add j
    generalize ad.add (i * 3) = q
    unfold Addr.add
    split <;> simp_all
  refine ⟨ad, e, hlt, ?_, ?_, ?_⟩
  · exact hc 0 (by omega)
  all_goals rw [hs _ (by omega)]
  · exact hc 1 (by omega)
  · exact hc 2 (by omega)
theorem SyRow.of_own {w : World} {B n : Nat} {v : Value} {l : List Sy} (h : w.ownsRow B 23 3 v n (syCells l)) : n = l.length ∧ ∃ A c, v = .slice A l.length c ∧ SyRow w A l := by
  have hl := h.1
  rw [syCells_length] at hl
  obtain rfl : n = l.length := by omega
  refine ⟨rfl, ?_⟩
  rcases h.2 with ⟨rfl, h0⟩ | ⟨g, cap, cur, rfl, hbg, hg, _, _, _, ht⟩
  · have : l = [] := List.length_eq_zero_iff.1 h0
    subst this
    exact ⟨none, 0, rfl, fun i hi => absurd hi (by simp)⟩
  · refine ⟨_, cap, rfl, fun i hi => ⟨⟨g, 0, none⟩, rfl, (show Blk w g _ cur from hg).lt, fun j hj => ?_⟩⟩
    have h1 := syCells_at l i hi j hj
    rw [← ht, List.getElem?_take, if_pos (by omega)] at h1
    have e : (⟨g, 0, none⟩ : Addr).add (i * 3 + j) = ⟨g, i * 3 + j, none⟩ := by unfold Addr.add; split <;> simp_all
    rw [e, (show Blk w g _ cur from hg).cell]
    simpa using h1
end Go.Proofs.Ytkembimfkoganaa
