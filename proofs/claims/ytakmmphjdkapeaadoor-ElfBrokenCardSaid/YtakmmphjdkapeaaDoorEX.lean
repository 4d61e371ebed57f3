/- Layer 8: images that come in; few. -/
import Derived.Test.YtakmmphjdkapeaaDoorEP
import Derived.Test.YtakmmphjdkapeaaDoorEU
import Derived.Test.YtakmmphjdkapeaaDoorET
import Derived.Deep.CutRange
import Derived.Deep.CutBlock
namespace Go.Proofs.YtakmmphjdkapeaaDoor
open Go.RowKit Go.ChangeShapes Go.WideShapes Go.Deep
set_option linter.unusedVariables false
set_option linter.unusedSimpArgs false

section
variable {H : Type} {enc : TypeId × Value → H} {P : Program} {w : World} {base : Nat} {spare : Nat → Bool} {held : Bool} {r : Reach} {b0 : Nat} {t e : TypeId} {v : Value} {d : DataW H} {ps : List MemPlace}
/-- A struct of fields of one cell each, as it is read. -/
theorem fields_trod {fs : Array Field} {fuel : Nat} {cs : List Value} {y : DataW H × List MemPlace} (ht : P.underlying t = some (.struct fs)) (hone : oneCellFields P fs = true) (hC : P.cellsOf t = fs.size) (h : DataW.trod enc P w base spare held fuel t cs = some y) :
    cs.length = fs.size ∧ ∀ (j : Nat) (f : Field), fs[j]? = some f → ∃ (u : Value) (y : DataW H × List MemPlace) (m : Nat), cs[j]? = some u ∧ DataW.trod enc P w base spare held m f.type [u] = some y := by
  obtain ⟨xs, m, _, _, hlen, hxl, hel⟩ := DataW.trod_struct ht h
  rw [hC] at hlen
  refine ⟨hlen, fun j f hj => ?_⟩
  obtain ⟨ho, hk⟩ := hone_of hone j f hj
  have hjl : j < fs.size := (Array.getElem?_eq_some_iff.1 hj).1
  have h1 := hel j f hj
  rw [ho, hk, List.drop_eq_getElem_cons (by omega), List.getElem?_eq_getElem (by omega)] at h1
  exact ⟨_, _, m, List.getElem?_eq_getElem (by omega), h1⟩
/-- An array of ints, as it is read. -/
theorem ints_trod {n : Nat} {fuel : Nat} {cs : List Value} {y : DataW H × List MemPlace} (ht : P.underlying t = some (.array n e)) (he : P.underlying e = some (.int .i64)) (hc : P.cellsOf e = 1) (hC : P.cellsOf t = n) (h : DataW.trod enc P w base spare held fuel t cs = some y) :
    cs.length = n ∧ ∀ j, j < n → ∃ z, cs[j]? = some (.int .i64 z) ∧ (Lit.int .i64 z).wf = true := by
  obtain ⟨xs, m, _, _, hlen, hx, hel⟩ := DataW.trod_array ht h
  rw [hC] at hlen
  refine ⟨hlen, fun i hi => ?_⟩
  have h1 := hel i hi
  rw [hc, Nat.mul_one, List.getElem?_eq_getElem (show i < xs.length by omega)] at h1
  obtain ⟨z, hz, _, hw⟩ := DataW.trod_int he h1
  refine ⟨z, ?_, hw⟩
  rw [List.drop_eq_getElem_cons (by omega)] at hz
  simp only [List.take_succ_cons, List.take_zero, List.cons.injEq, and_true] at hz
  rw [List.getElem?_eq_getElem (by omega), hz]
/-- A slice, as it is read. -/
theorem row_trod {fuel : Nat} {u : Value} {y : DataW H × List MemPlace} (ht : P.underlying t = some (.slice e)) (hc : 0 < P.cellsOf e) (h : DataW.trod enc P w base spare held fuel t [u] = some y) :
    ∃ A n c, u = .slice A n c ∧ n ≤ c ∧ c ≤ maxLen ∧ ∀ i, i < n → ∃ ad, A = some ad ∧ ad.block < w.heap.size ∧ ∃ (m : Nat) (cs : List Value) (y : DataW H × List MemPlace), cs.length = P.cellsOf e ∧ (∀ j, j < P.cellsOf e → w.cell? (ad.add (i * P.cellsOf e + j)) = cs[j]?) ∧ DataW.trod enc P w base spare held m e cs = some y := by
  rcases open_slice ht h with ⟨h1, _⟩ | ⟨a, len, cap, m, f, D, Pl, h1, hb, hl, hm, hmm, hx, hi⟩
  · injection h1 with h1
    exact ⟨none, 0, 0, h1, Nat.le_refl _, Nat.zero_le _, fun i hi => absurd hi (by omega)⟩
  · injection h1 with h1
    refine ⟨some a, len, cap, h1, hl, hm, fun i hil => ?_⟩
    obtain ⟨cs, hcs, hy⟩ := hi i (by rw [hmm]; split <;> omega)
    obtain ⟨_, hlen, hat⟩ := World.cells?_some hcs
    have hbl : (a.add (i * P.cellsOf e)).block = a.block := by unfold Addr.add; split <;> rfl
    have h0 := hat 0 (by omega)
    have h00 : cs[0]? = some (cs[0]'(by omega)) := List.getElem?_eq_getElem (by omega)
    rw [h00] at h0
    have hlt := World.block_lt_of_cell? w _ h0
    have hb0 : ((a.add (i * P.cellsOf e)).add 0).block = a.block := by rw [← hbl]; unfold Addr.add; split <;> rfl
    rw [hb0] at hlt
    exact ⟨a, rfl, hlt, f, cs, _, hlen, fun j hj => by rw [← hat j hj, ← Go.Deep.add_add], hy⟩
end
theorem list3 {l : List Value} {u0 u1 u2 : Value} (h : l.length = 3) (h0 : l[0]? = some u0) (h1 : l[1]? = some u1) (h2 : l[2]? = some u2) : l = [u0, u1, u2] := by
  match l, h with
  | [c0, c1, c2], _ =>
    simp only [List.getElem?_cons_zero, List.getElem?_cons_succ, Option.some.injEq] at h0 h1 h2
    rw [h0, h1, h2]
/-- An image that comes in: where its segments lie, and how much room there is. -/
structure ImgIn where
  x : Img
  A : Option Addr
  c : Nat
def ImgIn.v (i : ImgIn) : Value := i.x.v i.A i.c
structure ImgIn.In (i : ImgIn) (w : World) : Prop where
  kind : (Lit.int .i64 i.x.kind).wf = true
  entry : (Lit.int .i64 i.x.entry).wf = true
  len : i.x.segs.length ≤ i.c
  cap : i.c ≤ maxLen
  row : SegRow w i.A i.x.segs
section
variable {H : Type} {enc : TypeId × Value → H} {w : World} {base : Nat} {spare : Nat → Bool} {held : Bool} {r : Reach} {b0 : Nat} {v : Value} {d : DataW H} {ps : List MemPlace}

set_option maxRecDepth 100000 in
/-- Segments that come in. -/
theorem open_segs {fuel : Nat} {u : Value} {y : DataW H × List MemPlace} (h : DataW.trod enc Tryd.prog w base spare held fuel 22 [u] = some y) :
    ∃ A l c, u = .slice A (List.length l) c ∧ l.length ≤ c ∧ c ≤ maxLen ∧ SegRow w A l := by
  have hC : Tryd.prog.cellsOf 47 = 7 := by kernel_rfl
  obtain ⟨A, n, c, rfl, hn, hc, hi⟩ := row_trod Tryd.underlying22 (by rw [hC]; decide) h
  rw [hC] at hi
  obtain ⟨zs, hl, hz⟩ := list_of (Q := fun i (z : Seg) => ∃ ad, A = some ad ∧ ad.block < w.heap.size ∧ (∀ j, j < 7 → w.cell? (ad.add (i * 7 + j)) = (z.cs)[j]?) ∧ z.wf) n (fun i h => by
    obtain ⟨ad, rfl, hb, m, cs, y, hlen, hat, hy⟩ := hi i h
    obtain ⟨-, hf⟩ := fields_trod Tryd.underlying47 (by kernel_rfl) (by kernel_rfl) hy
    obtain ⟨u0, _, _, c0, t0⟩ := hf 0 _ rfl
    obtain ⟨u1, _, _, c1, t1⟩ := hf 1 _ rfl
    obtain ⟨u2, _, _, c2, t2⟩ := hf 2 _ rfl
    obtain ⟨u3, _, _, c3, t3⟩ := hf 3 _ rfl
    obtain ⟨u4, _, _, c4, t4⟩ := hf 4 _ rfl
    obtain ⟨u5, _, _, c5, t5⟩ := hf 5 _ rfl
    obtain ⟨u6, _, _, c6, t6⟩ := hf 6 _ rfl
    obtain ⟨n0, h0, _, w0⟩ := DataW.trod_int Tryd.underlying3 t0
    obtain ⟨n1, h1, _, w1⟩ := DataW.trod_int Tryd.underlying3 t1
    obtain ⟨n2, h2, _, w2⟩ := DataW.trod_int Tryd.underlying3 t2
    obtain ⟨n3, h3, _, w3⟩ := DataW.trod_int Tryd.underlying3 t3
    obtain ⟨n4, h4, _, w4⟩ := DataW.trod_int Tryd.underlying3 t4
    obtain ⟨n5, h5, _, w5⟩ := DataW.trod_int Tryd.underlying3 t5
    obtain ⟨n6, h6, _, w6⟩ := DataW.trod_int Tryd.underlying3 t6
    cases h0
    cases h1
    cases h2
    cases h3
    cases h4
    cases h5
    cases h6
    refine ⟨⟨n0, n1, n2, n3, n4, n5, n6⟩, ad, rfl, hb, fun j hj => ?_, ⟨w0, w1, w2, w3, w4, w5, w6⟩⟩
    rw [hat j hj]
    match j, hj with
    | 0, _ => exact c0
    | 1, _ => exact c1
    | 2, _ => exact c2
    | 3, _ => exact c3
    | 4, _ => exact c4
    | 5, _ => exact c5
    | 6, _ => exact c6)
  subst hl
  exact ⟨A, zs, c, rfl, hn, hc, hz⟩

set_option maxRecDepth 100000 in
theorem open_img (hv : Value.okWide Tryd.prog w r b0 24 v) (h : DataW.Trod enc Tryd.prog w base spare held 24 v d ps) : ∃ i : ImgIn, v = i.v ∧ i.In w := by
  obtain ⟨cs, rfl, hsz⟩ := okWide_struct Tryd.underlying24 hv
  obtain ⟨fuel, hy⟩ := h
  obtain ⟨hlen, hf⟩ := fields_trod Tryd.underlying24 (by kernel_rfl) (by kernel_rfl) hy
  obtain ⟨u0, _, _, c0, t0⟩ := hf 0 _ rfl
  obtain ⟨u1, _, _, c1, t1⟩ := hf 1 _ rfl
  obtain ⟨u2, _, _, c2, t2⟩ := hf 2 _ rfl
  obtain ⟨n0, h0, _, w0⟩ := DataW.trod_int Tryd.underlying3 t0
  obtain ⟨n1, h1, _, w1⟩ := DataW.trod_int Tryd.underlying3 t1
  obtain ⟨A, l, c, rfl, hl, hc, hr⟩ := open_segs t2
  cases h0
  cases h1
  have e := list3 (l := (Value.agg cs).cells.toList) hlen c0 c1 c2
  have e2 : cs = #[.int .i64 n0, .int .i64 n1, .slice A l.length c] := by
    have : cs.toList = [.int .i64 n0, .int .i64 n1, .slice A l.length c] := e
    rw [← Array.toArray_toList (xs := cs), this]
  exact ⟨⟨⟨n0, n1, l⟩, A, c⟩, by rw [e2]; rfl, ⟨w0, w1, hl, hc, hr⟩⟩
end

/-- An image with 17 segments at most. -/
def Img.few (x : Img) : Img := ⟨x.kind, x.entry, x.segs.take 17⟩
theorem SegRow.take {w : World} {A : Option Addr} {l : List Seg} (h : SegRow w A l) (n : Nat) : SegRow w A (l.take n) := fun i hi => by
  have hi2 : i < l.length := by rw [List.length_take] at hi; omega
  obtain ⟨ad, e, hlt, hc, hw⟩ := h i hi2
  rw [List.getElem_take]
  exact ⟨ad, e, hlt, hc, hw⟩
theorem few_len (x : Img) : x.few.segs.length ≤ 17 := by unfold Img.few; simp only [List.length_take]; omega

set_option maxRecDepth 100000 in
set_option maxHeartbeats 1600000 in
theorem few8_any (i : ImgIn) (w : World) (hc : i.c ≤ maxLen) (hl : i.x.segs.length ≤ i.c) : Calls Tryd.prog 11 #[i.v] w fun e w' => e = .returned (i.x.few.v i.A i.c) ∧ Below w.heap.size w w' := by
  obtain ⟨⟨kind, entry, segs⟩, A, c⟩ := i
  unfold ImgIn.v Img.few Img.v
  unfold maxLen at hc
  simp only at *
  rw [List.length_take]
  obtain ⟨n, hn⟩ : ∃ n, segs.length = n := ⟨_, rfl⟩
  rw [hn] at hl ⊢
  clear hn
  obtain ⟨W, hW⟩ : ∃ W, (w.alloc (.cells #[.int .i64 kind, .int .i64 entry, .slice A n c] 24)).alloc (.cells #[.int .i64 0, .int .i64 0, .slice none 0 0] 24) = W := ⟨_, rfl⟩
  have hB : Below w.heap.size w W := by rw [← hW]; exact ((Below.refl _ _).alloc (Nat.le_refl _) _).alloc (by simp) _
  have hK1 : Blk W w.heap.size 24 #[.int .i64 kind, .int .i64 entry, .slice A n c] := by rw [← hW]; exact (Blk.new w _ _).alloc _
  have hK2 : Blk W (w.heap.size + 1) 24 #[.int .i64 0, .int .i64 0, .slice none 0 0] := by rw [← hW]; simpa using Blk.new (w.alloc (.cells #[.int .i64 kind, .int .i64 entry, .slice A n c] 24)) 24 #[.int .i64 0, .int .i64 0, .slice none 0 0]
  have HW := Lib.hid hW
  clear hW
  have x0 : W.cell? ⟨w.heap.size, 0, none⟩ = some (.int .i64 kind) := hK1.at_ 0 _ rfl
  have x1 : W.cell? ⟨w.heap.size, 1, none⟩ = some (.int .i64 entry) := hK1.at_ 1 _ rfl
  have x2 : W.cell? ⟨w.heap.size, 2, none⟩ = some (.slice A n c) := hK1.at_ 2 _ rfl
  by_cases h : 17 < n
  · have hmin : min 17 n = 17 := by omega
    rw [hmin]
    clear hmin
    have h1 : (17 : Int) ≤ c := by omega
    have h2 : ¬ (c = 0) := by omega
    have f2 := hK1.frozen 2
    obtain ⟨W2, hW2⟩ : ∃ W2, W.setCell ⟨w.heap.size, 2, none⟩ (.slice A 17 c) = W2 := ⟨_, rfl⟩
    have j1 : Blk W2 w.heap.size 24 #[.int .i64 kind, .int .i64 entry, .slice A 17 c] := by rw [← hW2]; simpa using hK1.set_ 2 (.slice A 17 c)
    have j2 : Blk W2 (w.heap.size + 1) 24 #[.int .i64 0, .int .i64 0, .slice none 0 0] := by rw [← hW2]; exact hK2.but (But.setCell (S := (· = w.heap.size)) (But.refl _ _) (p := ⟨w.heap.size, 2, none⟩) (.inl rfl) _) (by simp)
    have jB : Below w.heap.size w W2 := by rw [← hW2]; exact hB.setCell (p := ⟨w.heap.size, 2, none⟩) (Nat.le_refl _) _
    have y0 : W2.cell? ⟨w.heap.size, 0, none⟩ = some (.int .i64 kind) := j1.at_ 0 _ rfl
    have y1 : W2.cell? ⟨w.heap.size, 1, none⟩ = some (.int .i64 entry) := j1.at_ 1 _ rfl
    have y2 : W2.cell? ⟨w.heap.size, 2, none⟩ = some (.slice A 17 c) := j1.at_ 2 _ rfl
    have z0 : W2.cell? ⟨w.heap.size + 1, 0, none⟩ = some (.int .i64 0) := j2.at_ 0 _ rfl
    have z1 : W2.cell? ⟨w.heap.size + 1, 1, none⟩ = some (.int .i64 0) := j2.at_ 1 _ rfl
    have z2 : W2.cell? ⟨w.heap.size + 1, 2, none⟩ = some (.slice none 0 0) := j2.at_ 2 _ rfl
    have e0 := j2.frozen 0
    have e1 := j2.frozen 1
    have e2 := j2.frozen 2
    have hfin := img_set j2 rfl (.int .i64 kind) (.int .i64 entry) (.slice A 17 c)
    have hbl := ((jB.setCell (p := ⟨w.heap.size + 1, 0, none⟩) (Nat.le_succ _) (.int .i64 kind)).setCell (p := ⟨w.heap.size + 1, 1, none⟩) (Nat.le_succ _) (.int .i64 entry)).setCell (p := ⟨w.heap.size + 1, 2, none⟩) (Nat.le_succ _) (.slice A 17 c)
    have HFIN := Lib.hid (And.intro hfin hbl)
    clear hfin hbl j1 j2 jB hK1 hK2 hB
    go_enter Tryd.func11, Tryd.ntmps11
    go_upto_region 1 with fail
    rw [HW.out]
    go_wp2
    exact bodyPost_ret (results_cell_row rfl _ _ (w.heap.size + 1) 24 _ (0, 0) _ rfl HFIN.out.1 Tryd.underlying24 rfl (by kernel_rfl)) rfl ⟨rfl, HFIN.out.2⟩
  · have hmin : min 17 n = n := by omega
    rw [hmin]
    clear hmin
    have z0 : W.cell? ⟨w.heap.size + 1, 0, none⟩ = some (.int .i64 0) := hK2.at_ 0 _ rfl
    have z1 : W.cell? ⟨w.heap.size + 1, 1, none⟩ = some (.int .i64 0) := hK2.at_ 1 _ rfl
    have z2 : W.cell? ⟨w.heap.size + 1, 2, none⟩ = some (.slice none 0 0) := hK2.at_ 2 _ rfl
    have e0 := hK2.frozen 0
    have e1 := hK2.frozen 1
    have e2 := hK2.frozen 2
    have hfin := img_set hK2 rfl (.int .i64 kind) (.int .i64 entry) (.slice A n c)
    have hbl := ((hB.setCell (p := ⟨w.heap.size + 1, 0, none⟩) (Nat.le_succ _) (.int .i64 kind)).setCell (p := ⟨w.heap.size + 1, 1, none⟩) (Nat.le_succ _) (.int .i64 entry)).setCell (p := ⟨w.heap.size + 1, 2, none⟩) (Nat.le_succ _) (.slice A n c)
    have HFIN := Lib.hid (And.intro hfin hbl)
    clear hfin hbl hK1 hK2 hB
    go_enter Tryd.func11, Tryd.ntmps11
    go_upto_region 1 with fail
    rw [HW.out]
    go_wp2
    exact bodyPost_ret (results_cell_row rfl _ _ (w.heap.size + 1) 24 _ (0, 0) _ rfl HFIN.out.1 Tryd.underlying24 rfl (by kernel_rfl)) rfl ⟨rfl, HFIN.out.2⟩
def zimgV : Value := .agg #[.int .i64 0, .int .i64 0, .slice none 0 0]
namespace l8
theorem tab_of_laid {W : World} (h : laidMet Tryd.prog [("flyleaf/elf.widths", Rows.laid_flyleaf_elf_widths), ("flyleaf/elf.greatest", Rows.laid_flyleaf_elf_greatest)] W) : ETab W := etab_of_laid h
noncomputable abbrev laidWorld (os : Os) : World := elaidWorld os
theorem laid_met (os : Os) (args : Array Value) : laidMet Tryd.prog [("flyleaf/elf.widths", Rows.laid_flyleaf_elf_widths), ("flyleaf/elf.greatest", Rows.laid_flyleaf_elf_greatest)] ((laidWorld os).forCall (fun _ _ => 0) ⟨#[], args, []⟩).memory := elaid_met os args
end l8
end Go.Proofs.YtakmmphjdkapeaaDoor
