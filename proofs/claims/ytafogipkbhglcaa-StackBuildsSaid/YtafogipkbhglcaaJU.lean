/- Layer 17: what a program is begun with, as it comes in; few, small. -/
import Derived.Test.YtafogipkbhglcaaJH
namespace Go.Proofs.Ytafogipkbhglcaa
open Go.RowKit Go.ChangeShapes Go.WideShapes Go.Deep
set_option linter.unusedVariables false
set_option linter.unusedSimpArgs false

section
variable {H : Type} {enc : TypeId × Value → H} {P : Program} {w : World} {base : Nat} {spare : Nat → Bool} {held : Bool} {r : Reach} {b0 : Nat} {t e : TypeId} {v : Value} {d : DataW H} {ps : List MemPlace}
/-- A struct of fields of one cell each, as it is read. -/
theorem fields_trod17 {fs : Array Field} {fuel : Nat} {cs : List Value} {y : DataW H × List MemPlace} (ht : P.underlying t = some (.struct fs)) (hone : oneCellFields P fs = true) (hC : P.cellsOf t = fs.size) (h : DataW.trod enc P w base spare held fuel t cs = some y) :
    cs.length = fs.size ∧ ∀ (j : Nat) (f : Field), fs[j]? = some f → ∃ (u : Value) (y : DataW H × List MemPlace) (m : Nat), cs[j]? = some u ∧ DataW.trod enc P w base spare held m f.type [u] = some y := by
  obtain ⟨xs, m, _, _, hlen, hxl, hel⟩ := DataW.trod_struct ht h
  rw [hC] at hlen
  refine ⟨hlen, fun j f hj => ?_⟩
  obtain ⟨ho, hk⟩ := hone_of hone j f hj
  have hjl : j < fs.size := (Array.getElem?_eq_some_iff.1 hj).1
  have h1 := hel j f hj
  rw [ho, hk, List.drop_eq_getElem_cons (by omega), List.getElem?_eq_getElem (by omega)] at h1
  exact ⟨_, _, m, List.getElem?_eq_getElem (by omega), h1⟩
/-- A slice, as it is read. -/
theorem row_trod17 {fuel : Nat} {u : Value} {y : DataW H × List MemPlace} (ht : P.underlying t = some (.slice e)) (hc : 0 < P.cellsOf e) (h : DataW.trod enc P w base spare held fuel t [u] = some y) :
    ∃ A n c, u = .slice A n c ∧ n ≤ c ∧ c ≤ maxLen ∧ ∀ i, i < n → ∃ ad, A = some ad ∧ ad.block < w.heap.size ∧ ∃ (m : Nat) (cs : List Value) (y : DataW H × List MemPlace), cs.length = P.cellsOf e ∧ (∀ j, j < P.cellsOf e → w.cell? (ad.add (i * P.cellsOf e + j)) = cs[j]?) ∧ DataW.trod enc P w base spare held m e cs = some y := by
  rcases open_slice ht h with ⟨h1, _⟩ | ⟨a, len, cap, m, f, D, Pl, h1, hb, hl, hm, hmm, hx, hi⟩
  · injection h1 with h1
    exact ⟨none, 0, 0, h1, Nat.le_refl _, Nat.zero_le _, fun i hi => absurd hi (by omega)⟩
  · injection h1 with h1
    refine ⟨some a, len, cap, h1, hl, hm, fun i hil => ?_⟩
    obtain ⟨cs, hcs, hy⟩ := hi i (by rw [hmm]; split <;> omega)
    obtain ⟨_, hlen, hat⟩ := World.cells?_some hcs
    have hbl : (a.add (i * P.cellsOf e)).block = a.block := by unfold Addr.add; split <;> rfl
    have h0 := hat 0 (by omega)
    have h00 : cs[0]? = some (cs[0]'(by omega)) := List.getElem?_eq_getElem (by omega)
    rw [h00] at h0
    have hlt := World.block_lt_of_cell? w _ h0
    have hb0 : ((a.add (i * P.cellsOf e)).add 0).block = a.block := by rw [← hbl]; unfold Addr.add; split <;> rfl
    rw [hb0] at hlt
    exact ⟨a, rfl, hlt, f, cs, _, hlen, fun j hj => by rw [← hat j hj, ← Go.Deep.add_add], hy⟩
end
theorem list3J {l : List Value} {u0 u1 u2 : Value} (h : l.length = 3) (h0 : l[0]? = some u0) (h1 : l[1]? = some u1) (h2 : l[2]? = some u2) : l = [u0, u1, u2] := by
  match l, h with
  | [c0, c1, c2], _ =>
    simp only [List.getElem?_cons_zero, List.getElem?_cons_succ, Option.some.injEq] at h0 h1 h2
    rw [h0, h1, h2]

/-- What a program is begun with: where it lies. -/
structure Bg where
  args : List ByteArray
  env : List ByteArray
  aux : List Pa
  A : Option Addr
  D : Option Addr
  X : Option Addr
  c : Nat
  d : Nat
  x : Nat
def Bg.v (b : Bg) : Value := .agg #[.slice b.A b.args.length b.c, .slice b.D b.env.length b.d, .slice b.X b.aux.length b.x]
structure Bg.In (b : Bg) (w : World) : Prop where
  a : StrRow w b.A b.args
  d : StrRow w b.D b.env
  x : PaRow w b.X b.aux
  al : b.args.length ≤ maxLen
  dl : b.env.length ≤ maxLen
  xl : b.aux.length ≤ b.x
  xc : b.x ≤ maxLen

section
variable {H : Type} {enc : TypeId × Value → H} {w : World} {base : Nat} {spare : Nat → Bool} {held : Bool} {r : Reach} {b0 : Nat} {v : Value} {d : DataW H} {ps : List MemPlace}
set_option maxRecDepth 100000 in
theorem strs_in17 {fuel : Nat} {u : Value} {y : DataW H × List MemPlace} (h : DataW.trod enc Try.prog w base spare held fuel 22 [u] = some y) :
    ∃ A ss c, u = .slice A (List.length ss) c ∧ ss.length ≤ maxLen ∧ StrRow w A ss := by
  have hC : Try.prog.cellsOf 9 = 1 := by kernel_rfl
  obtain ⟨A, n, c, rfl, hn, hc, hi⟩ := row_trod17 Try.underlying22 (by rw [hC]; decide) h
  rw [hC] at hi
  obtain ⟨zs, hl, hz⟩ := list_of (Q := fun i (z : ByteArray) => ∃ ad, A = some ad ∧ ad.block < w.heap.size ∧ w.cell? (ad.add i) = some (.string z) ∧ z.size ≤ maxLen) n (fun i h => by
    obtain ⟨ad, rfl, hb, m, cs, y, hlen, hat, hy⟩ := hi i h
    obtain ⟨z, rfl, _, hw⟩ := DataW.trod_string Try.underlying9 hy
    have := hat 0 (by omega)
    rw [Nat.mul_one] at this
    exact ⟨z, ad, rfl, hb, this, hw⟩)
  subst hl
  exact ⟨A, zs, c, rfl, by omega, hz⟩
set_option maxRecDepth 100000 in
theorem pairs_in17 {fuel : Nat} {u : Value} {y : DataW H × List MemPlace} (h : DataW.trod enc Try.prog w base spare held fuel 23 [u] = some y) :
    ∃ A l c, u = .slice A (List.length l) c ∧ l.length ≤ c ∧ c ≤ maxLen ∧ PaRow w A l := by
  have hC : Try.prog.cellsOf 40 = 2 := by kernel_rfl
  obtain ⟨A, n, c, rfl, hn, hc, hi⟩ := row_trod17 Try.underlying23 (by rw [hC]; decide) h
  rw [hC] at hi
  obtain ⟨zs, hl, hz⟩ := list_of (Q := fun i (z : Pa) => ∃ ad, A = some ad ∧ ad.block < w.heap.size ∧ (∀ j, j < 2 → w.cell? (ad.add (i * 2 + j)) = (z.cs)[j]?) ∧ z.wf) n (fun i h => by
    obtain ⟨ad, rfl, hb, m, cs, y, hlen, hat, hy⟩ := hi i h
    obtain ⟨-, hf⟩ := fields_trod17 Try.underlying40 (by kernel_rfl) (by kernel_rfl) hy
    obtain ⟨u0, _, _, c0, t0⟩ := hf 0 _ rfl
    obtain ⟨u1, _, _, c1, t1⟩ := hf 1 _ rfl
    obtain ⟨n0, h0, _, w0⟩ := DataW.trod_int Try.underlying3 t0
    obtain ⟨n1, h1, _, w1⟩ := DataW.trod_int Try.underlying3 t1
    cases h0
    cases h1
    refine ⟨⟨n0, n1⟩, ad, rfl, hb, fun j hj => ?_, w0, w1⟩
    rw [hat j hj]
    match j, hj with
    | 0, _ => exact c0
    | 1, _ => exact c1)
  subst hl
  exact ⟨A, zs, c, rfl, hn, hc, hz⟩
set_option maxRecDepth 100000 in
theorem open_begin17 (hv : Value.okWide Try.prog w r b0 25 v) (h : DataW.Trod enc Try.prog w base spare held 25 v d ps) : ∃ b : Bg, v = b.v ∧ b.In w := by
  obtain ⟨cs, rfl, hsz⟩ := okWide_struct Try.underlying25 hv
  obtain ⟨fuel, hy⟩ := h
  obtain ⟨hlen, hf⟩ := fields_trod17 Try.underlying25 (by kernel_rfl) (by kernel_rfl) hy
  obtain ⟨u0, _, _, c0, t0⟩ := hf 0 _ rfl
  obtain ⟨u1, _, _, c1, t1⟩ := hf 1 _ rfl
  obtain ⟨u2, _, _, c2, t2⟩ := hf 2 _ rfl
  obtain ⟨A, l1, x1, rfl, m1, r1⟩ := strs_in17 t0
  obtain ⟨D, l2, x2, rfl, m2, r2⟩ := strs_in17 t1
  obtain ⟨X, l3, x3, rfl, m3, m4, r3⟩ := pairs_in17 t2
  have e := list3J (l := (Value.agg cs).cells.toList) hlen c0 c1 c2
  have e2 : cs = #[.slice A l1.length x1, .slice D l2.length x2, .slice X l3.length x3] := by
    have : cs.toList = [.slice A l1.length x1, .slice D l2.length x2, .slice X l3.length x3] := e
    rw [← Array.toArray_toList (xs := cs), this]
  exact ⟨⟨l1, l2, l3, A, D, X, x1, x2, x3⟩, by rw [e2]; rfl, ⟨r1, r2, r3, m1, m2, m3, m4⟩⟩
end
def zbegV : Value := .agg #[.slice none 0 0, .slice none 0 0, .slice none 0 0]

/-- At most 40 bytes. -/
def cut40 (s : ByteArray) : ByteArray := if 40 < s.size then s.extract 0 40 else s
theorem cut40_size (s : ByteArray) : (cut40 s).size ≤ 40 := by
  unfold cut40
  split
  · rw [extract_mkb, mkb_size, List.length_take]; omega
  · omega
def fewL17 (ss : List ByteArray) : List ByteArray := (ss.take 10).map cut40
theorem fewL17_len (ss : List ByteArray) : (fewL17 ss).length = min 10 ss.length := by unfold fewL17; rw [List.length_map, List.length_take]
theorem fewL17_ok (ss : List ByteArray) : ∀ s ∈ fewL17 ss, s.size ≤ 40 := fun s hs => by
  obtain ⟨a, _, rfl⟩ := List.mem_map.1 hs
  exact cut40_size a
/-- A row of texts was told. -/
def RowT17 (w : World) (L : List ByteArray) (e : Ending) (w' : World) : Prop := ∃ A c, e = .returned (.slice A L.length c) ∧ StrRow w' A L ∧ Below w.heap.size w w' ∧ ∀ ad, A = some ad → w.heap.size ≤ ad.block
/-- A call's own row of strings, read, and that it is new. -/
theorem strRow_own17b {w : World} {lo n : Nat} {v : Value} {l : List ByteArray} (h : w.ownsRow lo 9 1 v n (strs l)) (hw : ∀ z ∈ l, z.size ≤ maxLen) : n = l.length ∧ ∃ A c, v = .slice A l.length c ∧ StrRow w A l ∧ ∀ ad, A = some ad → lo ≤ ad.block := by
  obtain ⟨h1, A, c, rfl, h2⟩ := strRow_own17 h hw
  refine ⟨h1, A, c, rfl, h2, fun ad e => ?_⟩
  subst e
  exact (h.lt ad.block rfl).1
theorem strRow_far17 {w : World} {A : Option Addr} {L : List ByteArray} (h : StrRow w A L) {p : Addr} (hne : ∀ ad, A = some ad → ad.block ≠ p.block) (u : Value) : StrRow (w.setCell p u) A L := fun i hi => by
  obtain ⟨ad, h1, h2, h3, h4⟩ := h i hi
  have hb : (ad.add i).block = ad.block := by unfold Addr.add; split <;> rfl
  exact ⟨ad, h1, by simpa [World.setCell] using h2, (World.cell?_setCell_other _ _ _ _ (fun e => hne ad h1 (by rw [← hb, e]))).trans h3, h4⟩

set_option maxRecDepth 100000 in
set_option maxHeartbeats 1600000 in
theorem few17 (A : Option Addr) (ss : List ByteArray) (c : Nat) (w : World) (hr : StrRow w A ss) (hl : ss.length ≤ maxLen) :
    Calls Try.prog 20 #[.slice A ss.length c] w (RowT17 w (fewL17 ss)) := by
  unfold maxLen at hl
  obtain ⟨R, hR⟩ : ∃ R, w.heap.size = R := ⟨_, rfl⟩
  obtain ⟨n, hn⟩ : ∃ n, ss.length = n := ⟨_, rfl⟩
  rw [hn]
  rw [hn] at hl
  have HN := Lib.hid hn
  have HV := Lib.hid (fun v (hv : Below R w v) => strRow_below17 hr hR.symm hv)
  have HRS := Lib.hid (show ∀ u, Below R w u → R ≤ u.heap.size from fun u hu => by rw [← hR]; exact hu.size)
  have HO0 := Lib.hid (ownNil17 w R 9 1)
  have HB0 := Lib.hid (show Below R w w from by rw [← hR]; exact Below.refl _ _)
  clear hr hn
  obtain ⟨i0, hi, hz0, hz1, hz2⟩ := info_parts infoStr
  go_enter Try.func20, Try.ntmps20
  go_wp2
  go_loopw [3, 4, 5] (fun v3 i _ wr => ∃ k : Nat, k ≤ n ∧ k ≤ 10 ∧ i = .int .i64 k ∧ Hid (wr.ownsRow R 9 1 v3 k (strs ((ss.take k).map cut40))) ∧ Hid (Below R w wr)) (fun _ i _ _ => 10 - (intOf i).toNat)
  case atStart => exact ⟨0, Nat.zero_le _, by omega, rfl, HO0, HB0⟩
  case round =>
    obtain ⟨k, hk, hk10, rfl, HO, HB⟩ := hrel
    by_cases hlt : k < n ∧ k < 10
    · have hkl : k < ss.length := by rw [HN.out]; exact hlt.1
      obtain ⟨ad, rfl, hblt, d0, hsz⟩ := HV.out wr HB.out k hkl
      have htk : (ss.take (k + 1)).map cut40 = (ss.take k).map cut40 ++ [cut40 ss[k]] := by rw [List.take_succ_eq_append_getElem hkl, List.map_append]; rfl
      obtain ⟨s, hs⟩ : ∃ s, ss[k] = s := ⟨_, rfl⟩
      rw [hs] at d0 htk hsz
      obtain ⟨t, ht⟩ : ∃ t, cut40 s = t := ⟨_, rfl⟩
      rw [ht] at htk
      have h1 : (k : Int) < (n : Int) := by omega
      have h2 : (k : Int) < 10 := by omega
      have h0 : (0 : Int) ≤ (k : Int) := by omega
      have ho1 := HO.out
      have HTK := Lib.hid htk
      clear hkl htk hs hlt
      unfold maxLen at hsz
      by_cases h40 : 40 < s.size
      all_goals
        first
          | (have hx : s.extract 0 40 = t := by rw [← ht]; unfold cut40; rw [if_pos h40])
          | (obtain rfl : s = t := by rw [← ht]; unfold cut40; rw [if_neg h40])
        clear ht
        go_wp2_with (at_builtin; refine Hid.out ?_)
        refine Lib.hid ?_
        refine wpList_append_own _ rfl _ _ 22 rfl R 9 i0 (.string ⟨#[]⟩) 1 16 Try.underlying22 hi hz0 hz1 hz2 rfl (by decide) u3 k (strs ((ss.take k).map cut40)) rfl (ho1.alloc _) ⟨wr.heap.size, 0, none⟩ 1 1 [.string _] rfl rfl (cell_one17 _ _ _) (fun u hu => by simp at hu; subst hu; rfl) (by unfold maxLen; omega) (by omega) (by have := HRS.out _ HB.out; simp; omega) ?_
        intro v' w2 hown1 hgrow _
        have HO2 := Lib.hid (show w2.ownsRow R 9 1 v' (k + 1) (strs ((ss.take (k + 1)).map cut40)) from by
          rw [HTK.out, strs_snoc17]
          exact hown1)
        have HB2 := Lib.hid ((HB.out.alloc (HRS.out _ HB.out) _).grown hgrow (by have := HRS.out _ HB.out; simp; omega) (fun z e => (ho1.lt _ e).1))
        clear hown1 hgrow ho1 HO HB
        go_wp2_with fail
        go_roundw
        case rel => exact ⟨k + 1, by omega, by omega, by go_num, HO2, HB2⟩
        case measure => simp [intOf]; omega
    · have hfin : (ss.take k).map cut40 = fewL17 ss := by
        unfold fewL17
        rcases Nat.lt_or_ge k 10 with h | h
        · rw [List.take_of_length_le (i := k) (by rw [HN.out]; omega), List.take_of_length_le (i := 10) (by rw [HN.out]; omega)]
        · rw [show k = 10 by omega]
      obtain ⟨hlen, A', c', rfl, hrow, hnew⟩ := strRow_own17b HO.out (fun x hx => by
        rw [hfin] at hx
        have := fewL17_ok ss x hx
        unfold maxLen
        omega)
      rw [hfin] at hlen hrow
      have HRO := Lib.hid hrow
      have HNW := Lib.hid hnew
      have HLEN := Lib.hid (And.intro hlen hfin)
      clear hrow hlen hnew
      have hbk : ((ss.take k).map cut40).length = k := by rw [hfin, ← HLEN.out.1]
      rw [hbk]
      clear hfin hbk
      by_cases h1 : (k : Int) < (n : Int)
      · have h2 : ¬ (k : Int) < 10 := by omega
        go_wp2
        go_ret
        exact ⟨A', c', by rw [← HLEN.out.1]; rfl, HRO.out, by rw [hR]; exact HB.out, by rw [hR]; exact HNW.out⟩
      · go_wp2
        go_ret
        exact ⟨A', c', by rw [← HLEN.out.1]; rfl, HRO.out, by rw [hR]; exact HB.out, by rw [hR]; exact HNW.out⟩

/-- While what a program is begun with is cut. -/
structure Bx (w : World) (R : Nat) (u0 u1 u2 : Value) (v : World) : Prop where
  b : Blk v R 25 #[u0, u1, u2]
  z : Blk v (R + 1) 25 #[.slice none 0 0, .slice none 0 0, .slice none 0 0]
  bel : Below R w v
section
variable {w v v' : World} {R : Nat} {u0 u1 u2 : Value}
theorem Bx.start (w : World) {R : Nat} (hR : w.heap.size = R) (u0 u1 u2 : Value) : Bx w R u0 u1 u2 ((w.alloc (.cells #[u0, u1, u2] 25)).alloc (.cells #[.slice none 0 0, .slice none 0 0, .slice none 0 0] 25)) := by
  subst hR
  refine ⟨(Blk.new w _ _).alloc _, ?_, ((Below.refl _ _).alloc (Nat.le_refl _) _).alloc (by simp) _⟩
  have := Blk.new (w.alloc (.cells #[u0, u1, u2] 25)) 25 #[.slice none 0 0, .slice none 0 0, .slice none 0 0]
  simpa using this
theorem Bx.below (h : Bx w R u0 u1 u2 v) (hb : Below v.heap.size v v') : Bx w R u0 u1 u2 v' := ⟨h.b.below hb h.b.lt, h.z.below hb h.z.lt, h.bel.trans (hb.mono (Nat.le_of_lt h.b.lt))⟩
theorem Bx.s0 (h : Bx w R u0 u1 u2 v) (u : Value) : Bx w R u u1 u2 (v.setCell ⟨R, 0, none⟩ u) := ⟨by simpa using h.b.set_ 0 u, h.z.far (p := ⟨R, 0, none⟩) (by show R + 1 ≠ R; omega) u, h.bel.setCell (p := ⟨R, 0, none⟩) (Nat.le_refl _) u⟩
theorem Bx.s1 (h : Bx w R u0 u1 u2 v) (u : Value) : Bx w R u0 u u2 (v.setCell ⟨R, 1, none⟩ u) := ⟨by simpa using h.b.set_ 1 u, h.z.far (p := ⟨R, 1, none⟩) (by show R + 1 ≠ R; omega) u, h.bel.setCell (p := ⟨R, 1, none⟩) (Nat.le_refl _) u⟩
theorem Bx.s2 (h : Bx w R u0 u1 u2 v) (u : Value) : Bx w R u0 u1 u (v.setCell ⟨R, 2, none⟩ u) := ⟨by simpa using h.b.set_ 2 u, h.z.far (p := ⟨R, 2, none⟩) (by show R + 1 ≠ R; omega) u, h.bel.setCell (p := ⟨R, 2, none⟩) (Nat.le_refl _) u⟩
theorem blk3U {w : World} {b : Nat} {t : TypeId} {z0 z1 z2 : Value} (h : Blk w b t #[z0, z1, z2]) (u0 u1 u2 : Value) : Blk (((w.setCell ⟨b, 0, none⟩ u0).setCell ⟨b, 1, none⟩ u1).setCell ⟨b, 2, none⟩ u2) b t #[u0, u1, u2] := by
  have := (((h.set_ 0 u0).set_ 1 u1).set_ 2 u2)
  simpa only [List.setIfInBounds_toArray, List.set_cons_zero, List.set_cons_succ] using this
theorem Bx.fin (h : Bx w R u0 u1 u2 v) (a b c : Value) : Blk (((v.setCell ⟨R + 1, 0, none⟩ a).setCell ⟨R + 1, 1, none⟩ b).setCell ⟨R + 1, 2, none⟩ c) (R + 1) 25 #[a, b, c] ∧ Below R w (((v.setCell ⟨R + 1, 0, none⟩ a).setCell ⟨R + 1, 1, none⟩ b).setCell ⟨R + 1, 2, none⟩ c) :=
  ⟨blk3U h.z a b c, ((h.bel.setCell (p := ⟨R + 1, 0, none⟩) (Nat.le_succ _) a).setCell (p := ⟨R + 1, 1, none⟩) (Nat.le_succ _) b).setCell (p := ⟨R + 1, 2, none⟩) (Nat.le_succ _) c⟩
theorem Bx.cells (h : Bx w R u0 u1 u2 v) : v.cell? ⟨R, 0, none⟩ = some u0 ∧ v.cell? ⟨R, 1, none⟩ = some u1 ∧ v.cell? ⟨R, 2, none⟩ = some u2 ∧ v.frozen? ⟨R, 0, none⟩ = false ∧ v.frozen? ⟨R, 1, none⟩ = false ∧ v.frozen? ⟨R, 2, none⟩ = false :=
  ⟨h.b.at_ 0 _ rfl, h.b.at_ 1 _ rfl, h.b.at_ 2 _ rfl, h.b.frozen 0, h.b.frozen 1, h.b.frozen 2⟩
theorem Bx.zcells (h : Bx w R u0 u1 u2 v) : v.cell? ⟨R + 1, 0, none⟩ = some (.slice none 0 0) ∧ v.cell? ⟨R + 1, 1, none⟩ = some (.slice none 0 0) ∧ v.cell? ⟨R + 1, 2, none⟩ = some (.slice none 0 0) ∧ v.frozen? ⟨R + 1, 0, none⟩ = false ∧ v.frozen? ⟨R + 1, 1, none⟩ = false ∧ v.frozen? ⟨R + 1, 2, none⟩ = false :=
  ⟨h.z.at_ 0 _ rfl, h.z.at_ 1 _ rfl, h.z.at_ 2 _ rfl, h.z.frozen 0, h.z.frozen 1, h.z.frozen 2⟩
end
/-- What was cut. -/
def SmallT (w : World) (b : Bg) (e : Ending) (w' : World) : Prop := ∃ A c D d, e = .returned (.agg #[.slice A (fewL17 b.args).length c, .slice D (fewL17 b.env).length d, .slice b.X (b.aux.take 10).length b.x]) ∧ StrRow w' A (fewL17 b.args) ∧ StrRow w' D (fewL17 b.env) ∧ Below w.heap.size w w' ∧ (∀ ad, A = some ad → w.heap.size ≤ ad.block) ∧ (∀ ad, D = some ad → w.heap.size ≤ ad.block)

set_option maxRecDepth 100000 in
set_option maxHeartbeats 1600000 in
theorem small17 (b : Bg) (w : World) (h : b.In w) : Calls Try.prog 9 #[b.v] w (SmallT w b) := by
  obtain ⟨args, env, aux, A, D, X, c, d, x⟩ := b
  obtain ⟨h1, h2, h3, m1, m2, m3, m4⟩ := h
  simp only at *
  obtain ⟨R, hR⟩ : ∃ R, w.heap.size = R := ⟨_, rfl⟩
  obtain ⟨n3, hn3⟩ : ∃ n, aux.length = n := ⟨_, rfl⟩
  obtain ⟨k1, hk1⟩ : ∃ k, (fewL17 args).length = k := ⟨_, rfl⟩
  obtain ⟨k2, hk2⟩ : ∃ k, (fewL17 env).length = k := ⟨_, rfl⟩
  obtain ⟨mn, hmn⟩ : ∃ m, min 10 n3 = m := ⟨_, rfl⟩
  have HEND := Lib.hid (show ∀ e w' A1 c1 D1 d1, e = .returned (.agg #[.slice A1 k1 c1, .slice D1 k2 d1, .slice X mn x]) → StrRow w' A1 (fewL17 args) → StrRow w' D1 (fewL17 env) → Below R w w' → (∀ ad, A1 = some ad → R ≤ ad.block) → (∀ ad, D1 = some ad → R ≤ ad.block) → SmallT w ⟨args, env, aux, A, D, X, c, d, x⟩ e w' from fun e w' A1 c1 D1 d1 q1 q2 q3 q4 q5 q6 => by
    refine ⟨A1, c1, D1, d1, ?_, q2, q3, by rw [hR]; exact q4, by rw [hR]; exact q5, by rw [hR]; exact q6⟩
    rw [q1]
    simp only
    rw [List.length_take, hn3, hmn, hk1, hk2])
  generalize SmallT w ⟨args, env, aux, A, D, X, c, d, x⟩ = QQ at *
  unfold Bg.v
  simp only
  unfold maxLen at m4
  rw [hn3] at m3 ⊢
  have HMN := Lib.hid hmn
  clear hmn
  have HV1 := Lib.hid (fun v (hv : Below R w v) => few17 A args c v (strRow_below17 h1 hR.symm hv) m1)
  have HV2 := Lib.hid (fun v (hv : Below R w v) => few17 D env d v (strRow_below17 h2 hR.symm hv) m2)
  generalize args.length = n1 at *
  generalize env.length = n2 at *
  have HS0 := Lib.hid (Bx.start w hR (.slice A n1 c) (.slice D n2 d) (.slice X n3 x))
  obtain ⟨W0, hW⟩ : ∃ W, (w.alloc (.cells #[.slice A n1 c, .slice D n2 d, .slice X n3 x] 25)).alloc (.cells #[.slice none 0 0, .slice none 0 0, .slice none 0 0] 25) = W := ⟨_, rfl⟩
  rw [hW] at HS0
  have HW := Lib.hid hW
  clear hW h1 h2 h3 hn3
  obtain ⟨x0, x1, x2, y0, y1, y2⟩ := HS0.out.cells
  go_enter Try.func9, Try.ntmps9
  go_upto_region 1 with fail
  rw [HW.out]
  go_upto_region 2 with (go_at_call 20; (with_reducible refine (HV1.out _ HS0.out.bel).mono ?_); rintro e v1 ⟨A1, c1, rfl, hr1, hb1, hn1⟩; have HS1 := Lib.hid (HS0.out.below hb1); obtain ⟨p0, p1, p2, q0, q1, q2⟩ := HS1.out.cells)
  have HG := Lib.hid (show R + 1 < W0.heap.size from HS0.out.z.lt)
  have HNE1 := Lib.hid (show ∀ ad, A1 = some ad → ad.block ≠ R + 1 from fun ad e h => by have h1 := HG.out; have h2 := hn1 ad e; omega)
  have HN1 := Lib.hid (show ∀ ad, A1 = some ad → R < ad.block from fun ad e => Nat.lt_of_lt_of_le (Nat.lt_of_succ_lt HG.out) (hn1 ad e))
  have HR1 := Lib.hid (strRow_far17 hr1 (p := ⟨R, 0, none⟩) (fun ad e => by have := HN1.out ad e; show ad.block ≠ R; omega) (.slice A1 k1 c1))
  have HS2 := Lib.hid (HS1.out.s0 (.slice A1 k1 c1))
  clear x0 x1 x2 y0 y1 y2 p0 p1 p2 q0 q1 q2 hr1 hb1 hn1 HS0 HS1
  generalize v1.setCell ⟨R, 0, none⟩ (.slice A1 k1 c1) = W1 at *
  obtain ⟨x0, x1, x2, y0, y1, y2⟩ := HS2.out.cells
  go_upto_region 3 with (go_at_call 20; (with_reducible refine (HV2.out _ HS2.out.bel).mono ?_); rintro e v2 ⟨D1, d1, rfl, hr2, hb2, hn2⟩; have HS3 := Lib.hid (HS2.out.below hb2); obtain ⟨p0, p1, p2, q0, q1, q2⟩ := HS3.out.cells)
  have HG2 := Lib.hid (show R + 1 < W1.heap.size from HS2.out.z.lt)
  have HNE2 := Lib.hid (show ∀ ad, D1 = some ad → ad.block ≠ R + 1 from fun ad e h => by have h1 := HG2.out; have h2 := hn2 ad e; omega)
  have HN2 := Lib.hid (show ∀ ad, D1 = some ad → R < ad.block from fun ad e => Nat.lt_of_lt_of_le (Nat.lt_of_succ_lt HG2.out) (hn2 ad e))
  have HR1b := Lib.hid (strRow_far17 (strRow_below17 HR1.out rfl hb2) (p := ⟨R, 1, none⟩) (fun ad e => by have := HN1.out ad e; show ad.block ≠ R; omega) (.slice D1 k2 d1))
  have HR2 := Lib.hid (strRow_far17 hr2 (p := ⟨R, 1, none⟩) (fun ad e => by have := HN2.out ad e; show ad.block ≠ R; omega) (.slice D1 k2 d1))
  have HS4 := Lib.hid (HS3.out.s1 (.slice D1 k2 d1))
  clear x0 x1 x2 y0 y1 y2 p0 p1 p2 q0 q1 q2 hr2 hb2 hn2 HS2 HS3 HR1
  generalize v2.setCell ⟨R, 1, none⟩ (.slice D1 k2 d1) = W2 at *
  obtain ⟨x0, x1, x2, y0, y1, y2⟩ := HS4.out.cells
  obtain ⟨z0, z1, z2, v0, v1', v2'⟩ := HS4.out.zcells
  by_cases h10 : 10 < n3
  · have HM := Lib.hid (show mn = 10 from by have := HMN.out; omega)
    have i1 : (10 : Int) ≤ (x : Int) := by omega
    have i2 : ¬ x = 0 := by omega
    have i3 : (10 : Int) < (n3 : Int) := by omega
    have HS5 := Lib.hid (HS4.out.s2 (.slice X 10 x))
    have HR3 := Lib.hid (strRow_far17 HR1b.out (p := ⟨R, 2, none⟩) (fun ad e => by have := HN1.out ad e; show ad.block ≠ R; omega) (.slice X 10 x))
    have HR4 := Lib.hid (strRow_far17 HR2.out (p := ⟨R, 2, none⟩) (fun ad e => by have := HN2.out ad e; show ad.block ≠ R; omega) (.slice X 10 x))
    clear HS4 HR1b HR2 h10
    go_upto_region 5 with fail
    generalize W2.setCell ⟨R, 2, none⟩ (.slice X 10 x) = W3 at *
    clear x0 x1 x2 y0 y1 y2 z0 z1 z2 v0 v1' v2'
    obtain ⟨x0, x1, x2, y0, y1, y2⟩ := HS5.out.cells
    obtain ⟨z0, z1, z2, v0, v1', v2'⟩ := HS5.out.zcells
    have HF := Lib.hid (HS5.out.fin (.slice A1 k1 c1) (.slice D1 k2 d1) (.slice X 10 x))
    have HQ1 := Lib.hid (strRow_far17 (strRow_far17 (strRow_far17 HR3.out (p := ⟨R + 1, 0, none⟩) (fun ad e => HNE1.out ad e) (.slice A1 k1 c1)) (p := ⟨R + 1, 1, none⟩) (fun ad e => HNE1.out ad e) (.slice D1 k2 d1)) (p := ⟨R + 1, 2, none⟩) (fun ad e => HNE1.out ad e) (.slice X 10 x))
    have HQ2 := Lib.hid (strRow_far17 (strRow_far17 (strRow_far17 HR4.out (p := ⟨R + 1, 0, none⟩) (fun ad e => HNE2.out ad e) (.slice A1 k1 c1)) (p := ⟨R + 1, 1, none⟩) (fun ad e => HNE2.out ad e) (.slice D1 k2 d1)) (p := ⟨R + 1, 2, none⟩) (fun ad e => HNE2.out ad e) (.slice X 10 x))
    go_wp2
    refine bodyPost_ret (results_cell_row rfl _ _ (R + 1) 25 _ (0, 0) _ rfl HF.out.1 Try.underlying25 rfl (by kernel_rfl)) rfl ?_
    exact HEND.out _ _ A1 c1 D1 d1 (by rw [HM.out]) HQ1.out HQ2.out HF.out.2 (fun ad e => Nat.le_of_lt (HN1.out ad e)) (fun ad e => Nat.le_of_lt (HN2.out ad e))
  · have HM := Lib.hid (show mn = n3 from by have := HMN.out; omega)
    have i3 : ¬ (10 : Int) < (n3 : Int) := by omega
    have HF := Lib.hid (HS4.out.fin (.slice A1 k1 c1) (.slice D1 k2 d1) (.slice X n3 x))
    have HQ1 := Lib.hid (strRow_far17 (strRow_far17 (strRow_far17 HR1b.out (p := ⟨R + 1, 0, none⟩) (fun ad e => HNE1.out ad e) (.slice A1 k1 c1)) (p := ⟨R + 1, 1, none⟩) (fun ad e => HNE1.out ad e) (.slice D1 k2 d1)) (p := ⟨R + 1, 2, none⟩) (fun ad e => HNE1.out ad e) (.slice X n3 x))
    have HQ2 := Lib.hid (strRow_far17 (strRow_far17 (strRow_far17 HR2.out (p := ⟨R + 1, 0, none⟩) (fun ad e => HNE2.out ad e) (.slice A1 k1 c1)) (p := ⟨R + 1, 1, none⟩) (fun ad e => HNE2.out ad e) (.slice D1 k2 d1)) (p := ⟨R + 1, 2, none⟩) (fun ad e => HNE2.out ad e) (.slice X n3 x))
    clear h10
    go_wp2
    refine bodyPost_ret (results_cell_row rfl _ _ (R + 1) 25 _ (0, 0) _ rfl HF.out.1 Try.underlying25 rfl (by kernel_rfl)) rfl ?_
    exact HEND.out _ _ A1 c1 D1 d1 (by rw [HM.out]) HQ1.out HQ2.out HF.out.2 (fun ad e => Nat.le_of_lt (HN1.out ad e)) (fun ad e => Nat.le_of_lt (HN2.out ad e))
end Go.Proofs.Ytafogipkbhglcaa
