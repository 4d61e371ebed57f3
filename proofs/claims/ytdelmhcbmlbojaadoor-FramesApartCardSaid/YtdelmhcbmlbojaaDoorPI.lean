/- An array of arrays beside a pool: one loaded, one stored; what a page has beside a word that was stored. -/
import Derived.Test.YtdelmhcbmlbojaaDoorPH
import Derived.Test.YtdelmhcbmlbojaaDoorPG
import Derived.Test.YtdelmhcbmlbojaaDoorBits
import Derived.Test.YtdelmhcbmlbojaaDoorOpen
import Derived.Deep.WholeRow
namespace Go.Proofs.YtdelmhcbmlbojaaDoor
open Go.RowKit
set_option linter.unusedVariables false

/-- Cells of numbers. -/
def ucells (W : List Int) : Array Value := (W.map (Value.int .u64)).toArray
theorem ucells_set (W : List Int) (k : Nat) (x : Int) : (ucells W).setIfInBounds k (.int .u64 x) = ucells (W.set k x) := by simp [ucells, List.map_set]
theorem ucells_at {W : List Int} {k : Nat} {x : Int} (h : W[k]? = some x) : (ucells W)[k]? = some (.int .u64 x) := by simp [ucells, h]

/-- A whole array out of the middle of a block. -/
theorem wpList_load_at {P : Program} {ops : Array Oper} {rest : List Oper} {o : Oper} {a : Act} {w : World} {Q : Exit → Act → World → Prop} (hgd : o.guard = none) (ty : TypeId) (x : Operand) (ho : o.op = .load ty x)
    (g off n : Nat) (hx : a.eval x = .pointer (some ⟨g, off, none⟩)) (t : TypeId) (cs : Array Value) (d : TypeDesc) (hg : Blk w g t cs)
    (hu : P.underlying ty = some d) (hd : (match d with | .struct _ | .array _ _ => true | _ => false) = true) (hi : (P.info? ty).map (·.size) = some n) (hn : off + n ≤ cs.size)
    (h : wpList P ops Q rest (a.put o.dst (.agg ((cs.toList.drop off).take n).toArray)) w) : wpList P ops Q (o :: rest) a w := by
  have hlen : ((cs.toList.drop off).take n).length = n := by simp; omega
  have hl : (loadCells ⟨g, off, none⟩ n).run P w = .ok ((cs.toList.drop off).take n).toArray w := by
    have := run_loadCells_list (P := P) w ⟨g, off, none⟩ ((cs.toList.drop off).take n) (fun j v hv => by
      have hadd : (⟨g, off, none⟩ : Addr).add j = ⟨g, off + j, none⟩ := by
        unfold Addr.add
        split
        · next h => subst h; rfl
        · rfl
      have hj : j < n := by
        have := (List.getElem?_eq_some_iff.1 hv).1
        omega
      rw [hadd, hg.cell]
      rw [List.getElem?_take_of_lt hj, List.getElem?_drop] at hv
      simpa using hv)
    rwa [hlen] at this
  refine wpList_plain hgd fun _ hK => ?_
  cases hq : P.info? ty with
  | none => simp [hq] at hi
  | some i =>
    have hs : i.size = n := by simpa [hq] using hi
    have hagg : (isAgg ty).run P w = .ok true w := by
      unfold isAgg
      rw [Sem.run_bind, run_underlying hu w]
      cases d <;> simp_all
    have hv : (loadVar ty ⟨g, off, none⟩).run P w = .ok (.agg ((cs.toList.drop off).take n).toArray) w := by
      simp [loadVar, Sem.run_bind, hagg, sizeOf, typeInfo, hq, hs, hl]
    unfold Oper.wp execOp
    simp only [ho, hx, Instr.loadAt, Instr.sureAddr, Sem.run_bind, Sem.run_pure, Result.andThen_ok, hv]
    exact hK _ _ h

/-- A whole array into the middle of a block. -/
theorem wpList_store_at {P : Program} {ops : Array Oper} {rest : List Oper} {o : Oper} {a : Act} {w : World} {Q : Exit → Act → World → Prop} (hgd : o.guard = none) (ty : TypeId) (x y : Operand) (ho : o.op = .store ty x y)
    (g off n : Nat) (vs : List Value) (hx : a.eval x = .pointer (some ⟨g, off, none⟩)) (hy : a.eval y = .agg vs.toArray) (t : TypeId) (cs : Array Value) (hg : Blk w g t cs)
    (hi : (P.info? ty).map (·.size) = some n) (hv : vs.length = n) (hn : off + n ≤ cs.size) (h1 : ∀ v ∈ vs, v.oneCell' = true)
    (h : ∀ w', w' = w.setRow g (cs.toList.take off ++ vs ++ cs.toList.drop (off + n)).toArray → wpList P ops Q rest (a.put o.dst undef) w') : wpList P ops Q (o :: rest) a w := by
  have hst := run_storeCells_at P g off t vs 0 cs w hg (by omega) h1
  simp only [Nat.add_zero, hv] at hst
  refine wpList_plain hgd fun _ hK => ?_
  cases hq : P.info? ty with
  | none => simp [hq] at hi
  | some i =>
    have hs : i.size = n := by simpa [hq] using hi
    have hr : (storeVar ty ⟨g, off, none⟩ (.agg vs.toArray)).run P w = .ok () (w.setRow g (cs.toList.take off ++ vs ++ cs.toList.drop (off + n)).toArray) := by
      simp [storeVar, sizeOf, typeInfo, hq, hs, Value.cells, hv, hst]
    unfold Oper.wp execOp
    simp only [ho, hx, hy, Instr.storeAt, Instr.sureAddr, Sem.run_bind, Sem.run_pure, Result.andThen_ok, hr]
    exact hK _ _ (h _ rfl)

theorem Pw.other {w cur nxt : World} {p h g b : Nat} {X : Pol} (s : Pw w cur p h g X) (hb : But (· = b) cur nxt) (bp : b ≠ p) (bh : b ≠ h) (bg : b ≠ g) (wb : w.heap.size ≤ b) : Pw w nxt p h g X :=
  ⟨s.wp, s.wh, s.wg, s.bel.trans (hb.below s.bel.size (fun j e => by omega)), s.pl.but hb (fun e => bp e.symm) (fun e => bh e.symm) (fun e => bg e.symm), s.tab.but hb (fun e => by have := s.pos; omega), s.pos⟩
theorem Mm.row {w cur : World} {p h g b : Nat} {t : TypeId} {cs : Array Value} {X : Pol} (s : Mm w cur p h g b t cs X) (c' : Array Value) : Mm w (cur.setRow b c') p h g b t c' X :=
  ⟨s.sw.other ((But.refl (· = b) cur).grown (grownBy_setRow cur b c') (fun k e => by injection e with e; exact .inl e.symm)) s.bp s.bh s.bg s.wb, s.blk.setRow c', s.bp, s.bh, s.bg, s.wb⟩

theorem putAt_below {o s : ByteArray} {n m V : Nat} (h : m + V ≤ n) (hn : n ≤ o.size) : (putAt o n s).extract m (m + V) = o.extract m (m + V) := by
  have h1 : (o.data.toList.take n).length = n := by rw [List.length_take, len_data]; omega
  rw [extract_mkb, extract_mkb]
  unfold putAt
  rw [mkb_data, List.append_assoc, List.drop_append_of_le_length (by omega), List.take_append_of_le_length (by rw [List.length_drop]; omega), List.drop_take, List.take_take, Nat.add_sub_cancel_left, Nat.min_eq_left (by omega)]
theorem putAt_above {o s : ByteArray} {n m e : Nat} (h : n + s.size ≤ m) (hn : n ≤ o.size) : (putAt o n s).extract m e = o.extract m e := by
  have h1 : (o.data.toList.take n ++ s.data.toList).length = n + s.size := by rw [List.length_append, List.length_take, len_data, len_data]; omega
  rw [extract_mkb, extract_mkb]
  unfold putAt
  rw [mkb_data, List.drop_append, h1, List.drop_of_length_le (by omega), List.nil_append, List.drop_drop, show n + s.size + (m - (n + s.size)) = m by omega]

/-- The word of four bytes at a place. -/
def w4 (o : ByteArray) (k : Nat) : Int := readV 3 (partS o ((4 * k : Nat) : Int) 4)
theorem w4_same {o : ByteArray} {k : Nat} {x : Int} (ho : o.size = 64) (hk : k < 16) (x0 : 0 ≤ x) (x1 : x < 4294967296) : w4 (setS o ((4 * k : Nat) : Int) 4 x.toNat) k = x := by
  have hi : inn ((4 * k : Nat) : Int) (wid 3) 64 = true := by rw [inn_iff, show wid 3 = 4 from rfl]; omega
  have := part_set (o := o) (a := ((4 * k : Nat) : Int)) (k := 3) (x := x) ho hi (by decide) x0 (by omega)
  unfold w4
  rw [show wid 3 = 4 from rfl] at this
  rw [this]
  simp [clipS]
  omega
theorem w4_else {o : ByteArray} {k j : Nat} {x : Nat} (ho : o.size = 64) (hk : k < 16) (hj : j < 16) (hne : k ≠ j) : w4 (setS o ((4 * k : Nat) : Int) 4 x) j = w4 o j := by
  unfold w4
  congr 1
  have e1 := setS_in (o := o) (n := 4 * k) (W := 4) (x := x) ho (by omega) (by omega) (by omega)
  have hs : (mkb (putL x 4)).size = 4 := by rw [mkb_size, putL_length]
  have e2 : (putAt o (4 * k) (mkb (putL x 4))).size = 64 := by rw [putAt_size (by omega), ho]
  have hi : inn ((4 * j : Nat) : Int) 4 ((64 : Nat) : Int) = true := by rw [inn_iff]; omega
  rw [show setS o ((4 * k : Nat) : Int) 4 x = putAt o (4 * k) (mkb (putL x 4)) from e1]
  unfold partS
  rw [e2, ho, if_pos hi, if_pos hi, Int.toNat_natCast, show (4 : Int).toNat = 4 from rfl]
  rcases Nat.lt_or_gt_of_ne hne with h | h
  · exact putAt_above (by omega) (by omega)
  · exact putAt_below (by omega) (by omega)
theorem w4_zero : ∀ k : Nat, k < 16 → w4 zsec k = 0 := by
  have h : ∀ k : Fin 16, w4 zsec k.1 = 0 := by decide +kernel
  exact fun k hk => h ⟨k, hk⟩
end Go.Proofs.YtdelmhcbmlbojaaDoor
