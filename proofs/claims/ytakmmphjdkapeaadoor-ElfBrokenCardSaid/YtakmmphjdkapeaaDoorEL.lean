/- Package elf: numbers of a file; rows of segments of a call's own. -/
import Derived.Test.YtakmmphjdkapeaaDoorEK
import Derived.Test.YtakmmphjdkapeaaDoorEE
import Derived.Deep.AppendLies
import Derived.Deep.RegionLaw
import Derived.BigRegion
import Derived.RegionTactic
namespace Go.Proofs.YtakmmphjdkapeaaDoor
open Go.RowKit
set_option linter.unusedVariables false
set_option linter.unusedSimpArgs false

/-- A number that stands in a file, as an int. -/
def numS (s : ByteArray) (a w : Nat) : Int := wrap64 (getN s a w)
theorem numS_wf (s : ByteArray) (a w : Nat) : (Lit.int .i64 (numS s a w)).wf = true := wrap64_wf _
theorem i64_wf {z : Int} (h : -9223372036854775808 ≤ z ∧ z ≤ 9223372036854775807) : (Lit.int .i64 z).wf = true := by
  have e1 : IntKind.i64.min = -9223372036854775808 := rfl
  have e2 : IntKind.i64.max = 9223372036854775807 := by decide
  simp [Lit.wf, e1, e2]
  omega

set_option maxHeartbeats 800000 in
theorem number_any (s : ByteArray) (a n : Nat) (w : World) (ha : a ≤ 1000000000000) (hn : n ≤ 100) (hs : s.size ≤ 281474976710656) :
    Calls Tryd.prog 52 #[.string s, .int .i64 a, .int .i64 n] w fun e w' => e = .returned (.int .i64 (numS s a n)) ∧ w = w' := by
  have HG := Lib.hid (fun w => get_any s a n w (i64_wf (by omega)) (i64_wf (by omega)) hs)
  unfold numS
  generalize getN s a n = z at *
  generalize hol s.size a n = h at *
  go_enter Tryd.func52, Tryd.ntmps52
  go_wp2_with (go_at_call 60; refine (HG.out _).mono ?_; rintro e w' ⟨rfl, rfl⟩)
  go_ret
  exact ⟨rfl, rfl⟩

/-- The cells of segments. -/
def segCells (l : List Seg) : List Value := l.flatMap fun s => s.cs.toList
theorem segCells_length : ∀ l, (segCells l).length = l.length * 7
  | [] => rfl
  | e :: l => by
    have h := segCells_length l
    unfold segCells at *
    rw [List.flatMap_cons, List.length_append, h]
    simp [Seg.cs]; omega
theorem segCells_at : ∀ (l : List Seg) (k : Nat) (h : k < l.length) (j : Nat), j < 7 → (segCells l)[k * 7 + j]? = (l[k].cs)[j]?
  | e :: l, 0, _, j, hj => by
    unfold segCells
    rw [List.flatMap_cons, Nat.zero_mul, Nat.zero_add, List.getElem?_append_left (by simp [Seg.cs]; omega)]
    simp
  | e :: l, k + 1, h, j, hj => by
    have h1 := segCells_at l k (by simpa using h) j hj
    unfold segCells at *
    rw [List.flatMap_cons, List.getElem?_append_right (by simp [Seg.cs]; omega), show (k + 1) * 7 + j - e.cs.toList.length = k * 7 + j by simp [Seg.cs]; omega]
    exact h1
theorem segCells_snoc (l : List Seg) (s : Seg) : segCells (l ++ [s]) = segCells l ++ [.int .i64 s.ty, .int .i64 s.fl, .int .i64 s.off, .int .i64 s.ad, .int .i64 s.sz, .int .i64 s.mem, .int .i64 s.al] := by simp [segCells, Seg.cs]

/-- What a call's own row of segments is. -/
theorem SegRow.of_own {w : World} {B n : Nat} {v : Value} {l : List Seg} (h : w.ownsRow B 47 7 v n (segCells l)) (hw : ∀ s, s ∈ l → s.wf) : ∃ A c, v = .slice A l.length c ∧ SegRow w A l ∧ ∀ ad, A = some ad → B ≤ ad.block := by
  have hl := h.1
  rw [segCells_length] at hl
  obtain rfl : n = l.length := by omega
  rcases h.2 with ⟨rfl, h0⟩ | ⟨g, cap, cur, rfl, hbg, hg, _, _, _, ht⟩
  · have : l = [] := List.length_eq_zero_iff.1 h0
    subst this
    exact ⟨none, 0, rfl, fun i hi => absurd hi (by simp), fun ad e => by cases e⟩
  · refine ⟨_, cap, rfl, fun i hi => ⟨⟨g, 0, none⟩, rfl, (show Blk w g _ cur from hg).lt, fun j hj => ?_, hw _ (List.getElem_mem hi)⟩, fun ad e => by cases e; exact hbg⟩
    have h1 := segCells_at l i hi j hj
    rw [← ht, List.getElem?_take, if_pos (by omega)] at h1
    have e : (⟨g, 0, none⟩ : Addr).add (i * 7 + j) = ⟨g, i * 7 + j, none⟩ := by unfold Addr.add; split <;> simp_all
    rw [e, (show Blk w g _ cur from hg).cell]
    simpa using h1
theorem infoSeg : (Tryd.prog.info? 47).map (fun i => (i.zero, i.size, i.bytes)) = some (some (.agg #[.int .i64 0, .int .i64 0, .int .i64 0, .int .i64 0, .int .i64 0, .int .i64 0, .int .i64 0]), 7, 56) := by kernel_rfl

set_option maxHeartbeats 800000 in
theorem segment_any (a b c d e f g h : Int) (w : World) : Calls Tryd.prog 53 #[.agg #[.int .i64 a, .int .i64 b, .int .i64 c, .int .i64 d, .int .i64 e, .int .i64 f, .int .i64 g, .int .i64 h]] w fun e' w' =>
    e' = .returned (.agg #[.int .i64 a, .int .i64 b, .int .i64 c, .int .i64 d, .int .i64 f, .int .i64 g, .int .i64 h]) ∧ Below w.heap.size w w' := by
  have HB := Lib.hid (((Below.refl w.heap.size w).alloc (Nat.le_refl _) (.cells #[.int .i64 a, .int .i64 b, .int .i64 c, .int .i64 d, .int .i64 e, .int .i64 f, .int .i64 g, .int .i64 h] 72)).alloc (by simp) (.cells #[.int .i64 a, .int .i64 b, .int .i64 c, .int .i64 d, .int .i64 f, .int .i64 g, .int .i64 h] 47))
  go_enter Tryd.func53, Tryd.ntmps53
  go_wp2
  exact bodyPost_ret (results_cell_row rfl _ _ (w.heap.size + 1) 47 _ (0, 0) _ rfl (by have := heap_alloc_new (w.alloc (.cells #[.int .i64 a, .int .i64 b, .int .i64 c, .int .i64 d, .int .i64 e, .int .i64 f, .int .i64 g, .int .i64 h] 72)) (.cells #[.int .i64 a, .int .i64 b, .int .i64 c, .int .i64 d, .int .i64 f, .int .i64 g, .int .i64 h] 47); simpa using this) Tryd.underlying47 rfl (by kernel_rfl)) rfl ⟨rfl, HB.out⟩

/-- Where a segment's number stands. -/
def offL : List Nat := [0, 4, 8, 16, 24, 32, 40, 48, 56]
def wdL : List Nat := [4, 4, 8, 8, 8, 8, 8, 8]
/-- The numbers of a segment that stands at a. -/
def numAt (s : ByteArray) (a i : Nat) : Int := numS s (a + offL.getD i 0) (wdL.getD i 0)
def segAt (s : ByteArray) (a : Nat) : Seg := ⟨numAt s a 0, numAt s a 1, numAt s a 2, numAt s a 3, numAt s a 5, numAt s a 6, numAt s a 7⟩
theorem segAt_wf (s : ByteArray) (a : Nat) : (segAt s a).wf := ⟨numS_wf _ _ _, numS_wf _ _ _, numS_wf _ _ _, numS_wf _ _ _, numS_wf _ _ _, numS_wf _ _ _, numS_wf _ _ _⟩
/-- How many segments are read. -/
def manyS (s : ByteArray) : Nat := min (numS s 56 2).toNat 17
def segsAt (s : ByteArray) (k : Nat) : List Seg := (List.range k).map fun i => segAt s (64 + 56 * i)
theorem segsAt_succ (s : ByteArray) (k : Nat) : segsAt s (k + 1) = segsAt s k ++ [segAt s (64 + 56 * k)] := by simp [segsAt, List.range_succ]
theorem segsAt_length (s : ByteArray) (k : Nat) : (segsAt s k).length = k := by simp [segsAt]
theorem segsAt_wf (s : ByteArray) (k : Nat) : ∀ t, t ∈ segsAt s k → t.wf := fun t ht => by
  obtain ⟨i, _, rfl⟩ := List.mem_map.1 ht
  exact segAt_wf _ _
def readS (s : ByteArray) : Img := ⟨numS s 16 2, numS s 24 8, segsAt s (manyS s)⟩

/-- A row of eight numbers, of which so many are there. -/
def numRow (f : Nat → Int) (q : Nat) : Array Value := ((List.range 8).map fun i => Value.int .i64 (if i < q then f i else 0)).toArray
theorem numRow_at (f : Nat → Int) {q : Nat} (hq : q < 8) : (numRow f q)[q]? = some (.int .i64 0) := by simp [numRow, hq]
theorem numRow_set (f : Nat → Int) {q : Nat} (hq : q < 8) : (numRow f q).setIfInBounds q (.int .i64 (f q)) = numRow f (q + 1) := by
  match q, hq with
  | 0, _ | 1, _ | 2, _ | 3, _ | 4, _ | 5, _ | 6, _ | 7, _ => rfl
theorem numRow_full (f : Nat → Int) : numRow f 8 = #[.int .i64 (f 0), .int .i64 (f 1), .int .i64 (f 2), .int .i64 (f 3), .int .i64 (f 4), .int .i64 (f 5), .int .i64 (f 6), .int .i64 (f 7)] := rfl
theorem numRow_zero (f : Nat → Int) : numRow f 0 = #[.int .i64 0, .int .i64 0, .int .i64 0, .int .i64 0, .int .i64 0, .int .i64 0, .int .i64 0, .int .i64 0] := rfl
def widA : Array Value := #[.int .i64 4, .int .i64 4, .int .i64 8, .int .i64 8, .int .i64 8, .int .i64 8, .int .i64 8, .int .i64 8]
theorem wid_off {q : Nat} (hq : q < 8) : widA[q]? = some (.int .i64 (wdL.getD q 0 : Nat)) ∧ offL.getD (q + 1) 0 = offL.getD q 0 + wdL.getD q 0 ∧ wdL.getD q 0 ≤ 8 ∧ offL.getD q 0 ≤ 48 := by
  match q, hq with
  | 0, _ | 1, _ | 2, _ | 3, _ | 4, _ | 5, _ | 6, _ | 7, _ => exact ⟨rfl, rfl, by decide, by decide⟩
end Go.Proofs.YtakmmphjdkapeaaDoor
