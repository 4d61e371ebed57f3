/- Package elf: the tables; a segment's numbers; Header. -/
import Derived.Test.YtakmmphjdkapeaaDoorEC
import Derived.Deep.RegionHeld3
namespace Go.Proofs.YtakmmphjdkapeaaDoor
open Go.RowKit
set_option linter.unusedVariables false
set_option linter.unusedSimpArgs false

def widL : List Int := [4, 4, 8, 8, 8, 8, 8, 8]
def greatL : List Int := [1073741824, 7, 1099511627776, 1099511627776, 1099511627776, 1099511627776, 1099511627776, 1099511627776]
/-- The tables lie where they should. -/
structure ETab (w : World) : Prop where
  wid : ∀ i : Nat, i < 8 → w.cell? ⟨0, i, none⟩ = some (.int .i64 (widL.getD i 0))
  great : ∀ i : Nat, i < 8 → w.cell? ⟨1, i, none⟩ = some (.int .i64 (greatL.getD i 0))
theorem cell_ltE {w : World} {a : Addr} {v : Value} (h : w.cell? a = some v) : a.block < w.heap.size := by
  rcases Nat.lt_or_ge a.block w.heap.size with h' | h'
  · exact h'
  · simp [World.cell?, Array.getElem?_eq_none h'] at h
theorem ETab.pos {w : World} (h : ETab w) : 1 < w.heap.size := by
  have h1 := cell_ltE (h.wid 0 (by omega))
  have h2 := cell_ltE (h.great 0 (by omega))
  simp only at h1 h2
  omega
theorem ETab.below {w w' : World} (h : ETab w) {n : Nat} (hb : Below n w w') (hn : 1 < n) : ETab w' :=
  ⟨fun i hi => by rw [← h.wid i hi]; exact hb.cell (by simp only; omega), fun i hi => by rw [← h.great i hi]; exact hb.cell (by simp only; omega)⟩
theorem ETab.on {w w' : World} (h : ETab w) (hb : Below w.heap.size w w') : ETab w' := h.below hb h.pos
theorem ETab.drewN {w : World} (h : ETab w) (n : Nat) : ETab (w.drewN n) := ⟨h.wid, h.great⟩

/-- A segment's numbers, as they stand in a file. -/
def Seg.nums (s : Seg) : List Int := [s.ty, s.fl, s.off, s.ad, s.ad, s.sz, s.mem, s.al]
def Seg.numA (s : Seg) : Array Value := #[.int .i64 s.ty, .int .i64 s.fl, .int .i64 s.off, .int .i64 s.ad, .int .i64 s.ad, .int .i64 s.sz, .int .i64 s.mem, .int .i64 s.al]
theorem Seg.numA_at (s : Seg) {i : Nat} (hi : i < 8) : s.numA[i]? = some (.int .i64 (s.nums.getD i 0)) := by
  match i, hi with
  | 0, _ => rfl
  | 1, _ => rfl
  | 2, _ => rfl
  | 3, _ => rfl
  | 4, _ => rfl
  | 5, _ => rfl
  | 6, _ => rfl
  | 7, _ => rfl
theorem Seg.nums_wf {s : Seg} (h : s.wf) {i : Nat} (hi : i < 8) : (Lit.int .i64 (s.nums.getD i 0)).wf = true := by
  match i, hi with
  | 0, _ => exact h.ty
  | 1, _ => exact h.fl
  | 2, _ => exact h.off
  | 3, _ => exact h.ad
  | 4, _ => exact h.ad
  | 5, _ => exact h.sz
  | 6, _ => exact h.mem
  | 7, _ => exact h.al

/-- A number's bytes; below 0 as 0. -/
def numL (n : Int) (k : Nat) : List UInt8 := putL n.toNat k
def numsL (s : Seg) (i : Nat) : List UInt8 := numL (s.nums.getD i 0) (widL.getD i 0).toNat
def segL (s : Seg) : List UInt8 := (List.range 8).flatMap (numsL s)
def Img.baseL (x : Img) : List UInt8 :=
  [127, 69, 76, 70, 2, 1, 1, 0, 0, 0, 0, 0, 0, 0, 0, 0] ++ numL x.kind 2 ++ numL 62 2 ++ numL 1 4 ++ numL x.entry 8 ++ numL 64 8 ++ List.replicate 12 0 ++ numL 64 2 ++ numL 56 2 ++ numL x.segs.length 2 ++ List.replicate 6 0
def Img.headL (x : Img) : List UInt8 := x.baseL ++ x.segs.flatMap segL
theorem segL_length (s : Seg) : (segL s).length = 56 := by
  simp [segL, List.range_succ, numsL, numL, putL_length, widL]
theorem baseL_length (x : Img) : x.baseL.length = 64 := by simp [Img.baseL, numL, putL_length]
theorem segsL_length (l : List Seg) : (l.flatMap segL).length = 56 * l.length := by
  induction l with
  | nil => rfl
  | cons s l ih => rw [List.flatMap_cons, List.length_append, ih, segL_length, List.length_cons]; omega
theorem headL_len (x : Img) : x.headL.length = 64 + 56 * x.segs.length := by rw [Img.headL, List.length_append, baseL_length, segsL_length]

set_option maxHeartbeats 800000 in
theorem numbersOf_any (s : Seg) (w : World) : Calls Tryd.prog 37 #[s.v] w fun e w' => e = .returned (.agg s.numA) ∧ Below w.heap.size w w' := by
  obtain ⟨ty, fl, off, ad, sz, mem, al⟩ := s
  unfold Seg.v Seg.cs Seg.numA
  simp only
  have hB : Below w.heap.size w ((w.alloc (.cells #[.int .i64 ty, .int .i64 fl, .int .i64 off, .int .i64 ad, .int .i64 sz, .int .i64 mem, .int .i64 al] 47)).alloc (.cells #[.int .i64 ty, .int .i64 fl, .int .i64 off, .int .i64 ad, .int .i64 ad, .int .i64 sz, .int .i64 mem, .int .i64 al] 72)) := ((Below.refl _ _).alloc (Nat.le_refl _) _).alloc (by simp) _
  have HB := Lib.hid hB
  clear hB
  go_enter Tryd.func37, Tryd.ntmps37
  go_wp2
  exact bodyPost_ret (results_cell_row rfl _ _ (w.heap.size + 1) 72 _ (0, 0) _ rfl (by have := heap_alloc_new (w.alloc (.cells #[.int .i64 ty, .int .i64 fl, .int .i64 off, .int .i64 ad, .int .i64 sz, .int .i64 mem, .int .i64 al] 47)) (.cells #[.int .i64 ty, .int .i64 fl, .int .i64 off, .int .i64 ad, .int .i64 ad, .int .i64 sz, .int .i64 mem, .int .i64 al] 72); simpa using this) Tryd.underlying72 rfl (by kernel_rfl)) rfl ⟨rfl, HB.out⟩

set_option maxHeartbeats 800000 in
theorem hput_any (B b : Nat) (l : List UInt8) (n : Int) (k : Nat) (w : World) (hn : (Lit.int .i64 n).wf = true) (hk : k ≤ 8) (h : Bd B b l w) (hl : l.length ≤ 1000000) :
    Calls Tryd.prog 33 #[.int .i64 n, .int .i64 k, .pointer (some ⟨b, 0, none⟩)] w fun e w' => e = .returned (.tuple #[]) ∧ Bd B b (l ++ numL n k) w' ∧ Below B w w' := by
  obtain ⟨h1, h2⟩ := bounds_i64 hn
  obtain ⟨m, hm, hm0, hmt⟩ : ∃ m : Int, max n 0 = m ∧ (0 ≤ m ∧ m ≤ 9223372036854775807) ∧ m.toNat = n.toNat := ⟨max n 0, rfl, by omega, by omega⟩
  have hw : IntKind.u64.wrap m = m := by rw [IntKind.wrap_u64]; omega
  have hput := fun w => put_any m k w (by have e1 : IntKind.u64.min = 0 := rfl; have e2 : IntKind.u64.max = 18446744073709551615 := by decide
                                          simp [Lit.wf, e1, e2]; omega) (by have e1 : IntKind.i64.min = -9223372036854775808 := rfl; have e2 : IntKind.i64.max = 9223372036854775807 := by decide
                                                                            simp [Lit.wf, e1, e2]; omega)
  rw [hmt, show wide (k : Int) = k by unfold wide; omega] at hput
  have hz : (mkb (putL n.toNat k)).size = k := by rw [mkb_size, putL_length]
  have hwr := fun w (h : Bd B b l w) => bd_write B b l (mkb (putL n.toNat k)) w h (by rw [hz]; omega)
  rw [hz, mkb_data] at hwr
  have HP := Lib.hid hput
  have HW := Lib.hid hwr
  have hB := Below.refl B w
  have hle := h.le
  clear hput hwr hz
  unfold numL
  generalize putL n.toNat k = L at *
  have HM := Lib.hid hm
  clear hmt
  go_enter Tryd.func33, Tryd.ntmps33
  go_wp2_with (first
    | (go_at_call 35; with_reducible refine (HP.out _).mono ?_; rintro e v1 ⟨rfl, hb⟩; replace h := h.below hb; replace hB := hB.trans (hb.mono hle); clear hb)
    | (go_at_call 34; with_reducible refine (HW.out _ h).mono ?_; rintro e v2 ⟨rfl, h3, hb⟩; replace hB := hB.trans hb; clear hb h))
  go_end0
  exact ⟨rfl, h3, hB⟩

theorem infoInt8 : (Tryd.prog.info? 3).map (fun i => (i.zero, i.size, i.bytes)) = some (some (.int .i64 0), 1, 8) := by kernel_rfl
theorem isAgg_int8 (w : World) : (isAgg 3).run Tryd.prog w = .ok false w := by kernel_rfl
/-- a[i] of eight numbers by value. -/
theorem run_index8 (cs : Array Value) (i : Nat) (v : Value) (hi : i < 8) (hv : cs[i]? = some v) (w : World) : (Instr.index 72 (.agg cs) (.int .i64 (i : Int))).run Tryd.prog w = .ok v w := by
  obtain ⟨i0, hi0, hz0, hz1, hz2⟩ := info_parts infoInt8
  have h1 : (0 ≤ (i : Int) ∧ (i : Int) < ((8 : Nat) : Int)) := by omega
  have h2 := Tryd.underlying72
  simp [Instr.index, run_underlying h2, asIntOf, h1, go_sem, sizeOf, typeInfo, hi0, hz1, part, hv]
  intro h
  omega

theorem wid_nat (q : Nat) : ∃ k : Nat, widL.getD q 0 = (k : Int) ∧ k ≤ 8 := by
  match q with
  | 0 | 1 => exact ⟨4, rfl, by omega⟩
  | 2 | 3 | 4 | 5 | 6 | 7 => exact ⟨8, rfl, by omega⟩
  | q + 8 => exact ⟨0, by simp [widL], by omega⟩
theorem numsL_le (s : Seg) (q : Nat) : ((List.range q).flatMap (numsL s)).length ≤ 8 * q := by
  induction q with
  | zero => simp
  | succ q ih =>
    obtain ⟨k, hk, h8⟩ := wid_nat q
    rw [List.range_succ, List.flatMap_append, List.length_append]
    simp only [List.flatMap_cons, List.flatMap_nil, List.append_nil]
    have : (numsL s q).length = k := by unfold numsL numL; rw [hk, putL_length]; simp
    omega
end Go.Proofs.YtakmmphjdkapeaaDoor
