/- Package dynamic: Bytes. -/
import Derived.Test.YtmbglkebgeomcaaDoorDA
namespace Go.Proofs.YtmbglkebgeomcaaDoor
open Go.RowKit
set_option linter.unusedVariables false
set_option linter.unusedSimpArgs false

/-- An entry's bytes; a table's. -/
def entL (t n : Int) : List UInt8 := putL t.toNat 8 ++ putL n.toNat 8
def entsL (l : List (Int × Int)) : List UInt8 := l.flatMap fun e => entL e.1 e.2
theorem entL_length (t n : Int) : (entL t n).length = 16 := by simp [entL, putL_length]
theorem entsL_length (l : List (Int × Int)) : (entsL l).length = 16 * l.length := by
  induction l with
  | nil => rfl
  | cons e l ih => unfold entsL at *; rw [List.flatMap_cons, List.length_append, ih, entL_length, List.length_cons]; omega
theorem entsL_append (a b : List (Int × Int)) : entsL (a ++ b) = entsL a ++ entsL b := by unfold entsL; rw [List.flatMap_append]
theorem entsL_one (t n : Int) : entsL [(t, n)] = entL t n := by simp [entsL]
/-- The entries of a table that says d, all but the end. -/
def Dyn.need (d : Dyn) : List (Int × Int) := d.needed.map fun n => (1, max n 0)
def Dyn.one (d : Dyn) (q : Nat) : List (Int × Int) := if 0 < d.f (fixL.getD q 0) then [(ordL.getD q 0, d.f (fixL.getD q 0))] else []
def Dyn.nums (d : Dyn) (k : Nat) : List (Int × Int) := (List.range k).flatMap d.one
def Dyn.rs (d : Dyn) : List (Int × Int) := if 0 < d.f 6 then [(9, 24)] else []
def Dyn.ss (d : Dyn) : List (Int × Int) := if 0 < d.f 3 then [(11, 24)] else []
def Dyn.ents (d : Dyn) : List (Int × Int) := d.need ++ d.nums 8 ++ d.rs ++ d.ss
def Dyn.tabL (d : Dyn) : List UInt8 := entsL (d.ents ++ [(0, 0)])
theorem Dyn.one_le (d : Dyn) (q : Nat) : (d.one q).length ≤ 1 := by unfold Dyn.one; split <;> simp
theorem Dyn.nums_le (d : Dyn) (k : Nat) : (d.nums k).length ≤ k := by
  induction k with
  | zero => simp [Dyn.nums]
  | succ k ih => unfold Dyn.nums at *; rw [List.range_succ, List.flatMap_append, List.length_append]; have := d.one_le k; simp only [List.flatMap_cons, List.flatMap_nil, List.append_nil]; omega
theorem Dyn.ents_le (d : Dyn) : d.ents.length ≤ d.needed.length + 10 := by
  have h1 := d.nums_le 8
  have h2 : d.rs.length ≤ 1 := by unfold Dyn.rs; split <;> simp
  have h3 : d.ss.length ≤ 1 := by unfold Dyn.ss; split <;> simp
  simp only [Dyn.ents, Dyn.need, List.length_append, List.length_map]
  omega

/-- The builder, and how long what it holds is at most. -/
def Bp (B b : Nat) (l : List (Int × Int)) (m : Nat) (w : World) : Prop := Bd B b (entsL l) w ∧ l.length ≤ m
theorem Bp.below {B b m : Nat} {l : List (Int × Int)} {w w' : World} (h : Bp B b l m w) (hb : Below w.heap.size w w') : Bp B b l m w' := ⟨h.1.below hb, h.2⟩

set_option maxHeartbeats 800000 in
theorem dput_any (B b : Nat) (l : List UInt8) (t n : Int) (w : World) (ht : (Lit.int .u64 t).wf = true) (hn : (Lit.int .i64 n).wf = true) (h0 : 0 ≤ n) (h : Bd B b l w) (hl : l.length ≤ 1000000) :
    Calls Tryd.prog 21 #[.int .u64 t, .int .i64 n, .pointer (some ⟨b, 0, none⟩)] w fun e w' => e = .returned (.tuple #[]) ∧ Bd B b (l ++ entL t n) w' ∧ Below B w w' := by
  obtain ⟨h1, h2⟩ := bounds_i64 hn
  have hw : IntKind.u64.wrap n = n := by rw [IntKind.wrap_u64]; omega
  have hn8 : (Lit.int .u64 n).wf = true := by
    have e1 : IntKind.u64.min = 0 := rfl
    have e2 : IntKind.u64.max = 18446744073709551615 := by decide
    simp [Lit.wf, e1, e2]; omega
  have hp1 := fun w => put_any t 8 w ht (by decide)
  have hp2 := fun w => put_any n 8 w hn8 (by decide)
  rw [show wide 8 = 8 from rfl] at hp1 hp2
  have hz : ∀ k, (mkb (putL k 8)).size = 8 := fun k => by rw [mkb_size, putL_length]
  have hw1 := fun w (h : Bd B b l w) => bd_write B b l (mkb (putL t.toNat 8)) w h (by rw [hz]; omega)
  have hw2 := fun w (h : Bd B b (l ++ putL t.toNat 8) w) => bd_write B b _ (mkb (putL n.toNat 8)) w h (by rw [hz, List.length_append, putL_length]; omega)
  rw [hz, mkb_data] at hw1 hw2
  have HE := Lib.hid (show (l ++ putL t.toNat 8) ++ putL n.toNat 8 = l ++ entL t n by rw [entL, List.append_assoc])
  have HP1 := Lib.hid hp1
  have HP2 := Lib.hid hp2
  have HW1 := Lib.hid hw1
  have HW2 := Lib.hid hw2
  have hB := Below.refl B w
  have hle := h.le
  clear hp1 hp2 hw1 hw2 hz ht hn hn8
  generalize putL t.toNat 8 = L1 at *
  generalize putL n.toNat 8 = L2 at *
  go_enter Tryd.func21, Tryd.ntmps21
  go_wp2_with (first
    | (go_at_call 23; with_reducible refine (HP1.out _).mono ?_; rintro e v1 ⟨rfl, hb⟩; replace h := h.below hb; replace hB := hB.trans (hb.mono hle); clear hb)
    | (go_at_call 23; with_reducible refine (HP2.out _).mono ?_; rintro e v1 ⟨rfl, hb⟩; replace h := h.below hb; replace hB := hB.trans (hb.mono (Nat.le_trans hle hB.size)); clear hb)
    | (go_at_call 22; with_reducible refine (HW1.out _ h).mono ?_; rintro e v2 ⟨rfl, h3, hb⟩; clear h; have h := h3; clear h3; replace hB := hB.trans hb; clear hb)
    | (go_at_call 22; with_reducible refine (HW2.out _ h).mono ?_; rintro e v2 ⟨rfl, h3, hb⟩; clear h; have h := h3; clear h3; replace hB := hB.trans hb; clear hb))
  go_end0
  exact ⟨rfl, by rw [← HE.out]; exact h, hB⟩
theorem dput_p (B b : Nat) (l : List (Int × Int)) (m : Nat) (t n : Int) (w : World) (ht : (Lit.int .u64 t).wf = true) (hn : (Lit.int .i64 n).wf = true) (h0 : 0 ≤ n) (h : Bp B b l m w) (hl : m ≤ 60000) :
    Calls Tryd.prog 21 #[.int .u64 t, .int .i64 n, .pointer (some ⟨b, 0, none⟩)] w fun e w' => e = .returned (.tuple #[]) ∧ Bp B b (l ++ [(t, n)]) (m + 1) w' ∧ Below B w w' :=
  (dput_any B b (entsL l) t n w ht hn h0 h.1 (by rw [entsL_length]; have := h.2; omega)).mono fun e w' ⟨he, hb, hB⟩ => ⟨he, ⟨by rw [entsL_append, entsL_one]; exact hb, by have := h.2; simp; omega⟩, hB⟩

theorem infoU64d : (Tryd.prog.info? 42).map (fun i => (i.zero, i.size, i.bytes)) = some (some (.int .u64 0), 1, 8) := by kernel_rfl
/-- a[i] of eight tags by value. -/
theorem run_index8u (cs : Array Value) (i : Nat) (v : Value) (hi : i < 8) (hv : cs[i]? = some v) (w : World) : (Instr.index 43 (.agg cs) (.int .i64 (i : Int))).run Tryd.prog w = .ok v w := by
  obtain ⟨i0, hi0, hz0, hz1, hz2⟩ := info_parts infoU64d
  have h1 : (0 ≤ (i : Int) ∧ (i : Int) < ((8 : Nat) : Int)) := by omega
  have h2 := Tryd.underlying43
  simp [Instr.index, run_underlying h2, asIntOf, h1, go_sem, sizeOf, typeInfo, hi0, hz1, part, hv]
  intro h
  omega
theorem ordA_at {q : Nat} (h : q < 8) : ordA[q]? = some (.int .u64 (ordL.getD q 0)) := by
  match q, h with
  | 0, _ => rfl
  | 1, _ => rfl
  | 2, _ => rfl
  | 3, _ => rfl
  | 4, _ => rfl
  | 5, _ => rfl
  | 6, _ => rfl
  | 7, _ => rfl
theorem ordL_wf {q : Nat} (h : q < 8) : (Lit.int .u64 (ordL.getD q 0)).wf = true := by
  match q, h with
  | 0, _ => decide
  | 1, _ => decide
  | 2, _ => decide
  | 3, _ => decide
  | 4, _ => decide
  | 5, _ => decide
  | 6, _ => decide
  | 7, _ => decide

/-- number of a place in the table. -/
theorem number_ord (b q : Nat) (hq : q < 8) (w : World) :
    Calls Tryd.prog 24 #[.pointer (some ⟨b, 0, none⟩), .int .u64 (ordL.getD q 0)] w fun e w' => e = .returned (.pointer (some ⟨b, fixL.getD q 0, none⟩)) ∧ w = w' := by
  refine (dnumber_any b _ w).mono ?_
  rintro e w' ⟨he, hw⟩
  refine ⟨he.trans ?_, hw⟩
  obtain ⟨h1, h2⟩ := fixL_in hq
  unfold numV
  rw [fldI_ord hq, if_neg (by omega)]

set_option maxRecDepth 100000 in
set_option maxHeartbeats 3200000 in
theorem dbytes_any (d : Dyn) (A : Option Addr) (c : Nat) (w : World) (hT : Dyt w) (hw : d.wf) (hr : IntRow w A d.needed) (hl : d.needed.length ≤ 1000) :
    Calls Tryd.prog 9 #[.agg (d.cs (.slice A d.needed.length c))] w fun e w' => e = .returned (.string (mkb d.tabL)) ∧ Below w.heap.size w w' := by
  have hmf : ∀ (fn : Fn) (first cap : Array Value) (w : World), (Instr.makeFunc fn first cap).run Tryd.prog w = .ok (.func fn first cap) w := fun _ _ _ _ => rfl
  obtain ⟨n, hn⟩ : ∃ n, d.needed.length = n := ⟨_, rfl⟩
  obtain ⟨B, hBdef⟩ : ∃ B, w.heap.size + 1 = B := ⟨_, rfl⟩
  have HS := Lib.hid (fun (W0 : World) (hW0 : (w.alloc (.cells (d.cs (.slice A n c)) 26)).alloc (.cells #[.pointer none, .slice none 0 0] 56) = W0) =>
    show Bp B B [] 0 W0 ∧ Below w.heap.size w W0 ∧ Blk W0 w.heap.size 26 (d.cs (.slice A n c)) ∧ B ≤ W0.heap.size from by
    subst hBdef
    subst hW0
    refine ⟨⟨?_, by simp⟩, ((Below.refl _ _).alloc (Nat.le_refl _) _).alloc (by simp) _, (Blk.new w _ _).alloc _, by simp⟩
    have := Bd.new (w.alloc (.cells (d.cs (.slice A n c)) 26))
    simpa [entsL] using this)
  have HC := Lib.hid (fun v j (hj : 1 ≤ j ∧ j ≤ 8) (hv : Blk v w.heap.size 26 (d.cs (.slice A n c))) => show v.cell? ⟨w.heap.size, j, none⟩ = some (.int .i64 (d.f j)) from (hv.cell j).trans (d.at_ _ hj.1 hj.2))
  have HC0 := Lib.hid (fun v (hv : Blk v w.heap.size 26 (d.cs (.slice A n c))) => show v.cell? ⟨w.heap.size, 0, none⟩ = some (.slice A n c) from hv.cell 0)
  have HTR := Lib.hid (fun v (hv : Below w.heap.size w v) => show Dyt v ∧ IntRow v A d.needed from
    ⟨hT.on hv, intRow_below hr rfl hv⟩)
  have HPUT := Lib.hid (fun l m t n w ht hn h0 h hl => dput_p B B l m t n w ht hn h0 h hl)
  have wn : (Lit.int .i64 (n : Int)).wf = true := by
    have e1 : IntKind.i64.min = -9223372036854775808 := rfl
    have e2 : IntKind.i64.max = 9223372036854775807 := by decide
    simp [Lit.wf, e1, e2]; omega
  rw [hn]
  have HN := Lib.hid hn
  have HBD := Lib.hid hBdef
  have hBlt : w.heap.size < B := by omega
  have HWF := Lib.hid hw
  rw [hn] at hl
  clear hn hBdef hT hr hw
  unfold Dyn.cs at HS HC HC0 ⊢
  obtain ⟨TL, hTL⟩ : ∃ TL, TL = d.tabL := ⟨_, rfl⟩
  rw [← hTL]
  have HTL := Lib.hid hTL
  clear hTL
  go_enter Tryd.func9, Tryd.ntmps9
  go_wp2_with fail
  rw [HBD.out]
  generalize hW : (w.alloc (.cells #[.slice A n c, .int .i64 (d.f 1), .int .i64 (d.f 2), .int .i64 (d.f 3), .int .i64 (d.f 4), .int .i64 (d.f 5), .int .i64 (d.f 6), .int .i64 (d.f 7), .int .i64 (d.f 8)] 26)).alloc (.cells #[.pointer none, .slice none 0 0] 56) = W0
  obtain ⟨hQ, hBW, hK, hB0⟩ := HS.out W0 hW
  clear hW HS
  have hBe : Below B W0 W0 := Below.refl _ _
  have HK := Lib.hid (fun v (hv : Below B W0 v) => hK.below hv hBlt)
  have HV := Lib.hid (fun v (hv : Below B W0 v) => show Dyt v ∧ IntRow v A d.needed from HTR.out v (hBW.trans (hv.mono (by omega))))
  have k0 := HC0.out _ hK
  have HBW := Lib.hid hBW
  clear hK HTR hBW
  go_wp2_with fail
  go_loopw [15] (fun i wr => ∃ k : Nat, k ≤ n ∧ i = .int .i64 k ∧ Bp B B (d.need.take k) k wr ∧ Below B W0 wr) (fun i _ => n - (intOf i).toNat)
  case atStart => exact ⟨0, Nat.zero_le _, rfl, by simpa using hQ, hBe⟩
  case round =>
    clear k0
    obtain ⟨k, hk, rfl, hbd, hbe⟩ := hrel
    by_cases hlt : k < n
    · obtain ⟨hT, hr⟩ := HV.out _ hbe
      have hkl : k < d.needed.length := by rw [HN.out]; exact hlt
      obtain ⟨ad, rfl, hblt, c1, hwf⟩ := hr k hkl
      obtain ⟨z, hz⟩ : ∃ z, d.needed[k] = z := ⟨_, rfl⟩
      rw [hz] at c1 hwf
      have hzm : (Lit.int .i64 (max z 0)).wf = true := by
        rcases Int.le_total z 0 with h | h
        · rw [Int.max_eq_right h]; decide
        · rw [Int.max_eq_left h]; exact hwf
      have hm0 : 0 ≤ max z 0 := by omega
      have hnext : d.need.take (k + 1) = d.need.take k ++ [(1, max z 0)] := by
        rw [List.take_succ_eq_append_getElem (by simpa [Dyn.need] using hkl)]
        simp [Dyn.need, hz]
      have HP := Lib.hid (HPUT.out (d.need.take k) k 1 (max z 0) wr (by decide) hzm hm0 hbd (by omega))
      have HNX := Lib.hid hnext
      clear hz hT hr hbd hnext hzm
      go_wp2_with (go_at_call 21; with_reducible refine HP.out.mono ?_; rintro e v2 ⟨rfl, hb2, hB2⟩)
      go_roundw
      case rel => exact ⟨k + 1, by omega, by go_num, by rw [HNX.out]; exact hb2, hbe.trans hB2⟩
      case measure => simp [intOf]; omega
    · obtain rfl : k = n := by omega
      have hkn : d.need.take k = d.need := List.take_of_length_le (by simp [Dyn.need, HN.out])
      rw [hkn] at hbd
      clear hkn hlt
      have hT := (HV.out _ hbe).1
      have o0 := hT.ord 0 (by omega)
      have o1 := hT.ord 1 (by omega)
      have o2 := hT.ord 2 (by omega)
      have o3 := hT.ord 3 (by omega)
      have o4 := hT.ord 4 (by omega)
      have o5 := hT.ord 5 (by omega)
      have o6 := hT.ord 6 (by omega)
      have o7 := hT.ord 7 (by omega)
      simp only [ordL, List.getD_cons_zero, List.getD_cons_succ] at o0 o1 o2 o3 o4 o5 o6 o7
      clear hT
      go_wp2_with fail
      clear o0 o1 o2 o3 o4 o5 o6 o7
      have hbd0 : Bp B B (d.need ++ d.nums 0) (k + 0) wr := by simpa [Dyn.nums] using hbd
      clear hbd
      go_loopw [25] (fun i w2 => ∃ q : Nat, q ≤ 8 ∧ i = .int .i64 q ∧ Bp B B (d.need ++ d.nums q) (k + q) w2 ∧ Below B W0 w2) (fun i _ => 8 - (intOf i).toNat)
      case atStart => exact ⟨0, Nat.zero_le _, rfl, hbd0, hbe⟩
      case round =>
        clear hbd0 hbe
        obtain ⟨q, hq, rfl, hbd, hbe⟩ := hrel
        by_cases hq8 : q < 8
        · have hix := run_index8u ordA q _ hq8 (ordA_at hq8)
          unfold ordA at hix
          have hnum := fun v => number_ord w.heap.size q hq8 v
          obtain ⟨hf1, hf8⟩ := fixL_in hq8
          have c1 := HC.out _ _ ⟨hf1, hf8⟩ (HK.out _ hbe)
          have htw := ordL_wf hq8
          have hone : d.nums (q + 1) = d.nums q ++ d.one q := by
            unfold Dyn.nums
            rw [List.range_succ, List.flatMap_append]
            simp
          unfold Dyn.one at hone
          have hzw := HWF.out.num (fixL.getD q 0)
          generalize ordL.getD q 0 = tg at *
          generalize fixL.getD q 0 = fx at *
          obtain ⟨z, hz⟩ : ∃ z, d.f fx = z := ⟨_, rfl⟩
          rw [hz] at c1 hone hzw
          have HNX := Lib.hid hone
          have HNUM := Lib.hid hnum
          have HP := Lib.hid (fun (h0 : 0 < z) => HPUT.out (d.need ++ d.nums q) (k + q) tg z _ htw hzw (by omega) hbd (by omega))
          have HBd := Lib.hid hbd
          clear hone hnum hz hf1 hf8 htw hzw hbd
          by_cases h0 : 0 < z
          · go_wp2_with (first
              | (go_at_call 24; with_reducible refine (HNUM.out _).mono ?_; rintro e v2 ⟨rfl, rfl⟩)
              | (go_at_call 21; with_reducible refine (HP.out h0).mono ?_; rintro e v2 ⟨rfl, hb2, hB2⟩))
            go_roundw
            case rel => exact ⟨q + 1, by omega, by go_num, by rw [HNX.out, if_pos h0, ← List.append_assoc]; exact hb2, hbe.trans hB2⟩
            case measure => simp [intOf]; omega
          · go_wp2_with (go_at_call 24; with_reducible refine (HNUM.out _).mono ?_; rintro e v2 ⟨rfl, rfl⟩)
            go_roundw
            case rel => exact ⟨q + 1, by omega, by go_num, by rw [HNX.out, if_neg (by omega : ¬ 0 < z), List.append_nil]; exact ⟨HBd.out.1, by have := HBd.out.2; omega⟩, hbe⟩
            case measure => simp [intOf]; omega
        · obtain rfl : q = 8 := by omega
          clear hq8 hq
          have hk8 := HC.out _ 6 (by omega) (HK.out _ hbe)
          have HR := Lib.hid (show (0 < d.f 6 → d.rs = [(9, 24)]) ∧ (¬ 0 < d.f 6 → d.rs = []) ∧ (0 < d.f 3 → d.ss = [(11, 24)]) ∧ (¬ 0 < d.f 3 → d.ss = []) from
            ⟨fun h => if_pos h, fun h => if_neg h, fun h => if_pos h, fun h => if_neg h⟩)
          have HCC := Lib.hid (fun v (hv : Below B W0 v) => show v.cell? ⟨w.heap.size, 6, none⟩ = some (.int .i64 (d.f 6)) ∧ v.cell? ⟨w.heap.size, 3, none⟩ = some (.int .i64 (d.f 3)) from ⟨HC.out _ 6 (by omega) (HK.out _ hv), HC.out _ 3 (by omega) (HK.out _ hv)⟩)
          have HE := Lib.hid (show TL = entsL (d.need ++ d.nums 8 ++ d.rs ++ d.ss ++ [(0, 0)]) from HTL.out)
          have HP9 := Lib.hid (fun l m v (h : Bp B B l m v) hm => HPUT.out l m 9 24 v (by decide) (by decide) (by decide) h hm)
          have HP11 := Lib.hid (fun l m v (h : Bp B B l m v) hm => HPUT.out l m 11 24 v (by decide) (by decide) (by decide) h hm)
          have HP0 := Lib.hid (fun l m v (h : Bp B B l m v) hm => HPUT.out l m 0 0 v (by decide) (by decide) (by decide) h hm)
          have HSTR := Lib.hid (fun l m v (h : Bp B B (l ++ [(0, 0)]) m v) => bd_string B B (entsL (l ++ [(0, 0)])) v h.1 (by
            rw [entsL_append, entsL_one]
            intro h
            have := congrArg List.length h
            rw [List.length_append, entL_length] at this
            simp at this))
          obtain ⟨L0, hL0⟩ : ∃ L0, L0 = d.need ++ d.nums 8 := ⟨_, rfl⟩
          rw [← hL0] at hbd
          have HL0 := Lib.hid hL0
          clear hL0 hk8 HPUT HTL HC HC0 HK HV HWF
          obtain ⟨k6, k3⟩ := HCC.out _ hbe
          have HFIN := Lib.hid (fun v (hv : Below B W0 v) => show Below w.heap.size w v from HBW.out.trans (hv.mono (by omega)))
          by_cases h6 : 0 < d.f 6 <;> by_cases h3 : 0 < d.f 3
          all_goals
            go_wp2_with (first
              | (go_at_call 21; with_reducible refine (HP9.out _ _ _ hbd (by omega)).mono ?_; rintro e v2 ⟨rfl, hb2, hB2⟩; clear hbd; have hbd := hb2; clear hb2; replace hbe := hbe.trans hB2; clear hB2 k6 k3; obtain ⟨k6, k3⟩ := HCC.out _ hbe)
              | (go_at_call 21; with_reducible refine (HP11.out _ _ _ hbd (by omega)).mono ?_; rintro e v2 ⟨rfl, hb2, hB2⟩; clear hbd; have hbd := hb2; clear hb2; replace hbe := hbe.trans hB2; clear hB2 k6 k3; obtain ⟨k6, k3⟩ := HCC.out _ hbe)
              | (go_at_call 21; with_reducible refine (HP0.out _ _ _ hbd (by omega)).mono ?_; rintro e v2 ⟨rfl, hb2, hB2⟩; clear hbd; have hbd := hb2; clear hb2; replace hbe := hbe.trans hB2; clear hB2 k6 k3; obtain ⟨k6, k3⟩ := HCC.out _ hbe)
              | (go_at_call 25; with_reducible refine (HSTR.out _ _ _ hbd).mono ?_; rintro e v5 ⟨rfl, hb5⟩; replace hbe := hbe.trans hb5; clear hb5))
            go_ret
            refine ⟨?_, HFIN.out _ hbe⟩
            have e := HE.out
            rw [← HL0.out] at e
            obtain ⟨r1, r2, r3, r4⟩ := HR.out
            first
              | rw [r1 (by assumption), r3 (by assumption)] at e
              | rw [r1 (by assumption), r4 (by omega), List.append_nil] at e
              | rw [r2 (by omega), r3 (by assumption), List.append_nil] at e
              | rw [r2 (by omega), r4 (by omega), List.append_nil, List.append_nil] at e
            rw [e]
            show Ending.returned (Value.string (mkb (entsL _))) = Ending.returned (Value.string (mkb (entsL _)))
            simp only [List.append_assoc, List.cons_append, List.nil_append]
end Go.Proofs.YtmbglkebgeomcaaDoor
