/- Package symbol: number, Count, chain. -/
import Derived.Test.YtkembimfkoganaaYD
namespace Go.Proofs.Ytkembimfkoganaa
open Go.RowKit
set_option linter.unusedVariables false
set_option linter.unusedSimpArgs false

/-- A number of the table at f. -/
def numV (s : ByteArray) (f : Int) (i : Nat) : Nat := if 1 ≤ f ∧ f ≤ s.size then (getN (restS s f) ((i : Int) * 4) 4).toNat else 0
theorem numV_lt (s : ByteArray) (f : Int) (i : Nat) : numV s f i < 4294967296 := by
  unfold numV
  have := getN_in (restS s f) ((i : Int) * 4) 4 (by omega)
  simp only [show ((4 : Nat) : Int) = 4 from rfl] at this
  split <;> omega
def cntV (s : ByteArray) (f : Int) : Nat := if numV s f 1 ≤ 4096 then numV s f 1 else 0
theorem cntV_le (s : ByteArray) (f : Int) : cntV s f ≤ 4096 := by unfold cntV; split <;> omega

set_option maxRecDepth 100000 in
set_option maxHeartbeats 1600000 in
theorem snum_any (s : ByteArray) (d : Dyn) (v : Value) (i : Nat) (w : World) (hd : d.wf) (hi : i ≤ 1000000000000) (hs : s.size ≤ 1000000) :
    Calls Try.prog 30 #[.string s, .agg (d.cs v), .int .i64 i] w fun e w' => (∃ b, e = .returned (.tuple #[.int .i64 (numV s (d.f 4) i : Nat), .bool b])) ∧ Below w.heap.size w w' := by
  unfold Dyn.cs
  have w4 := hd.num 4
  generalize d.f 1 = d1 at *
  generalize d.f 2 = d2 at *
  generalize d.f 3 = d3 at *
  generalize d.f 4 = f at *
  generalize d.f 5 = d5 at *
  generalize d.f 6 = d6 at *
  generalize d.f 7 = d7 at *
  generalize d.f 8 = d8 at *
  clear hd
  obtain ⟨f1, f2⟩ := bounds_i64 w4
  obtain ⟨R, hR⟩ : ∃ R, w.heap.size = R := ⟨_, rfl⟩
  obtain ⟨W, hW⟩ : ∃ W, w.alloc (.cells #[v, .int .i64 d1, .int .i64 d2, .int .i64 d3, .int .i64 f, .int .i64 d5, .int .i64 d6, .int .i64 d7, .int .i64 d8] 38) = W := ⟨_, rfl⟩
  have hk : Blk W R 38 #[v, .int .i64 d1, .int .i64 d2, .int .i64 d3, .int .i64 f, .int .i64 d5, .int .i64 d6, .int .i64 d7, .int .i64 d8] := by rw [← hW, ← hR]; exact Blk.new _ _ _
  have hB : Below R w W := by rw [← hW, ← hR]; exact (Below.refl _ _).alloc (Nat.le_refl _) _
  have c4 : W.cell? ⟨R, 4, none⟩ = some (.int .i64 f) := hk.at_ 4 _ rfl
  have HW := Lib.hid hW
  have HB := Lib.hid hB
  clear hW hk hB
  have HIN := Lib.hid (fun u => within_any f 0 s.size u w4 (by decide) (by omega))
  obtain ⟨X, hX⟩ : ∃ X, numV s f i = X := ⟨_, rfl⟩
  rw [hX, hR]
  by_cases hf1 : f < 1
  · obtain rfl : X = 0 := by rw [← hX]; unfold numV; rw [if_neg (by omega)]
    clear hX HIN
    go_enter Try.func30, Try.ntmps30
    go_upto_region 1 with fail
    rw [HW.out]
    go_wp2
    go_ret2
    exact ⟨⟨_, rfl⟩, HB.out⟩
  · by_cases hf2 : f ≤ s.size
    · have hii : inn f 0 s.size = true := by rw [inn_iff]; omega
      rw [hii] at HIN
      have hrs := restS_size s (f := f) (by omega) hf2
      have hXe : ((X : Nat) : Int) = getN (restS s f) ((i : Int) * 4) 4 := by
        have := getN_in (restS s f) ((i : Int) * 4) 4 (by omega)
        simp only [show ((4 : Nat) : Int) = 4 from rfl] at this
        rw [← hX]; unfold numV; rw [if_pos (by omega)]
        omega
      have hXl : X < 4294967296 := by rw [← hX]; exact numV_lt _ _ _
      obtain ⟨F, rfl⟩ : ∃ F : Nat, f = F := ⟨f.toNat, by omega⟩
      have hre : restS s F = s.extract F s.size := by unfold restS; rw [Int.toNat_natCast]
      have hg := fun u => get_any (restS s F) ((i : Int) * 4) 4 u (WalkArith.wf_i64 (by omega)) (by decide) (by omega)
      rw [← hXe, hre] at hg
      have hx1 : IntKind.i64.wrap (X : Int) = (X : Int) := IntWalk.i64_in _ (by omega)
      have hm1 : wrap64 ((i : Int) * 4) = (i : Int) * 4 := IntWalk.wrap64_in _ (by omega)
      generalize hol (s.extract F s.size).size ((i : Int) * 4) 4 = y at *
      have HG := Lib.hid hg
      have hff : ¬ ((F : Int) < 1) := by omega
      clear hg hre hXe hrs hX hXl
      go_enter Try.func30, Try.ntmps30
      go_upto_region 1 with fail
      rw [HW.out]
      go_wp2_with (first
        | (go_at_call 26; refine (HIN.out _).mono ?_; rintro e w' ⟨rfl, rfl⟩)
        | (go_at_call 27; with_reducible refine (HG.out _).mono ?_; rintro e w' ⟨rfl, rfl⟩))
      go_ret2
      exact ⟨⟨_, rfl⟩, HB.out⟩
    · obtain rfl : X = 0 := by rw [← hX]; unfold numV; rw [if_neg (by omega)]
      have hii : inn f 0 s.size = false := by
        cases h : inn f 0 s.size
        · rfl
        · rw [inn_iff] at h; omega
      rw [hii] at HIN
      clear hX
      go_enter Try.func30, Try.ntmps30
      go_upto_region 1 with fail
      rw [HW.out]
      go_wp2_with (go_at_call 26; refine (HIN.out _).mono ?_; rintro e w' ⟨rfl, rfl⟩)
      go_ret2
      exact ⟨⟨_, rfl⟩, HB.out⟩

set_option maxRecDepth 100000 in
set_option maxHeartbeats 1600000 in
theorem scount_any (s : ByteArray) (d : Dyn) (v : Value) (w : World) (hd : d.wf) (hs : s.size ≤ 1000000) :
    Calls Try.prog 18 #[.string s, .agg (d.cs v)] w fun e w' => e = .returned (.int .i64 (cntV s (d.f 4) : Nat)) ∧ Below w.heap.size w w' := by
  have hn := fun u => snum_any s d v 1 u hd (by omega) hs
  have hcv : cntV s (d.f 4) = if numV s (d.f 4) 1 ≤ 4096 then numV s (d.f 4) 1 else 0 := rfl
  rw [show (((1 : Nat) : Int)) = 1 from rfl] at hn
  have hlt := numV_lt s (d.f 4) 1
  generalize cntV s (d.f 4) = C at *
  obtain ⟨N, hN⟩ : ∃ N, numV s (d.f 4) 1 = N := ⟨_, rfl⟩
  rw [hN] at hn hcv hlt
  unfold Dyn.cs at *
  have hb := Blk.new w 38 #[v, .int .i64 (d.f 1), .int .i64 (d.f 2), .int .i64 (d.f 3), .int .i64 (d.f 4), .int .i64 (d.f 5), .int .i64 (d.f 6), .int .i64 (d.f 7), .int .i64 (d.f 8)]
  have HB := Lib.hid ((Below.refl w.heap.size w).alloc (Nat.le_refl _) (.cells #[v, .int .i64 (d.f 1), .int .i64 (d.f 2), .int .i64 (d.f 3), .int .i64 (d.f 4), .int .i64 (d.f 5), .int .i64 (d.f 6), .int .i64 (d.f 7), .int .i64 (d.f 8)] 38))
  generalize d.f 1 = d1 at *
  generalize d.f 2 = d2 at *
  generalize d.f 3 = d3 at *
  generalize d.f 4 = f at *
  generalize d.f 5 = d5 at *
  generalize d.f 6 = d6 at *
  generalize d.f 7 = d7 at *
  generalize d.f 8 = d8 at *
  have c0 := hb.cell 0
  have c1 := hb.cell 1
  have c2 := hb.cell 2
  have c3 := hb.cell 3
  have c4 := hb.cell 4
  have c5 := hb.cell 5
  have c6 := hb.cell 6
  have c7 := hb.cell 7
  have c8 := hb.cell 8
  simp only [List.getElem?_toArray, List.getElem?_cons_zero, List.getElem?_cons_succ] at c0 c1 c2 c3 c4 c5 c6 c7 c8
  have HN := Lib.hid hn
  clear hb hn hN hd
  by_cases h : N ≤ 4096
  · rw [if_pos h] at hcv
    subst hcv
    go_enter Try.func18, Try.ntmps18
    go_wp2_with (go_at_call 30; with_reducible refine (HN.out _).mono ?_; rintro e w' ⟨⟨b, rfl⟩, hb1⟩)
    go_ret
    exact ⟨rfl, HB.out.trans (hb1.mono (by simp))⟩
  · rw [if_neg h] at hcv
    subst hcv
    go_enter Try.func18, Try.ntmps18
    go_wp2_with (go_at_call 30; with_reducible refine (HN.out _).mono ?_; rintro e w' ⟨⟨b, rfl⟩, hb1⟩)
    go_ret
    exact ⟨rfl, HB.out.trans (hb1.mono (by simp))⟩

set_option maxHeartbeats 1000000 in
theorem chain_any (s : ByteArray) (d : Dyn) (v : Value) (h : Nat) (w : World) : Calls Try.prog 28 #[.string s, .agg (d.cs v), .int .u32 h] w fun e w' => e = .returned (.func (.func 34) #[] #[.pointer (some ⟨w.heap.size, 0, none⟩), .pointer (some ⟨w.heap.size + 1, 0, none⟩), .pointer (some ⟨w.heap.size + 2, 0, none⟩)]) ∧
    w' = ((w.alloc (.cells #[.string s] 9)).alloc (.cells (d.cs v) 38)).alloc (.cells #[.int .u32 h] 30) := by
  have hmf : ∀ (fn : Fn) (first cap : Array Value) (w : World), (Instr.makeFunc fn first cap).run Try.prog w = .ok (.func fn first cap) w := fun _ _ _ _ => rfl
  unfold Dyn.cs
  go_enter Try.func28, Try.ntmps28
  go_wp2
  go_ret
  exact ⟨rfl, rfl⟩
end Go.Proofs.Ytkembimfkoganaa
