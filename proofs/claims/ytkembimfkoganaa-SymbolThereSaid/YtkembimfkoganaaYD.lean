/- Package symbol: Read. -/
import Derived.Test.YtkembimfkoganaaYB
import Derived.Test.YtkembimfkoganaaDyn
import Derived.BigRegion
import Derived.Deep.CutRange
import Derived.Deep.CutBlock
import Derived.RegionTactic
namespace Go.Proofs.Ytkembimfkoganaa
open Go.RowKit
set_option linter.unusedVariables false
set_option linter.unusedSimpArgs false

theorem results_sy_tmp {P : Program} {fn : Func} {p u : Tmp} {ty : TypeId} (h : fn.results = #[.cell p ty, .tmp u]) (tmps : Array Value) (w : World) (g : Nat) (t : TypeId) (cs : Array Value) (fr : Nat × Nat) (d : TypeDesc)
    (hp : tmps.getD p undef = .pointer (some ⟨g, 0, none⟩)) (hg : w.heap[g]? = some (.cells cs t fr))
    (hu : P.underlying ty = some d) (hd : (match d with | .struct _ | .array _ _ => true | _ => false) = true) (hi : (P.info? ty).map (·.size) = some cs.size) :
    (results fn tmps).run P w = .ok (.tuple #[.agg cs, tmps.getD u undef]) w := by
  rw [results_cell_tmp h, hp]
  show ((loadVar ty ⟨g, 0, none⟩).run P w).andThen _ = _
  rw [run_loadVar_row w g t ty cs fr d hg hu hd hi]
  rfl
/-- The ith symbol's numbers: the view's bytes from f on. -/
def restS (s : ByteArray) (f : Int) : ByteArray := s.extract f.toNat s.size
theorem restS_size (s : ByteArray) {f : Int} (h0 : 0 ≤ f) (h : f ≤ s.size) : ((restS s f).size : Int) = s.size - f := by
  unfold restS
  rw [extract_mkb, mkb_size]
  simp only [List.length_take, List.length_drop]
  rw [len_data]
  omega
def rdAt (s : ByteArray) (f i : Int) : Bool := decide (1 ≤ f) && decide (f ≤ s.size) && decide (0 ≤ i) && decide (i < (s.size - f) / 24)
def rdOk (s : ByteArray) (f i : Int) : Bool := rdAt s f i && decide (getN (restS s f) (i * 24 + 8) 8 ≤ 1099511627776)
def rdS (s : ByteArray) (f i : Int) : Sy := if rdOk s f i then ⟨getN (restS s f) (i * 24) 4, !(getN (restS s f) (i * 24 + 6) 2 == 0), getN (restS s f) (i * 24 + 8) 8⟩ else ⟨0, false, 0⟩
theorem rd_no {s : ByteArray} {f i : Int} (h : ¬ (1 ≤ f ∧ f ≤ s.size ∧ 0 ≤ i ∧ i < (s.size - f) / 24)) : rdOk s f i = false ∧ rdS s f i = ⟨0, false, 0⟩ := by
  have e : rdOk s f i = false := by
    unfold rdOk rdAt
    rw [Bool.and_eq_false_iff]
    left
    cases h1 : decide (1 ≤ f) && decide (f ≤ s.size) && decide (0 ≤ i) && decide (i < (s.size - f) / 24)
    · rfl
    · simp only [Bool.and_eq_true, decide_eq_true_eq] at h1
      exact absurd ⟨h1.1.1.1, h1.1.1.2, h1.1.2, h1.2⟩ h
  exact ⟨e, by unfold rdS; simp [e]⟩
theorem rd_big {s : ByteArray} {f i : Int} (h : ¬ getN (restS s f) (i * 24 + 8) 8 ≤ 1099511627776) : rdOk s f i = false ∧ rdS s f i = ⟨0, false, 0⟩ := by
  have e : rdOk s f i = false := by unfold rdOk; simp [h]
  exact ⟨e, by unfold rdS; simp [e]⟩
theorem rd_yes {s : ByteArray} {f i : Int} (h : 1 ≤ f ∧ f ≤ s.size ∧ 0 ≤ i ∧ i < (s.size - f) / 24) (h2 : getN (restS s f) (i * 24 + 8) 8 ≤ 1099511627776) :
    rdOk s f i = true ∧ rdS s f i = ⟨getN (restS s f) (i * 24) 4, !(getN (restS s f) (i * 24 + 6) 2 == 0), getN (restS s f) (i * 24 + 8) 8⟩ := by
  have e : rdOk s f i = true := by unfold rdOk rdAt; simp [h.1, h.2.1, h.2.2.1, h.2.2.2, h2]
  exact ⟨e, by unfold rdS; simp [e]⟩
theorem getN_in (s : ByteArray) (a : Int) (k : Nat) (hk : k ≤ 8) : 0 ≤ getN s a k ∧ getN s a k < (256 ^ k : Nat) := by
  unfold getN
  split
  · rename_i h
    obtain ⟨h1, h2, h3, h4, h5⟩ := hol_iff.1 h
    have := getL_lt (partL s a.toNat (k : Int).toNat)
    have hl := partL_length (s := s) (a := a.toNat) (n := (k : Int).toNat) (by omega)
    rw [hl, Int.toNat_natCast] at this
    rw [Int.toNat_natCast]
    exact ⟨Int.natCast_nonneg _, Int.ofNat_lt.2 this⟩
  · exact ⟨Int.le_refl _, by have := Nat.pow_pos (n := k) (show 0 < 256 by omega); omega⟩

set_option maxRecDepth 100000 in
set_option maxHeartbeats 1600000 in
theorem sread_any (s : ByteArray) (d : Dyn) (v : Value) (i : Int) (w : World) (hd : d.wf) (hi : (Lit.int .i64 i).wf = true) (hs : s.size ≤ 1000000) :
    Calls Try.prog 16 #[.string s, .agg (d.cs v), .int .i64 i] w fun e w' => e = .returned (.tuple #[.agg (rdS s (d.f 3) i).cs, .bool (rdOk s (d.f 3) i)]) ∧ Below w.heap.size w w' := by
  unfold Dyn.cs
  have w3 := hd.num 3
  generalize d.f 1 = d1 at *
  generalize d.f 2 = d2 at *
  generalize d.f 3 = f at *
  generalize d.f 4 = d4 at *
  generalize d.f 5 = d5 at *
  generalize d.f 6 = d6 at *
  generalize d.f 7 = d7 at *
  generalize d.f 8 = d8 at *
  clear hd
  obtain ⟨f1, f2⟩ := bounds_i64 w3
  obtain ⟨i1, i2⟩ := bounds_i64 hi
  obtain ⟨R, hR⟩ : ∃ R, w.heap.size = R := ⟨_, rfl⟩
  obtain ⟨W, hW⟩ : ∃ W, (w.alloc (.cells #[v, .int .i64 d1, .int .i64 d2, .int .i64 f, .int .i64 d4, .int .i64 d5, .int .i64 d6, .int .i64 d7, .int .i64 d8] 38)).alloc (.cells #[.int .i64 0, .bool false, .int .i64 0] 23) = W := ⟨_, rfl⟩
  have hk : Blk W R 38 #[v, .int .i64 d1, .int .i64 d2, .int .i64 f, .int .i64 d4, .int .i64 d5, .int .i64 d6, .int .i64 d7, .int .i64 d8] := by rw [← hW, ← hR]; exact (Blk.new _ _ _).alloc _
  have hq : Blk W (R + 1) 23 #[.int .i64 0, .bool false, .int .i64 0] := by rw [← hW, ← hR]; have := Blk.new (w.alloc (.cells #[v, .int .i64 d1, .int .i64 d2, .int .i64 f, .int .i64 d4, .int .i64 d5, .int .i64 d6, .int .i64 d7, .int .i64 d8] 38)) 23 #[.int .i64 0, .bool false, .int .i64 0]; simpa using this
  have hB : Below R w W := by rw [← hW, ← hR]; exact ((Below.refl _ _).alloc (Nat.le_refl _) _).alloc (by simp) _
  have c3 : W.cell? ⟨R, 3, none⟩ = some (.int .i64 f) := hk.at_ 3 _ rfl
  have r0 : W.cell? ⟨R + 1, 0, none⟩ = some (.int .i64 0) := hq.at_ 0 _ rfl
  have r1 : W.cell? ⟨R + 1, 1, none⟩ = some (.bool false) := hq.at_ 1 _ rfl
  have r2 : W.cell? ⟨R + 1, 2, none⟩ = some (.int .i64 0) := hq.at_ 2 _ rfl
  have z0 := hq.frozen 0
  have z1 := hq.frozen 1
  have z2 := hq.frozen 2
  have HEND := Lib.hid (fun (a c : Int) (b : Bool) => show Blk (((W.setCell ⟨R + 1, 0, none⟩ (.int .i64 a)).setCell ⟨R + 1, 1, none⟩ (.bool b)).setCell ⟨R + 1, 2, none⟩ (.int .i64 c)) (R + 1) 23 #[.int .i64 a, .bool b, .int .i64 c] ∧ Below R w (((W.setCell ⟨R + 1, 0, none⟩ (.int .i64 a)).setCell ⟨R + 1, 1, none⟩ (.bool b)).setCell ⟨R + 1, 2, none⟩ (.int .i64 c)) from by
    refine ⟨?_, ((hB.setCell (p := ⟨R + 1, 0, none⟩) (Nat.le_succ _) _).setCell (p := ⟨R + 1, 1, none⟩) (Nat.le_succ _) _).setCell (p := ⟨R + 1, 2, none⟩) (Nat.le_succ _) _⟩
    simpa using ((hq.set_ 0 (.int .i64 a)).set_ 1 (.bool b)).set_ 2 (.int .i64 c))
  have HW := Lib.hid hW
  clear hW hk hq hB
  have HIN := Lib.hid (fun u => within_any f 0 s.size u w3 (by decide) (by omega))
  have hno := fun h => rd_no (s := s) (f := f) (i := i) h
  have hBF := fun h => rd_big (s := s) (f := f) (i := i) h
  have hyes := fun h => rd_yes (s := s) (f := f) (i := i) h
  obtain ⟨OK, hOK⟩ : ∃ x, rdOk s f i = x := ⟨_, rfl⟩
  obtain ⟨SY, hSY⟩ : ∃ x, rdS s f i = x := ⟨_, rfl⟩
  rw [hOK, hSY] at hno hyes hBF
  rw [hOK, hSY, hR]
  clear hOK hSY
  by_cases hf1 : f < 1
  · obtain ⟨rfl, rfl⟩ := hno (by omega)
    unfold Sy.cs
    simp only
    clear hno HIN hBF hyes
    go_enter Try.func16, Try.ntmps16
    go_upto_region 1 with fail
    rw [HW.out]
    go_wp2
    refine bodyPost_ret (results_sy_tmp rfl _ _ (R + 1) 23 _ (0, 0) _ rfl (HEND.out 0 0 false).1 Try.underlying23 rfl (by kernel_rfl)) rfl ⟨rfl, (HEND.out 0 0 false).2⟩
  · by_cases hf2 : f ≤ s.size
    · have hii : inn f 0 s.size = true := by rw [inn_iff]; omega
      rw [hii] at HIN
      have hrs := restS_size s (f := f) (by omega) hf2
      obtain ⟨F, rfl⟩ : ∃ F : Nat, f = F := ⟨f.toNat, by omega⟩
      have hre : restS s F = s.extract F s.size := by unfold restS; rw [Int.toNat_natCast]
      obtain ⟨n, hn⟩ : ∃ n, (restS s F).size = n := ⟨_, rfl⟩
      rw [hn] at hrs
      by_cases hi0 : i < 0
      · obtain ⟨rfl, rfl⟩ := hno (by omega)
        unfold Sy.cs
        simp only
        clear hno hBF hyes
        go_enter Try.func16, Try.ntmps16
        go_upto_region 1 with fail
        rw [HW.out]
        go_wp2_with (go_at_call 26; refine (HIN.out _).mono ?_; rintro e w' ⟨rfl, rfl⟩)
        refine bodyPost_ret (results_sy_tmp rfl _ _ (R + 1) 23 _ (0, 0) _ rfl (HEND.out 0 0 false).1 Try.underlying23 rfl (by kernel_rfl)) rfl ⟨rfl, (HEND.out 0 0 false).2⟩
      · by_cases hi1 : i < (s.size - F : Int) / 24
        · have hwn : IntKind.i64.wrap (i * 24) = i * 24 := IntWalk.i64_in _ (by omega)
          have hg1 := fun u => get_any (restS s F) (i * 24) 4 u (WalkArith.wf_i64 (by omega)) (by decide) (by omega)
          have hg2 := fun u => get_any (restS s F) (i * 24 + 6) 2 u (WalkArith.wf_i64 (by omega)) (by decide) (by omega)
          have hg3 := fun u => get_any (restS s F) (i * 24 + 8) 8 u (WalkArith.wf_i64 (by omega)) (by decide) (by omega)
          have b1 := getN_in (restS s F) (i * 24) 4 (by omega)
          have b2 := getN_in (restS s F) (i * 24 + 6) 2 (by omega)
          have b3 := getN_in (restS s F) (i * 24 + 8) 8 (by omega)
          simp only [show ((4 : Nat) : Int) = 4 from rfl] at b1
          simp only [show ((2 : Nat) : Int) = 2 from rfl] at b2
          simp only [show ((8 : Nat) : Int) = 8 from rfl] at b3
          generalize getN (restS s F) (i * 24) 4 = x1 at *
          generalize getN (restS s F) (i * 24 + 6) 2 = x2 at *
          generalize getN (restS s F) (i * 24 + 8) 8 = x3 at *
          rw [hre] at hg1 hg2 hg3 hn
          have HG1 := Lib.hid hg1
          have HG2 := Lib.hid hg2
          have HG3 := Lib.hid hg3
          generalize hol (s.extract F s.size).size (i * 24) 4 = y1 at *
          generalize hol (s.extract F s.size).size (i * 24 + 6) 2 = y2 at *
          generalize hol (s.extract F s.size).size (i * 24 + 8) 8 = y3 at *
          obtain ⟨q, hq⟩ : ∃ q : Int, (n : Int) / 24 = q := ⟨_, rfl⟩
          have hq1 : (n : Int).tdiv 24 = q := by rw [Int.tdiv_eq_ediv_of_nonneg (by omega)]; exact hq
          have hq2 : IntKind.i64.wrap q = q := IntWalk.i64_in _ (by omega)
          have hq4 : wrap64 q = q := IntWalk.wrap64_in _ (by omega)
          have hq3 : i < q := by rw [hrs] at hq; omega
          have hm1 : wrap64 (i * 24) = i * 24 := IntWalk.wrap64_in _ (by omega)
          have hm2 : wrap64 (i * 24 + 6) = i * 24 + 6 := IntWalk.wrap64_in _ (by omega)
          have hm3 : wrap64 (i * 24 + 8) = i * 24 + 8 := IntWalk.wrap64_in _ (by omega)
          have hx1 : IntKind.i64.wrap x1 = x1 := IntWalk.i64_in _ (by omega)
          have HX := Lib.hid (And.intro hno (And.intro hBF hyes))
          clear hno hBF hyes hg1 hg2 hg3 hre hrs hq
          by_cases hbig : x3 ≤ 1099511627776
          · obtain ⟨rfl, rfl⟩ := HX.out.2.2 (by omega) hbig
            have hx3 : IntKind.i64.wrap x3 = x3 := IntWalk.i64_in _ (by omega)
            unfold Sy.cs
            simp only
            go_enter Try.func16, Try.ntmps16
            go_upto_region 1 with fail
            rw [HW.out]
            go_upto_region 11 with (first
              | (go_at_call 26; refine (HIN.out _).mono ?_; rintro e w' ⟨rfl, rfl⟩)
              | (go_at_call 27; with_reducible refine (HG1.out _).mono ?_; rintro e w' ⟨rfl, rfl⟩)
              | (go_at_call 27; with_reducible refine (HG2.out _).mono ?_; rintro e w' ⟨rfl, rfl⟩)
              | (go_at_call 27; with_reducible refine (HG3.out _).mono ?_; rintro e w' ⟨rfl, rfl⟩))
            go_wp2
            refine bodyPost_ret (results_sy_tmp rfl _ _ (R + 1) 23 _ (0, 0) _ rfl (HEND.out x1 x3 (x2 != 0)).1 Try.underlying23 rfl (by kernel_rfl)) rfl ⟨rfl, (HEND.out x1 x3 (x2 != 0)).2⟩
          · obtain ⟨rfl, rfl⟩ := HX.out.2.1 hbig
            unfold Sy.cs
            simp only
            go_enter Try.func16, Try.ntmps16
            go_upto_region 1 with fail
            rw [HW.out]
            go_wp2_with (first
              | (go_at_call 26; refine (HIN.out _).mono ?_; rintro e w' ⟨rfl, rfl⟩)
              | (go_at_call 27; with_reducible refine (HG1.out _).mono ?_; rintro e w' ⟨rfl, rfl⟩)
              | (go_at_call 27; with_reducible refine (HG2.out _).mono ?_; rintro e w' ⟨rfl, rfl⟩)
              | (go_at_call 27; with_reducible refine (HG3.out _).mono ?_; rintro e w' ⟨rfl, rfl⟩))
            refine bodyPost_ret (results_sy_tmp rfl _ _ (R + 1) 23 _ (0, 0) _ rfl (HEND.out 0 0 false).1 Try.underlying23 rfl (by kernel_rfl)) rfl ⟨rfl, (HEND.out 0 0 false).2⟩
        · obtain ⟨rfl, rfl⟩ := hno (by omega)
          unfold Sy.cs
          simp only
          clear hno hBF hyes
          have hes : (s.extract F s.size).size = n := by rw [← hre]; exact hn
          obtain ⟨q, hq⟩ : ∃ q : Int, (n : Int) / 24 = q := ⟨_, rfl⟩
          have hq1 : (n : Int).tdiv 24 = q := by rw [Int.tdiv_eq_ediv_of_nonneg (by omega)]; exact hq
          have hq2 : IntKind.i64.wrap q = q := IntWalk.i64_in _ (by omega)
          have hq4 : wrap64 q = q := IntWalk.wrap64_in _ (by omega)
          have hq3 : q ≤ i := by rw [hrs] at hq; omega
          clear hq hn hre hrs hi1
          go_enter Try.func16, Try.ntmps16
          go_upto_region 1 with fail
          rw [HW.out]
          go_wp2_with (go_at_call 26; refine (HIN.out _).mono ?_; rintro e w' ⟨rfl, rfl⟩)
          refine bodyPost_ret (results_sy_tmp rfl _ _ (R + 1) 23 _ (0, 0) _ rfl (HEND.out 0 0 false).1 Try.underlying23 rfl (by kernel_rfl)) rfl ⟨rfl, (HEND.out 0 0 false).2⟩
    · obtain ⟨rfl, rfl⟩ := hno (by omega)
      unfold Sy.cs
      simp only
      have hii : inn f 0 s.size = false := by
        cases h : inn f 0 s.size
        · rfl
        · rw [inn_iff] at h; omega
      rw [hii] at HIN
      clear hno hBF hyes
      go_enter Try.func16, Try.ntmps16
      go_upto_region 1 with fail
      rw [HW.out]
      go_wp2_with (go_at_call 26; refine (HIN.out _).mono ?_; rintro e w' ⟨rfl, rfl⟩)
      refine bodyPost_ret (results_sy_tmp rfl _ _ (R + 1) 23 _ (0, 0) _ rfl (HEND.out 0 0 false).1 Try.underlying23 rfl (by kernel_rfl)) rfl ⟨rfl, (HEND.out 0 0 false).2⟩
end Go.Proofs.Ytkembimfkoganaa
