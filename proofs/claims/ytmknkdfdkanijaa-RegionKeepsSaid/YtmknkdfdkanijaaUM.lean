/- Package region: Covers, Find, Pages. -/
import Derived.Test.YtmknkdfdkanijaaUL
namespace Go.Proofs.Ytmknkdfdkanijaa
open Go.RowKit Go.ChangeShapes Go.WideShapes Go.Deep
set_option linter.unusedVariables false
set_option linter.unusedSimpArgs false

theorem results_cell_row_tmpU {P : Program} {fn : Func} {p u : Tmp} {ty : TypeId} (h : fn.results = #[.cell p ty, .tmp u]) (tmps : Array Value) (w : World) (g : Nat) (t : TypeId) (cs : Array Value) (fr : Nat × Nat) (d : TypeDesc)
    (hp : tmps.getD p undef = .pointer (some ⟨g, 0, none⟩)) (hg : w.heap[g]? = some (.cells cs t fr))
    (hu : P.underlying ty = some d) (hd : (match d with | .struct _ | .array _ _ => true | _ => false) = true) (hi : (P.info? ty).map (·.size) = some cs.size) :
    (results fn tmps).run P w = .ok (.tuple #[.agg cs, tmps.getD u undef]) w := by
  rw [results_cell_tmp h, hp]
  show ((loadVar ty ⟨g, 0, none⟩).run P w).andThen _ = _
  rw [run_loadVar_row w g t ty cs fr d hg hu hd hi]
  rfl
theorem covF_take (l : List Rg) (a : Int) {k : Nat} (h : k < l.length) : covF (l.take (k + 1)) a = if l[k].f ≤ covF (l.take k) a ∧ covF (l.take k) a < l[k].t then l[k].t else covF (l.take k) a := by
  rw [List.take_succ_eq_append_getElem h]
  unfold covF
  rw [List.foldl_append]
  rfl
theorem HDw (W : World) : Hid (∀ x, Below W.drew.heap.size W.drew x → Below W.heap.size W x) := Lib.hid (fun x h => (Below.refl W.heap.size W).drew.trans h)

set_option maxRecDepth 100000 in
set_option maxHeartbeats 3200000 in
theorem covers_any (l : List Rg) (a b : Int) (A : Option Addr) (n c : Nat) (w : World) (h : RS w A n c l) :
    Calls Try.prog 19 #[.slice A n c, .int .i64 a, .int .i64 b] w fun e w' => e = .returned (.bool (decide (b ≤ covF l a))) ∧ Below w.heap.size w w' := by
  have hn2 : n ≤ 9223372036854775807 := by have := h.cap; have h2 := h.max; unfold maxLen at h2; omega
  have HR := Lib.hid h
  have HN := Lib.hid h.len
  clear h
  go_enter Try.func19, Try.ntmps19
  go_wp2
  go_loopw [1, 11] (fun x i wr => ∃ k : Nat, k ≤ n ∧ i = .int .i64 k ∧ x = .int .i64 (covF (l.take k) a) ∧ Hid (Below w.heap.size w wr)) (fun _ i _ => n - (intOf i).toNat)
  case atStart => exact ⟨0, Nat.zero_le _, rfl, rfl, Lib.hid (Below.refl _ _)⟩
  case round =>
    obtain ⟨k, hk, rfl, rfl, HB⟩ := hrel
    by_cases hlt : k < n
    · have hkl : k < l.length := by rw [HN.out]; exact hlt
      obtain ⟨ad, rfl, hblt, hwf, x0, x1, x2, x3, x4, x5⟩ := (HR.out.row.below rfl HB.out).at_ hkl
      have htk := covF_take l a hkl
      obtain ⟨r, hr⟩ : ∃ r, l[k] = r := ⟨_, rfl⟩
      rw [hr] at x0 x1 x2 x3 x4 x5 htk
      have hbr := Blk.new wr 29 r.cs
      obtain ⟨W1, hW1⟩ : ∃ W1, wr.alloc (.cells r.cs 29) = W1 := ⟨_, rfl⟩
      have HBW := Lib.hid (show Below w.heap.size w W1 from by rw [← hW1]; exact HB.out.alloc HB.out.size _)
      rw [hW1] at hbr
      have HC := Lib.hid (fun x (hx : Below W1.heap.size W1 x) => show x.cell? ⟨wr.heap.size, 1, none⟩ = some (.int .i64 r.t) ∧ Hid (Below w.heap.size w x) from ⟨(hbr.below hx hbr.lt).at_ 1 _ rfl, Lib.hid (HBW.out.trans (hx.mono HBW.out.size))⟩)
      obtain ⟨cv, hcv⟩ : ∃ cv, covF (l.take k) a = cv := ⟨_, rfl⟩
      rw [hcv] at htk ⊢
      have HHA := Lib.hid (fun x => has_any r cv x)
      have hsx := hbr.six
      obtain ⟨rf, rt, rp, rk, rfl', rpg⟩ := r
      obtain ⟨s0, s1, s2, s3, s4, s5⟩ := hsx
      simp only at x0 x1 x2 x3 x4 x5 htk s0 s1 s2 s3 s4 s5
      have hha := HHA.out
      unfold Rg.cs at hW1 hha
      simp only at hW1 hha
      have HA := Lib.hid hha
      have HW1 := Lib.hid hW1
      have HD := HDw W1
      clear hW1 hha HHA hr hkl hwf hblt hcv hbr
      have hk0 : (0 : Int) ≤ (k : Int) := by omega
      have hk1 : (k : Int) < (n : Int) := by omega
      by_cases hh : rf ≤ cv ∧ cv < rt
      · have HB9 := Lib.hid (show (decide (rf ≤ cv) && decide (cv < rt)) = true from by simp; exact hh)
        rw [if_pos hh] at htk
        have HTK := Lib.hid htk
        clear htk hh
        go_upto_region 4 with fail
        rw [HW1.out]
        go_upto_region 5 with (go_at_call 30; with_reducible refine (HA.out _).mono ?_; rintro e x ⟨rfl, hb⟩; rw [HB9.out])
        obtain ⟨c1, HBX⟩ := HC.out _ (by first | exact hb | exact HD.out _ hb)
        clear hb s0 s1 s2 s3 s4 s5
        go_wp2
        go_roundw
        case rel => exact ⟨k + 1, by omega, by go_num, by rw [HTK.out], HBX⟩
        case measure => simp [intOf]; omega
      · have HB9 := Lib.hid (show (decide (rf ≤ cv) && decide (cv < rt)) = false from by simp; omega)
        rw [if_neg hh] at htk
        have HTK := Lib.hid htk
        clear htk hh
        go_upto_region 4 with fail
        rw [HW1.out]
        go_wp2_with (go_at_call 30; with_reducible refine (HA.out _).mono ?_; rintro e x ⟨rfl, hb⟩; rw [HB9.out])
        obtain ⟨c1, HBX⟩ := HC.out _ (by first | exact hb | exact HD.out _ hb)
        go_roundw
        case rel => exact ⟨k + 1, by omega, by go_num, by rw [HTK.out], HBX⟩
        case measure => simp [intOf]; omega
    · obtain rfl : k = n := by omega
      have h1 : l.take k = l := by rw [List.take_of_length_le]; rw [HN.out]; exact Nat.le_refl _
      rw [h1]
      go_wp2
      go_ret
      exact ⟨rfl, HB.out⟩

theorem findR_take {l : List Rg} {x : Int} {k : Nat} (hk : k < l.length) (h : ∀ i (hi : i < l.length), i < k → ¬ (l[i].f ≤ x ∧ x < l[i].t)) (h1 : l[k].f ≤ x ∧ x < l[k].t) : findR l x = some l[k] := by
  induction l generalizing k with
  | nil => simp at hk
  | cons r l ih =>
    unfold findR
    cases k with
    | zero => rw [List.find?_cons_of_pos (by simpa using h1)]; rfl
    | succ k =>
      have h0 := h 0 (by simp) (by omega)
      rw [List.find?_cons_of_neg (by simpa using h0)]
      exact ih (k := k) (by simpa using hk) (fun i hi hik => h (i + 1) (by simpa using hi) (by omega)) h1
theorem findR_no {l : List Rg} {x : Int} (h : ∀ i (hi : i < l.length), ¬ (l[i].f ≤ x ∧ x < l[i].t)) : findR l x = none := by
  unfold findR
  rw [List.find?_eq_none]
  intro r hr
  obtain ⟨i, hi, rfl⟩ := List.getElem_of_mem hr
  simpa using h i hi
def zeroR : Rg := ⟨0, 0, 0, 0, 0, 0⟩
set_option maxRecDepth 100000 in
set_option maxHeartbeats 3200000 in
theorem find_any (l : List Rg) (q : Int) (A : Option Addr) (n c : Nat) (w : World) (h : RS w A n c l) :
    Calls Try.prog 12 #[.slice A n c, .int .i64 q] w fun e w' => e = .returned (.tuple #[.agg ((findR l q).getD zeroR).cs, .bool (findR l q).isSome]) ∧ Below w.heap.size w w' := by
  have hn2 : n ≤ 9223372036854775807 := by have := h.cap; have h2 := h.max; unfold maxLen at h2; omega
  have HR := Lib.hid h
  have HN := Lib.hid h.len
  obtain ⟨W, hW⟩ : ∃ W, w.alloc (.cells zeroR.cs 29) = W := ⟨_, rfl⟩
  have hbz : Blk W w.heap.size 29 zeroR.cs := by rw [← hW]; exact Blk.new _ _ _
  have hbw : Below w.heap.size w W := by rw [← hW]; exact (Below.refl _ _).alloc (Nat.le_refl _) _
  have HZ := Lib.hid (And.intro hbz hbw)
  unfold Rg.cs zeroR at hW
  simp only at hW
  have HW := Lib.hid hW
  obtain ⟨F, hF⟩ : ∃ F, findR l q = F := ⟨_, rfl⟩
  rw [hF]
  have HF := Lib.hid hF
  clear h hbz hbw hW hF
  go_enter Try.func12, Try.ntmps12
  go_upto_region 1 with fail
  rw [HW.out]
  go_wp2
  go_loopw [10] (fun i wr => ∃ k : Nat, k ≤ n ∧ i = .int .i64 k ∧ Hid (Below W.heap.size W wr ∧ ∀ i (hi : i < l.length), i < k → ¬ (l[i].f ≤ q ∧ q < l[i].t))) (fun i _ => n - (intOf i).toNat)
  case atStart => exact ⟨0, Nat.zero_le _, rfl, Lib.hid ⟨Below.refl _ _, fun i hi h => absurd h (by omega)⟩⟩
  case round =>
    obtain ⟨k, hk, rfl, HB⟩ := hrel
    by_cases hlt : k < n
    · have hkl : k < l.length := by rw [HN.out]; exact hlt
      obtain ⟨ad, rfl, hblt, hwf, x0, x1, x2, x3, x4, x5⟩ := ((HR.out.row.below rfl HZ.out.2).below rfl HB.out.1).at_ hkl
      obtain ⟨r, hr⟩ : ∃ r, l[k] = r := ⟨_, rfl⟩
      have hnx : ¬ (r.f ≤ q ∧ q < r.t) → ∀ i (hi : i < l.length), i < k + 1 → ¬ (l[i].f ≤ q ∧ q < l[i].t) := fun hno i hi hik => by
        by_cases e : i = k
        · subst e; rw [hr]; exact hno
        · exact HB.out.2 i hi (by omega)
      have hyes : r.f ≤ q ∧ q < r.t → F = some r := fun hy => by
        rw [← HF.out, ← hr]
        exact findR_take hkl HB.out.2 (by rw [hr]; exact hy)
      rw [hr] at x0 x1 x2 x3 x4 x5
      have hbr := Blk.new wr 29 r.cs
      obtain ⟨W1, hW1⟩ : ∃ W1, wr.alloc (.cells r.cs 29) = W1 := ⟨_, rfl⟩
      have HBW := Lib.hid (show Below W.heap.size W W1 from by rw [← hW1]; exact HB.out.1.alloc HB.out.1.size _)
      rw [hW1] at hbr
      have HC := Lib.hid (fun x (hx : Below W1.heap.size W1 x) => show SixAt x wr.heap.size r ∧ Blk x w.heap.size 29 zeroR.cs ∧ Hid (Below W.heap.size W x) from by
        have h1 := HBW.out.trans (hx.mono HBW.out.size)
        exact ⟨(hbr.below hx hbr.lt).six, HZ.out.1.below h1 HZ.out.1.lt, Lib.hid h1⟩)
      have HHA := Lib.hid (fun x => has_any r q x)
      have hsx := hbr.six
      obtain ⟨rf, rt, rp, rk, rfl', rpg⟩ := r
      obtain ⟨s0, s1, s2, s3, s4, s5⟩ := hsx
      simp only at x0 x1 x2 x3 x4 x5 hnx hyes s0 s1 s2 s3 s4 s5
      have hha := HHA.out
      unfold Rg.cs at hW1 hha
      simp only at hW1 hha
      have HA := Lib.hid hha
      have HW1 := Lib.hid hW1
      have HD := HDw W1
      clear hW1 hha HHA hr hkl hwf hblt hbr
      have hk0 : (0 : Int) ≤ (k : Int) := by omega
      have hk1 : (k : Int) < (n : Int) := by omega
      by_cases hh : rf ≤ q ∧ q < rt
      · have HB9 := Lib.hid (show (decide (rf ≤ q) && decide (q < rt)) = true from by simp; exact hh)
        obtain rfl := hyes hh
        clear hnx hh hyes
        go_upto_region 4 with fail
        rw [HW1.out]
        go_upto_region 5 with (go_at_call 30; with_reducible refine (HA.out _).mono ?_; rintro e x ⟨rfl, hb⟩; rw [HB9.out])
        obtain ⟨hsx, hbz, HBX⟩ := HC.out _ (by first | exact hb | exact HD.out _ hb)
        clear hb s0 s1 s2 s3 s4 s5
        obtain ⟨s0, s1, s2, s3, s4, s5⟩ := hsx
        simp only at s0 s1 s2 s3 s4 s5
        have z0 : x.cell? ⟨w.heap.size, 0, none⟩ = some (.int .i64 0) := hbz.at_ 0 _ rfl
        have z1 : x.cell? ⟨w.heap.size, 1, none⟩ = some (.int .i64 0) := hbz.at_ 1 _ rfl
        have z2 : x.cell? ⟨w.heap.size, 2, none⟩ = some (.int .i64 0) := hbz.at_ 2 _ rfl
        have z3 : x.cell? ⟨w.heap.size, 3, none⟩ = some (.int .i64 0) := hbz.at_ 3 _ rfl
        have z4 : x.cell? ⟨w.heap.size, 4, none⟩ = some (.int .i64 0) := hbz.at_ 4 _ rfl
        have z5 : x.cell? ⟨w.heap.size, 5, none⟩ = some (.int .i64 0) := hbz.at_ 5 _ rfl
        have g0 := hbz.frozen 0
        have g1 := hbz.frozen 1
        have g2 := hbz.frozen 2
        have g3 := hbz.frozen 3
        have g4 := hbz.frozen 4
        have g5 := hbz.frozen 5
        have hfin : Blk ((((((x.setCell ⟨w.heap.size, 0, none⟩ (.int .i64 rf)).setCell ⟨w.heap.size, 1, none⟩ (.int .i64 rt)).setCell ⟨w.heap.size, 2, none⟩ (.int .i64 rp)).setCell ⟨w.heap.size, 3, none⟩ (.int .i64 rk)).setCell ⟨w.heap.size, 4, none⟩ (.int .i64 rfl')).setCell ⟨w.heap.size, 5, none⟩ (.int .i64 rpg)) w.heap.size 29 #[.int .i64 rf, .int .i64 rt, .int .i64 rp, .int .i64 rk, .int .i64 rfl', .int .i64 rpg] := by
          have := (((((hbz.set_ 0 (.int .i64 rf)).set_ 1 (.int .i64 rt)).set_ 2 (.int .i64 rp)).set_ 3 (.int .i64 rk)).set_ 4 (.int .i64 rfl')).set_ 5 (.int .i64 rpg)
          unfold Rg.cs zeroR at this
          simpa using this
        have hbl : Below w.heap.size w ((((((x.setCell ⟨w.heap.size, 0, none⟩ (.int .i64 rf)).setCell ⟨w.heap.size, 1, none⟩ (.int .i64 rt)).setCell ⟨w.heap.size, 2, none⟩ (.int .i64 rp)).setCell ⟨w.heap.size, 3, none⟩ (.int .i64 rk)).setCell ⟨w.heap.size, 4, none⟩ (.int .i64 rfl')).setCell ⟨w.heap.size, 5, none⟩ (.int .i64 rpg)) := by
          have h0 := HZ.out.2.trans (HBX.out.mono HZ.out.2.size)
          exact (((((h0.setCell (p := ⟨w.heap.size, 0, none⟩) (Nat.le_refl _) _).setCell (p := ⟨w.heap.size, 1, none⟩) (Nat.le_refl _) _).setCell (p := ⟨w.heap.size, 2, none⟩) (Nat.le_refl _) _).setCell (p := ⟨w.heap.size, 3, none⟩) (Nat.le_refl _) _).setCell (p := ⟨w.heap.size, 4, none⟩) (Nat.le_refl _) _).setCell (p := ⟨w.heap.size, 5, none⟩) (Nat.le_refl _) _
        have HFIN := Lib.hid (And.intro hfin hbl)
        clear hfin hbl hbz HBX
        go_wp2
        exact bodyPost_ret (results_cell_row_tmpU rfl _ _ w.heap.size 29 _ (0, 0) _ rfl HFIN.out.1 Try.underlying29 rfl (by kernel_rfl)) rfl ⟨rfl, HFIN.out.2⟩
      · have HB9 := Lib.hid (show (decide (rf ≤ q) && decide (q < rt)) = false from by simp; omega)
        have HNX := Lib.hid (hnx hh)
        clear hnx hh hyes
        go_upto_region 4 with fail
        rw [HW1.out]
        go_wp2_with (go_at_call 30; with_reducible refine (HA.out _).mono ?_; rintro e x ⟨rfl, hb⟩; rw [HB9.out])
        obtain ⟨c1, c2, HBX⟩ := HC.out _ (by first | exact hb | exact HD.out _ hb)
        go_roundw
        case rel => exact ⟨k + 1, by omega, by go_num, Lib.hid ⟨HBX.out, HNX.out⟩⟩
        case measure => simp [intOf]; omega
    · obtain rfl : k = n := by omega
      obtain rfl : F = none := by
        rw [← HF.out]
        exact findR_no fun i hi => HB.out.2 i hi (by rw [← HN.out]; exact hi)
      have hbz := HZ.out.1.below HB.out.1 HZ.out.1.lt
      have z0 : wr.cell? ⟨w.heap.size, 0, none⟩ = some (.int .i64 0) := hbz.at_ 0 _ rfl
      have z1 : wr.cell? ⟨w.heap.size, 1, none⟩ = some (.int .i64 0) := hbz.at_ 1 _ rfl
      have z2 : wr.cell? ⟨w.heap.size, 2, none⟩ = some (.int .i64 0) := hbz.at_ 2 _ rfl
      have z3 : wr.cell? ⟨w.heap.size, 3, none⟩ = some (.int .i64 0) := hbz.at_ 3 _ rfl
      have z4 : wr.cell? ⟨w.heap.size, 4, none⟩ = some (.int .i64 0) := hbz.at_ 4 _ rfl
      have z5 : wr.cell? ⟨w.heap.size, 5, none⟩ = some (.int .i64 0) := hbz.at_ 5 _ rfl
      have g0 := hbz.frozen 0
      have g1 := hbz.frozen 1
      have g2 := hbz.frozen 2
      have g3 := hbz.frozen 3
      have g4 := hbz.frozen 4
      have g5 := hbz.frozen 5
      have hfin : Blk ((((((wr.setCell ⟨w.heap.size, 0, none⟩ (.int .i64 0)).setCell ⟨w.heap.size, 1, none⟩ (.int .i64 0)).setCell ⟨w.heap.size, 2, none⟩ (.int .i64 0)).setCell ⟨w.heap.size, 3, none⟩ (.int .i64 0)).setCell ⟨w.heap.size, 4, none⟩ (.int .i64 0)).setCell ⟨w.heap.size, 5, none⟩ (.int .i64 0)) w.heap.size 29 zeroR.cs := by
        have := (((((hbz.set_ 0 (.int .i64 0)).set_ 1 (.int .i64 0)).set_ 2 (.int .i64 0)).set_ 3 (.int .i64 0)).set_ 4 (.int .i64 0)).set_ 5 (.int .i64 0)
        unfold Rg.cs zeroR at this ⊢
        simpa using this
      have hbl : Below w.heap.size w ((((((wr.setCell ⟨w.heap.size, 0, none⟩ (.int .i64 0)).setCell ⟨w.heap.size, 1, none⟩ (.int .i64 0)).setCell ⟨w.heap.size, 2, none⟩ (.int .i64 0)).setCell ⟨w.heap.size, 3, none⟩ (.int .i64 0)).setCell ⟨w.heap.size, 4, none⟩ (.int .i64 0)).setCell ⟨w.heap.size, 5, none⟩ (.int .i64 0)) := by
        have h0 := HZ.out.2.trans (HB.out.1.mono HZ.out.2.size)
        exact (((((h0.setCell (p := ⟨w.heap.size, 0, none⟩) (Nat.le_refl _) _).setCell (p := ⟨w.heap.size, 1, none⟩) (Nat.le_refl _) _).setCell (p := ⟨w.heap.size, 2, none⟩) (Nat.le_refl _) _).setCell (p := ⟨w.heap.size, 3, none⟩) (Nat.le_refl _) _).setCell (p := ⟨w.heap.size, 4, none⟩) (Nat.le_refl _) _).setCell (p := ⟨w.heap.size, 5, none⟩) (Nat.le_refl _) _
      have HFIN := Lib.hid (And.intro hfin hbl)
      clear hfin hbl hbz
      go_wp2
      exact bodyPost_ret (results_cell_row_tmpU rfl _ _ w.heap.size 29 _ (0, 0) _ rfl HFIN.out.1 Try.underlying29 rfl (by kernel_rfl)) rfl ⟨rfl, HFIN.out.2⟩
end Go.Proofs.Ytmknkdfdkanijaa
