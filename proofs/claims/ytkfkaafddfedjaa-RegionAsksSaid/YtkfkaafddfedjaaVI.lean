/- The reference's Find, Gap and Key. -/
import Derived.Test.YtkfkaafddfedjaaVH
namespace Go.Proofs.Ytkfkaafddfedjaa
open Go.RowKit Go.ChangeShapes Go.WideShapes Go.Deep
set_option linter.unusedVariables false
set_option linter.unusedSimpArgs false

set_option maxRecDepth 100000 in
set_option maxHeartbeats 3200000 in
theorem rfind_any (l : List Rg) (q : Int) (A : Option Addr) (n c : Nat) (w : World) (h : RS w A n c l) :
    Calls Try.prog 8 #[.slice A n c, .int .i64 q] w fun e w' => e = .returned (.tuple #[.agg ((findR l q).getD zeroR).cs, .bool (findR l q).isSome]) ∧ Below w.heap.size w w' := by
  have hn2 : n ≤ 9223372036854775807 := by have := h.cap; have h2 := h.max; unfold maxLen at h2; omega
  have HR := Lib.hid h
  have HN := Lib.hid h.len
  obtain ⟨W, hW⟩ : ∃ W, w.alloc (.cells zeroR.cs 29) = W := ⟨_, rfl⟩
  have hbz : Blk W w.heap.size 29 zeroR.cs := by rw [← hW]; exact Blk.new _ _ _
  have hbw : Below w.heap.size w W := by rw [← hW]; exact (Below.refl _ _).alloc (Nat.le_refl _) _
  have HZ := Lib.hid (And.intro hbz hbw)
  unfold Rg.cs zeroR at hW
  simp only at hW
  have HW := Lib.hid hW
  obtain ⟨F, hF⟩ : ∃ F, findR l q = F := ⟨_, rfl⟩
  rw [hF]
  have HF := Lib.hid hF
  clear h hbz hbw hW hF
  go_enter Try.func8, Try.ntmps8
  go_upto_region 1 with fail
  rw [HW.out]
  go_wp2
  go_loopw [6] (fun i wr => ∃ k : Nat, k ≤ n ∧ i = .int .i64 k ∧ Hid (Below W.heap.size W wr ∧ ∀ i (hi : i < l.length), i < k → ¬ (l[i].f ≤ q ∧ q < l[i].t))) (fun i _ => n - (intOf i).toNat)
  case atStart => exact ⟨0, Nat.zero_le _, rfl, Lib.hid ⟨Below.refl _ _, fun i hi h => absurd h (by omega)⟩⟩
  case round =>
    obtain ⟨k, hk, rfl, HB⟩ := hrel
    by_cases hlt : k < n
    · have hkl : k < l.length := by rw [HN.out]; exact hlt
      obtain ⟨ad, rfl, hblt, hwf, x0, x1, x2, x3, x4, x5⟩ := ((HR.out.row.below rfl HZ.out.2).below rfl HB.out.1).at_ hkl
      obtain ⟨r, hr⟩ : ∃ r, l[k] = r := ⟨_, rfl⟩
      have hnx : ¬ (r.f ≤ q ∧ q < r.t) → ∀ i (hi : i < l.length), i < k + 1 → ¬ (l[i].f ≤ q ∧ q < l[i].t) := fun hno i hi hik => by
        by_cases e : i = k
        · subst e; rw [hr]; exact hno
        · exact HB.out.2 i hi (by omega)
      have hyes : r.f ≤ q ∧ q < r.t → F = some r := fun hy => by
        rw [← HF.out, ← hr]
        exact findR_take hkl HB.out.2 (by rw [hr]; exact hy)
      rw [hr] at x0 x1 x2 x3 x4 x5
      obtain ⟨rf, rt, rp, rk, rfl', rpg⟩ := r
      simp only at x0 x1 x2 x3 x4 x5 hnx hyes
      clear hr hkl hwf hblt
      have hk0 : (0 : Int) ≤ (k : Int) := by omega
      have hk1 : (k : Int) < (n : Int) := by omega
      by_cases c1 : rf ≤ q
      · have c1' : decide (rf ≤ q) = true := decide_eq_true c1
        by_cases c2 : q < rt
        · have c2' : decide (q < rt) = true := decide_eq_true c2
          obtain rfl := hyes ⟨c1, c2⟩
          clear hnx hyes
          have hbz := HZ.out.1.below HB.out.1 HZ.out.1.lt
          have z0 : wr.cell? ⟨w.heap.size, 0, none⟩ = some (.int .i64 0) := hbz.at_ 0 _ rfl
          have g0 := hbz.frozen 0
          have z1 : wr.cell? ⟨w.heap.size, 1, none⟩ = some (.int .i64 0) := hbz.at_ 1 _ rfl
          have g1 := hbz.frozen 1
          have z2 : wr.cell? ⟨w.heap.size, 2, none⟩ = some (.int .i64 0) := hbz.at_ 2 _ rfl
          have g2 := hbz.frozen 2
          have z3 : wr.cell? ⟨w.heap.size, 3, none⟩ = some (.int .i64 0) := hbz.at_ 3 _ rfl
          have g3 := hbz.frozen 3
          have z4 : wr.cell? ⟨w.heap.size, 4, none⟩ = some (.int .i64 0) := hbz.at_ 4 _ rfl
          have g4 := hbz.frozen 4
          have z5 : wr.cell? ⟨w.heap.size, 5, none⟩ = some (.int .i64 0) := hbz.at_ 5 _ rfl
          have g5 := hbz.frozen 5
          have hfin : Blk ((((((wr.setCell ⟨w.heap.size, 0, none⟩ (.int .i64 rf)).setCell ⟨w.heap.size, 1, none⟩ (.int .i64 rt)).setCell ⟨w.heap.size, 2, none⟩ (.int .i64 rp)).setCell ⟨w.heap.size, 3, none⟩ (.int .i64 rk)).setCell ⟨w.heap.size, 4, none⟩ (.int .i64 rfl')).setCell ⟨w.heap.size, 5, none⟩ (.int .i64 rpg)) w.heap.size 29 #[.int .i64 rf, .int .i64 rt, .int .i64 rp, .int .i64 rk, .int .i64 rfl', .int .i64 rpg] := by
            have := (((((hbz.set_ 0 (.int .i64 rf)).set_ 1 (.int .i64 rt)).set_ 2 (.int .i64 rp)).set_ 3 (.int .i64 rk)).set_ 4 (.int .i64 rfl')).set_ 5 (.int .i64 rpg)
            unfold Rg.cs zeroR at this
            simpa using this
          have hbl : Below w.heap.size w ((((((wr.setCell ⟨w.heap.size, 0, none⟩ (.int .i64 rf)).setCell ⟨w.heap.size, 1, none⟩ (.int .i64 rt)).setCell ⟨w.heap.size, 2, none⟩ (.int .i64 rp)).setCell ⟨w.heap.size, 3, none⟩ (.int .i64 rk)).setCell ⟨w.heap.size, 4, none⟩ (.int .i64 rfl')).setCell ⟨w.heap.size, 5, none⟩ (.int .i64 rpg)) := by
            have h0 := HZ.out.2.trans (HB.out.1.mono HZ.out.2.size)
            exact (((((h0.setCell (p := ⟨w.heap.size, 0, none⟩) (Nat.le_refl _) _).setCell (p := ⟨w.heap.size, 1, none⟩) (Nat.le_refl _) _).setCell (p := ⟨w.heap.size, 2, none⟩) (Nat.le_refl _) _).setCell (p := ⟨w.heap.size, 3, none⟩) (Nat.le_refl _) _).setCell (p := ⟨w.heap.size, 4, none⟩) (Nat.le_refl _) _).setCell (p := ⟨w.heap.size, 5, none⟩) (Nat.le_refl _) _
          have HFIN := Lib.hid (And.intro hfin hbl)
          clear hfin hbl hbz
          go_wp2
          exact bodyPost_ret (results_cell_row_tmpU rfl _ _ w.heap.size 29 _ (0, 0) _ rfl HFIN.out.1 Try.underlying29 rfl (by kernel_rfl)) rfl ⟨rfl, HFIN.out.2⟩
        · have c2' : decide (q < rt) = false := decide_eq_false c2
          have HNX := Lib.hid (hnx fun h => c2 h.2)
          clear hnx hyes
          go_wp2
          go_roundw
          case rel => exact ⟨k + 1, by omega, by go_num, Lib.hid ⟨HB.out.1, HNX.out⟩⟩
          case measure => simp [intOf]; omega
      · have c1' : decide (rf ≤ q) = false := decide_eq_false c1
        have HNX := Lib.hid (hnx fun h => c1 h.1)
        clear hnx hyes
        go_wp2
        go_roundw
        case rel => exact ⟨k + 1, by omega, by go_num, Lib.hid ⟨HB.out.1, HNX.out⟩⟩
        case measure => simp [intOf]; omega
    · obtain rfl : k = n := by omega
      obtain rfl : F = none := by
        rw [← HF.out]
        exact findR_no fun i hi => HB.out.2 i hi (by rw [← HN.out]; exact hi)
      have hbz := HZ.out.1.below HB.out.1 HZ.out.1.lt
      have z0 : wr.cell? ⟨w.heap.size, 0, none⟩ = some (.int .i64 0) := hbz.at_ 0 _ rfl
      have z1 : wr.cell? ⟨w.heap.size, 1, none⟩ = some (.int .i64 0) := hbz.at_ 1 _ rfl
      have z2 : wr.cell? ⟨w.heap.size, 2, none⟩ = some (.int .i64 0) := hbz.at_ 2 _ rfl
      have z3 : wr.cell? ⟨w.heap.size, 3, none⟩ = some (.int .i64 0) := hbz.at_ 3 _ rfl
      have z4 : wr.cell? ⟨w.heap.size, 4, none⟩ = some (.int .i64 0) := hbz.at_ 4 _ rfl
      have z5 : wr.cell? ⟨w.heap.size, 5, none⟩ = some (.int .i64 0) := hbz.at_ 5 _ rfl
      have g0 := hbz.frozen 0
      have g1 := hbz.frozen 1
      have g2 := hbz.frozen 2
      have g3 := hbz.frozen 3
      have g4 := hbz.frozen 4
      have g5 := hbz.frozen 5
      have hfin : Blk ((((((wr.setCell ⟨w.heap.size, 0, none⟩ (.int .i64 0)).setCell ⟨w.heap.size, 1, none⟩ (.int .i64 0)).setCell ⟨w.heap.size, 2, none⟩ (.int .i64 0)).setCell ⟨w.heap.size, 3, none⟩ (.int .i64 0)).setCell ⟨w.heap.size, 4, none⟩ (.int .i64 0)).setCell ⟨w.heap.size, 5, none⟩ (.int .i64 0)) w.heap.size 29 zeroR.cs := by
        have := (((((hbz.set_ 0 (.int .i64 0)).set_ 1 (.int .i64 0)).set_ 2 (.int .i64 0)).set_ 3 (.int .i64 0)).set_ 4 (.int .i64 0)).set_ 5 (.int .i64 0)
        unfold Rg.cs zeroR at this ⊢
        simpa using this
      have hbl : Below w.heap.size w ((((((wr.setCell ⟨w.heap.size, 0, none⟩ (.int .i64 0)).setCell ⟨w.heap.size, 1, none⟩ (.int .i64 0)).setCell ⟨w.heap.size, 2, none⟩ (.int .i64 0)).setCell ⟨w.heap.size, 3, none⟩ (.int .i64 0)).setCell ⟨w.heap.size, 4, none⟩ (.int .i64 0)).setCell ⟨w.heap.size, 5, none⟩ (.int .i64 0)) := by
        have h0 := HZ.out.2.trans (HB.out.1.mono HZ.out.2.size)
        exact (((((h0.setCell (p := ⟨w.heap.size, 0, none⟩) (Nat.le_refl _) _).setCell (p := ⟨w.heap.size, 1, none⟩) (Nat.le_refl _) _).setCell (p := ⟨w.heap.size, 2, none⟩) (Nat.le_refl _) _).setCell (p := ⟨w.heap.size, 3, none⟩) (Nat.le_refl _) _).setCell (p := ⟨w.heap.size, 4, none⟩) (Nat.le_refl _) _).setCell (p := ⟨w.heap.size, 5, none⟩) (Nat.le_refl _) _
      have HFIN := Lib.hid (And.intro hfin hbl)
      clear hfin hbl hbz
      go_wp2
      exact bodyPost_ret (results_cell_row_tmpU rfl _ _ w.heap.size 29 _ (0, 0) _ rfl HFIN.out.1 Try.underlying29 rfl (by kernel_rfl)) rfl ⟨rfl, HFIN.out.2⟩
set_option maxRecDepth 100000 in
set_option maxHeartbeats 3200000 in
theorem rkey_any (r : Rg) (q : Int) (w : World) (hbd : r.Bd) :
    Calls Try.prog 12 #[.agg r.cs, .int .i64 q] w fun e w' => e = .returned (.tuple #[keyV (keyR r q), .bool (keyR r q).isSome]) ∧ Below w.heap.size w w' := by
  obtain ⟨W, hW⟩ : ∃ W, (w.alloc (.cells r.cs 29)).alloc (.cells #[.int .i64 0, .int .i64 0] 39) = W := ⟨_, rfl⟩
  have hb0 : Blk W w.heap.size 29 r.cs := by rw [← hW]; exact (Blk.new _ _ _).alloc _
  have hb1 : Blk W (w.heap.size + 1) 39 #[.int .i64 0, .int .i64 0] := by rw [← hW]; exact blk_twoU _ _ _ _
  have hbw : Below w.heap.size w W := by rw [← hW]; exact ((Below.refl _ _).alloc (Nat.le_refl _) _).alloc (by simp) _
  have HF := Lib.hid (fun (a b : Int) => show Blk ((W.setCell ⟨w.heap.size + 1, 0, none⟩ (.int .i64 a)).setCell ⟨w.heap.size + 1, 1, none⟩ (.int .i64 b)) (w.heap.size + 1) 39 #[.int .i64 a, .int .i64 b] ∧ Below w.heap.size w ((W.setCell ⟨w.heap.size + 1, 0, none⟩ (.int .i64 a)).setCell ⟨w.heap.size + 1, 1, none⟩ (.int .i64 b)) from ⟨by
    have := (hb1.set_ 0 (.int .i64 a)).set_ 1 (.int .i64 b)
    simpa using this, (hbw.setCell (p := ⟨w.heap.size + 1, 0, none⟩) (Nat.le_succ _) _).setCell (p := ⟨w.heap.size + 1, 1, none⟩) (Nat.le_succ _) _⟩)
  have hs := hb0.six
  have z0 : W.cell? ⟨w.heap.size + 1, 0, none⟩ = some (.int .i64 0) := hb1.at_ 0 _ rfl
  have z1 : W.cell? ⟨w.heap.size + 1, 1, none⟩ = some (.int .i64 0) := hb1.at_ 1 _ rfl
  have g0 := hb1.frozen 0
  have g1 := hb1.frozen 1
  obtain ⟨rf, rt, rp, rk, rfl', rpg⟩ := r
  obtain ⟨s0, s1, s2, s3, s4, s5⟩ := hs
  unfold Rg.cs at hW ⊢
  simp only at hW s0 s1 s2 s3 s4 s5 ⊢
  have HW := Lib.hid hW
  obtain ⟨K, hK⟩ : ∃ K, keyR ⟨rf, rt, rp, rk, rfl', rpg⟩ q = K := ⟨_, rfl⟩
  rw [hK]
  unfold keyR at hK
  simp only at hK
  clear hb0 hb1 hbw hW
  by_cases hk : rk = 1
  · subst hk
    have b1 := hbd.f
    have b2 := hbd.t
    have b3 := hbd.pg rfl
    simp only at b1 b2 b3
    clear hbd
    by_cases c1 : q < rf
    · have c1' : decide (q < rf) = true := decide_eq_true c1
      rw [if_neg (by omega)] at hK
      subst hK
      have HFIN := Lib.hid (HF.out (0) (0))
      clear b1 b2 b3
      go_enter Try.func12, Try.ntmps12
      go_upto_region 1 with fail
      rw [HW.out]
      go_wp2
      exact bodyPost_ret (results_cell_row_tmpU rfl _ _ (w.heap.size + 1) 39 _ (0, 0) _ rfl HFIN.out.1 Try.underlying39 rfl (by kernel_rfl)) rfl ⟨rfl, HFIN.out.2⟩
    · have c1' : decide (q < rf) = false := decide_eq_false c1
      by_cases c2 : rt ≤ q
      · have c2' : decide (rt ≤ q) = true := decide_eq_true c2
        rw [if_neg (by omega)] at hK
        subst hK
        have HFIN := Lib.hid (HF.out (0) (0))
        clear b1 b2 b3
        go_enter Try.func12, Try.ntmps12
        go_upto_region 1 with fail
        rw [HW.out]
        go_wp2
        exact bodyPost_ret (results_cell_row_tmpU rfl _ _ (w.heap.size + 1) 39 _ (0, 0) _ rfl HFIN.out.1 Try.underlying39 rfl (by kernel_rfl)) rfl ⟨rfl, HFIN.out.2⟩
      · have c2' : decide (rt ≤ q) = false := decide_eq_false c2
        rw [if_pos (by omega)] at hK
        subst hK
        have v1 : IntKind.i64.wrap (rpg + q) = rpg + q ∧ wrap64 (rpg + q) = rpg + q := ⟨IntWalk.i64_in _ (by omega), IntWalk.wrap64_in _ (by omega)⟩
        have v2 : IntKind.i64.wrap (rpg + q - rf) = rpg + (q - rf) ∧ wrap64 (rpg + q - rf) = rpg + (q - rf) := ⟨by rw [IntWalk.i64_in _ (by omega)]; omega, by rw [IntWalk.wrap64_in _ (by omega)]; omega⟩
        obtain ⟨v11, v12⟩ := v1
        obtain ⟨v21, v22⟩ := v2
        have HFIN := Lib.hid (HF.out (rfl') (rpg + (q - rf)))
        clear b1 b2 b3
        go_enter Try.func12, Try.ntmps12
        go_upto_region 1 with fail
        rw [HW.out]
        go_wp2
        exact bodyPost_ret (results_cell_row_tmpU rfl _ _ (w.heap.size + 1) 39 _ (0, 0) _ rfl HFIN.out.1 Try.underlying39 rfl (by kernel_rfl)) rfl ⟨rfl, HFIN.out.2⟩
  · rw [if_neg (by intro h; exact hk h.1)] at hK
    subst hK
    have hk2 : (rk == 1) = false := by simpa using hk
    have HFIN := Lib.hid (HF.out (0) (0))
    clear hbd
    go_enter Try.func12, Try.ntmps12
    go_upto_region 1 with fail
    rw [HW.out]
    go_wp2
    exact bodyPost_ret (results_cell_row_tmpU rfl _ _ (w.heap.size + 1) 39 _ (0, 0) _ rfl HFIN.out.1 Try.underlying39 rfl (by kernel_rfl)) rfl ⟨rfl, HFIN.out.2⟩
end Go.Proofs.Ytkfkaafddfedjaa
