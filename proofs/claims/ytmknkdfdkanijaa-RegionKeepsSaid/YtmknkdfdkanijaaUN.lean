/- Package region: Pages, Key, Gap. -/
import Derived.Test.YtmknkdfdkanijaaUM
namespace Go.Proofs.Ytmknkdfdkanijaa
open Go.RowKit Go.ChangeShapes Go.WideShapes Go.Deep
set_option linter.unusedVariables false
set_option linter.unusedSimpArgs false

theorem Asc.take {l : List Rg} (h : Asc l) (k : Nat) : Asc (l.take k) := by
  have : Asc (l.take k ++ l.drop k) := by rw [List.take_append_drop]; exact h
  exact this.left
theorem pagesL_take (l : List Rg) {k : Nat} (h : k < l.length) : pagesL (l.take (k + 1)) = pagesL (l.take k) + (l[k].t - l[k].f) := by
  rw [List.take_succ_eq_append_getElem h]
  unfold pagesL
  rw [List.map_append, List.sum_append]
  simp only [List.map_cons, List.map_nil, List.sum_cons, List.sum_nil, Int.add_zero]
set_option maxRecDepth 100000 in
set_option maxHeartbeats 3200000 in
theorem pages_any (l : List Rg) (A : Option Addr) (n c : Nat) (w : World) (h : RS w A n c l) (hasc : Asc l) :
    Calls Try.prog 21 #[.slice A n c] w fun e w' => e = .returned (.int .i64 (pagesL l)) ∧ Below w.heap.size w w' := by
  have hn2 : n ≤ 9223372036854775807 := by have := h.cap; have h2 := h.max; unfold maxLen at h2; omega
  have HR := Lib.hid h
  have HN := Lib.hid h.len
  have HASC := Lib.hid hasc
  clear h hasc
  go_enter Try.func21, Try.ntmps21
  go_wp2
  go_loopw [3, 8] (fun x i wr => ∃ k : Nat, k ≤ n ∧ i = .int .i64 k ∧ x = .int .i64 (pagesL (l.take k)) ∧ Hid (Below w.heap.size w wr)) (fun _ i _ => n - (intOf i).toNat)
  case atStart => exact ⟨0, Nat.zero_le _, rfl, rfl, Lib.hid (Below.refl _ _)⟩
  case round =>
    obtain ⟨k, hk, rfl, rfl, HB⟩ := hrel
    by_cases hlt : k < n
    · have hkl : k < l.length := by rw [HN.out]; exact hlt
      obtain ⟨ad, rfl, hblt, hwf, x0, x1, x2, x3, x4, x5⟩ := (HR.out.row.below rfl HB.out).at_ hkl
      have htk := pagesL_take l hkl
      have hb1 := pages_bd (HASC.out.take k)
      have hb2 := pages_bd (HASC.out.take (k + 1))
      have hmay := HASC.out.may _ (List.getElem_mem hkl)
      obtain ⟨r, hr⟩ : ∃ r, l[k] = r := ⟨_, rfl⟩
      rw [hr] at x0 x1 x2 x3 x4 x5 htk hmay
      have HNX := Lib.hid (HB.out.alloc HB.out.size (.cells r.cs 29))
      obtain ⟨cv, hcv⟩ : ∃ cv, pagesL (l.take k) = cv := ⟨_, rfl⟩
      rw [hcv] at htk hb1 ⊢
      rw [htk] at hb2
      have HTK := Lib.hid htk
      have m1 := hmay.f
      have m2 := hmay.ft
      have m3 := hmay.t
      obtain ⟨rf, rt, rp, rk, rfl', rpg⟩ := r
      simp only at x0 x1 x2 x3 x4 x5 hb2 m1 m2 m3
      have v1 : IntKind.i64.wrap (rt - rf) = rt - rf ∧ wrap64 (rt - rf) = rt - rf := ⟨IntWalk.i64_in _ (by omega), IntWalk.wrap64_in _ (by omega)⟩
      have v2 : IntKind.i64.wrap (cv + (rt - rf)) = cv + (rt - rf) ∧ wrap64 (cv + (rt - rf)) = cv + (rt - rf) := ⟨IntWalk.i64_in _ (by omega), IntWalk.wrap64_in _ (by omega)⟩
      obtain ⟨v11, v12⟩ := v1
      obtain ⟨v21, v22⟩ := v2
      have hk0 : (0 : Int) ≤ (k : Int) := by omega
      have hk1 : (k : Int) < (n : Int) := by omega
      clear htk hb1 hb2 hmay hr hkl hwf hblt hcv m1 m2 m3
      go_wp2
      go_roundw
      case rel => exact ⟨k + 1, by omega, by go_num, by rw [HTK.out], HNX⟩
      case measure => simp [intOf]; omega
    · obtain rfl : k = n := by omega
      have h1 : l.take k = l := by rw [List.take_of_length_le]; rw [HN.out]; exact Nat.le_refl _
      rw [h1]
      go_wp2
      go_ret
      exact ⟨rfl, HB.out⟩

/-- The page of a file that a region's page is. -/
def keyR (r : Rg) (x : Int) : Option (Int × Int) := if r.k = 1 ∧ r.f ≤ x ∧ x < r.t then some (r.fl, r.pg + (x - r.f)) else none
def keyV (o : Option (Int × Int)) : Value := .agg #[.int .i64 (o.getD (0, 0)).1, .int .i64 (o.getD (0, 0)).2]
set_option maxRecDepth 100000 in
set_option maxHeartbeats 3200000 in
theorem key_any (r : Rg) (q : Int) (w : World) (hbd : r.Bd) :
    Calls Try.prog 16 #[.agg r.cs, .int .i64 q] w fun e w' => e = .returned (.tuple #[keyV (keyR r q), .bool (keyR r q).isSome]) ∧ Below w.heap.size w w' := by
  obtain ⟨W, hW⟩ : ∃ W, (w.alloc (.cells r.cs 29)).alloc (.cells #[.int .i64 0, .int .i64 0] 39) = W := ⟨_, rfl⟩
  have hb0 : Blk W w.heap.size 29 r.cs := by rw [← hW]; exact (Blk.new _ _ _).alloc _
  have hb1 : Blk W (w.heap.size + 1) 39 #[.int .i64 0, .int .i64 0] := by rw [← hW]; exact blk_twoU _ _ _ _
  have hbw : Below w.heap.size w W := by rw [← hW]; exact ((Below.refl _ _).alloc (Nat.le_refl _) _).alloc (by simp) _
  have HC := Lib.hid (fun x (hx : Below W.heap.size W x) => show SixAt x w.heap.size r ∧ Blk x (w.heap.size + 1) 39 #[.int .i64 0, .int .i64 0] ∧ Below w.heap.size w x from ⟨(hb0.below hx hb0.lt).six, hb1.below hx hb1.lt, hbw.trans (hx.mono hbw.size)⟩)
  have HHA := Lib.hid (fun x => has_any r q x)
  have HF := Lib.hid (fun (x : World) (a b : Int) (hx : Blk x (w.heap.size + 1) 39 #[.int .i64 0, .int .i64 0]) (hb : Below w.heap.size w x) => show Blk ((x.setCell ⟨w.heap.size + 1, 0, none⟩ (.int .i64 a)).setCell ⟨w.heap.size + 1, 1, none⟩ (.int .i64 b)) (w.heap.size + 1) 39 #[.int .i64 a, .int .i64 b] ∧ Below w.heap.size w ((x.setCell ⟨w.heap.size + 1, 0, none⟩ (.int .i64 a)).setCell ⟨w.heap.size + 1, 1, none⟩ (.int .i64 b)) from ⟨by
    have := (hx.set_ 0 (.int .i64 a)).set_ 1 (.int .i64 b)
    simpa using this, (hb.setCell (p := ⟨w.heap.size + 1, 0, none⟩) (Nat.le_succ _) _).setCell (p := ⟨w.heap.size + 1, 1, none⟩) (Nat.le_succ _) _⟩)
  obtain ⟨rf, rt, rp, rk, rfl', rpg⟩ := r
  have hha := HHA.out
  unfold Rg.cs at hW hha ⊢
  simp only at hW hha ⊢
  have HW := Lib.hid hW
  have HA := Lib.hid hha
  obtain ⟨K, hK⟩ : ∃ K, keyR ⟨rf, rt, rp, rk, rfl', rpg⟩ q = K := ⟨_, rfl⟩
  rw [hK]
  unfold keyR at hK
  simp only at hK
  have HD := HDw W
  have hcells := HC.out W (Below.refl _ _)
  clear hb0 hb1 hbw hW hha HHA
  by_cases hk : rk = 1
  · subst hk
    have b1 := hbd.f
    have b2 := hbd.t
    have b3 := hbd.pg rfl
    simp only at b1 b2 b3
    clear hbd
    by_cases hh : rf ≤ q ∧ q < rt
    · rw [if_pos ⟨rfl, hh⟩] at hK
      subst hK
      have HB9 := Lib.hid (show (decide (rf ≤ q) && decide (q < rt)) = true from by simp; exact hh)
      have v1 : IntKind.i64.wrap (rpg + q) = rpg + q ∧ wrap64 (rpg + q) = rpg + q := ⟨IntWalk.i64_in _ (by omega), IntWalk.wrap64_in _ (by omega)⟩
      have v2 : IntKind.i64.wrap (rpg + q - rf) = rpg + (q - rf) ∧ wrap64 (rpg + q - rf) = rpg + (q - rf) := ⟨by rw [IntWalk.i64_in _ (by omega)]; omega, by rw [IntWalk.wrap64_in _ (by omega)]; omega⟩
      obtain ⟨v11, v12⟩ := v1
      obtain ⟨v21, v22⟩ := v2
      clear b1 b2 b3 hh
      go_enter Try.func16, Try.ntmps16
      go_upto_region 1 with fail
      rw [HW.out]
      obtain ⟨⟨s0, s1, s2, s3, s4, s5⟩, hz, hbx⟩ := hcells
      simp only at s0 s1 s2 s3 s4 s5
      clear hz hbx
      go_upto_region 3 with (go_at_call 30; with_reducible refine (HA.out _).mono ?_; rintro e x ⟨rfl, hb⟩; rw [HB9.out])
      obtain ⟨hs, hz, hbx⟩ := HC.out _ (by first | exact hb | exact HD.out _ hb)
      clear hb s0 s1 s2 s3 s4 s5
      obtain ⟨s0, s1, s2, s3, s4, s5⟩ := hs
      simp only at s0 s1 s2 s3 s4 s5
      have z0 : x.cell? ⟨w.heap.size + 1, 0, none⟩ = some (.int .i64 0) := hz.at_ 0 _ rfl
      have z1 : x.cell? ⟨w.heap.size + 1, 1, none⟩ = some (.int .i64 0) := hz.at_ 1 _ rfl
      have g0 := hz.frozen 0
      have g1 := hz.frozen 1
      have HFIN := Lib.hid (HF.out x (rfl') (rpg + (q - rf)) hz hbx)
      clear hz hbx
      go_wp2
      exact bodyPost_ret (results_cell_row_tmpU rfl _ _ (w.heap.size + 1) 39 _ (0, 0) _ rfl HFIN.out.1 Try.underlying39 rfl (by kernel_rfl)) rfl ⟨rfl, HFIN.out.2⟩
    · rw [if_neg (by intro h; exact hh h.2)] at hK
      subst hK
      have HB9 := Lib.hid (show (decide (rf ≤ q) && decide (q < rt)) = false from by simp; omega)
      clear b1 b2 b3 hh
      go_enter Try.func16, Try.ntmps16
      go_upto_region 1 with fail
      rw [HW.out]
      obtain ⟨⟨s0, s1, s2, s3, s4, s5⟩, hz, hbx⟩ := hcells
      simp only at s0 s1 s2 s3 s4 s5
      clear hz hbx
      go_upto_region 2 with (go_at_call 30; with_reducible refine (HA.out _).mono ?_; rintro e x ⟨rfl, hb⟩; rw [HB9.out])
      obtain ⟨hs, hz, hbx⟩ := HC.out _ (by first | exact hb | exact HD.out _ hb)
      clear hb s0 s1 s2 s3 s4 s5 hs
      have z0 : x.cell? ⟨w.heap.size + 1, 0, none⟩ = some (.int .i64 0) := hz.at_ 0 _ rfl
      have z1 : x.cell? ⟨w.heap.size + 1, 1, none⟩ = some (.int .i64 0) := hz.at_ 1 _ rfl
      have g0 := hz.frozen 0
      have g1 := hz.frozen 1
      have HFIN := Lib.hid (HF.out x (0) (0) hz hbx)
      clear hz hbx
      go_wp2
      exact bodyPost_ret (results_cell_row_tmpU rfl _ _ (w.heap.size + 1) 39 _ (0, 0) _ rfl HFIN.out.1 Try.underlying39 rfl (by kernel_rfl)) rfl ⟨rfl, HFIN.out.2⟩
  · rw [if_neg (by intro h; exact hk h.1)] at hK
    subst hK
    have hk2 : (rk == 1) = false := by simpa using hk
    clear hbd
    go_enter Try.func16, Try.ntmps16
    go_upto_region 1 with fail
    rw [HW.out]
    obtain ⟨⟨s0, s1, s2, s3, s4, s5⟩, hz, hbx⟩ := hcells
    simp only at s0 s1 s2 s3 s4 s5
    go_upto_region 2 with fail
    clear s0 s1 s2 s3 s4 s5
    have z0 : W.cell? ⟨w.heap.size + 1, 0, none⟩ = some (.int .i64 0) := hz.at_ 0 _ rfl
    have z1 : W.cell? ⟨w.heap.size + 1, 1, none⟩ = some (.int .i64 0) := hz.at_ 1 _ rfl
    have g0 := hz.frozen 0
    have g1 := hz.frozen 1
    have HFIN := Lib.hid (HF.out W (0) (0) hz hbx)
    clear hz hbx
    go_wp2
    exact bodyPost_ret (results_cell_row_tmpU rfl _ _ (w.heap.size + 1) 39 _ (0, 0) _ rfl HFIN.out.1 Try.underlying39 rfl (by kernel_rfl)) rfl ⟨rfl, HFIN.out.2⟩

/-- The first gap, if there is one. -/
def gapO (l : List Rg) (low high n : Int) : Option Int :=
  if n < 1 ∨ min high 4096 ≤ gapA l (max low 0) n ∨ min high 4096 - gapA l (max low 0) n < n then none else some (gapA l (max low 0) n)
end Go.Proofs.Ytmknkdfdkanijaa
