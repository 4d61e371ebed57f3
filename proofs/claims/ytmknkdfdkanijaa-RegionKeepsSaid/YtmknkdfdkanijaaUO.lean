/- Package region: Gap. -/
import Derived.Test.YtmknkdfdkanijaaUN
namespace Go.Proofs.Ytmknkdfdkanijaa
open Go.RowKit Go.ChangeShapes Go.WideShapes Go.Deep
set_option linter.unusedVariables false
set_option linter.unusedSimpArgs false

set_option maxRecDepth 100000 in
set_option maxHeartbeats 6400000 in
theorem gap_any (l : List Rg) (low high np : Int) (A : Option Addr) (n c : Nat) (w : World) (h : RS w A n c l) (hasc : Asc l) (hw1 : (Lit.int .i64 low).wf = true) (hw2 : (Lit.int .i64 high).wf = true) (hw3 : (Lit.int .i64 np).wf = true) :
    Calls Try.prog 14 #[.slice A n c, .int .i64 low, .int .i64 high, .int .i64 np] w fun e w' => e = .returned (.tuple #[.int .i64 ((gapO l low high np).getD 0), .bool (gapO l low high np).isSome]) ∧ Below w.heap.size w w' := by
  have hn2 : n ≤ 9223372036854775807 := by have := h.cap; have h2 := h.max; unfold maxLen at h2; omega
  have HR0 := Lib.hid h
  have HN := Lib.hid h.len
  have HASC := Lib.hid hasc
  have b1 := wf64_bd hw1
  have b2 := wf64_bd hw2
  have b3 := wf64_bd hw3
  obtain ⟨a0, ha0⟩ : ∃ a, max low 0 = a := ⟨_, rfl⟩
  obtain ⟨ee, hee⟩ : ∃ a, min high 4096 = a := ⟨_, rfl⟩
  have ha1 : max 0 low = a0 := by rw [← ha0]; omega
  have hee1 : min 4096 high = ee := by rw [← hee]; omega
  obtain ⟨R, hR⟩ : ∃ R, gapO l low high np = R := ⟨_, rfl⟩
  rw [hR]
  unfold gapO at hR
  rw [hee, ha0] at hR
  have HR := Lib.hid hR
  have hab : 0 ≤ a0 ∧ a0 ≤ 9223372036854775807 ∧ ee ≤ 4096 := by omega
  obtain ⟨hab0, hab1, hab2⟩ := hab
  have hee0 : -9223372036854775808 ≤ ee := by omega
  clear h hasc hR hw1 hw2 hw3 b1 b2
  go_enter Try.func14, Try.ntmps14
  go_wp2_with fail
  go_step3
  go_wp2
  go_step3
  go_wp2
  go_loopw [10, 20] (fun x i wr => ∃ (k : Nat) (g : Int), k ≤ n ∧ i = .int .i64 k ∧ x = .int .i64 g ∧ 0 ≤ g ∧ g ≤ 9223372036854775807 ∧ Hid (gapA l a0 np = gapA (l.drop k) g np) ∧ Hid (Below w.heap.size w wr)) (fun _ i _ => n - (intOf i).toNat)
  case atStart => exact ⟨0, a0, Nat.zero_le _, rfl, rfl, hab0, hab1, Lib.hid rfl, Lib.hid (Below.refl _ _)⟩
  case round =>
    obtain ⟨k, g, hk, rfl, rfl, hg0, hg1, HG0, HB⟩ := hrel
    by_cases hlt : k < n
    · have hkl : k < l.length := by rw [HN.out]; exact hlt
      obtain ⟨ad, rfl, hblt, hwf, x0, x1, x2, x3, x4, x5⟩ := (HR0.out.row.below rfl HB.out).at_ hkl
      have hmay := HASC.out.may _ (List.getElem_mem hkl)
      have hdr : gapA (l.drop k) g np = if l[k].t ≤ g then gapA (l.drop (k + 1)) g np else if np ≤ l[k].f - g then g else gapA (l.drop (k + 1)) l[k].t np := by
        rw [List.drop_eq_getElem_cons hkl]; rfl
      obtain ⟨r, hr⟩ : ∃ r, l[k] = r := ⟨_, rfl⟩
      rw [hr] at x0 x1 x2 x3 x4 x5 hmay hdr
      have HB3 := Lib.hid (HB.out.alloc HB.out.size (.cells r.cs 29))
      have m1 := hmay.f
      have m2 := hmay.ft
      have m3 := hmay.t
      obtain ⟨rf, rt, rp, rk, rfl', rpg⟩ := r
      simp only at x0 x1 x2 x3 x4 x5 hdr m1 m2 m3
      have hk0 : (0 : Int) ≤ (k : Int) := by omega
      have hk1 : (k : Int) < (n : Int) := by omega
      clear hmay hr hkl hwf hblt
      by_cases d1 : rt ≤ g
      · have d1' : decide (rt ≤ g) = true := decide_eq_true d1
        rw [if_pos d1] at hdr
        have HGN := Lib.hid (HG0.out.trans hdr)
        clear hdr
        go_wp2
        go_roundw
        case rel => exact ⟨k + 1, g, by omega, by go_num, rfl, hg0, hg1, HGN, HB3⟩
        case measure => simp [intOf]; omega
      · have d1' : decide (rt ≤ g) = false := decide_eq_false d1
        rw [if_neg d1] at hdr
        have w3 : IntKind.i64.wrap (rf - g) = rf - g := IntWalk.i64_in _ (by omega)
        have w4 : wrap64 (rf - g) = rf - g := IntWalk.wrap64_in _ (by omega)
        by_cases d2 : np ≤ rf - g
        · have d2' : decide (np ≤ rf - g) = true := decide_eq_true d2
          rw [if_pos d2] at hdr
          have HG := Lib.hid (HG0.out.trans hdr)
          clear hdr
          go_upto_region 9 with fail
          by_cases c1 : np < 1
          · have c1' : decide (np < 1) = true := decide_eq_true c1
            have HV := Lib.hid (show (none : Option Int) = R from by rw [← HR.out, HG.out, if_pos (by omega)])
            go_wp2
            try rw [Exit.noGoto_ret]
            go_ret2
            exact ⟨by rw [← HV.out]; rfl, HB3.out⟩
          · have c1' : decide (np < 1) = false := decide_eq_false c1
            by_cases c2 : ee ≤ g
            · have c2' : decide (ee ≤ g) = true := decide_eq_true c2
              have HV := Lib.hid (show (none : Option Int) = R from by rw [← HR.out, HG.out, if_pos (by omega)])
              go_wp2
              try rw [Exit.noGoto_ret]
              go_ret2
              exact ⟨by rw [← HV.out]; rfl, HB3.out⟩
            · have c2' : decide (ee ≤ g) = false := decide_eq_false c2
              have w1 : IntKind.i64.wrap (ee - g) = ee - g := IntWalk.i64_in _ (by omega)
              have w2 : wrap64 (ee - g) = ee - g := IntWalk.wrap64_in _ (by omega)
              by_cases c3 : ee - g < np
              · have c3' : decide (ee - g < np) = true := decide_eq_true c3
                have HV := Lib.hid (show (none : Option Int) = R from by rw [← HR.out, HG.out, if_pos (by omega)])
                go_wp2
                try rw [Exit.noGoto_ret]
                go_ret2
                exact ⟨by rw [← HV.out]; rfl, HB3.out⟩
              · have c3' : decide (ee - g < np) = false := decide_eq_false c3
                have HV := Lib.hid (show (some g : Option Int) = R from by rw [← HR.out, HG.out, if_neg (by omega)])
                go_wp2
                try rw [Exit.noGoto_ret]
                go_ret2
                exact ⟨by rw [← HV.out]; rfl, HB3.out⟩
        · have d2' : decide (np ≤ rf - g) = false := decide_eq_false d2
          rw [if_neg d2] at hdr
          have HGN := Lib.hid (HG0.out.trans hdr)
          clear hdr
          go_wp2
          go_roundw
          case rel => exact ⟨k + 1, rt, by omega, by go_num, rfl, by omega, by omega, HGN, HB3⟩
          case measure => simp [intOf]; omega
    · obtain rfl : k = n := by omega
      have hdn : l.drop k = [] := by rw [List.drop_eq_nil_iff, HN.out]; exact Nat.le_refl _
      have HG := Lib.hid (show gapA l a0 np = g from by rw [HG0.out, hdn]; rfl)
      have HB3 := HB
      by_cases c1 : np < 1
      · have c1' : decide (np < 1) = true := decide_eq_true c1
        have HV := Lib.hid (show (none : Option Int) = R from by rw [← HR.out, HG.out, if_pos (by omega)])
        go_wp2
        try rw [Exit.noGoto_ret]
        go_ret2
        exact ⟨by rw [← HV.out]; rfl, HB3.out⟩
      · have c1' : decide (np < 1) = false := decide_eq_false c1
        by_cases c2 : ee ≤ g
        · have c2' : decide (ee ≤ g) = true := decide_eq_true c2
          have HV := Lib.hid (show (none : Option Int) = R from by rw [← HR.out, HG.out, if_pos (by omega)])
          go_wp2
          try rw [Exit.noGoto_ret]
          go_ret2
          exact ⟨by rw [← HV.out]; rfl, HB3.out⟩
        · have c2' : decide (ee ≤ g) = false := decide_eq_false c2
          have w1 : IntKind.i64.wrap (ee - g) = ee - g := IntWalk.i64_in _ (by omega)
          have w2 : wrap64 (ee - g) = ee - g := IntWalk.wrap64_in _ (by omega)
          by_cases c3 : ee - g < np
          · have c3' : decide (ee - g < np) = true := decide_eq_true c3
            have HV := Lib.hid (show (none : Option Int) = R from by rw [← HR.out, HG.out, if_pos (by omega)])
            go_wp2
            try rw [Exit.noGoto_ret]
            go_ret2
            exact ⟨by rw [← HV.out]; rfl, HB3.out⟩
          · have c3' : decide (ee - g < np) = false := decide_eq_false c3
            have HV := Lib.hid (show (some g : Option Int) = R from by rw [← HR.out, HG.out, if_neg (by omega)])
            go_wp2
            try rw [Exit.noGoto_ret]
            go_ret2
            exact ⟨by rw [← HV.out]; rfl, HB3.out⟩
end Go.Proofs.Ytmknkdfdkanijaa
