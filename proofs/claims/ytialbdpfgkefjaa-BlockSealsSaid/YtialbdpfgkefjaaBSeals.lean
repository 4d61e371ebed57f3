/- BlockSeals: for any row of numbers: once sealed, a sector stays so; writes beyond go on. -/
import Derived.Test.YtialbdpfgkefjaaBF
namespace Go.Proofs.Ytialbdpfgkefjaa.lawSeals
open Go.ChangeShapes Go.WideShapes Go.ChangeAt Go.RowKit
set_option linter.unusedVariables false

set_option maxHeartbeats 3200000 in
theorem walk (A : Option Addr) (zs : List Int) (c : Nat) (w : World) (hm : zs.length ≤ maxLen) (hz : IntRow w A zs) :
    Calls Try.prog 7 #[.slice A zs.length c] w fun e w' => e = .returned (.bool true) ∧ Below w.heap.size w w' := by
  unfold maxLen at hm
  have HA := Lib.hid (fun w => awake3_any w)
  have HN := Lib.hid (fun w => new_made 16 w (by omega) (by omega))
  have HX := Lib.hid (fun w c => lsec_any c w)
  have HZ := Lib.hid hz
  clear hz
  have hB := Below.refl w.heap.size w
  go_enter Try.func7, Try.ntmps7
  go_wp2_with (first
    | (go_at_call 9; refine (HA.out _).mono ?_; rintro e v1 ⟨rfl, hb⟩; replace hB := hB.trans (hb.mono hB.size); clear hb)
    | (go_at_call 10; refine (HN.out _).mono ?_; rintro e v2 ⟨p, g, rfl, hp, hg, hb, hd⟩; have hp' := Nat.le_trans hB.size hp; have hg' := Nat.le_trans hB.size hg; replace hB := hB.trans (hb.mono hB.size); clear hb hp hg))
  go_loopw [5, 6] (fun m i wr => ∃ (k : Nat) (D : Dsk), k ≤ zs.length ∧ k ≤ 10 ∧ i = .int .i64 k ∧ m = .int .i64 D.low ∧ D.S.length = 16 ∧ 0 ≤ D.low ∧ D.low < 20 ∧ Below w.heap.size w wr ∧ Dk wr p g D) (fun _ i _ => zs.length - (intOf i).toNat)
  case atStart => exact ⟨0, newD 16, Nat.zero_le _, by omega, rfl, rfl, by simp [newD], by simp [newD], by simp [newD], hB, hd⟩
  case round =>
    obtain ⟨k, D, hk, hk10, rfl, rfl, hlen, hlo, hhi, hB, hd⟩ := hrel
    by_cases hlt : k < zs.length ∧ k < 10
    · obtain ⟨h1, h2⟩ := hlt
      obtain ⟨ad, rfl, hab, hc, hwf⟩ := HZ.out k h1
      have hc1 : wr.cell? (ad.add k) = some (.int .i64 zs[k]) := (hB.cell (p := ad.add k) (by rw [show (ad.add k).block = ad.block by unfold Addr.add; split <;> rfl]; exact hab)).trans hc
      have t1 := Int.tmod_lt_of_pos zs[k] (show (0 : Int) < 20 by omega)
      have t2 := Int.lt_tmod_of_pos zs[k] (show (0 : Int) < 20 by omega)
      clear hc hwf
      generalize zs[k] = z at *
      have HS := Lib.hid (seal_any hd (z.tmod 20))
      have HB := Lib.hid hB
      have Hlen : Hid ((D.seal_ (z.tmod 20)).S.length = 16) := Lib.hid hlen
      clear hB hlen
      by_cases hgt : D.low < z.tmod 20
      · go_wp2_with (go_at_call 14; refine HS.out.mono ?_; rintro e v3 ⟨rfl, hb3, hd3⟩)
        have hl3 : (D.seal_ (z.tmod 20)).low = z.tmod 20 := by show max D.low (z.tmod 20) = _; omega
        have hB3 : Below w.heap.size w v3 := HB.out.trans (hb3.below HB.out.size (fun j e => by omega))
        go_loopw [8] (fun q wr2 => ∃ (j : Nat) (E : Dsk), j ≤ 16 ∧ q = .int .i64 j ∧ E.low = z.tmod 20 ∧ E.S.length = 16 ∧ Below w.heap.size w wr2 ∧ Dk wr2 p g E) (fun q _ => 16 - (intOf q).toNat)
        case atStart => exact ⟨0, _, by omega, rfl, hl3, Hlen.out, hB3, hd3⟩
        case round =>
          obtain ⟨j, E, hj, rfl, hEl, hEn, hB4, hd4⟩ := hrel
          clear hl3 hB3 hb3 hd3
          by_cases hj16 : j < 16
          · have hhas : E.has j = true := has_of (by omega) (by omega)
            have hwr := fun (cc : Int) (w' : World) (h : Dk w' p g E) => write_any h j (secOf cc) (by rw [secOf_size]; omega)
            by_cases hjm : (j : Int) < z.tmod 20
            all_goals
              have hwr2 : ∀ (cc : Int) (w' : World), Dk w' p g E → Calls Try.prog 17 #[.pointer (some ⟨p, 0, none⟩), .int .i64 j, .string (secOf cc)] w' fun e w'' => e = .returned (.int .i64 (if (j : Int) < z.tmod 20 then 13 else 0)) ∧ But (fun j => j = p ∨ j = g) w' w'' ∧ Dk w'' p g (E.wrD j (secOf cc)) := fun cc w' h => by
                have h1 := hwr cc w' h
                rw [wrE_in hhas (secOf_size cc), hEl] at h1
                exact h1
              first | rw [if_pos hjm] at hwr2 | rw [if_neg hjm] at hwr2
              have HW := Lib.hid hwr2
              have HEl := Lib.hid hEl
              have HEn := Lib.hid hEn
              have HB4 := Lib.hid hB4
              clear hwr hwr2 hEl hEn hB4 hhas
              go_wp2_with (first
                | (go_at_call 16; refine (HX.out _ _ (by first | exact wf_wrap _ _ | (simp [Lit.wf, IntKind.min, IntKind.max, IntKind.signed, IntKind.bits]; omega))).mono ?_; rintro e v5 ⟨rfl, hb5⟩; have hd5 := hd4.below hb5 hd4.head.lt hd4.row.lt)
                | (go_at_call 17; refine (HW.out _ _ hd5).mono ?_; rintro e v6 ⟨rfl, hb6, hd6⟩))
              go_roundw
              case rel =>
                have k1 := HB4.out.trans (hb5.mono HB4.out.size)
                exact ⟨j + 1, _, by omega, by go_num, (wrD_low _ _ _).trans HEl.out, (wrD_len _ _ _).trans HEn.out, k1.trans (hb6.below k1.size (fun j e => by omega)), hd6⟩
              case measure => simp [intOf]; omega
          · obtain rfl : j = 16 := by omega
            have HEl := Lib.hid hEl
            have HEn := Lib.hid hEn
            have HB4 := Lib.hid hB4
            clear hEl hEn hB4
            go_wp2
            go_roundw
            case rel => exact ⟨k + 1, E, by omega, by omega, by go_num, by rw [HEl.out], HEn.out, by rw [HEl.out]; omega, by rw [HEl.out]; omega, HB4.out, hd4⟩
            case measure => simp [intOf]; omega

      · go_wp2_with (go_at_call 14; refine HS.out.mono ?_; rintro e v3 ⟨rfl, hb3, hd3⟩)
        have hl3 : (D.seal_ (z.tmod 20)).low = D.low := by show max D.low (z.tmod 20) = _; omega
        have hB3 : Below w.heap.size w v3 := HB.out.trans (hb3.below HB.out.size (fun j e => by omega))
        go_loopw [8] (fun q wr2 => ∃ (j : Nat) (E : Dsk), j ≤ 16 ∧ q = .int .i64 j ∧ E.low = D.low ∧ E.S.length = 16 ∧ Below w.heap.size w wr2 ∧ Dk wr2 p g E) (fun q _ => 16 - (intOf q).toNat)
        case atStart => exact ⟨0, _, by omega, rfl, hl3, Hlen.out, hB3, hd3⟩
        case round =>
          obtain ⟨j, E, hj, rfl, hEl, hEn, hB4, hd4⟩ := hrel
          clear hl3 hB3 hb3 hd3
          by_cases hj16 : j < 16
          · have hhas : E.has j = true := has_of (by omega) (by omega)
            have hwr := fun (cc : Int) (w' : World) (h : Dk w' p g E) => write_any h j (secOf cc) (by rw [secOf_size]; omega)
            by_cases hjm : (j : Int) < D.low
            all_goals
              have hwr2 : ∀ (cc : Int) (w' : World), Dk w' p g E → Calls Try.prog 17 #[.pointer (some ⟨p, 0, none⟩), .int .i64 j, .string (secOf cc)] w' fun e w'' => e = .returned (.int .i64 (if (j : Int) < D.low then 13 else 0)) ∧ But (fun j => j = p ∨ j = g) w' w'' ∧ Dk w'' p g (E.wrD j (secOf cc)) := fun cc w' h => by
                have h1 := hwr cc w' h
                rw [wrE_in hhas (secOf_size cc), hEl] at h1
                exact h1
              first | rw [if_pos hjm] at hwr2 | rw [if_neg hjm] at hwr2
              have HW := Lib.hid hwr2
              have HEl := Lib.hid hEl
              have HEn := Lib.hid hEn
              have HB4 := Lib.hid hB4
              clear hwr hwr2 hEl hEn hB4 hhas
              go_wp2_with (first
                | (go_at_call 16; refine (HX.out _ _ (by first | exact wf_wrap _ _ | (simp [Lit.wf, IntKind.min, IntKind.max, IntKind.signed, IntKind.bits]; omega))).mono ?_; rintro e v5 ⟨rfl, hb5⟩; have hd5 := hd4.below hb5 hd4.head.lt hd4.row.lt)
                | (go_at_call 17; refine (HW.out _ _ hd5).mono ?_; rintro e v6 ⟨rfl, hb6, hd6⟩))
              go_roundw
              case rel =>
                have k1 := HB4.out.trans (hb5.mono HB4.out.size)
                exact ⟨j + 1, _, by omega, by go_num, (wrD_low _ _ _).trans HEl.out, (wrD_len _ _ _).trans HEn.out, k1.trans (hb6.below k1.size (fun j e => by omega)), hd6⟩
              case measure => simp [intOf]; omega
          · obtain rfl : j = 16 := by omega
            have HEl := Lib.hid hEl
            have HEn := Lib.hid hEn
            have HB4 := Lib.hid hB4
            clear hEl hEn hB4
            go_wp2
            go_roundw
            case rel => exact ⟨k + 1, E, by omega, by omega, by go_num, by rw [HEl.out], HEn.out, by rw [HEl.out]; omega, by rw [HEl.out]; omega, HB4.out, hd4⟩
            case measure => simp [intOf]; omega

    · have HB := Lib.hid hB
      clear hB hlen
      by_cases h1 : k < zs.length
      all_goals
        go_wp2
        go_ret
        exact ⟨rfl, HB.out⟩

set_option maxRecDepth 100000 in
theorem lifted (os : Os) (started : os.Started) (H : Type) (enc : TypeId × Value → H) :
    ReturnsInHanded {} Try.checked os 7 .any (Rows.blockSealsSpec.pre6 enc Try.prog Try.f7 Rows.blockSealsRow.domain false) (Rows.blockSealsSpec.post enc Try.prog Try.f7 false true false false) := by
  refine returnsInHanded_of_change (C := Try.checked) own started (by kernel_rfl) Try.func7
    (ChangeSpec.witness6 (enc := enc) (C := Try.checked) false ⟨#[], #[.slice none 0 0], []⟩ 8 (by kernel_rfl) (by kernel_rfl) (by kernel_rfl) (by kernel_rfl)) ?_
  intro W base args ds gs before hval0 hW hcnd _
  have hval : ∀ (j : Nat) t v, Try.f7.params[j]? = some t → args[j]? = some v → Value.okWide Try.prog W .any base t v := hval0
  have hW' := hW
  obtain ⟨p, q, hA0, hV, rfl, hfz, hnd⟩ := hW
  have hA : DataW.TrodAll enc Try.prog W 0 (fun _ => true) true Try.f7.params.toList args.toList ds p := hA0
  rw [Try.params7] at hA hval
  obtain ⟨v0, vs0, d0, ds0, p0, q0, hargs, rfl, rfl, h0, r0⟩ := trodAll_cons hA
  obtain ⟨rfl, rfl, rfl⟩ := trodAll_nil r0
  obtain rfl : args = #[v0] := by cases args; simp_all
  obtain ⟨rfl, rfl⟩ := trodVars_none hV
  have k0 := h0
  have lt0 : ∀ x ∈ p0, x.block < W.heap.size := by obtain ⟨m, hm⟩ := k0; exact DataW.trod_lt m _ _ _ hm
  obtain ⟨LA0, Ll0, Lc0, rfl, Lm0, Lr0⟩ := openInts (hval 0 53 v0 rfl rfl) h0
  clear hA0 hval0
  refine (walk LA0 Ll0 Lc0 W Lm0 Lr0).mono fun e W' ⟨he, bel⟩ => ?_
  subst he
  exact ⟨_, rfl, _, _, _, [], _, [], hW', trodAll_mk1 (shut_bool Try.underlying4 _), (trodAll_cons_mk (Below.trod laidOut (by kernel_rfl) (of_decide_eq_true (by kernel_rfl)) k0 bel lt0) trodAll_mk0), rfl, bel.frame _, fun h => by cases h⟩
theorem over : Rows.blockSealsRow.holds Try.pinned (OpenSpec.ofChange Rows.blockSealsSpec) :=
  OpenClaim.holds_of_wide 7 Try.f7 rfl rfl rfl rfl rfl rfl rfl ⟨rfl, rfl, rfl, rfl, rfl⟩ rfl rfl rfl rfl rfl (by kernel_rfl) Try.func7 (by kernel_rfl)
    (of_decide_eq_true (by kernel_rfl)) (by unfold Func.isWrapper; first | (rw [if_pos (by decide +kernel)]; kernel_rfl) | (rw [if_neg (by decide +kernel)]; exact ⟨rfl, rfl⟩))
    (fun os started H enc _ => lifted os started H enc)
/-- The statement. -/
theorem proved : Rows.BlockSealsSaid := over
end Go.Proofs.Ytialbdpfgkefjaa.lawSeals
