/- Package word: withoutPoint, nearest, Convert. -/
import Derived.Test.YtgiidhmjkkgkaaaDoorWC
namespace Go.Proofs.YtgiidhmjkkgkaaaDoor
open Go.RowKit
set_option linter.unusedVariables false
set_option linter.unusedSimpArgs false

namespace Flt
theorem hi_cut {R X b : Nat} (hg : g R = X * P75) (hR : 0 < R) (hX : 0 < X) (hb : b < 18446744073709551616) : (R : Int) ≤ rz b ↔ (X : Int) ≤ truncZ b := by
  have h := tr_ge (r := b % 9223372036854775808) hg
  unfold rz truncZ
  split <;> omega
theorem lo_cut {R X b : Nat} (hg : g R = X * P75) (hR : 0 < R) (hX : 0 < X) (hb : b < 18446744073709551616) : rz b ≤ -(R : Int) ↔ truncZ b ≤ -(X : Int) := by
  have h := tr_ge (r := b % 9223372036854775808) hg
  unfold rz truncZ
  split <;> omega
theorem zero_cut {b : Nat} : (rz b ≤ 0 → truncZ b ≤ 0) ∧ (¬ rz b ≤ 0 → 0 ≤ truncZ b) := by
  have h0 : tr 0 = 0 := tr_none (by decide)
  unfold rz truncZ
  split
  · constructor <;> omega
  · constructor
    · intro h
      rw [show b % 9223372036854775808 = 0 by omega, h0]; omega
    · omega
theorem leq_eq {b F : Nat} (hb : b < 18446744073709551616) (hF : F < 18446744073709551616) (nb : nanB b = false) (nF : nanB F = false) :
    (Ieee.double.order b F == some .lt || Ieee.double.order b F == some .eq) = decide (rz b ≤ rz F) := by
  rw [order_eq hb hF, nb, nF]
  simp only [Bool.or_self, Bool.false_eq_true, if_false, compare, compareOfLessAndEq]
  by_cases h1 : rz b < rz F
  · simp [h1]; omega
  · by_cases h2 : rz b = rz F
    · simp [h2]
    · simp [h1, h2]; omega
theorem geq_eq {b F : Nat} (hb : b < 18446744073709551616) (hF : F < 18446744073709551616) (nb : nanB b = false) (nF : nanB F = false) :
    (Ieee.double.order b F == some .gt || Ieee.double.order b F == some .eq) = decide (rz F ≤ rz b) := by
  rw [order_eq hb hF, nb, nF]
  simp only [Bool.or_self, Bool.false_eq_true, if_false, compare, compareOfLessAndEq]
  by_cases h1 : rz b < rz F
  · simp [h1]
  · by_cases h2 : rz b = rz F
    · simp [h2]
    · simp [h1, h2]; omega
end Flt

theorem truncOk {b : Nat} (hb : b < 18446744073709551616) (h0 : Flt.rz b < 9218868437227405312) (h1 : -9218868437227405312 < Flt.rz b) :
    (FloatKind.f64.decode b).toInt .zero = some (Flt.truncZ b) := by
  refine Flt.toInt_eq hb ?_
  unfold Flt.rz at h0 h1
  split at h0 <;> omega

set_option maxHeartbeats 1600000 in
theorem wop_walk (sg N c1 c2 : Bool) (k L H t : Int) (b FL FH : Nat) (w : World)
    (HE : Hid (Calls Tryd.prog 48 #[.int .i64 k] w fun e w' => e = .returned (.tuple #[.int .u64 L, .int .u64 H]) ∧ w = w'))
    (HI : Hid (Calls Tryd.prog 42 #[.float .f64 b] w fun e w' => e = .returned (.bool N) ∧ w = w'))
    (HP1 : Hid (Calls Tryd.prog 33 #[.int .i64 k, .int .u64 L] w fun e w' => e = .returned (.float .f64 FL) ∧ w = w'))
    (HP2 : Hid (Calls Tryd.prog 33 #[.int .i64 k, .int .u64 H] w fun e w' => e = .returned (.float .f64 FH) ∧ w = w'))
    (HS : Hid (Calls Tryd.prog 16 #[.int .i64 k] w fun e w' => e = .returned (.bool sg) ∧ w = w'))
    (h1 : (FloatKind.f64.format.order b FL == some .lt || FloatKind.f64.format.order b FL == some .eq) = c1)
    (h2 : (FloatKind.f64.format.order b FH == some .gt || FloatKind.f64.format.order b FH == some .eq) = c2)
    (hcu : N = false → c1 = false → c2 = false → sg = false → ∀ w, (convert 49 22 (.float .f64 b)).run Tryd.prog w = .ok (.int .u64 t) w)
    (hci : N = false → c1 = false → c2 = false → sg = true → ∀ w, (convert 49 2 (.float .f64 b)).run Tryd.prog w = .ok (.int .i64 t) w) :
    Calls Tryd.prog 34 #[.int .i64 k, .float .f64 b] w fun e w' => e = .returned (.int .u64 (if N then 0 else if c1 then L else if c2 then H else if sg then t % 18446744073709551616 else t)) ∧ w = w' := by
  cases N
  case true =>
    clear h1 h2 hcu hci
    go_enter Tryd.func34, Tryd.ntmps34
    go_wp2_with (first
      | (go_at_call 48; refine HE.out.mono ?_; rintro e w' ⟨rfl, rfl⟩)
      | (go_at_call 42; refine HI.out.mono ?_; rintro e w' ⟨rfl, rfl⟩))
    go_ret
    exact ⟨rfl, rfl⟩
  case false =>
    cases c1
    case true =>
      clear h2 hcu hci
      go_enter Tryd.func34, Tryd.ntmps34
      go_wp2_with (first
        | (go_at_call 48; refine HE.out.mono ?_; rintro e w' ⟨rfl, rfl⟩)
        | (go_at_call 42; refine HI.out.mono ?_; rintro e w' ⟨rfl, rfl⟩)
        | (go_at_call 33; with_reducible refine HP1.out.mono ?_; rintro e w' ⟨rfl, rfl⟩))
      go_ret
      exact ⟨rfl, rfl⟩
    case false =>
      cases c2
      case true =>
        clear hcu hci
        go_enter Tryd.func34, Tryd.ntmps34
        go_wp2_with (first
          | (go_at_call 48; refine HE.out.mono ?_; rintro e w' ⟨rfl, rfl⟩)
          | (go_at_call 42; refine HI.out.mono ?_; rintro e w' ⟨rfl, rfl⟩)
          | (go_at_call 33; with_reducible refine HP1.out.mono ?_; rintro e w' ⟨rfl, rfl⟩)
          | (go_at_call 33; with_reducible refine HP2.out.mono ?_; rintro e w' ⟨rfl, rfl⟩))
        go_ret
        exact ⟨rfl, rfl⟩
      case false =>
        cases sg
        case true =>
          have hc := hci rfl rfl rfl rfl
          clear hci hcu
          go_enter Tryd.func34, Tryd.ntmps34
          go_wp2_with (first
            | (go_at_call 48; refine HE.out.mono ?_; rintro e w' ⟨rfl, rfl⟩)
            | (go_at_call 42; refine HI.out.mono ?_; rintro e w' ⟨rfl, rfl⟩)
            | (go_at_call 16; refine HS.out.mono ?_; rintro e w' ⟨rfl, rfl⟩)
            | (go_at_call 33; with_reducible refine HP1.out.mono ?_; rintro e w' ⟨rfl, rfl⟩)
            | (go_at_call 33; with_reducible refine HP2.out.mono ?_; rintro e w' ⟨rfl, rfl⟩))
          go_ret
          exact ⟨by simp [IntKind.wrap_u64], rfl⟩
        case false =>
          have hc := hcu rfl rfl rfl rfl
          clear hci hcu
          go_enter Tryd.func34, Tryd.ntmps34
          go_wp2_with (first
            | (go_at_call 48; refine HE.out.mono ?_; rintro e w' ⟨rfl, rfl⟩)
            | (go_at_call 42; refine HI.out.mono ?_; rintro e w' ⟨rfl, rfl⟩)
            | (go_at_call 16; refine HS.out.mono ?_; rintro e w' ⟨rfl, rfl⟩)
            | (go_at_call 33; with_reducible refine HP1.out.mono ?_; rintro e w' ⟨rfl, rfl⟩)
            | (go_at_call 33; with_reducible refine HP2.out.mono ?_; rintro e w' ⟨rfl, rfl⟩))
          go_ret
          exact ⟨rfl, rfl⟩

theorem inZ_lo {k v : Int} (h : v ≤ loZ k) (hlh : loZ k ≤ hiZ k) : inZ k v = loZ k := by unfold inZ; split <;> (try split) <;> omega
theorem inZ_hi {k v : Int} (h : hiZ k ≤ v) (hlh : loZ k ≤ hiZ k) : inZ k v = hiZ k := by unfold inZ; split <;> (try split) <;> omega
theorem inZ_in {k v : Int} (h : loZ k ≤ v) (h' : v ≤ hiZ k) : inZ k v = v := by unfold inZ; split <;> (try split) <;> omega

theorem conv_u64 {b : Nat} (hb : b < 18446744073709551616) (h0 : Flt.rz b < 9218868437227405312) (h1 : -9218868437227405312 < Flt.rz b) (hl : 0 ≤ Flt.truncZ b) (hh : Flt.truncZ b < 18446744073709551616) (w : World) :
    (convert 49 22 (.float .f64 b)).run Tryd.prog w = .ok (.int .u64 (Flt.truncZ b)) w := by
  refine run_convert_float_int w 49 22 .f64 .u64 b _ (by kernel_rfl) (by kernel_rfl) ?_
  unfold floatToIntVal
  rw [truncOk hb h0 h1]
  have e1 : IntKind.u64.min = 0 := by decide
  have e2 : IntKind.u64.max = 18446744073709551615 := by decide
  rw [e1, e2]
  simp only []
  rw [if_pos ⟨hl, by omega⟩]
theorem conv_i64 {b : Nat} (hb : b < 18446744073709551616) (h0 : Flt.rz b < 9218868437227405312) (h1 : -9218868437227405312 < Flt.rz b) (hl : -9223372036854775808 ≤ Flt.truncZ b) (hh : Flt.truncZ b < 9223372036854775808) (w : World) :
    (convert 49 2 (.float .f64 b)).run Tryd.prog w = .ok (.int .i64 (Flt.truncZ b)) w := by
  refine run_convert_float_int w 49 2 .f64 .i64 b _ (by kernel_rfl) (by kernel_rfl) ?_
  unfold floatToIntVal
  rw [truncOk hb h0 h1]
  have e1 : IntKind.i64.min = -9223372036854775808 := by decide
  have e2 : IntKind.i64.max = 9223372036854775807 := by decide
  rw [e1, e2]
  simp only []
  rw [if_pos ⟨hl, by omega⟩]

theorem without_gen (sg : Bool) (k L H : Int) (b FL FH : Nat) (w : World) (hb : b < 18446744073709551616)
    (HE : Hid (Calls Tryd.prog 48 #[.int .i64 k] w fun e w' => e = .returned (.tuple #[.int .u64 L, .int .u64 H]) ∧ w = w'))
    (HP1 : Hid (Calls Tryd.prog 33 #[.int .i64 k, .int .u64 L] w fun e w' => e = .returned (.float .f64 FL) ∧ w = w'))
    (HP2 : Hid (Calls Tryd.prog 33 #[.int .i64 k, .int .u64 H] w fun e w' => e = .returned (.float .f64 FH) ∧ w = w'))
    (HS : Hid (Calls Tryd.prog 16 #[.int .i64 k] w fun e w' => e = .returned (.bool sg) ∧ w = w'))
    (nL : Flt.nanB FL = false) (nH : Flt.nanB FH = false) (lL : FL < 18446744073709551616) (lH : FH < 18446744073709551616)
    (fL : -9218868437227405312 < Flt.rz FL) (fH : Flt.rz FH < 9218868437227405312)
    (hL : L = wordZ (loZ k)) (hH : H = wordZ (hiZ k))
    (hA : Flt.rz b ≤ Flt.rz FL → Flt.truncZ b ≤ loZ k) (hB : ¬ Flt.rz b ≤ Flt.rz FL → loZ k ≤ Flt.truncZ b)
    (hC : Flt.rz FH ≤ Flt.rz b → hiZ k ≤ Flt.truncZ b) (hD : ¬ Flt.rz FH ≤ Flt.rz b → Flt.truncZ b ≤ hiZ k)
    (hlh : loZ k ≤ hiZ k) (hus : sg = false → loZ k = 0 ∧ hiZ k < 18446744073709551616) (hsi : sg = true → -9223372036854775808 ≤ loZ k ∧ hiZ k < 9223372036854775808) :
    Calls Tryd.prog 34 #[.int .i64 k, .float .f64 b] w fun e w' => e = .returned (.int .u64 (if Flt.nanB b then 0 else wordZ (inZ k (Flt.truncZ b)))) ∧ w = w' := by
  have HI := Lib.hid (isnan_any b w hb)
  have E : (if Flt.nanB b then 0 else if decide (Flt.rz b ≤ Flt.rz FL) then L else if decide (Flt.rz FH ≤ Flt.rz b) then H else if sg then Flt.truncZ b % 18446744073709551616 else Flt.truncZ b) = (if Flt.nanB b then 0 else wordZ (inZ k (Flt.truncZ b))) := by
    cases hN : Flt.nanB b
    · simp only [Bool.false_eq_true, if_false, decide_eq_true_eq]
      by_cases h1 : Flt.rz b ≤ Flt.rz FL
      · rw [if_pos h1, inZ_lo (hA h1) hlh, hL]
      · rw [if_neg h1]
        by_cases h2 : Flt.rz FH ≤ Flt.rz b
        · rw [if_pos h2, inZ_hi (hC h2) hlh, hH]
        · rw [if_neg h2, inZ_in (hB h1) (hD h2)]
          have b1 := hB h1
          have b2 := hD h2
          cases sg
          · have := hus rfl
            simp only [Bool.false_eq_true, if_false, wordZ]
            omega
          · simp [wordZ]
    · simp
  rw [← E]
  cases hN : Flt.nanB b
  case true =>
    rw [hN] at HI
    exact wop_walk sg true _ _ k L H 0 b FL FH w HE HI HP1 HP2 HS rfl rfl (fun h => by cases h) (fun h => by cases h)
      |>.mono fun e w' h => by simpa using h
  case false =>
    rw [hN] at HI
    refine wop_walk sg false _ _ k L H (Flt.truncZ b) b FL FH w HE HI HP1 HP2 HS (Flt.leq_eq hb lL hN nL) (Flt.geq_eq hb lH hN nH) (fun _ c1 c2 hs => ?_) (fun _ c1 c2 hs => ?_)
    · have d1 := of_decide_eq_false c1
      have d2 := of_decide_eq_false c2
      have b1 := hB d1
      have b2 := hD d2
      have := hus hs
      exact fun w => conv_u64 hb (by omega) (by omega) (by omega) (by omega) w
    · have d1 := of_decide_eq_false c1
      have d2 := of_decide_eq_false c2
      have b1 := hB d1
      have b2 := hD d2
      have := hsi hs
      exact fun w => conv_i64 hb (by omega) (by omega) (by omega) (by omega) w

theorem without_1 (b : Nat) (w : World) (hT : Tab w) (hb : b < 18446744073709551616) :
    Calls Tryd.prog 34 #[.int .i64 1, .float .f64 b] w fun e w' => e = .returned (.int .u64 (if Flt.nanB b then 0 else wordZ (inZ 1 (Flt.truncZ b)))) ∧ w = w' := by
  have e1 : Flt.fl (valZ 1 0) = 0 := by decide +kernel
  have e2 : Flt.fl (valZ 1 255) = 4643176031446892544 := by decide +kernel
  have HP1 := Lib.hid (withpt_any 1 0 w (by decide) (by decide))
  have HP2 := Lib.hid (withpt_any 1 255 w (by decide) (by decide))
  rw [e1] at HP1
  rw [e2] at HP2
  have HE := Lib.hid (ends_any 1 w (by decide) hT (by decide) (by decide))
  have HS := Lib.hid (signed_any 1 w (by decide))
  have l : loZ 1 = 0 := by decide
  have h : hiZ 1 = 255 := by decide
  have rH : Flt.rz 4643176031446892544 = (4643176031446892544 : Nat) := by decide
  have cH := Flt.hi_cut (R := 4643176031446892544) (X := 255) (b := b) (by decide +kernel) (by decide) (by decide) hb
  have rL : Flt.rz 0 = 0 := by decide
  have cL := Flt.zero_cut (b := b)
  exact without_gen false 1 0 255 b 0 4643176031446892544 w hb HE HP1 HP2 HS (by decide) (by decide) (by decide) (by decide) (by rw [rL]; decide) (by rw [rH]; decide) (by decide) (by decide)
    (fun x => by rw [rL] at x; rw [l]; exact cL.1 x) (fun x => by rw [rL] at x; rw [l]; exact cL.2 x)
    (fun x => by rw [rH] at x; rw [h]; have := cH.1 x; omega) (fun x => by rw [rH] at x; rw [h]; have := fun y => x (cH.2 y); omega)
    (by decide) (by decide) (by decide)
theorem without_2 (b : Nat) (w : World) (hT : Tab w) (hb : b < 18446744073709551616) :
    Calls Tryd.prog 34 #[.int .i64 2, .float .f64 b] w fun e w' => e = .returned (.int .u64 (if Flt.nanB b then 0 else wordZ (inZ 2 (Flt.truncZ b)))) ∧ w = w' := by
  have e1 : Flt.fl (valZ 2 0) = 0 := by decide +kernel
  have e2 : Flt.fl (valZ 2 65535) = 4679239875398991872 := by decide +kernel
  have HP1 := Lib.hid (withpt_any 2 0 w (by decide) (by decide))
  have HP2 := Lib.hid (withpt_any 2 65535 w (by decide) (by decide))
  rw [e1] at HP1
  rw [e2] at HP2
  have HE := Lib.hid (ends_any 2 w (by decide) hT (by decide) (by decide))
  have HS := Lib.hid (signed_any 2 w (by decide))
  have l : loZ 2 = 0 := by decide
  have h : hiZ 2 = 65535 := by decide
  have rH : Flt.rz 4679239875398991872 = (4679239875398991872 : Nat) := by decide
  have cH := Flt.hi_cut (R := 4679239875398991872) (X := 65535) (b := b) (by decide +kernel) (by decide) (by decide) hb
  have rL : Flt.rz 0 = 0 := by decide
  have cL := Flt.zero_cut (b := b)
  exact without_gen false 2 0 65535 b 0 4679239875398991872 w hb HE HP1 HP2 HS (by decide) (by decide) (by decide) (by decide) (by rw [rL]; decide) (by rw [rH]; decide) (by decide) (by decide)
    (fun x => by rw [rL] at x; rw [l]; exact cL.1 x) (fun x => by rw [rL] at x; rw [l]; exact cL.2 x)
    (fun x => by rw [rH] at x; rw [h]; have := cH.1 x; omega) (fun x => by rw [rH] at x; rw [h]; have := fun y => x (cH.2 y); omega)
    (by decide) (by decide) (by decide)
theorem without_3 (b : Nat) (w : World) (hT : Tab w) (hb : b < 18446744073709551616) :
    Calls Tryd.prog 34 #[.int .i64 3, .float .f64 b] w fun e w' => e = .returned (.int .u64 (if Flt.nanB b then 0 else wordZ (inZ 3 (Flt.truncZ b)))) ∧ w = w' := by
  have e1 : Flt.fl (valZ 3 0) = 0 := by decide +kernel
  have e2 : Flt.fl (valZ 3 4294967295) = 4751297606873776128 := by decide +kernel
  have HP1 := Lib.hid (withpt_any 3 0 w (by decide) (by decide))
  have HP2 := Lib.hid (withpt_any 3 4294967295 w (by decide) (by decide))
  rw [e1] at HP1
  rw [e2] at HP2
  have HE := Lib.hid (ends_any 3 w (by decide) hT (by decide) (by decide))
  have HS := Lib.hid (signed_any 3 w (by decide))
  have l : loZ 3 = 0 := by decide
  have h : hiZ 3 = 4294967295 := by decide
  have rH : Flt.rz 4751297606873776128 = (4751297606873776128 : Nat) := by decide
  have cH := Flt.hi_cut (R := 4751297606873776128) (X := 4294967295) (b := b) (by decide +kernel) (by decide) (by decide) hb
  have rL : Flt.rz 0 = 0 := by decide
  have cL := Flt.zero_cut (b := b)
  exact without_gen false 3 0 4294967295 b 0 4751297606873776128 w hb HE HP1 HP2 HS (by decide) (by decide) (by decide) (by decide) (by rw [rL]; decide) (by rw [rH]; decide) (by decide) (by decide)
    (fun x => by rw [rL] at x; rw [l]; exact cL.1 x) (fun x => by rw [rL] at x; rw [l]; exact cL.2 x)
    (fun x => by rw [rH] at x; rw [h]; have := cH.1 x; omega) (fun x => by rw [rH] at x; rw [h]; have := fun y => x (cH.2 y); omega)
    (by decide) (by decide) (by decide)
theorem without_4 (b : Nat) (w : World) (hT : Tab w) (hb : b < 18446744073709551616) :
    Calls Tryd.prog 34 #[.int .i64 4, .float .f64 b] w fun e w' => e = .returned (.int .u64 (if Flt.nanB b then 0 else wordZ (inZ 4 (Flt.truncZ b)))) ∧ w = w' := by
  have e1 : Flt.fl (valZ 4 0) = 0 := by decide +kernel
  have e2 : Flt.fl (valZ 4 18446744073709551615) = 4895412794951729152 := by decide +kernel
  have HP1 := Lib.hid (withpt_any 4 0 w (by decide) (by decide))
  have HP2 := Lib.hid (withpt_any 4 18446744073709551615 w (by decide) (by decide))
  rw [e1] at HP1
  rw [e2] at HP2
  have HE := Lib.hid (ends_any 4 w (by decide) hT (by decide) (by decide))
  have HS := Lib.hid (signed_any 4 w (by decide))
  have l : loZ 4 = 0 := by decide
  have h : hiZ 4 = 18446744073709551615 := by decide
  have rH : Flt.rz 4895412794951729152 = (4895412794951729152 : Nat) := by decide
  have cH := Flt.hi_cut (R := 4895412794951729152) (X := 18446744073709551616) (b := b) (by decide +kernel) (by decide) (by decide) hb
  have rL : Flt.rz 0 = 0 := by decide
  have cL := Flt.zero_cut (b := b)
  exact without_gen false 4 0 18446744073709551615 b 0 4895412794951729152 w hb HE HP1 HP2 HS (by decide) (by decide) (by decide) (by decide) (by rw [rL]; decide) (by rw [rH]; decide) (by decide) (by decide)
    (fun x => by rw [rL] at x; rw [l]; exact cL.1 x) (fun x => by rw [rL] at x; rw [l]; exact cL.2 x)
    (fun x => by rw [rH] at x; rw [h]; have := cH.1 x; omega) (fun x => by rw [rH] at x; rw [h]; have := fun y => x (cH.2 y); omega)
    (by decide) (by decide) (by decide)
theorem without_5 (b : Nat) (w : World) (hT : Tab w) (hb : b < 18446744073709551616) :
    Calls Tryd.prog 34 #[.int .i64 5, .float .f64 b] w fun e w' => e = .returned (.int .u64 (if Flt.nanB b then 0 else wordZ (inZ 5 (Flt.truncZ b)))) ∧ w = w' := by
  have e1 : Flt.fl (valZ 5 18446744073709551488) = 13862079653046386688 := by decide +kernel
  have e2 : Flt.fl (valZ 5 127) = 4638637247447433216 := by decide +kernel
  have HP1 := Lib.hid (withpt_any 5 18446744073709551488 w (by decide) (by decide))
  have HP2 := Lib.hid (withpt_any 5 127 w (by decide) (by decide))
  rw [e1] at HP1
  rw [e2] at HP2
  have HE := Lib.hid (ends_any 5 w (by decide) hT (by decide) (by decide))
  have HS := Lib.hid (signed_any 5 w (by decide))
  have l : loZ 5 = -128 := by decide
  have h : hiZ 5 = 127 := by decide
  have rH : Flt.rz 4638637247447433216 = (4638637247447433216 : Nat) := by decide
  have cH := Flt.hi_cut (R := 4638637247447433216) (X := 127) (b := b) (by decide +kernel) (by decide) (by decide) hb
  have rL : Flt.rz 13862079653046386688 = -((4638707616191610880 : Nat) : Int) := by decide
  have cL := Flt.lo_cut (R := 4638707616191610880) (X := 128) (b := b) (by decide +kernel) (by decide) (by decide) hb
  exact without_gen true 5 18446744073709551488 127 b 13862079653046386688 4638637247447433216 w hb HE HP1 HP2 HS (by decide) (by decide) (by decide) (by decide) (by rw [rL]; decide) (by rw [rH]; decide) (by decide) (by decide)
    (fun x => by rw [rL] at x; rw [l]; have := cL.1 x; omega) (fun x => by rw [rL] at x; rw [l]; have := fun y => x (cL.2 y); omega)
    (fun x => by rw [rH] at x; rw [h]; have := cH.1 x; omega) (fun x => by rw [rH] at x; rw [h]; have := fun y => x (cH.2 y); omega)
    (by decide) (by decide) (by decide)
theorem without_6 (b : Nat) (w : World) (hT : Tab w) (hb : b < 18446744073709551616) :
    Calls Tryd.prog 34 #[.int .i64 6, .float .f64 b] w fun e w' => e = .returned (.int .u64 (if Flt.nanB b then 0 else wordZ (inZ 6 (Flt.truncZ b)))) ∧ w = w' := by
  have e1 : Flt.fl (valZ 6 18446744073709518848) = 13898108450065350656 := by decide +kernel
  have e2 : Flt.fl (valZ 6 32767) = 4674736138332667904 := by decide +kernel
  have HP1 := Lib.hid (withpt_any 6 18446744073709518848 w (by decide) (by decide))
  have HP2 := Lib.hid (withpt_any 6 32767 w (by decide) (by decide))
  rw [e1] at HP1
  rw [e2] at HP2
  have HE := Lib.hid (ends_any 6 w (by decide) hT (by decide) (by decide))
  have HS := Lib.hid (signed_any 6 w (by decide))
  have l : loZ 6 = -32768 := by decide
  have h : hiZ 6 = 32767 := by decide
  have rH : Flt.rz 4674736138332667904 = (4674736138332667904 : Nat) := by decide
  have cH := Flt.hi_cut (R := 4674736138332667904) (X := 32767) (b := b) (by decide +kernel) (by decide) (by decide) hb
  have rL : Flt.rz 13898108450065350656 = -((4674736413210574848 : Nat) : Int) := by decide
  have cL := Flt.lo_cut (R := 4674736413210574848) (X := 32768) (b := b) (by decide +kernel) (by decide) (by decide) hb
  exact without_gen true 6 18446744073709518848 32767 b 13898108450065350656 4674736138332667904 w hb HE HP1 HP2 HS (by decide) (by decide) (by decide) (by decide) (by rw [rL]; decide) (by rw [rH]; decide) (by decide) (by decide)
    (fun x => by rw [rL] at x; rw [l]; have := cL.1 x; omega) (fun x => by rw [rL] at x; rw [l]; have := fun y => x (cL.2 y); omega)
    (fun x => by rw [rH] at x; rw [h]; have := cH.1 x; omega) (fun x => by rw [rH] at x; rw [h]; have := fun y => x (cH.2 y); omega)
    (by decide) (by decide) (by decide)
theorem without_7 (b : Nat) (w : World) (hT : Tab w) (hb : b < 18446744073709551616) :
    Calls Tryd.prog 34 #[.int .i64 7, .float .f64 b] w fun e w' => e = .returned (.int .u64 (if Flt.nanB b then 0 else wordZ (inZ 7 (Flt.truncZ b)))) ∧ w = w' := by
  have e1 : Flt.fl (valZ 7 18446744071562067968) = 13970166044103278592 := by decide +kernel
  have e2 : Flt.fl (valZ 7 2147483647) = 4746794007244308480 := by decide +kernel
  have HP1 := Lib.hid (withpt_any 7 18446744071562067968 w (by decide) (by decide))
  have HP2 := Lib.hid (withpt_any 7 2147483647 w (by decide) (by decide))
  rw [e1] at HP1
  rw [e2] at HP2
  have HE := Lib.hid (ends_any 7 w (by decide) hT (by decide) (by decide))
  have HS := Lib.hid (signed_any 7 w (by decide))
  have l : loZ 7 = -2147483648 := by decide
  have h : hiZ 7 = 2147483647 := by decide
  have rH : Flt.rz 4746794007244308480 = (4746794007244308480 : Nat) := by decide
  have cH := Flt.hi_cut (R := 4746794007244308480) (X := 2147483647) (b := b) (by decide +kernel) (by decide) (by decide) hb
  have rL : Flt.rz 13970166044103278592 = -((4746794007248502784 : Nat) : Int) := by decide
  have cL := Flt.lo_cut (R := 4746794007248502784) (X := 2147483648) (b := b) (by decide +kernel) (by decide) (by decide) hb
  exact without_gen true 7 18446744071562067968 2147483647 b 13970166044103278592 4746794007244308480 w hb HE HP1 HP2 HS (by decide) (by decide) (by decide) (by decide) (by rw [rL]; decide) (by rw [rH]; decide) (by decide) (by decide)
    (fun x => by rw [rL] at x; rw [l]; have := cL.1 x; omega) (fun x => by rw [rL] at x; rw [l]; have := fun y => x (cL.2 y); omega)
    (fun x => by rw [rH] at x; rw [h]; have := cH.1 x; omega) (fun x => by rw [rH] at x; rw [h]; have := fun y => x (cH.2 y); omega)
    (by decide) (by decide) (by decide)
theorem without_8 (b : Nat) (w : World) (hT : Tab w) (hb : b < 18446744073709551616) :
    Calls Tryd.prog 34 #[.int .i64 8, .float .f64 b] w fun e w' => e = .returned (.int .u64 (if Flt.nanB b then 0 else wordZ (inZ 8 (Flt.truncZ b)))) ∧ w = w' := by
  have e1 : Flt.fl (valZ 8 9223372036854775808) = 14114281232179134464 := by decide +kernel
  have e2 : Flt.fl (valZ 8 9223372036854775807) = 4890909195324358656 := by decide +kernel
  have HP1 := Lib.hid (withpt_any 8 9223372036854775808 w (by decide) (by decide))
  have HP2 := Lib.hid (withpt_any 8 9223372036854775807 w (by decide) (by decide))
  rw [e1] at HP1
  rw [e2] at HP2
  have HE := Lib.hid (ends_any 8 w (by decide) hT (by decide) (by decide))
  have HS := Lib.hid (signed_any 8 w (by decide))
  have l : loZ 8 = -9223372036854775808 := by decide
  have h : hiZ 8 = 9223372036854775807 := by decide
  have rH : Flt.rz 4890909195324358656 = (4890909195324358656 : Nat) := by decide
  have cH := Flt.hi_cut (R := 4890909195324358656) (X := 9223372036854775808) (b := b) (by decide +kernel) (by decide) (by decide) hb
  have rL : Flt.rz 14114281232179134464 = -((4890909195324358656 : Nat) : Int) := by decide
  have cL := Flt.lo_cut (R := 4890909195324358656) (X := 9223372036854775808) (b := b) (by decide +kernel) (by decide) (by decide) hb
  exact without_gen true 8 9223372036854775808 9223372036854775807 b 14114281232179134464 4890909195324358656 w hb HE HP1 HP2 HS (by decide) (by decide) (by decide) (by decide) (by rw [rL]; decide) (by rw [rH]; decide) (by decide) (by decide)
    (fun x => by rw [rL] at x; rw [l]; have := cL.1 x; omega) (fun x => by rw [rL] at x; rw [l]; have := fun y => x (cL.2 y); omega)
    (fun x => by rw [rH] at x; rw [h]; have := cH.1 x; omega) (fun x => by rw [rH] at x; rw [h]; have := fun y => x (cH.2 y); omega)
    (by decide) (by decide) (by decide)

theorem without_any (k : Int) (b : Nat) (w : World) (hT : Tab w) (h1 : 1 ≤ k) (h8 : k ≤ 8) (hb : b < 18446744073709551616) :
    Calls Tryd.prog 34 #[.int .i64 k, .float .f64 b] w fun e w' => e = .returned (.int .u64 (if Flt.nanB b then 0 else wordZ (inZ k (Flt.truncZ b)))) ∧ w = w' := by
  rcases kinds k with rfl | rfl | rfl | rfl | rfl | rfl | rfl | rfl | rfl | hout
  · exact without_1 b w hT hb
  · exact without_2 b w hT hb
  · exact without_3 b w hT hb
  · exact without_4 b w hT hb
  · exact without_5 b w hT hb
  · exact without_6 b w hT hb
  · exact without_7 b w hT hb
  · exact without_8 b w hT hb
  · omega
  · omega
end Go.Proofs.YtgiidhmjkkgkaaaDoor
