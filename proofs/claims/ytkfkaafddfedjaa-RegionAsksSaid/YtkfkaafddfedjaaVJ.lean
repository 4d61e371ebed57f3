/- The reference's Gap. -/
import Derived.Test.YtkfkaafddfedjaaVI
namespace Go.Proofs.Ytkfkaafddfedjaa
open Go.RowKit Go.ChangeShapes Go.WideShapes Go.Deep
set_option linter.unusedVariables false
set_option linter.unusedSimpArgs false

/-- Are j pages from p on none's? -/
def freB (L : List Rg) (p j : Nat) : Bool := (List.range j).all fun i => (atL L ((p + i : Nat) : Int)).isNone
theorem freB_succ (L : List Rg) (p j : Nat) : freB L p (j + 1) = (freB L p j && (atL L ((p + j : Nat) : Int)).isNone) := by
  unfold freB
  rw [List.range_succ, List.all_append]
  simp
theorem freB_true {L : List Rg} {p N : Nat} : freB L p N = true ↔ ∀ x : Int, (p : Int) ≤ x → x < (p : Int) + N → atL L x = none := by
  unfold freB
  rw [List.all_eq_true]
  refine ⟨fun h x h1 h2 => ?_, fun h i hi => ?_⟩
  · have := h (x - p).toNat (List.mem_range.2 (by omega))
    rw [show (((p + (x - p).toNat : Nat)) : Int) = x by omega] at this
    simpa using this
  · have := h ((p + i : Nat) : Int) (by omega) (by have := List.mem_range.1 hi; omega)
    simpa using this
theorem gap_ref {L : List Rg} (h : Asc L) {a N : Nat} (hN : 1 ≤ N) : (a : Int) ≤ gapA L a N ∧ ∀ p : Nat, a ≤ p → (p : Int) ≤ gapA L a N → freB L p N = decide ((p : Int) = gapA L a N) := by
  obtain ⟨h1, h2, h3⟩ := gapA_ok (l := L) h (a := (a : Int)) (n := (N : Int)) (by omega)
  refine ⟨h1, fun p p1 p2 => ?_⟩
  by_cases e : (p : Int) = gapA L a N
  · rw [decide_eq_true e]
    exact freB_true.2 fun x x1 x2 => h2 x (by omega) (by omega)
  · rw [decide_eq_false e]
    obtain ⟨x, x1, x2, x3⟩ := h3 p (by omega) (by omega)
    cases hf : freB L p N with
    | false => rfl
    | true =>
      have := freB_true.1 hf x x1 x2
      rw [this] at x3
      cases x3

set_option maxRecDepth 100000 in
set_option maxHeartbeats 12800000 in
theorem rgap_any (l : List Rg) (low high np : Int) (A : Option Addr) (n c : Nat) (w : World) (h : RS w A n c l) (hasc : Asc l) (hw1 : (Lit.int .i64 low).wf = true) (hw2 : (Lit.int .i64 high).wf = true) (hw3 : (Lit.int .i64 np).wf = true) :
    Calls Try.prog 10 #[.slice A n c, .int .i64 low, .int .i64 high, .int .i64 np] w fun e w' => e = .returned (.tuple #[.int .i64 ((gapO l low high np).getD 0), .bool (gapO l low high np).isSome]) ∧ Below w.heap.size w w' := by
  have HSP := Lib.hid (rspread_any l A n c w h hasc)
  obtain ⟨R, hR⟩ : ∃ R, gapO l low high np = R := ⟨_, rfl⟩
  rw [hR]
  have HASC := Lib.hid hasc
  have b1 := wf64_bd hw1
  have b2 := wf64_bd hw2
  have b3 := wf64_bd hw3
  clear h hasc hw1 hw2 hw3
  by_cases c1 : low < 0
  · have c1' : decide (low < 0) = true := decide_eq_true c1
    have haa : max low 0 = ((0 : Nat) : Int) := by omega
    by_cases c2 : 4096 < high
    · have c2' : decide (4096 < high) = true := decide_eq_true c2
      have hee : min high 4096 = 4096 := by omega
      unfold gapO at hR
      rw [haa, hee] at hR
      go_enter Try.func10, Try.ntmps10
      go_upto_region 2 with (go_at_call 13; refine HSP.out.mono ?_; rintro e v1 ⟨ad, f, rfl, ho, hsp, hlo, hb1⟩)
      obtain ⟨g, rfl⟩ : ∃ g, ad = ⟨g, 0, none⟩ := ⟨_, ho.where_⟩
      have HS := Lib.hid (fun (p : Nat) (hp : p < 4096) => show v1.cell? ⟨g, p * 7 + 6, none⟩ = some (.bool (atL l p).isSome) from by rw [← hsp.2 p hp]; exact (ho.sevenL hp).c6)
      have HB := Lib.hid hb1
      clear ho hsp hlo hb1
      by_cases c3 : np < 1
      · have c3' : decide (np < 1) = true := decide_eq_true c3
        have HV := Lib.hid (show (none : Option Int) = R from by rw [← hR, if_pos (by omega)])
        clear hR
        go_wp2
        go_ret2
        exact ⟨by rw [← HV.out]; rfl, HB.out⟩
      · have c3' : decide (np < 1) = false := decide_eq_false c3
        obtain ⟨N, rfl⟩ : ∃ N : Nat, np = (N : Int) := ⟨np.toNat, by omega⟩
        obtain ⟨hm1, hm2⟩ := gap_ref HASC.out (a := 0) (N := N) (by omega)
        obtain ⟨G, hG⟩ : ∃ G, gapA l ((0 : Nat) : Int) (N : Int) = G := ⟨_, rfl⟩
        rw [hG] at hm1 hm2 hR
        have HR := Lib.hid hR
        have HM := Lib.hid hm2
        have HG0 := Lib.hid hm1
        clear hR hm2 hG hm1
        go_wp2
        go_loopw [11] (fun pv wr => ∃ p : Nat, 0 ≤ p ∧ pv = .int .i64 p ∧ (p : Int) ≤ 9223372036854775807 ∧ wr = v1 ∧ Hid ((p : Int) ≤ G)) (fun pv _ => 4097 - (intOf pv).toNat)
        case atStart => exact ⟨0, Nat.le_refl _, rfl, by omega, rfl, HG0⟩
        case round =>
          obtain ⟨p, hp0, rfl, hp1, rfl, HI⟩ := hrel
          by_cases k1 : (p : Int) < 4096
          · have k1' : decide ((p : Int) < 4096) = true := decide_eq_true k1
            have w1 : wrap64 (4096 - (p : Int)) = 4096 - p := IntWalk.wrap64_in _ (by omega)
            have w2 : IntKind.i64.wrap (4096 - (p : Int)) = 4096 - p := IntWalk.i64_in _ (by omega)
            by_cases k2 : (N : Int) ≤ 4096 - (p : Int)
            · have k2' : decide ((N : Int) ≤ 4096 - (p : Int)) = true := decide_eq_true k2
              have hpN : p + N ≤ 4096 := by clear w1 w2; omega
              have w3 : wrap64 ((p : Int) + (N : Int)) = (p : Int) + N := IntWalk.wrap64_in _ (by clear w1 w2; omega)
              have w4 : IntKind.i64.wrap ((p : Int) + (N : Int)) = (p : Int) + N := IntWalk.i64_in _ (by clear w1 w2; omega)
              have HW := Lib.hid (And.intro w3 w4)
              have HFR := Lib.hid (HM.out p hp0 HI.out)
              go_wp2
              clear w1 w2 w3 w4
              go_loopw [12, 13] (fun fv kv wq => ∃ k : Nat, p ≤ k ∧ k ≤ p + N ∧ kv = .int .i64 k ∧ fv = .bool (freB l p (k - p)) ∧ wq = wr) (fun _ kv _ => p + N - (intOf kv).toNat)
              case atStart => exact ⟨p, Nat.le_refl _, Nat.le_add_right _ _, rfl, by rw [Nat.sub_self]; rfl, rfl⟩
              case round =>
                obtain ⟨k, hk0, hk1, rfl, rfl, rfl⟩ := hrel
                obtain ⟨w3, w4⟩ := HW.out
                by_cases hkl : k < p + N
                · have hs := HS.out k (by clear w3 w4; omega)
                  have hfs := freB_succ l p (k - p)
                  rw [show p + (k - p) = k by clear w3 w4; omega, show k - p + 1 = k + 1 - p by clear w3 w4; omega] at hfs
                  obtain ⟨s, hse⟩ : ∃ s, (atL l (k : Int)).isSome = s := ⟨_, rfl⟩
                  have hnn : (atL l (k : Int)).isNone = !s := by rw [← hse]; simp
                  rw [hse] at hs
                  rw [hnn] at hfs
                  obtain ⟨fr, hfr⟩ : ∃ b, freB l p (k - p) = b := ⟨_, rfl⟩
                  rw [hfr] at hfs ⊢
                  have HFS := Lib.hid hfs
                  have j1 : (k : Int) < (p : Int) + (N : Int) := by clear w3 w4; omega
                  have j2 : decide ((k : Int) < (p : Int) + (N : Int)) = true := decide_eq_true j1
                  have j3 : (0 : Int) ≤ (k : Int) := by clear w3 w4; omega
                  have j4 : (k : Int) < 4096 := by clear w3 w4; omega
                  clear hfs hse hnn hfr
                  cases fr <;> cases s
                  all_goals
                    go_wp2
                    clear w3 w4 j1 j2 j3 j4 hs
                    go_roundw
                    case rel => exact ⟨k + 1, by omega, by omega, by go_num, by rw [HFS.out]; rfl, by simp⟩
                    case measure => simp [intOf]; omega
                · obtain rfl : k = p + N := by clear w3 w4; omega
                  have j2 : decide (((p + N : Nat) : Int) < (p : Int) + (N : Int)) = false := decide_eq_false (by clear w3 w4; omega)
                  have j3 : ¬ ((p + N : Nat) : Int) < (p : Int) + (N : Int) := by clear w3 w4; omega
                  have e1 : ((p + N : Nat) : Int) = (p : Int) + (N : Int) := by clear w3 w4; omega
                  rw [show p + N - p = N by clear w3 w4; omega, HFR.out]
                  by_cases e : (p : Int) = G
                  · have HV := Lib.hid (show some (p : Int) = R from by rw [← HR.out, ← e, if_neg (by clear w3 w4; omega)])
                    rw [decide_eq_true e]
                    clear e
                    go_wp2
                    go_ret2
                    exact ⟨by rw [← HV.out]; rfl, HB.out⟩
                  · rw [decide_eq_false e]
                    have HLT := Lib.hid (show ((p + 1 : Nat) : Int) ≤ G from by have := HI.out; clear w3 w4; omega)
                    clear e
                    go_wp2
                    clear w3 w4 j2 j3
                    go_roundw
                    case rel => exact ⟨p + 1, by omega, by go_num, by omega, by simp, HLT⟩
                    case measure => simp [intOf]; omega
            · have k2' : decide ((N : Int) ≤ 4096 - (p : Int)) = false := decide_eq_false k2
              have HV := Lib.hid (show (none : Option Int) = R from by have := HI.out; rw [← HR.out, if_pos (by clear w1 w2; omega)])
              go_wp2
              go_ret2
              exact ⟨by rw [← HV.out]; rfl, HB.out⟩
          · have k1' : decide ((p : Int) < 4096) = false := decide_eq_false k1
            have HV := Lib.hid (show (none : Option Int) = R from by have := HI.out; rw [← HR.out, if_pos (by omega)])
            go_wp2
            go_ret2
            exact ⟨by rw [← HV.out]; rfl, HB.out⟩
    · have c2' : decide (4096 < high) = false := decide_eq_false c2
      have hee : min high 4096 = high := by omega
      unfold gapO at hR
      rw [haa, hee] at hR
      go_enter Try.func10, Try.ntmps10
      go_upto_region 2 with (go_at_call 13; refine HSP.out.mono ?_; rintro e v1 ⟨ad, f, rfl, ho, hsp, hlo, hb1⟩)
      obtain ⟨g, rfl⟩ : ∃ g, ad = ⟨g, 0, none⟩ := ⟨_, ho.where_⟩
      have HS := Lib.hid (fun (p : Nat) (hp : p < 4096) => show v1.cell? ⟨g, p * 7 + 6, none⟩ = some (.bool (atL l p).isSome) from by rw [← hsp.2 p hp]; exact (ho.sevenL hp).c6)
      have HB := Lib.hid hb1
      clear ho hsp hlo hb1
      by_cases c3 : np < 1
      · have c3' : decide (np < 1) = true := decide_eq_true c3
        have HV := Lib.hid (show (none : Option Int) = R from by rw [← hR, if_pos (by omega)])
        clear hR
        go_wp2
        go_ret2
        exact ⟨by rw [← HV.out]; rfl, HB.out⟩
      · have c3' : decide (np < 1) = false := decide_eq_false c3
        obtain ⟨N, rfl⟩ : ∃ N : Nat, np = (N : Int) := ⟨np.toNat, by omega⟩
        obtain ⟨hm1, hm2⟩ := gap_ref HASC.out (a := 0) (N := N) (by omega)
        obtain ⟨G, hG⟩ : ∃ G, gapA l ((0 : Nat) : Int) (N : Int) = G := ⟨_, rfl⟩
        rw [hG] at hm1 hm2 hR
        have HR := Lib.hid hR
        have HM := Lib.hid hm2
        have HG0 := Lib.hid hm1
        clear hR hm2 hG hm1
        go_wp2
        go_loopw [11] (fun pv wr => ∃ p : Nat, 0 ≤ p ∧ pv = .int .i64 p ∧ (p : Int) ≤ 9223372036854775807 ∧ wr = v1 ∧ Hid ((p : Int) ≤ G)) (fun pv _ => 4097 - (intOf pv).toNat)
        case atStart => exact ⟨0, Nat.le_refl _, rfl, by omega, rfl, HG0⟩
        case round =>
          obtain ⟨p, hp0, rfl, hp1, rfl, HI⟩ := hrel
          by_cases k1 : (p : Int) < high
          · have k1' : decide ((p : Int) < high) = true := decide_eq_true k1
            have w1 : wrap64 (high - (p : Int)) = high - p := IntWalk.wrap64_in _ (by omega)
            have w2 : IntKind.i64.wrap (high - (p : Int)) = high - p := IntWalk.i64_in _ (by omega)
            by_cases k2 : (N : Int) ≤ high - (p : Int)
            · have k2' : decide ((N : Int) ≤ high - (p : Int)) = true := decide_eq_true k2
              have hpN : p + N ≤ 4096 := by clear w1 w2; omega
              have w3 : wrap64 ((p : Int) + (N : Int)) = (p : Int) + N := IntWalk.wrap64_in _ (by clear w1 w2; omega)
              have w4 : IntKind.i64.wrap ((p : Int) + (N : Int)) = (p : Int) + N := IntWalk.i64_in _ (by clear w1 w2; omega)
              have HW := Lib.hid (And.intro w3 w4)
              have HFR := Lib.hid (HM.out p hp0 HI.out)
              go_wp2
              clear w1 w2 w3 w4
              go_loopw [12, 13] (fun fv kv wq => ∃ k : Nat, p ≤ k ∧ k ≤ p + N ∧ kv = .int .i64 k ∧ fv = .bool (freB l p (k - p)) ∧ wq = wr) (fun _ kv _ => p + N - (intOf kv).toNat)
              case atStart => exact ⟨p, Nat.le_refl _, Nat.le_add_right _ _, rfl, by rw [Nat.sub_self]; rfl, rfl⟩
              case round =>
                obtain ⟨k, hk0, hk1, rfl, rfl, rfl⟩ := hrel
                obtain ⟨w3, w4⟩ := HW.out
                by_cases hkl : k < p + N
                · have hs := HS.out k (by clear w3 w4; omega)
                  have hfs := freB_succ l p (k - p)
                  rw [show p + (k - p) = k by clear w3 w4; omega, show k - p + 1 = k + 1 - p by clear w3 w4; omega] at hfs
                  obtain ⟨s, hse⟩ : ∃ s, (atL l (k : Int)).isSome = s := ⟨_, rfl⟩
                  have hnn : (atL l (k : Int)).isNone = !s := by rw [← hse]; simp
                  rw [hse] at hs
                  rw [hnn] at hfs
                  obtain ⟨fr, hfr⟩ : ∃ b, freB l p (k - p) = b := ⟨_, rfl⟩
                  rw [hfr] at hfs ⊢
                  have HFS := Lib.hid hfs
                  have j1 : (k : Int) < (p : Int) + (N : Int) := by clear w3 w4; omega
                  have j2 : decide ((k : Int) < (p : Int) + (N : Int)) = true := decide_eq_true j1
                  have j3 : (0 : Int) ≤ (k : Int) := by clear w3 w4; omega
                  have j4 : (k : Int) < 4096 := by clear w3 w4; omega
                  clear hfs hse hnn hfr
                  cases fr <;> cases s
                  all_goals
                    go_wp2
                    clear w3 w4 j1 j2 j3 j4 hs
                    go_roundw
                    case rel => exact ⟨k + 1, by omega, by omega, by go_num, by rw [HFS.out]; rfl, by simp⟩
                    case measure => simp [intOf]; omega
                · obtain rfl : k = p + N := by clear w3 w4; omega
                  have j2 : decide (((p + N : Nat) : Int) < (p : Int) + (N : Int)) = false := decide_eq_false (by clear w3 w4; omega)
                  have j3 : ¬ ((p + N : Nat) : Int) < (p : Int) + (N : Int) := by clear w3 w4; omega
                  have e1 : ((p + N : Nat) : Int) = (p : Int) + (N : Int) := by clear w3 w4; omega
                  rw [show p + N - p = N by clear w3 w4; omega, HFR.out]
                  by_cases e : (p : Int) = G
                  · have HV := Lib.hid (show some (p : Int) = R from by rw [← HR.out, ← e, if_neg (by clear w3 w4; omega)])
                    rw [decide_eq_true e]
                    clear e
                    go_wp2
                    go_ret2
                    exact ⟨by rw [← HV.out]; rfl, HB.out⟩
                  · rw [decide_eq_false e]
                    have HLT := Lib.hid (show ((p + 1 : Nat) : Int) ≤ G from by have := HI.out; clear w3 w4; omega)
                    clear e
                    go_wp2
                    clear w3 w4 j2 j3
                    go_roundw
                    case rel => exact ⟨p + 1, by omega, by go_num, by omega, by simp, HLT⟩
                    case measure => simp [intOf]; omega
            · have k2' : decide ((N : Int) ≤ high - (p : Int)) = false := decide_eq_false k2
              have HV := Lib.hid (show (none : Option Int) = R from by have := HI.out; rw [← HR.out, if_pos (by clear w1 w2; omega)])
              go_wp2
              go_ret2
              exact ⟨by rw [← HV.out]; rfl, HB.out⟩
          · have k1' : decide ((p : Int) < high) = false := decide_eq_false k1
            have HV := Lib.hid (show (none : Option Int) = R from by have := HI.out; rw [← HR.out, if_pos (by omega)])
            go_wp2
            go_ret2
            exact ⟨by rw [← HV.out]; rfl, HB.out⟩
  · obtain ⟨lo, rfl⟩ : ∃ lo : Nat, low = (lo : Int) := ⟨low.toNat, by omega⟩
    have c1' : decide ((lo : Int) < 0) = false := decide_eq_false c1
    have haa : max (lo : Int) 0 = (lo : Int) := by omega
    by_cases c2 : 4096 < high
    · have c2' : decide (4096 < high) = true := decide_eq_true c2
      have hee : min high 4096 = 4096 := by omega
      unfold gapO at hR
      rw [haa, hee] at hR
      go_enter Try.func10, Try.ntmps10
      go_upto_region 2 with (go_at_call 13; refine HSP.out.mono ?_; rintro e v1 ⟨ad, f, rfl, ho, hsp, hlo, hb1⟩)
      obtain ⟨g, rfl⟩ : ∃ g, ad = ⟨g, 0, none⟩ := ⟨_, ho.where_⟩
      have HS := Lib.hid (fun (p : Nat) (hp : p < 4096) => show v1.cell? ⟨g, p * 7 + 6, none⟩ = some (.bool (atL l p).isSome) from by rw [← hsp.2 p hp]; exact (ho.sevenL hp).c6)
      have HB := Lib.hid hb1
      clear ho hsp hlo hb1
      by_cases c3 : np < 1
      · have c3' : decide (np < 1) = true := decide_eq_true c3
        have HV := Lib.hid (show (none : Option Int) = R from by rw [← hR, if_pos (by omega)])
        clear hR
        go_wp2
        go_ret2
        exact ⟨by rw [← HV.out]; rfl, HB.out⟩
      · have c3' : decide (np < 1) = false := decide_eq_false c3
        obtain ⟨N, rfl⟩ : ∃ N : Nat, np = (N : Int) := ⟨np.toNat, by omega⟩
        obtain ⟨hm1, hm2⟩ := gap_ref HASC.out (a := lo) (N := N) (by omega)
        obtain ⟨G, hG⟩ : ∃ G, gapA l ((lo : Nat) : Int) (N : Int) = G := ⟨_, rfl⟩
        rw [hG] at hm1 hm2 hR
        have HR := Lib.hid hR
        have HM := Lib.hid hm2
        have HG0 := Lib.hid hm1
        clear hR hm2 hG hm1
        go_wp2
        go_loopw [11] (fun pv wr => ∃ p : Nat, lo ≤ p ∧ pv = .int .i64 p ∧ (p : Int) ≤ 9223372036854775807 ∧ wr = v1 ∧ Hid ((p : Int) ≤ G)) (fun pv _ => 4097 - (intOf pv).toNat)
        case atStart => exact ⟨lo, Nat.le_refl _, rfl, by omega, rfl, HG0⟩
        case round =>
          obtain ⟨p, hp0, rfl, hp1, rfl, HI⟩ := hrel
          by_cases k1 : (p : Int) < 4096
          · have k1' : decide ((p : Int) < 4096) = true := decide_eq_true k1
            have w1 : wrap64 (4096 - (p : Int)) = 4096 - p := IntWalk.wrap64_in _ (by omega)
            have w2 : IntKind.i64.wrap (4096 - (p : Int)) = 4096 - p := IntWalk.i64_in _ (by omega)
            by_cases k2 : (N : Int) ≤ 4096 - (p : Int)
            · have k2' : decide ((N : Int) ≤ 4096 - (p : Int)) = true := decide_eq_true k2
              have hpN : p + N ≤ 4096 := by clear w1 w2; omega
              have w3 : wrap64 ((p : Int) + (N : Int)) = (p : Int) + N := IntWalk.wrap64_in _ (by clear w1 w2; omega)
              have w4 : IntKind.i64.wrap ((p : Int) + (N : Int)) = (p : Int) + N := IntWalk.i64_in _ (by clear w1 w2; omega)
              have HW := Lib.hid (And.intro w3 w4)
              have HFR := Lib.hid (HM.out p hp0 HI.out)
              go_wp2
              clear w1 w2 w3 w4
              go_loopw [12, 13] (fun fv kv wq => ∃ k : Nat, p ≤ k ∧ k ≤ p + N ∧ kv = .int .i64 k ∧ fv = .bool (freB l p (k - p)) ∧ wq = wr) (fun _ kv _ => p + N - (intOf kv).toNat)
              case atStart => exact ⟨p, Nat.le_refl _, Nat.le_add_right _ _, rfl, by rw [Nat.sub_self]; rfl, rfl⟩
              case round =>
                obtain ⟨k, hk0, hk1, rfl, rfl, rfl⟩ := hrel
                obtain ⟨w3, w4⟩ := HW.out
                by_cases hkl : k < p + N
                · have hs := HS.out k (by clear w3 w4; omega)
                  have hfs := freB_succ l p (k - p)
                  rw [show p + (k - p) = k by clear w3 w4; omega, show k - p + 1 = k + 1 - p by clear w3 w4; omega] at hfs
                  obtain ⟨s, hse⟩ : ∃ s, (atL l (k : Int)).isSome = s := ⟨_, rfl⟩
                  have hnn : (atL l (k : Int)).isNone = !s := by rw [← hse]; simp
                  rw [hse] at hs
                  rw [hnn] at hfs
                  obtain ⟨fr, hfr⟩ : ∃ b, freB l p (k - p) = b := ⟨_, rfl⟩
                  rw [hfr] at hfs ⊢
                  have HFS := Lib.hid hfs
                  have j1 : (k : Int) < (p : Int) + (N : Int) := by clear w3 w4; omega
                  have j2 : decide ((k : Int) < (p : Int) + (N : Int)) = true := decide_eq_true j1
                  have j3 : (0 : Int) ≤ (k : Int) := by clear w3 w4; omega
                  have j4 : (k : Int) < 4096 := by clear w3 w4; omega
                  clear hfs hse hnn hfr
                  cases fr <;> cases s
                  all_goals
                    go_wp2
                    clear w3 w4 j1 j2 j3 j4 hs
                    go_roundw
                    case rel => exact ⟨k + 1, by omega, by omega, by go_num, by rw [HFS.out]; rfl, by simp⟩
                    case measure => simp [intOf]; omega
                · obtain rfl : k = p + N := by clear w3 w4; omega
                  have j2 : decide (((p + N : Nat) : Int) < (p : Int) + (N : Int)) = false := decide_eq_false (by clear w3 w4; omega)
                  have j3 : ¬ ((p + N : Nat) : Int) < (p : Int) + (N : Int) := by clear w3 w4; omega
                  have e1 : ((p + N : Nat) : Int) = (p : Int) + (N : Int) := by clear w3 w4; omega
                  rw [show p + N - p = N by clear w3 w4; omega, HFR.out]
                  by_cases e : (p : Int) = G
                  · have HV := Lib.hid (show some (p : Int) = R from by rw [← HR.out, ← e, if_neg (by clear w3 w4; omega)])
                    rw [decide_eq_true e]
                    clear e
                    go_wp2
                    go_ret2
                    exact ⟨by rw [← HV.out]; rfl, HB.out⟩
                  · rw [decide_eq_false e]
                    have HLT := Lib.hid (show ((p + 1 : Nat) : Int) ≤ G from by have := HI.out; clear w3 w4; omega)
                    clear e
                    go_wp2
                    clear w3 w4 j2 j3
                    go_roundw
                    case rel => exact ⟨p + 1, by omega, by go_num, by omega, by simp, HLT⟩
                    case measure => simp [intOf]; omega
            · have k2' : decide ((N : Int) ≤ 4096 - (p : Int)) = false := decide_eq_false k2
              have HV := Lib.hid (show (none : Option Int) = R from by have := HI.out; rw [← HR.out, if_pos (by clear w1 w2; omega)])
              go_wp2
              go_ret2
              exact ⟨by rw [← HV.out]; rfl, HB.out⟩
          · have k1' : decide ((p : Int) < 4096) = false := decide_eq_false k1
            have HV := Lib.hid (show (none : Option Int) = R from by have := HI.out; rw [← HR.out, if_pos (by omega)])
            go_wp2
            go_ret2
            exact ⟨by rw [← HV.out]; rfl, HB.out⟩
    · have c2' : decide (4096 < high) = false := decide_eq_false c2
      have hee : min high 4096 = high := by omega
      unfold gapO at hR
      rw [haa, hee] at hR
      go_enter Try.func10, Try.ntmps10
      go_upto_region 2 with (go_at_call 13; refine HSP.out.mono ?_; rintro e v1 ⟨ad, f, rfl, ho, hsp, hlo, hb1⟩)
      obtain ⟨g, rfl⟩ : ∃ g, ad = ⟨g, 0, none⟩ := ⟨_, ho.where_⟩
      have HS := Lib.hid (fun (p : Nat) (hp : p < 4096) => show v1.cell? ⟨g, p * 7 + 6, none⟩ = some (.bool (atL l p).isSome) from by rw [← hsp.2 p hp]; exact (ho.sevenL hp).c6)
      have HB := Lib.hid hb1
      clear ho hsp hlo hb1
      by_cases c3 : np < 1
      · have c3' : decide (np < 1) = true := decide_eq_true c3
        have HV := Lib.hid (show (none : Option Int) = R from by rw [← hR, if_pos (by omega)])
        clear hR
        go_wp2
        go_ret2
        exact ⟨by rw [← HV.out]; rfl, HB.out⟩
      · have c3' : decide (np < 1) = false := decide_eq_false c3
        obtain ⟨N, rfl⟩ : ∃ N : Nat, np = (N : Int) := ⟨np.toNat, by omega⟩
        obtain ⟨hm1, hm2⟩ := gap_ref HASC.out (a := lo) (N := N) (by omega)
        obtain ⟨G, hG⟩ : ∃ G, gapA l ((lo : Nat) : Int) (N : Int) = G := ⟨_, rfl⟩
        rw [hG] at hm1 hm2 hR
        have HR := Lib.hid hR
        have HM := Lib.hid hm2
        have HG0 := Lib.hid hm1
        clear hR hm2 hG hm1
        go_wp2
        go_loopw [11] (fun pv wr => ∃ p : Nat, lo ≤ p ∧ pv = .int .i64 p ∧ (p : Int) ≤ 9223372036854775807 ∧ wr = v1 ∧ Hid ((p : Int) ≤ G)) (fun pv _ => 4097 - (intOf pv).toNat)
        case atStart => exact ⟨lo, Nat.le_refl _, rfl, by omega, rfl, HG0⟩
        case round =>
          obtain ⟨p, hp0, rfl, hp1, rfl, HI⟩ := hrel
          by_cases k1 : (p : Int) < high
          · have k1' : decide ((p : Int) < high) = true := decide_eq_true k1
            have w1 : wrap64 (high - (p : Int)) = high - p := IntWalk.wrap64_in _ (by omega)
            have w2 : IntKind.i64.wrap (high - (p : Int)) = high - p := IntWalk.i64_in _ (by omega)
            by_cases k2 : (N : Int) ≤ high - (p : Int)
            · have k2' : decide ((N : Int) ≤ high - (p : Int)) = true := decide_eq_true k2
              have hpN : p + N ≤ 4096 := by clear w1 w2; omega
              have w3 : wrap64 ((p : Int) + (N : Int)) = (p : Int) + N := IntWalk.wrap64_in _ (by clear w1 w2; omega)
              have w4 : IntKind.i64.wrap ((p : Int) + (N : Int)) = (p : Int) + N := IntWalk.i64_in _ (by clear w1 w2; omega)
              have HW := Lib.hid (And.intro w3 w4)
              have HFR := Lib.hid (HM.out p hp0 HI.out)
              go_wp2
              clear w1 w2 w3 w4
              go_loopw [12, 13] (fun fv kv wq => ∃ k : Nat, p ≤ k ∧ k ≤ p + N ∧ kv = .int .i64 k ∧ fv = .bool (freB l p (k - p)) ∧ wq = wr) (fun _ kv _ => p + N - (intOf kv).toNat)
              case atStart => exact ⟨p, Nat.le_refl _, Nat.le_add_right _ _, rfl, by rw [Nat.sub_self]; rfl, rfl⟩
              case round =>
                obtain ⟨k, hk0, hk1, rfl, rfl, rfl⟩ := hrel
                obtain ⟨w3, w4⟩ := HW.out
                by_cases hkl : k < p + N
                · have hs := HS.out k (by clear w3 w4; omega)
                  have hfs := freB_succ l p (k - p)
                  rw [show p + (k - p) = k by clear w3 w4; omega, show k - p + 1 = k + 1 - p by clear w3 w4; omega] at hfs
                  obtain ⟨s, hse⟩ : ∃ s, (atL l (k : Int)).isSome = s := ⟨_, rfl⟩
                  have hnn : (atL l (k : Int)).isNone = !s := by rw [← hse]; simp
                  rw [hse] at hs
                  rw [hnn] at hfs
                  obtain ⟨fr, hfr⟩ : ∃ b, freB l p (k - p) = b := ⟨_, rfl⟩
                  rw [hfr] at hfs ⊢
                  have HFS := Lib.hid hfs
                  have j1 : (k : Int) < (p : Int) + (N : Int) := by clear w3 w4; omega
                  have j2 : decide ((k : Int) < (p : Int) + (N : Int)) = true := decide_eq_true j1
                  have j3 : (0 : Int) ≤ (k : Int) := by clear w3 w4; omega
                  have j4 : (k : Int) < 4096 := by clear w3 w4; omega
                  clear hfs hse hnn hfr
                  cases fr <;> cases s
                  all_goals
                    go_wp2
                    clear w3 w4 j1 j2 j3 j4 hs
                    go_roundw
                    case rel => exact ⟨k + 1, by omega, by omega, by go_num, by rw [HFS.out]; rfl, by simp⟩
                    case measure => simp [intOf]; omega
                · obtain rfl : k = p + N := by clear w3 w4; omega
                  have j2 : decide (((p + N : Nat) : Int) < (p : Int) + (N : Int)) = false := decide_eq_false (by clear w3 w4; omega)
                  have j3 : ¬ ((p + N : Nat) : Int) < (p : Int) + (N : Int) := by clear w3 w4; omega
                  have e1 : ((p + N : Nat) : Int) = (p : Int) + (N : Int) := by clear w3 w4; omega
                  rw [show p + N - p = N by clear w3 w4; omega, HFR.out]
                  by_cases e : (p : Int) = G
                  · have HV := Lib.hid (show some (p : Int) = R from by rw [← HR.out, ← e, if_neg (by clear w3 w4; omega)])
                    rw [decide_eq_true e]
                    clear e
                    go_wp2
                    go_ret2
                    exact ⟨by rw [← HV.out]; rfl, HB.out⟩
                  · rw [decide_eq_false e]
                    have HLT := Lib.hid (show ((p + 1 : Nat) : Int) ≤ G from by have := HI.out; clear w3 w4; omega)
                    clear e
                    go_wp2
                    clear w3 w4 j2 j3
                    go_roundw
                    case rel => exact ⟨p + 1, by omega, by go_num, by omega, by simp, HLT⟩
                    case measure => simp [intOf]; omega
            · have k2' : decide ((N : Int) ≤ high - (p : Int)) = false := decide_eq_false k2
              have HV := Lib.hid (show (none : Option Int) = R from by have := HI.out; rw [← HR.out, if_pos (by clear w1 w2; omega)])
              go_wp2
              go_ret2
              exact ⟨by rw [← HV.out]; rfl, HB.out⟩
          · have k1' : decide ((p : Int) < high) = false := decide_eq_false k1
            have HV := Lib.hid (show (none : Option Int) = R from by have := HI.out; rw [← HR.out, if_pos (by omega)])
            go_wp2
            go_ret2
            exact ⟨by rw [← HV.out]; rfl, HB.out⟩
end Go.Proofs.Ytkfkaafddfedjaa
