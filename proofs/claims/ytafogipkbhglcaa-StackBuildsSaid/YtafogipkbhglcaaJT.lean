/- Layer 17: the reference's Build. -/
import Derived.Test.YtafogipkbhglcaaJR
import Derived.Test.YtafogipkbhglcaaJG
import Derived.Test.YtafogipkbhglcaaJH
import Derived.Deep.RegionHeld3
namespace Go.Proofs.Ytafogipkbhglcaa
open Go.RowKit Go.Deep
set_option linter.unusedVariables false
set_option linter.unusedSimpArgs false

/-- The struct of the call's own, not yet laid. -/
structure Ra (w : World) (R : Nat) (v : World) : Prop where
  blk : Blk v R 32 #[.int .i64 0, .string ⟨#[]⟩, .int .i64 0]
  bel : Below R w v
theorem Ra.start (w : World) {R : Nat} (hR : w.heap.size = R) : Ra w R (w.alloc (.cells #[.int .i64 0, .string ⟨#[]⟩, .int .i64 0] 32)) := by
  subst hR
  exact ⟨Blk.new _ _ _, (Below.refl _ _).alloc (Nat.le_refl _) _⟩
theorem Ra.below {w v v' : World} {R : Nat} (h : Ra w R v) (hb : Below v.heap.size v v') : Ra w R v' := ⟨h.blk.below hb h.blk.lt, h.bel.trans (hb.mono (Nat.le_of_lt h.blk.lt))⟩
theorem Ra.drew {w v : World} {R : Nat} (h : Ra w R v) : Ra w R v.drew := ⟨h.blk.drew, h.bel.drew⟩
theorem blk3J {w : World} {b : Nat} {t : TypeId} {z0 z1 z2 : Value} (h : Blk w b t #[z0, z1, z2]) (u0 u1 u2 : Value) : Blk (((w.setCell ⟨b, 0, none⟩ u0).setCell ⟨b, 1, none⟩ u1).setCell ⟨b, 2, none⟩ u2) b t #[u0, u1, u2] := by
  have := (((h.set_ 0 u0).set_ 1 u1).set_ 2 u2)
  simpa only [List.setIfInBounds_toArray, List.set_cons_zero, List.set_cons_succ] using this
theorem Ra.fin {w v : World} {R : Nat} (h : Ra w R v) (u0 u1 u2 : Value) : Blk (((v.setCell ⟨R, 0, none⟩ u0).setCell ⟨R, 1, none⟩ u1).setCell ⟨R, 2, none⟩ u2) R 32 #[u0, u1, u2] ∧ Below R w (((v.setCell ⟨R, 0, none⟩ u0).setCell ⟨R, 1, none⟩ u1).setCell ⟨R, 2, none⟩ u2) :=
  ⟨blk3J h.blk u0 u1 u2, ((h.bel.setCell (p := ⟨R, 0, none⟩) (Nat.le_refl _) u0).setCell (p := ⟨R, 1, none⟩) (Nat.le_refl _) u1).setCell (p := ⟨R, 2, none⟩) (Nat.le_refl _) u2⟩
theorem Ra.cells {w v : World} {R : Nat} (h : Ra w R v) : v.cell? ⟨R, 0, none⟩ = some (.int .i64 0) ∧ v.cell? ⟨R, 1, none⟩ = some (.string ⟨#[]⟩) ∧ v.cell? ⟨R, 2, none⟩ = some (.int .i64 0) ∧ v.frozen? ⟨R, 0, none⟩ = false ∧ v.frozen? ⟨R, 1, none⟩ = false ∧ v.frozen? ⟨R, 2, none⟩ = false :=
  ⟨h.blk.at_ 0 _ rfl, h.blk.at_ 1 _ rfl, h.blk.at_ 2 _ rfl, h.blk.frozen 0, h.blk.frozen 1, h.blk.frozen 2⟩
/-- What the reference's Build tells. -/
def builtV (top : Int) (args env : List ByteArray) (aux : List Pa) : Value := .agg #[.int .i64 (buildP top args env aux), .string (buildS top args env aux), .int .i64 (buildE top args env aux)]
theorem rput8 (p : Nat) (hp : p ≤ 1099511627776) (u : World) : Calls Try.prog 32 #[.int .u64 (p : Int), .int .i64 8] u fun e w' => e = .returned (.string (mkb (putL p 8))) ∧ Below u.heap.size u w' := by
  have h := rput_any (p : Int) 8 u (WalkArith.wf_u64 (by omega)) (by decide)
  rw [Int.toNat_natCast, show wide 8 = 8 from rfl] at h
  exact h
theorem sz8 (p : Nat) : (mkb (putL p 8)).size = 8 := by rw [mkb_size, putL_length]
theorem u64nat (p : Nat) (hp : p ≤ 1099511627776) : IntKind.u64.wrap (p : Int) = (p : Int) := by rw [IntKind.wrap_u64]; omega

set_option maxRecDepth 100000 in
set_option maxHeartbeats 6400000 in
theorem rbuild17 (top : Int) (A D X : Option Addr) (args env : List ByteArray) (aux : List Pa) (c d x : Nat) (w : World) (ht : (Lit.int .i64 top).wf = true) (h1 : StrRow w A args) (h2 : StrRow w D env) (h3 : PaRow w X aux)
    (hl1 : args.length ≤ 1000) (hl2 : env.length ≤ 1000) (hl3 : aux.length ≤ 1000) (hs1 : ∀ s ∈ args, s.size ≤ 1000) (hs2 : ∀ s ∈ env, s.size ≤ 1000) :
    Calls Try.prog 11 #[.int .i64 top, .slice A args.length c, .slice D env.length d, .slice X aux.length x] w fun e w' =>
      e = .returned (builtV top args env aux) ∧ Below w.heap.size w w' := by
  obtain ⟨tl, tu⟩ := bounds_i64 ht
  have ht1 : tlen args ≤ 1001000 := Nat.le_trans (tlen_le hs1) (Nat.mul_le_mul_right 1001 hl1)
  have ht2 : tlen env ≤ 1001000 := Nat.le_trans (tlen_le hs2) (Nat.mul_le_mul_right 1001 hl2)
  obtain ⟨R, hR⟩ : ∃ R, w.heap.size = R := ⟨_, rfl⟩
  have HS0 := Lib.hid (Ra.start w hR)
  have HR1 := Lib.hid (fun v (hv : Below R w v) => strRow_below17 h1 hR.symm hv)
  have HR2 := Lib.hid (fun v (hv : Below R w v) => strRow_below17 h2 hR.symm hv)
  have HR3 := Lib.hid (fun v (hv : Below R w v) => h3.below hR.symm hv)
  have HT1 := Lib.hid (fun v (hv : Ra w R v) => rplain17 A args c v (HR1.out v hv.bel) (by omega) (fun s hs => by have := hs1 s hs; omega))
  have HT2 := Lib.hid (fun v (hv : Ra w R v) => rplain17 D env d v (HR2.out v hv.bel) (by omega) (fun s hs => by have := hs2 s hs; omega))
  have HSZ := Lib.hid (fun v (hv : Ra w R v) => rsize17 A D X args env aux c d x v (HR1.out v hv.bel) (HR2.out v hv.bel) (by omega) (by omega) (by omega) (by omega) (by omega))
  have HX1 := Lib.hid (fun v (hv : Ra w R v) => rtexts17 A args c v (HR1.out v hv.bel) (by omega) (by omega))
  have HX2 := Lib.hid (fun v (hv : Ra w R v) => rtexts17 D env d v (HR2.out v hv.bel) (by omega) (by omega))
  have HNO := Lib.hid (show mayB top args env aux = false → builtV top args env aux = .agg #[.int .i64 0, .string ⟨#[]⟩, .int .i64 1] from fun h => by
    obtain ⟨e1, e2, e3⟩ := build_no h
    unfold builtV
    rw [e1, e2, e3])
  have HFAR := Lib.hid (show mayB top args env aux = true → ¬ (sizeN args env aux ≤ 1024 ∧ (sizeN args env aux : Int) ≤ top) → builtV top args env aux = .agg #[.int .i64 0, .string ⟨#[]⟩, .int .i64 11] from fun h hs => by
    obtain ⟨e1, e2, e3⟩ := build_far h hs
    unfold builtV
    rw [e1, e2, e3])
  have HYES := Lib.hid (show mayB top args env aux = true → (sizeN args env aux ≤ 1024 ∧ (sizeN args env aux : Int) ≤ top) → builtV top args env aux = .agg #[.int .i64 (top - sizeN args env aux), .string (mkb (builtL top.toNat args env aux)), .int .i64 0] from fun h hs => by
    obtain ⟨e1, e2, e3⟩ := build_yes h hs
    unfold builtV
    rw [e1, e2, e3])
  have HM : Hid (mayB top args env aux = (decide (0 ≤ top) && decide (top ≤ 262144) && decide (top % 16 = 0) && plainB args && plainB env && auxB aux)) := Lib.hid rfl
  obtain ⟨n1, hn1⟩ : ∃ n, args.length = n := ⟨_, rfl⟩
  obtain ⟨n2, hn2⟩ : ∃ n, env.length = n := ⟨_, rfl⟩
  obtain ⟨n3, hn3⟩ : ∃ n, aux.length = n := ⟨_, rfl⟩
  have HN := Lib.hid (And.intro hn1 (And.intro hn2 hn3))
  obtain ⟨b1, hb1⟩ : ∃ b, plainB args = b := ⟨_, rfl⟩
  obtain ⟨b2, hb2⟩ : ∃ b, plainB env = b := ⟨_, rfl⟩
  rw [hn1, hb1] at HT1
  rw [hn2, hb2] at HT2
  rw [hn1, hn2, hn3] at HSZ
  rw [hn1] at HX1 hl1
  rw [hn2] at HX2 hl2
  rw [hn3] at hl3
  rw [hb1, hb2] at HM
  rw [hn1, hn2, hn3, hR]
  clear hn1 hn2 hn3 h1 h2 h3 hs1 hs2 hb1 hb2
  obtain ⟨x0, x1, x2, y0, y1, y2⟩ := HS0.out.cells
  obtain ⟨W0, hW⟩ : ∃ W, w.alloc (.cells #[.int .i64 0, .string ⟨#[]⟩, .int .i64 0] 32) = W := ⟨_, rfl⟩
  rw [hW] at HS0 x0 x1 x2 y0 y1 y2
  have HW := Lib.hid hW
  clear hW
  by_cases g0 : top < 0
  · have g9 : ¬ 0 ≤ top := by omega
    have HV := Lib.hid (HNO.out (by rw [HM.out]; simp [g9]))
    have HF := Lib.hid (HS0.out.fin (.int .i64 0) (.string ⟨#[]⟩) (.int .i64 1))
    go_enter Try.func11, Try.ntmps11
    go_upto_region 1 with fail
    rw [HW.out]
    go_wp2_with (first | (go_at_call 30; with_reducible refine (HT1.out _ HS0.out).mono ?_; rintro e v1 ⟨rfl, rfl⟩) | (go_at_call 30; with_reducible refine (HT2.out _ HS0.out).mono ?_; rintro e v1 ⟨rfl, rfl⟩))
    refine bodyPost_ret (results_cell_row rfl _ _ R 32 _ (0, 0) _ rfl HF.out.1 Try.underlying32 rfl (by kernel_rfl)) rfl ⟨?_, HF.out.2⟩
    rw [HV.out]
  by_cases g1 : 262144 < top
  · have g9 : ¬ top ≤ 262144 := by omega
    have HV := Lib.hid (HNO.out (by rw [HM.out]; simp [g9]))
    have HF := Lib.hid (HS0.out.fin (.int .i64 0) (.string ⟨#[]⟩) (.int .i64 1))
    go_enter Try.func11, Try.ntmps11
    go_upto_region 1 with fail
    rw [HW.out]
    go_wp2_with (first | (go_at_call 30; with_reducible refine (HT1.out _ HS0.out).mono ?_; rintro e v1 ⟨rfl, rfl⟩) | (go_at_call 30; with_reducible refine (HT2.out _ HS0.out).mono ?_; rintro e v1 ⟨rfl, rfl⟩))
    refine bodyPost_ret (results_cell_row rfl _ _ R 32 _ (0, 0) _ rfl HF.out.1 Try.underlying32 rfl (by kernel_rfl)) rfl ⟨?_, HF.out.2⟩
    rw [HV.out]
  have hr1 : top.tmod 16 = top % 16 := Int.tmod_eq_emod_of_nonneg (by omega)
  obtain ⟨r, hr⟩ : ∃ r, top % 16 = r := ⟨_, rfl⟩
  rw [hr] at hr1 HM
  by_cases g2 : r ≠ 0
  · have g9 : (r != 0) = true := by simpa using g2
    have HV := Lib.hid (HNO.out (by rw [HM.out]; simp [g2]))
    have HF := Lib.hid (HS0.out.fin (.int .i64 0) (.string ⟨#[]⟩) (.int .i64 1))
    go_enter Try.func11, Try.ntmps11
    go_upto_region 1 with fail
    rw [HW.out]
    go_wp2_with (first | (go_at_call 30; with_reducible refine (HT1.out _ HS0.out).mono ?_; rintro e v1 ⟨rfl, rfl⟩) | (go_at_call 30; with_reducible refine (HT2.out _ HS0.out).mono ?_; rintro e v1 ⟨rfl, rfl⟩))
    refine bodyPost_ret (results_cell_row rfl _ _ R 32 _ (0, 0) _ rfl HF.out.1 Try.underlying32 rfl (by kernel_rfl)) rfl ⟨?_, HF.out.2⟩
    rw [HV.out]
  obtain rfl : r = 0 := by omega
  cases b1
  · clear hr
    have HV := Lib.hid (HNO.out (by rw [HM.out]; simp))
    have HF := Lib.hid (HS0.out.fin (.int .i64 0) (.string ⟨#[]⟩) (.int .i64 1))
    go_enter Try.func11, Try.ntmps11
    go_upto_region 1 with fail
    rw [HW.out]
    go_wp2_with (first | (go_at_call 30; with_reducible refine (HT1.out _ HS0.out).mono ?_; rintro e v1 ⟨rfl, rfl⟩) | (go_at_call 30; with_reducible refine (HT2.out _ HS0.out).mono ?_; rintro e v1 ⟨rfl, rfl⟩))
    refine bodyPost_ret (results_cell_row rfl _ _ R 32 _ (0, 0) _ rfl HF.out.1 Try.underlying32 rfl (by kernel_rfl)) rfl ⟨?_, HF.out.2⟩
    rw [HV.out]
  cases b2
  · clear hr
    have HV := Lib.hid (HNO.out (by rw [HM.out]; simp))
    have HF := Lib.hid (HS0.out.fin (.int .i64 0) (.string ⟨#[]⟩) (.int .i64 1))
    go_enter Try.func11, Try.ntmps11
    go_upto_region 1 with fail
    rw [HW.out]
    go_wp2_with (first | (go_at_call 30; with_reducible refine (HT1.out _ HS0.out).mono ?_; rintro e v1 ⟨rfl, rfl⟩) | (go_at_call 30; with_reducible refine (HT2.out _ HS0.out).mono ?_; rintro e v1 ⟨rfl, rfl⟩))
    refine bodyPost_ret (results_cell_row rfl _ _ R 32 _ (0, 0) _ rfl HF.out.1 Try.underlying32 rfl (by kernel_rfl)) rfl ⟨?_, HF.out.2⟩
    rw [HV.out]
  have HM2 := Lib.hid (show mayB top args env aux = auxB aux from by rw [HM.out, decide_eq_true (by omega), decide_eq_true (by omega)]; simp)
  obtain ⟨T, rfl⟩ : ∃ T : Nat, top = T := ⟨top.toNat, by omega⟩
  clear hr HM tl tu ht
  have HF1 := Lib.hid (HS0.out.fin (.int .i64 0) (.string ⟨#[]⟩) (.int .i64 1))
  go_enter Try.func11, Try.ntmps11
  go_upto_region 1 with fail
  rw [HW.out]
  go_upto_region 5 with (first | (go_at_call 30; with_reducible refine (HT1.out _ HS0.out).mono ?_; rintro e v1 ⟨rfl, rfl⟩) | (go_at_call 30; with_reducible refine (HT2.out _ HS0.out).mono ?_; rintro e v1 ⟨rfl, rfl⟩))
  go_wp2_with fail
  go_loopw [11] (fun i wr => ∃ k : Nat, k ≤ n3 ∧ i = .int .i64 k ∧ Hid (auxB (aux.take k) = true) ∧ wr = W0) (fun i _ => n3 - (intOf i).toNat)
  case atStart => exact ⟨0, Nat.zero_le _, rfl, Lib.hid rfl, rfl⟩
  case round =>
    obtain ⟨k, hk, rfl, HP, hwr⟩ := hrel
    obtain rfl : W0 = wr := hwr.symm
    by_cases hlt : k < n3
    · have hkl : k < aux.length := by rw [HN.out.2.2]; exact hlt
      obtain ⟨ad, rfl, hblt, hwf, d0, d1⟩ := (HR3.out W0 HS0.out.bel).at_ hkl
      have HBAD := Lib.hid (fun hb => auxB_bad (k := k) hkl hb)
      have HOK := Lib.hid (auxB_take hkl)
      have hmi := @Pa.may_iff aux[k]
      obtain ⟨b, hb⟩ : ∃ b, aux[k].may = b := ⟨_, rfl⟩
      rw [hb] at hmi HBAD HOK
      generalize aux[k] = p at *
      have k0 : (0 : Int) ≤ (k : Int) := by omega
      have k1 : (k : Int) < (n3 : Int) := by omega
      have HMI := Lib.hid hmi
      clear hb hkl hwf hmi
      obtain ⟨t, u⟩ := p
      simp only at d0 d1 HMI
      by_cases q0 : t < 1
      · obtain rfl : b = false := by
          cases b
          · rfl
          · have := HMI.out.1 rfl; omega
        have HV := Lib.hid (HNO.out (HM2.out.trans (HBAD.out (by trivial))))
        go_wp2_with fail
        refine bodyPost_ret (results_cell_row rfl _ _ R 32 _ (0, 0) _ rfl HF1.out.1 Try.underlying32 rfl (by kernel_rfl)) rfl ⟨?_, HF1.out.2⟩
        rw [HV.out]
      by_cases q1 : 1099511627776 < t
      · obtain rfl : b = false := by
          cases b
          · rfl
          · have := HMI.out.1 rfl; omega
        have HV := Lib.hid (HNO.out (HM2.out.trans (HBAD.out (by trivial))))
        go_wp2_with fail
        refine bodyPost_ret (results_cell_row rfl _ _ R 32 _ (0, 0) _ rfl HF1.out.1 Try.underlying32 rfl (by kernel_rfl)) rfl ⟨?_, HF1.out.2⟩
        rw [HV.out]
      by_cases q2 : u < 0
      · obtain rfl : b = false := by
          cases b
          · rfl
          · have := HMI.out.1 rfl; omega
        have HV := Lib.hid (HNO.out (HM2.out.trans (HBAD.out (by trivial))))
        go_wp2_with fail
        refine bodyPost_ret (results_cell_row rfl _ _ R 32 _ (0, 0) _ rfl HF1.out.1 Try.underlying32 rfl (by kernel_rfl)) rfl ⟨?_, HF1.out.2⟩
        rw [HV.out]
      by_cases q3 : 1099511627776 < u
      · obtain rfl : b = false := by
          cases b
          · rfl
          · have := HMI.out.1 rfl; omega
        have HV := Lib.hid (HNO.out (HM2.out.trans (HBAD.out (by trivial))))
        go_wp2_with fail
        refine bodyPost_ret (results_cell_row rfl _ _ R 32 _ (0, 0) _ rfl HF1.out.1 Try.underlying32 rfl (by kernel_rfl)) rfl ⟨?_, HF1.out.2⟩
        rw [HV.out]
      obtain rfl : b = true := HMI.out.2 (by omega)
      go_wp2_with fail
      go_roundw
      case rel => exact ⟨k + 1, by omega, by go_num, Lib.hid (by rw [HOK.out, HP.out]; rfl), by trivial⟩
      case measure => simp [intOf]; omega
    · obtain rfl : k = n3 := by omega
      have hf := HP.out
      rw [← HN.out.2.2, List.take_length] at hf
      have HMAY := Lib.hid (HM2.out.trans hf)
      have HAB := Lib.hid hf
      clear hf HM2 HNO HT1 HT2 HP HF1
      obtain ⟨S, hS⟩ : ∃ S, sizeN args env aux = S := ⟨_, rfl⟩
      have hsl := sizeN_le args env aux
      have hrn : rawN args env aux = 8 * (n1 + n2 + 2 * k + 5) + tlen args + tlen env := by unfold rawN; rw [HN.out.1, HN.out.2.1, HN.out.2.2]
      rw [hrn, hS] at hsl
      rw [hS] at HSZ HFAR HYES
      by_cases hs : S ≤ 1024 ∧ (S : Int) ≤ (T : Int)
      · have HVAL := Lib.hid (HYES.out HMAY.out hs)
        rw [Int.toNat_natCast] at HVAL
        clear HYES HFAR HMAY x0 x1 x2 y0 y1 y2
        obtain ⟨t1, hx1⟩ : ∃ t, tlen args = t := ⟨_, rfl⟩
        obtain ⟨t2, hx2⟩ : ∃ t, tlen env = t := ⟨_, rfl⟩
        rw [hx1, hx2] at hsl hrn
        rw [hx1] at HX1 ht1
        rw [hx2] at HX2 ht2
        obtain ⟨P, hP⟩ : ∃ P : Nat, T - (t1 + t2) = P := ⟨_, rfl⟩
        have hPi : (T : Int) - (t1 : Int) - (t2 : Int) = (P : Int) := by omega
        have hPb : P + t1 + t2 ≤ 262144 := by omega
        obtain ⟨Fn, hFn⟩ : ∃ F : Nat, S - (t1 + t2) = F := ⟨_, rfl⟩
        have hFb : Fn ≤ 1024 := by omega
        have hnb : n1 ≤ 128 ∧ n2 ≤ 128 ∧ k ≤ 64 ∧ t1 ≤ 1000 ∧ t2 ≤ 1000 := by omega
        have HTT := Lib.hid (And.intro hx1 hx2)
        have HFN := Lib.hid (And.intro hFn hP)
        have hSi : (S : Int) - ((t1 : Int) + (t2 : Int)) = (Fn : Int) := by omega
        have hns1 : ¬ 1024 < (S : Int) := by omega
        have hns2 : ¬ (T : Int) < (S : Int) := by omega
        obtain ⟨Z0, hZ0⟩ : ∃ Z, mkb (putL n1 8) = Z := ⟨_, rfl⟩
        have HP1 := Lib.hid (fun u => rput8 n1 (by omega) u)
        rw [hZ0] at HP1
        have hu1 := u64nat n1 (by omega)
        obtain ⟨L1, hL1⟩ : ∃ L, nums [n1] = L := ⟨_, rfl⟩
        have HZ0 := Lib.hid (show Z0 = mkb L1 from by rw [← hZ0, ← hL1, nums_one])
        have HL1 := Lib.hid hL1
        have HE0 : Hid ((⟨#[]⟩ : ByteArray) = mkb []) := Lib.hid rfl
        have HLB := Lib.hid (show L1.length ≤ 100 ∧ ([] : List UInt8).length ≤ 1000 ∧ P ≤ 263200 from ⟨by rw [← hL1, nums_length]; simp, by simp, by omega⟩)
        clear hsl hrn hx1 hx2 hP hFn hL1 hZ0
        go_upto_region 16 with (first
          | (go_at_call 13; with_reducible refine (HSZ.out _ HS0.out).mono ?_; rintro e v1 ⟨rfl, rfl⟩)
          | (go_at_call 31; with_reducible refine (HX1.out _ HS0.out).mono ?_; rintro e v1 ⟨rfl, rfl⟩)
          | (go_at_call 31; with_reducible refine (HX2.out _ HS0.out).mono ?_; rintro e v1 ⟨rfl, rfl⟩)
          | (go_at_call 32; with_reducible refine (HP1.out _).mono ?_; rintro e v2 ⟨rfl, hb2⟩))
        have HA0 := Lib.hid (HS0.out.below hb2)
        clear hb2 HS0 HP1 HX1 HX2 HSZ HW
        go_wp2_with fail
        go_loopw [13, 14, 15, 16] (fun v13 v14 v15 i wr => ∃ (j V : Nat) (Z E : ByteArray), j ≤ n1 ∧ i = .int .i64 j ∧ v13 = .int .i64 V ∧ v14 = .string Z ∧ v15 = .string E ∧ Hid (V = P + tlen (args.take j)) ∧ Hid (Z = mkb (L1 ++ nums (placesL P (args.take j)))) ∧ Hid (E = mkb (([] : List UInt8) ++ endL (args.take j))) ∧ Hid (Ra w R wr)) (fun _ _ _ i _ => n1 - (intOf i).toNat)
        case atStart => exact ⟨0, _, _, _, Nat.zero_le _, rfl, rfl, rfl, rfl, Lib.hid (by simp [tlen_nil]), Lib.hid (by simpa [placesL, nums] using HZ0.out), Lib.hid (by simpa [endL] using HE0.out), HA0⟩
        case round =>
          clear HA0
          obtain ⟨j, V, Z, E, hj, rfl, rfl, rfl, rfl, HVV, HZZ, HEE, HA⟩ := hrel
          have hzs : Z.size ≤ 4000 := by
            rw [HZZ.out, mkb_size, List.length_append, nums_length, placesL_length, List.length_take]
            have := HLB.out
            omega
          have hes : E.size ≤ 2000 := by
            rw [HEE.out, mkb_size, List.length_append]
            have h8 : (endL (args.take j)).length ≤ tlen args := tlen_take_le args j
            have h9 := HLB.out
            have h10 := HTT.out.1
            omega
          by_cases hlt : j < n1
          · have hjl : j < args.length := by rw [HN.out.1]; exact hlt
            have HCJ := Lib.hid (fun v (hv : Ra w R v) => show ∃ ad, A = some ad ∧ v.cell? (ad.add j) = some (.string args[j]) from by
              obtain ⟨ad, e1, e2, e3, e4⟩ := HR1.out v hv.bel j hjl
              exact ⟨ad, e1, e3⟩)
            obtain ⟨ad, rfl, d0⟩ := HCJ.out wr HA.out
            have h3 := tlen_take hjl
            have h4 := placesL_take (a := P) hjl
            have h5 := endL_take hjl
            have h6 := tlen_take_le args (j + 1)
            have hVb : V ≤ 600000 ∧ args[j].size ≤ 1024 := by have h8 := HVV.out; have h9 := HTT.out.1; have h10 := HLB.out; omega
            have HNX := Lib.hid (show P + tlen (args.take (j + 1)) = V + args[j].size + 1 from by have h8 := HVV.out; omega)
            obtain ⟨C, hC⟩ : ∃ C, mkb (putL V 8) = C := ⟨_, rfl⟩
            have hP := rput8 V (by omega)
            have hCs := sz8 V
            have hu := u64nat V (by omega)
            rw [hC] at hP hCs
            obtain ⟨Z2, hZ2⟩ : ∃ Z2, Z ++ C = Z2 := ⟨_, rfl⟩
            have HZ2 := Lib.hid (show Z2 = mkb (L1 ++ nums (placesL P (args.take (j + 1)))) from by
              rw [← hZ2, HZZ.out, ← hC, mkb_append, h4, nums_append, nums_one, HVV.out]
              simp only [List.append_assoc])
            generalize hse : args[j] = s at *
            obtain ⟨E1, hE1⟩ : ∃ x, E ++ s = x := ⟨_, rfl⟩
            obtain ⟨E2, hE2⟩ : ∃ x, E1 ++ ⟨#[0]⟩ = x := ⟨_, rfl⟩
            have hE1s : E1.size ≤ 4000 := by rw [← hE1, ByteArray.size_append]; omega
            have HE2 := Lib.hid (show E2 = mkb (([] : List UInt8) ++ endL (args.take (j + 1))) from by
              rw [← hE2, ← hE1, HEE.out, h5, show (⟨#[0]⟩ : ByteArray) = mkb [0] from rfl]
              conv => lhs; rw [← mkb_of s]
              rw [mkb_append, mkb_append]
              simp only [List.append_assoc])
            have hz1 : (⟨#[0]⟩ : ByteArray).size = 1 := rfl
            have ho1 : ¬ (9223372036854775807 < Z.size + C.size) := by omega
            have ho2 : ¬ (9223372036854775807 < E.size + s.size) := by omega
            have ho3 : ¬ (9223372036854775807 < E1.size + 1) := by omega
            have HP := Lib.hid hP
            have k0 : (0 : Int) ≤ (j : Int) := by omega
            have k1 : (j : Int) < (n1 : Int) := by omega
            clear h3 h4 h5 h6 hC hP hse hjl
            go_wp2_with (go_at_call 32; with_reducible refine (HP.out _).mono ?_; rintro e v2 ⟨rfl, hb2⟩; have HA2 := Lib.hid (HA.out.below hb2); obtain ⟨ad', he, d2⟩ := HCJ.out v2 HA2.out; obtain rfl : ad = ad' := Option.some.inj he; clear he)
            go_roundw
            case rel => exact ⟨j + 1, V + s.size + 1, Z2, E2, by omega, by go_num, by go_num, rfl, rfl, Lib.hid HNX.out.symm, HZ2, HE2, HA2⟩
            case measure => simp [intOf]; omega
          · obtain rfl : j = n1 := by omega
            have hv9 := HVV.out
            have hz9 := HZZ.out
            have he9 := HEE.out
            rw [← HN.out.1, List.take_length] at hv9 hz9 he9
            clear HVV HZZ HEE HZ0 HE0 hlt
            obtain ⟨C0, hC0⟩ : ∃ C, mkb (putL 0 8) = C := ⟨_, rfl⟩
            have HP0 : Hid (∀ u, Calls Try.prog 32 #[.int .u64 0, .int .i64 8] u fun e w' => e = .returned (.string C0) ∧ Below u.heap.size u w') := Lib.hid (fun u => by rw [← hC0]; exact rput8 0 (by omega) u)
            have hs0 := sz8 0
            rw [hC0] at hs0
            obtain ⟨Z2, hZ2⟩ : ∃ x, Z ++ C0 = x := ⟨_, rfl⟩
            have ho1 : ¬ (9223372036854775807 < Z.size + C0.size) := by omega
            obtain ⟨L2, hL2⟩ : ∃ L, L1 ++ nums (placesL P args ++ [0]) = L := ⟨_, rfl⟩
            have hL2l : L2.length ≤ 2000 := by rw [← hL2, List.length_append, nums_length, List.length_append, placesL_length]; have := HLB.out; have := HN.out; simp; omega
            have HZ0 := Lib.hid (show Z2 = mkb L2 from by
              rw [← hZ2, hz9, ← hC0, mkb_append, ← hL2, nums_append, nums_one]
              simp only [List.append_assoc])
            have HL2 := Lib.hid (show nums [j] ++ nums (placesL P args ++ [0]) = L2 from by rw [← hL2, HL1.out])
            obtain ⟨P2, hP2⟩ : ∃ p, P + t1 = p := ⟨_, rfl⟩
            have hvp : P2 = V := by rw [hv9, HTT.out.1, hP2]
            have HP2 := Lib.hid hP2
            have hP2b : P2 ≤ 263200 := by rw [← hP2]; omega
            have HE0 := Lib.hid (show E = mkb (endL args) from he9)
            have HLB2 := Lib.hid (show L2.length ≤ 2000 ∧ (endL args).length ≤ 1000 ∧ P2 ≤ 263200 from ⟨hL2l, by have := HTT.out.1; unfold tlen at this; omega, hP2b⟩)
            clear hz9 he9 hv9 hC0 hL2 hP2
            subst hvp
            go_upto_region 23 with (go_at_call 32; with_reducible refine (HP0.out _).mono ?_; rintro e v3 ⟨rfl, hb3⟩)
            have HA0 := Lib.hid (HA.out.below hb3)
            clear HA hb3 HP0 HLB hZ2
            have HLB := HLB2
            clear HLB2
            go_wp2_with fail
            go_loopw [13, 14, 15, 17] (fun v13 v14 v15 i wr => ∃ (j V : Nat) (Z E : ByteArray), j ≤ n2 ∧ i = .int .i64 j ∧ v13 = .int .i64 V ∧ v14 = .string Z ∧ v15 = .string E ∧ Hid (V = P2 + tlen (env.take j)) ∧ Hid (Z = mkb (L2 ++ nums (placesL P2 (env.take j)))) ∧ Hid (E = mkb ((endL args) ++ endL (env.take j))) ∧ Hid (Ra w R wr)) (fun _ _ _ i _ => n2 - (intOf i).toNat)
            case atStart => exact ⟨0, _, _, _, Nat.zero_le _, rfl, rfl, rfl, rfl, Lib.hid (by simp [tlen_nil]), Lib.hid (by simpa [placesL, nums] using HZ0.out), Lib.hid (by simpa [endL] using HE0.out), HA0⟩
            case round =>
              clear HA0
              obtain ⟨j, V, Z, E, hj, rfl, rfl, rfl, rfl, HVV, HZZ, HEE, HA⟩ := hrel
              have hzs : Z.size ≤ 4000 := by
                rw [HZZ.out, mkb_size, List.length_append, nums_length, placesL_length, List.length_take]
                have := HLB.out
                omega
              have hes : E.size ≤ 2000 := by
                rw [HEE.out, mkb_size, List.length_append]
                have h8 : (endL (env.take j)).length ≤ tlen env := tlen_take_le env j
                have h9 := HLB.out
                have h10 := HTT.out.2
                omega
              by_cases hlt : j < n2
              · have hjl : j < env.length := by rw [HN.out.2.1]; exact hlt
                have HCJ := Lib.hid (fun v (hv : Ra w R v) => show ∃ ad, D = some ad ∧ v.cell? (ad.add j) = some (.string env[j]) from by
                  obtain ⟨ad, e1, e2, e3, e4⟩ := HR2.out v hv.bel j hjl
                  exact ⟨ad, e1, e3⟩)
                obtain ⟨ad, rfl, d0⟩ := HCJ.out wr HA.out
                have h3 := tlen_take hjl
                have h4 := placesL_take (a := P2) hjl
                have h5 := endL_take hjl
                have h6 := tlen_take_le env (j + 1)
                have hVb : V ≤ 600000 ∧ env[j].size ≤ 1024 := by have h8 := HVV.out; have h9 := HTT.out.2; have h10 := HLB.out; omega
                have HNX := Lib.hid (show P2 + tlen (env.take (j + 1)) = V + env[j].size + 1 from by have h8 := HVV.out; omega)
                obtain ⟨C, hC⟩ : ∃ C, mkb (putL V 8) = C := ⟨_, rfl⟩
                have hP := rput8 V (by omega)
                have hCs := sz8 V
                have hu := u64nat V (by omega)
                rw [hC] at hP hCs
                obtain ⟨Z2, hZ2⟩ : ∃ Z2, Z ++ C = Z2 := ⟨_, rfl⟩
                have HZ2 := Lib.hid (show Z2 = mkb (L2 ++ nums (placesL P2 (env.take (j + 1)))) from by
                  rw [← hZ2, HZZ.out, ← hC, mkb_append, h4, nums_append, nums_one, HVV.out]
                  simp only [List.append_assoc])
                generalize hse : env[j] = s at *
                obtain ⟨E1, hE1⟩ : ∃ x, E ++ s = x := ⟨_, rfl⟩
                obtain ⟨E2, hE2⟩ : ∃ x, E1 ++ ⟨#[0]⟩ = x := ⟨_, rfl⟩
                have hE1s : E1.size ≤ 4000 := by rw [← hE1, ByteArray.size_append]; omega
                have HE2 := Lib.hid (show E2 = mkb ((endL args) ++ endL (env.take (j + 1))) from by
                  rw [← hE2, ← hE1, HEE.out, h5, show (⟨#[0]⟩ : ByteArray) = mkb [0] from rfl]
                  conv => lhs; rw [← mkb_of s]
                  rw [mkb_append, mkb_append]
                  simp only [List.append_assoc])
                have hz1 : (⟨#[0]⟩ : ByteArray).size = 1 := rfl
                have ho1 : ¬ (9223372036854775807 < Z.size + C.size) := by omega
                have ho2 : ¬ (9223372036854775807 < E.size + s.size) := by omega
                have ho3 : ¬ (9223372036854775807 < E1.size + 1) := by omega
                have HP := Lib.hid hP
                have k0 : (0 : Int) ≤ (j : Int) := by omega
                have k1 : (j : Int) < (n2 : Int) := by omega
                clear h3 h4 h5 h6 hC hP hse hjl
                go_wp2_with (go_at_call 32; with_reducible refine (HP.out _).mono ?_; rintro e v2 ⟨rfl, hb2⟩; have HA2 := Lib.hid (HA.out.below hb2); obtain ⟨ad', he, d2⟩ := HCJ.out v2 HA2.out; obtain rfl : ad = ad' := Option.some.inj he; clear he)
                go_roundw
                case rel => exact ⟨j + 1, V + s.size + 1, Z2, E2, by omega, by go_num, by go_num, rfl, rfl, Lib.hid HNX.out.symm, HZ2, HE2, HA2⟩
                case measure => simp [intOf]; omega
              · obtain rfl : j = n2 := by omega
                have hv9 := HVV.out
                have hz9 := HZZ.out
                have he9 := HEE.out
                rw [← HN.out.2.1, List.take_length] at hv9 hz9 he9
                clear HVV HZZ HEE HZ0 HE0 hlt
                obtain ⟨C0, hC0⟩ : ∃ C, mkb (putL 0 8) = C := ⟨_, rfl⟩
                have HP0 : Hid (∀ u, Calls Try.prog 32 #[.int .u64 0, .int .i64 8] u fun e w' => e = .returned (.string C0) ∧ Below u.heap.size u w') := Lib.hid (fun u => by rw [← hC0]; exact rput8 0 (by omega) u)
                have hs0 := sz8 0
                rw [hC0] at hs0
                obtain ⟨Z2, hZ2⟩ : ∃ x, Z ++ C0 = x := ⟨_, rfl⟩
                have ho1 : ¬ (9223372036854775807 < Z.size + C0.size) := by omega
                obtain ⟨L3, hL3⟩ : ∃ L, L2 ++ nums (placesL P2 env ++ [0]) = L := ⟨_, rfl⟩
                have hL3l : L3.length ≤ 4000 := by rw [← hL3, List.length_append, nums_length, List.length_append, placesL_length]; have := HLB.out; have := HN.out; simp; omega
                have HZ9 := Lib.hid (show Z2 = mkb L3 from by
                  rw [← hZ2, hz9, ← hC0, mkb_append, ← hL3, nums_append, nums_one]
                  simp only [List.append_assoc])
                have HHD := Lib.hid (show nums (headL P args env aux) = L3 ++ nums (auxL aux) ++ nums [0, 0] from by
                  rw [← hL3, ← HL2.out]
                  unfold headL
                  rw [HN.out.1, HTT.out.1, HP2.out]
                  simp only [nums_append, List.append_assoc])
                have HE9 := Lib.hid (show E = mkb (textL args env) from he9)
                clear hz9 he9 hv9 hC0 hL3
                go_upto_region 30 with (go_at_call 32; with_reducible refine (HP0.out _).mono ?_; rintro e v4 ⟨rfl, hb4⟩)
                have HA3 := Lib.hid (HA.out.below hb4)
                clear HA hb4 HP0
                have HA := HA3
                clear HA3
                clear HLB
                have HZA := HZ9
                go_wp2_with fail
                have HA4 := HA
                clear HA
                go_loopw [14, 18] (fun v14 i wr => ∃ (q : Nat) (Y : ByteArray), q ≤ k ∧ i = .int .i64 q ∧ v14 = .string Y ∧ Hid (Y = mkb (L3 ++ nums (auxL (aux.take q)))) ∧ Hid (Ra w R wr)) (fun _ i _ => k - (intOf i).toNat)
                case atStart => exact ⟨0, _, Nat.zero_le _, rfl, rfl, Lib.hid (by simpa [auxL, nums] using HZA.out), HA4⟩
                case round =>
                  clear HA4
                  obtain ⟨q, Y, hq, rfl, rfl, HYY, HA⟩ := hrel
                  have hys : Y.size ≤ 6000 := by
                    rw [HYY.out, mkb_size, List.length_append, nums_length, auxL_length, List.length_take]
                    omega
                  by_cases hlq : q < k
                  · have hql : q < aux.length := by rw [HN.out.2.2]; exact hlq
                    have HCJ := Lib.hid (fun v (hv : Ra w R v) => (HR3.out v hv.bel).at_ hql)
                    obtain ⟨e1, e2, e3, e4⟩ := pa_may_wf (auxB_at HAB.out hql)
                    have htk := auxL_take hql
                    generalize hpe : aux[q] = p at *
                    obtain ⟨pt, pv⟩ := p
                    simp only at e1 e2 e3 e4 htk
                    obtain ⟨tn, htn⟩ : ∃ t, pt.toNat = t := ⟨_, rfl⟩
                    obtain ⟨vn, hvn⟩ : ∃ t, pv.toNat = t := ⟨_, rfl⟩
                    rw [htn] at e1 e3 htk
                    rw [hvn] at e2 e4 htk
                    subst e1 e2
                    obtain ⟨ad, rfl, hblt, -, s0, s1⟩ := HCJ.out wr HA.out
                    have HCC := Lib.hid (show ∀ v, Ra w R v → v.cell? (ad.add (q * 2)) = some (.int .i64 (tn : Int)) ∧ v.cell? ⟨(ad.add (q * 2)).block, (ad.add (q * 2)).off + 1, none⟩ = some (.int .i64 (vn : Int)) from fun v hv => by
                      obtain ⟨ad', he, -, -, z0, z1⟩ := HCJ.out v hv
                      obtain rfl : ad = ad' := Option.some.inj he
                      exact ⟨z0, z1⟩)
                    obtain ⟨C1, hC1⟩ : ∃ C, mkb (putL tn 8) = C := ⟨_, rfl⟩
                    obtain ⟨C2, hC2⟩ : ∃ C, mkb (putL vn 8) = C := ⟨_, rfl⟩
                    have hP1 := rput8 tn e3
                    have hP2 := rput8 vn e4
                    have hs1 := sz8 tn
                    have hs2 := sz8 vn
                    rw [hC1] at hP1 hs1
                    rw [hC2] at hP2 hs2
                    have hu1 := u64nat tn e3
                    have hu2 := u64nat vn e4
                    obtain ⟨Y1, hY1⟩ : ∃ x, Y ++ C1 = x := ⟨_, rfl⟩
                    obtain ⟨Y2, hY2⟩ : ∃ x, Y1 ++ C2 = x := ⟨_, rfl⟩
                    have hY1s : Y1.size ≤ 7000 := by rw [← hY1, ByteArray.size_append]; omega
                    have HY2 := Lib.hid (show Y2 = mkb (L3 ++ nums (auxL (aux.take (q + 1)))) from by
                      rw [← hY2, ← hY1, HYY.out, ← hC1, ← hC2, mkb_append, mkb_append, htk, nums_append]
                      simp [nums])
                    have ho1 : ¬ (9223372036854775807 < Y.size + C1.size) := by omega
                    have ho2 : ¬ (9223372036854775807 < Y1.size + C2.size) := by omega
                    have HP1 := Lib.hid hP1
                    have HP2 := Lib.hid hP2
                    have k0 : (0 : Int) ≤ (q : Int) := by omega
                    have k1 : (q : Int) < (k : Int) := by omega
                    have HX9 := HA
                    have hr1 : ∀ w, (Op.stringOp .add Y C1).run Try.prog w = .ok (.string Y1) w := fun w => by rw [← hY1]; exact run_string_add_sum w _ _ (by omega)
                    have hr2 : ∀ w, (Op.stringOp .add Y1 C2).run Try.prog w = .ok (.string Y2) w := fun w => by rw [← hY2]; exact run_string_add_sum w _ _ (by omega)
                    clear hP1 hP2 hC1 hC2 htk hpe htn hvn HCJ hql HA ho1 ho2 hs1 hs2 hY1 hY2
                    go_wp2_with fail
                    go_region_held3 (fun x => x.cell? (ad.add (q * 2)) = some (.int .i64 (tn : Int)) ∧ x.cell? ⟨(ad.add (q * 2)).block, (ad.add (q * 2)).off + 1, none⟩ = some (.int .i64 (vn : Int)))
                        (first | exact ⟨s0, s1⟩ | exact HCC.out _ HX9.out | exact HCC.out _ HX9.out.drew)
                        (first
                        | go_at_call 32; (first | with_reducible refine (HP1.out _).mono ?_ | with_reducible refine (HP2.out _).mono ?_); rintro e v9 ⟨rfl, hb⟩; have hx := (show Ra w R v9 from by first | exact HX9.out.below hb | exact (HX9.out.drew).below hb); clear s0 s1 HX9; have HX9 := Lib.hid hx; obtain ⟨s0, s1⟩ := HCC.out v9 hx; clear hb hx)
                    all_goals
                      go_wp2_with fail
                      go_roundw
                      case rel => exact ⟨q + 1, Y2, by omega, by go_num, rfl, HY2, HX9⟩
                      case measure => simp [intOf]; omega
                  · obtain rfl : q = k := by omega
                    have hy9 := HYY.out
                    rw [← HN.out.2.2, List.take_length] at hy9
                    obtain ⟨C0, hC0⟩ : ∃ C, mkb (putL 0 8) = C := ⟨_, rfl⟩
                    have HP0 : Hid (∀ u, Calls Try.prog 32 #[.int .u64 0, .int .i64 8] u fun e w' => e = .returned (.string C0) ∧ Below u.heap.size u w') := Lib.hid (fun u => by rw [← hC0]; exact rput8 0 (by omega) u)
                    have hs0 := sz8 0
                    rw [hC0] at hs0
                    obtain ⟨Y1, hY1⟩ : ∃ x, Y ++ C0 = x := ⟨_, rfl⟩
                    obtain ⟨Y2, hY2⟩ : ∃ x, Y1 ++ C0 = x := ⟨_, rfl⟩
                    have hY1s : Y1.size ≤ 7000 := by rw [← hY1, ByteArray.size_append]; omega
                    have hY2s : Y2.size ≤ 8000 := by rw [← hY2, ByteArray.size_append]; omega
                    have hYY2 : Y2 = mkb (nums (headL P args env aux)) := by
                      rw [← hY2, ← hY1, hy9, ← hC0, mkb_append, mkb_append, HHD.out]
                      congr 1
                      simp only [List.append_assoc]
                      rfl
                    have ho1 : ¬ (9223372036854775807 < Y.size + C0.size) := by omega
                    have ho2 : ¬ (9223372036854775807 < Y1.size + C0.size) := by omega
                    have hFL := fun u => rfill_any Y2 (Fn : Int) u (WalkArith.wf_i64 (by omega)) (by omega) (by omega)
                    have hfs : fillS Y2 (Fn : Int) = mkb (fillL (nums (headL P args env aux)) Fn) := by
                      rw [hYY2]
                      unfold fillS
                      rw [if_neg (by omega), mkb_data, Int.toNat_natCast]
                    rw [hfs] at hFL
                    obtain ⟨FS, hFS⟩ : ∃ x, mkb (fillL (nums (headL P args env aux)) Fn) = x := ⟨_, rfl⟩
                    have hFSs : FS.size = Fn := by rw [← hFS, mkb_size, fillL_length]
                    rw [hFS] at hFL
                    obtain ⟨BS, hBS⟩ : ∃ x, FS ++ E = x := ⟨_, rfl⟩
                    have HBS := Lib.hid (show BS = mkb (builtL T args env aux) from by
                      have h11 := HFN.out
                      rw [← hBS, ← hFS, HE9.out, mkb_append]
                      unfold builtL
                      rw [HTT.out.1, HTT.out.2, hS, h11.2, h11.1])
                    have hEs : E.size = t1 + t2 := by rw [HE9.out, mkb_size, textL_length, HTT.out.1, HTT.out.2]
                    have ho3 : ¬ (9223372036854775807 < FS.size + E.size) := by omega
                    have HFL := Lib.hid hFL
                    have HA5 := Lib.hid (show ∀ a b c e : World, Ra w R a → Below a.heap.size a b → Below b.heap.size b c → Below c.heap.size c e → Ra w R e from fun a b c e h1 h2 h3 h4 => ((h1.below h2).below h3).below h4)
                    clear hFL hfs hFS hYY2 hy9 hC0 HHD HZA HYY
                    go_upto_region 35 with (first
                      | (go_at_call 32; with_reducible refine (HP0.out wr).mono ?_; rintro e v5 ⟨rfl, hb5⟩)
                      | (go_at_call 32; with_reducible refine (HP0.out v5).mono ?_; rintro e v6 ⟨rfl, hb6⟩))
                    go_wp2_with (go_at_call 15; with_reducible refine (HFL.out v6).mono ?_; rintro e v7 ⟨rfl, hb7⟩; have HA6 := Lib.hid (HA5.out _ _ _ _ HA.out hb5 hb6 hb7); obtain ⟨x0, x1, x2, y0, y1, y2⟩ := HA6.out.cells)
                    have HF := Lib.hid (HA6.out.fin (.int .i64 ((T : Int) - (S : Int))) (.string BS) (.int .i64 0))
                    refine bodyPost_ret (results_cell_row rfl _ _ R 32 _ (0, 0) _ rfl HF.out.1 Try.underlying32 rfl (by kernel_rfl)) rfl ⟨?_, HF.out.2⟩
                    rw [HVAL.out, HBS.out]
      · have HV := Lib.hid (HFAR.out HMAY.out hs)
        have HF := Lib.hid (HS0.out.fin (.int .i64 0) (.string ⟨#[]⟩) (.int .i64 11))
        by_cases hs1 : 1024 < (S : Int)
        · go_wp2_with (go_at_call 13; with_reducible refine (HSZ.out _ HS0.out).mono ?_; rintro e v1 ⟨rfl, rfl⟩)
          refine bodyPost_ret (results_cell_row rfl _ _ R 32 _ (0, 0) _ rfl HF.out.1 Try.underlying32 rfl (by kernel_rfl)) rfl ⟨?_, HF.out.2⟩
          rw [HV.out]
        · have hs2 : (T : Int) < (S : Int) := by omega
          clear hs
          go_wp2_with (go_at_call 13; with_reducible refine (HSZ.out _ HS0.out).mono ?_; rintro e v1 ⟨rfl, rfl⟩)
          refine bodyPost_ret (results_cell_row rfl _ _ R 32 _ (0, 0) _ rfl HF.out.1 Try.underlying32 rfl (by kernel_rfl)) rfl ⟨?_, HF.out.2⟩
          rw [HV.out]
end Go.Proofs.Ytafogipkbhglcaa
