/- RadixFull: for any number and any pages: in a pool with no room for the tables that a page needs, nothing changes. -/
import Derived.Test.YtbidlabhekiijaaDoorQG
namespace Go.Proofs.YtbidlabhekiijaaDoor.lawFull
open Go.ChangeShapes Go.WideShapes Go.ChangeAt Go.RowKit
set_option linter.unusedVariables false
set_option linter.unusedSimpArgs false

set_option maxRecDepth 100000 in
set_option maxHeartbeats 800000 in
theorem walk (a : Int) (A : Option Addr) (l : List Int) (c : Nat) (w : World) (wa : (Lit.int .i64 a).wf = true) (hm : l.length ≤ maxLen) (hz : IntRow w A l) (hT : Tab w) :
    Calls Tryd.prog 6 #[.int .i64 a, .slice A l.length c] w fun e w' => e = .returned (.bool true) ∧ Below w.heap.size w w' := by
  unfold maxLen at hm
  obtain ⟨m, h15, hm15, hmx⟩ := and_mask (x := a) 4 15 (by omega) (by decide)
  simp only [show ((15 : Nat) : Int) = 15 from rfl] at h15
  clear hmx
  obtain ⟨N, hN⟩ : ∃ N, 4 + m = N := ⟨_, rfl⟩
  have h4m : 4 + (m : Int) = (N : Nat) := by omega
  have HA := Lib.hid (fun w hT => awake7_any w hT)
  have HN := Lib.hid (fun v (hb : Below w.heap.size w v) (hT' : Tab v) => pw_new hb hT' hT.pos N (by omega) (by omega))
  have HM := Lib.hid (fun (v : World) p h g (s : Pw w v p h g (newP N)) => tw_new (N := N) (by omega) s)
  unfold PwMade at HN
  unfold TwMade at HM
  have HZ := Lib.hid hz
  have HB := Lib.hid (Below.refl w.heap.size w)
  have hNb : 4 ≤ N ∧ N ≤ 19 := by omega
  clear hz hN
  go_enter Tryd.func6, Tryd.ntmps6
  go_wp2_with (first
    | (go_at_call 10; refine (HA.out _ hT).mono ?_; rintro e v0 ⟨rfl, hb⟩; have hB := HB.out.trans hb; replace hT := hT.below hb hT.pos; clear hb)
    | (go_at_call 16; refine (HN.out _ hB hT).mono ?_; rintro e v1 ⟨p, h, g, rfl, hS⟩; clear hB)
    | (go_at_call 17; refine (HM.out _ _ _ _ hS).mono ?_; rintro e v2 ⟨t, rfl, hS2⟩; clear hS))
  have HS := Lib.hid hS2
  clear hS2 hT HN HM HA HB
  go_loopw [10] (fun i wr => ∃ (k : Nat) (M : Nat → Sl), k ≤ l.length ∧ k ≤ 20 ∧ i = .int .i64 k ∧ Tw w wr t p h g N M) (fun i _ => l.length - (intOf i).toNat)
  case atStart => exact ⟨0, _, Nat.zero_le _, by omega, rfl, HS.out⟩
  case round =>
    clear HS
    obtain ⟨k, M, hk, hk20, rfl, hS⟩ := hrel
    by_cases hlt : k < l.length ∧ k < 20
    · obtain ⟨hk1, hk2⟩ := hlt
      have d20 : decide ((k : Int) < 20) = true := decide_eq_true (by omega)
      obtain ⟨ad, rfl, hab, hc0, _⟩ := HZ.out k hk1
      obtain ⟨P, hP, hP4, hPx⟩ := and_page l[k]
      clear hPx
      have hsz := hS.bel.size
      have hcx : ∀ v : World, Below w.heap.size w v → v.cell? (ad.add k) = some (.int .i64 l[k]) := fun v hb => (hb.cell (p := ad.add k) (by rw [show (ad.add k).block = ad.block by unfold Addr.add; split <;> rfl]; exact hab)).trans hc0
      have HCX := Lib.hid hcx
      generalize l[k] = x at *
      have hmay := out_may (n := k) (by omega)
      have hcn := hS.cnt
      have hkr := kn_range M P
      obtain ⟨F0, hF0⟩ : ∃ F0 : Nat, N - cnt7 M = F0 := ⟨_, rfl⟩
      have HALL := Lib.hid (fun v (s : Tw w v t p h g N M) => (tw_all s).mono fun e v' hh => hh.row)
      have HFR := Lib.hid (fun v (s : Tw w v t p h g N M) => (tw_free s).mono (R' := fun e v' => e = .returned (.int .i64 (F0 : Nat)) ∧ v = v') fun e v' ⟨he, hv⟩ => ⟨by rw [he, hF0], hv⟩)
      by_cases hfit : 4 - kn M P ≤ N - cnt7 M
      · have hst := stE7_ok (M := M) (N := N) (P := P) hP4 hmay hfit
        have hc2 := cnt7_set (M := M) (s := ⟨false, false, false, true, (k : Nat)⟩) hP4 (Sl.may_ne hmay)
        have HST := Lib.hid (fun v (s : Tw w v t p h g N M) => (tw_set s (P : Nat) ⟨false, false, false, true, (k : Nat)⟩).mono (R' := fun e v' => e = .returned (.int .i64 0) ∧ Tw w v' t p h g N (setM M P ⟨false, false, false, true, (k : Nat)⟩)) fun e v' ⟨he, hs, _⟩ => ⟨by rw [he, hst.1], by rw [hst.2] at hs; exact hs⟩)
        unfold Sl.v at HST
        simp only at HST
        generalize setM M P ⟨false, false, false, true, (k : Nat)⟩ = M2 at *
        obtain ⟨C2, hC2⟩ : ∃ C2, cnt7 M2 = C2 := ⟨_, rfl⟩
        obtain ⟨F2, hF2⟩ : ∃ F2 : Nat, N - C2 = F2 := ⟨_, rfl⟩
        have HFR2 := Lib.hid (fun v (s : Tw w v t p h g N M2) => (tw_free s).mono (R' := fun e v' => e = .returned (.int .i64 (F2 : Nat)) ∧ v = v') fun e v' ⟨he, hv⟩ => ⟨by rw [he, hC2, hF2], hv⟩)
        have HND2 := Lib.hid (fun v (s : Tw w v t p h g N M2) => (tw_nodes s).mono (R' := fun e v' => e = .returned (.int .i64 (C2 : Nat)) ∧ Tw w v' t p h g N M2) fun e v' ⟨he, hb⟩ => ⟨by rw [he, hC2], s.on hb⟩)
        have hC2N : C2 ≤ N := by rw [← hC2, hc2]; omega
        obtain ⟨D, hD⟩ : ∃ D : Int, (F0 : Int) - (F2 : Int) = D := ⟨_, rfl⟩
        have e0 : IntKind.i64.wrap D = D := IntWalk.i64_in _ (by omega)
        have hD3 : D ≤ 3 := by rw [← hD, ← hF0, ← hF2, ← hC2, hc2]; omega
        have e1 : IntKind.i64.wrap (F2 : Int) = (F2 : Int) := IntWalk.i64_in _ (by omega)
        have e2 : (N : Int) - (C2 : Int) = (F2 : Int) := by omega
        clear hst hc2 hfit hF0 hF2 hC2 hcn hkr hC2N hcx
        go_wp2_with (first
          | (go_at_call 28; (with_reducible refine (HALL.out _ hS).mono ?_); rintro e v3 ⟨v, rfl, hr, hb⟩; obtain ⟨A3, c3, rfl⟩ := hr.len; have hS3 := hS.on hb; clear hr hb hS)
          | (go_at_call 30; (with_reducible refine (HFR.out _ hS3).mono ?_); rintro e v4 ⟨rfl, rfl⟩; have hcc := HCX.out _ hS3.bel)
          | (go_at_call 24; (with_reducible refine (HST.out _ hS3).mono ?_); rintro e v5 ⟨rfl, hS5⟩; clear hcc hS3)
          | (go_at_call 30; (with_reducible refine (HFR2.out _ hS5).mono ?_); rintro e v6 ⟨rfl, rfl⟩)
          | (go_at_call 29; (with_reducible refine (HND2.out _ hS5).mono ?_); rintro e v7 ⟨rfl, hS7⟩))
        go_roundw
        case rel => exact ⟨k + 1, M2, by omega, by omega, by go_num, hS7⟩
        case measure => simp [intOf]; omega
      · have hst := stE7_no (M := M) (N := N) (P := P) hP4 hmay hfit
        have HST := Lib.hid (fun v (s : Tw w v t p h g N M) => (tw_set s (P : Nat) ⟨false, false, false, true, (k : Nat)⟩).mono (R' := fun e v' => e = .returned (.int .i64 18) ∧ Tw w v' t p h g N M ∧ But (fun j => j = h ∨ j = g) v v') fun e v' ⟨he, hs, hb⟩ => ⟨by rw [he, hst.1], by rw [hst.2] at hs; exact hs, hb⟩)
        unfold Sl.v at HST
        simp only at HST
        have hF3 : (F0 : Int) < 3 := by omega
        have hSL := spotsF_len M
        clear hst hfit hF0 hcn hkr hcx
        go_wp2_with (first
          | (go_at_call 28; (with_reducible refine (HALL.out _ hS).mono ?_); rintro e v3 ⟨v, rfl, hr, hb⟩; obtain ⟨A3, c3, rfl⟩ := hr.len; have hS3 := hS.on hb; have hlt3 := hS.lts; have hR3 := Lib.hid (And.intro hr hlt3); clear hr hb hS hlt3)
          | (go_at_call 30; (with_reducible refine (HFR.out _ hS3).mono ?_); rintro e v4 ⟨rfl, rfl⟩; have hcc := HCX.out _ hS3.bel)
          | (go_at_call 24; (with_reducible refine (HST.out _ hS3).mono ?_); rintro e v5 ⟨rfl, hS5, hb5⟩; have hR5 := Lib.hid (hR3.out.1.but hb5 (fun j hj e => by have := hR3.out.2; omega)); clear hcc hS3 hb5)
          | (go_at_call 28; (with_reducible refine (HALL.out _ hS5).mono ?_); rintro e v6 ⟨v, rfl, hr, hb⟩; obtain ⟨A6, c6, rfl⟩ := hr.len; have hS6 := hS5.on hb; have hR6 := Lib.hid hr; have hR7 := Lib.hid (hR5.out.below hb); clear hr hb hS5)
          | (go_at_call 27; refine (same_any hR6.out hR7.out hSL).mono ?_; rintro e v7 ⟨rfl, n7, rfl⟩; have hS7 := hS6.drewN n7; clear hS6)
          | (go_at_call 30; (with_reducible refine (HFR.out _ hS7).mono ?_); rintro e v8 ⟨rfl, rfl⟩))
        go_roundw
        case rel => exact ⟨k + 1, M, by omega, by omega, by go_num, hS7⟩
        case measure => simp [intOf]; omega
    · have hB := Lib.hid hS.bel
      clear hS
      by_cases hkl : k < l.length
      · have h20 : decide ((k : Int) < 20) = false := decide_eq_false (by omega)
        go_wp2
        go_ret
        exact ⟨rfl, hB.out⟩
      · obtain rfl : k = l.length := by omega
        go_wp2
        go_ret
        exact ⟨rfl, hB.out⟩

set_option maxRecDepth 100000 in
theorem lifted (os : Os) (started : os.Started) (H : Type) (enc : TypeId × Value → H) :
    ReturnsInHanded {} Tryd.checked os 6 .any (fun w args => (Rows.radixFullSpec.pre enc Tryd.prog Tryd.f6 Rows.radixFullRow.domain false w args ∧ laidMet Tryd.prog Rows.radixFullRow.laid w) ∧ sizedMet enc Tryd.prog Tryd.f6 (OpenSpec.ofChange Rows.radixFullSpec) false w args) (Rows.radixFullSpec.post enc Tryd.prog Tryd.f6 false true false false) := by
  refine returnsInHanded_of_change_and (C := Tryd.checked) (X := fun w _ => laidMet Tryd.prog Rows.radixFullRow.laid w) (fun _ _ _ hh h => h.of_heap hh) own started (by kernel_rfl) Tryd.func6
    (ChangeSpec.witness_at (enc := enc) (C := Tryd.checked) (os := os) (X := fun w _ => laidMet Tryd.prog Rows.radixFullRow.laid w) false (laidWorld os) #[.int .i64 0, .slice none 0 0] 8 rfl (by kernel_rfl) (by kernel_rfl) (by kernel_rfl) (by kernel_rfl) (by kernel_rfl) (laid_met os _)) ?_
  intro W base args ds gs before hval0 hW hcnd _ hL _
  have hval : ∀ (j : Nat) t v, Tryd.f6.params[j]? = some t → args[j]? = some v → Value.okWide Tryd.prog W .any base t v := hval0
  have hW' := hW
  obtain ⟨p, q, hA0, hV, rfl, hfz, hnd⟩ := hW
  have hA : DataW.TrodAll enc Tryd.prog W 0 (fun _ => true) true Tryd.f6.params.toList args.toList ds p := hA0
  rw [Tryd.params6] at hA hval
  obtain ⟨v0, vs0, d0, ds0, p0, q0, hargs, rfl, rfl, h0, r0⟩ := trodAll_cons hA
  obtain ⟨v1, vs1, d1, ds1, p1, q1, rfl, rfl, rfl, h1, r1⟩ := trodAll_cons r0
  obtain ⟨rfl, rfl, rfl⟩ := trodAll_nil r1
  obtain rfl : args = #[v0, v1] := by cases args; simp_all
  obtain ⟨rfl, rfl⟩ := trodVars_none hV
  have k0 := h0
  have lt0 : ∀ x ∈ p0, x.block < W.heap.size := by obtain ⟨m, hm⟩ := k0; exact DataW.trod_lt m _ _ _ hm
  obtain ⟨a0, rfl, _, _, w0⟩ := open_int Tryd.underlying3 (hval 0 3 v0 rfl rfl) h0
  have k1 := h1
  have lt1 : ∀ x ∈ p1, x.block < W.heap.size := by obtain ⟨m, hm⟩ := k1; exact DataW.trod_lt m _ _ _ hm
  obtain ⟨LA1, Ll1, Lc1, rfl, Lm1, Lr1⟩ := openInts7 (hval 1 58 v1 rfl rfl) h1
  clear hA0 hval0
  refine (walk a0 LA1 Ll1 Lc1 W w0 Lm1 Lr1 (tab_of_laid hL)).mono fun e W' ⟨he, bel⟩ => ?_
  subst he
  exact ⟨_, rfl, _, _, _, [], _, [], hW', trodAll_mk1 (shut_bool Tryd.underlying4 _), (trodAll_cons_mk (Below.trod laidOut (by kernel_rfl) (of_decide_eq_true (by kernel_rfl)) k0 bel lt0) (trodAll_cons_mk (Below.trod laidOut (by kernel_rfl) (of_decide_eq_true (by kernel_rfl)) k1 bel lt1) trodAll_mk0)), rfl, bel.frame _, fun h => by cases h⟩
theorem over : Rows.radixFullRow.holds Tryd.pinned (OpenSpec.ofChange Rows.radixFullSpec) :=
  OpenClaim.holds_of_wide 6 Tryd.f6 rfl rfl rfl rfl rfl rfl rfl ⟨rfl, rfl, rfl, rfl, rfl⟩ rfl rfl rfl rfl rfl (by kernel_rfl) Tryd.func6 (by kernel_rfl)
    (of_decide_eq_true (by kernel_rfl)) (by unfold Func.isWrapper; first | (rw [if_pos (by decide +kernel)]; kernel_rfl) | (rw [if_neg (by decide +kernel)]; exact ⟨rfl, rfl⟩))
    (fun os started H enc _ => lifted os started H enc)
set_option maxRecDepth 100000 in
/-- The statement. -/
theorem proved : Rows.RadixFullCardSaid :=
  Claim7.holds_tied_plain_at .later [] [.data] true _ false over (fun _ h => by cases h) (by kernel_rfl) (fun _ h => by cases h) radixFull_row_tie rfl ⟨rfl, rfl⟩ (by kernel_rfl) rfl
    (fun f fn hf hfn => by
      obtain rfl : f = 6 := Option.some.inj (hf.symm.trans (by kernel_rfl))
      obtain rfl : fn = Tryd.f6 := Option.some.inj (hfn.symm.trans Tryd.func6)
      refine ⟨by kernel_rfl, fun j t ht => ?_⟩
      rw [Tryd.params6] at ht
      match j, ht with
      | 0, ht =>
        obtain rfl : t = 3 := by simpa using ht.symm
        exact (by kernel_rfl : Tryd.pinned.checked.prog.wantsStandIn 3 = false)
      | 1, ht =>
        obtain rfl : t = 58 := by simpa using ht.symm
        exact (by kernel_rfl : Tryd.pinned.checked.prog.wantsStandIn 58 = false)
      | j + 2, ht => simp at ht)
    (by kernel_rfl)
end Go.Proofs.YtbidlabhekiijaaDoor.lawFull
