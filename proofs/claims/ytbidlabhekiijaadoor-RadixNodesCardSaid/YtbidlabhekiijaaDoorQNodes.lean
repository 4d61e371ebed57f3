/- RadixNodes: for any page and any number: pages side by side take as many tables as they have eighths, and those above them. -/
import Derived.Test.YtbidlabhekiijaaDoorQI
namespace Go.Proofs.YtbidlabhekiijaaDoor.lawNodes
open Go.ChangeShapes Go.WideShapes Go.ChangeAt Go.RowKit
set_option linter.unusedVariables false
set_option linter.unusedSimpArgs false

set_option maxRecDepth 100000 in
set_option maxHeartbeats 1000000 in
theorem walk (a b : Int) (w : World) (wa : (Lit.int .i64 a).wf = true) (wb : (Lit.int .i64 b).wf = true) (hT : Tab w) :
    Calls Tryd.prog 8 #[.int .i64 a, .int .i64 b] w fun e w' => e = .returned (.bool true) ∧ Below w.heap.size w w' := by
  obtain ⟨q, h63, hq, hqx⟩ := and_mask (x := b) 6 63 (by omega) (by decide)
  simp only [show ((63 : Nat) : Int) = 63 from rfl] at h63
  clear hqx
  obtain ⟨m, hm⟩ : ∃ m : Nat, 1 + (q : Int) = (m : Nat) := ⟨1 + q, by omega⟩
  have hmb : 1 ≤ m ∧ m ≤ 64 := by omega
  obtain ⟨T, hT1⟩ : ∃ T, a.tmod 4001 = T := ⟨_, rfl⟩
  have hTb : -4001 < T ∧ T < 4001 := by
    rw [← hT1]
    have := Int.tmod_lt_of_pos a (show (0 : Int) < 4001 by omega)
    have := Int.lt_tmod_of_pos a (show (0 : Int) < 4001 by omega)
    omega
  obtain ⟨U, hU⟩ : ∃ U : Nat, T + 4001 = (U : Nat) := ⟨(T + 4001).toNat, by omega⟩
  obtain ⟨F, hF⟩ : ∃ F : Nat, ((U : Nat) : Int).tmod 4001 = (F : Nat) := ⟨U % 4001, by rw [Int.tmod_eq_emod_of_nonneg (by omega)]; omega⟩
  have hFb : F < 4001 := by
    rw [Int.tmod_eq_emod_of_nonneg (by omega)] at hF
    omega
  obtain ⟨FM, hFM⟩ : ∃ FM : Nat, (F : Int) + (m : Int) = (FM : Nat) := ⟨F + m, by omega⟩
  have hFM2 : FM = F + m := by omega
  have HA := Lib.hid (fun w hT => awake7_any w hT)
  have HN := Lib.hid (fun v (hb : Below w.heap.size w v) (hT' : Tab v) => show Calls Tryd.prog 16 #[.int .i64 300] v _ from pw_new hb hT' hT.pos 300 (by omega) (by omega))
  have HM := Lib.hid (fun (v : World) p h g (s : Pw w v p h g (newP 300)) => tw_new (N := 300) (by omega) s)
  unfold PwMade at HN
  unfold TwMade at HM
  have HB := Lib.hid (Below.refl w.heap.size w)
  have HFB := Lib.hid (And.intro hmb (And.intro hFb hFM2))
  have hub : U < 8002 := by omega
  have hm64 : m ≤ 64 := by omega
  have hFMb : FM ≤ 4064 := by omega
  clear hFM2 hq hmb
  go_enter Tryd.func8, Tryd.ntmps8
  go_wp2_with (first
    | (go_at_call 10; refine (HA.out _ hT).mono ?_; rintro e v0 ⟨rfl, hb⟩; have hB := HB.out.trans hb; replace hT := hT.below hb hT.pos; clear hb)
    | (go_at_call 16; refine (HN.out _ hB hT).mono ?_; rintro e v1 ⟨p, h, g, rfl, hS⟩; clear hB)
    | (go_at_call 17; refine (HM.out _ _ _ _ hS).mono ?_; rintro e v2 ⟨t, rfl, hS2⟩; clear hS))
  have HS := Lib.hid hS2
  clear hS2 hT HN HM HA HB
  go_loopw [11] (fun i wr => ∃ (X k : Nat) (M : Nat → Sl), k ≤ m ∧ X = F + k ∧ X ≤ 4096 ∧ i = .int .i64 (X : Nat) ∧ Tw w wr t p h g 300 M ∧ Iv M F k ∧ cnt7 M ≤ 1 + 3 * k) (fun i _ => FM - (intOf i).toNat)
  case atStart => exact ⟨F, 0, m0, Nat.zero_le _, rfl, by omega, rfl, HS.out, Iv.none F, by rw [cnt7_zero]; omega⟩
  case round =>
    clear HS
    obtain ⟨X, k, M, hkm, hX, hX4, rfl, hS, hIv, hcn⟩ := hrel
    by_cases hlt : X < FM ∧ X < 4096
    · obtain ⟨hl1, hl2⟩ := hlt
      have d1 : decide ((X : Int) < (FM : Int)) = true := decide_eq_true (by omega)
      have d2 : decide ((X : Int) < 4096) = true := decide_eq_true (by omega)
      have d3 : (X : Int) < (FM : Int) := by omega
      have d4 : (X : Int) < 4096 := by omega
      have HST := Lib.hid (tw_put hS (k := k) hl2 (here_may (n := X) (by omega)) hcn (by have := HFB.out; omega))
      have hnx := hIv.next (s := ⟨true, false, false, false, (X : Nat)⟩) (Sl.may_ne (here_may (n := X) (by omega)))
      have HNX := Lib.hid (And.intro hnx (And.intro hX hkm))
      unfold Sl.v at HST
      simp only at HST
      clear hS hcn hnx hX hkm hIv
      go_wp2_with (go_at_call 24; refine HST.out.mono ?_; rintro e v5 ⟨rfl, hS5, hc5, _⟩; have HS5 := Lib.hid (And.intro hS5 hc5); clear hS5 hc5)
      go_roundw
      case rel => exact ⟨X + 1, k + 1, _, by have := HNX.out.2; have := HFB.out; omega, by have := HNX.out.2; omega, by omega, by go_num, HS5.out.1, by have := HNX.out.1; rw [← HNX.out.2.1] at this; exact this, HS5.out.2⟩
      case measure => simp [intOf]; omega
    · have hfb := HFB.out
      obtain ⟨K, rfl⟩ : ∃ K, k = K + 1 := ⟨k - 1, by omega⟩
      obtain ⟨LA, hLA⟩ : ∃ LA, F + K = LA := ⟨_, rfl⟩
      have hLb : LA < 4096 := by omega
      have hcnt0 := hIv.cnt (by omega)
      have hpg0 := hIv.pages (by omega)
      rw [hLA] at hcnt0
      have hcnt := Lib.hid hcnt0
      have hpg := Lib.hid hpg0
      clear hcnt0 hpg0
      have hLK : K + 1 = LA - F + 1 := by omega
      have hXL : X = LA + 1 := by omega
      have hFLA : F ≤ LA := by omega
      obtain ⟨L0, hL0⟩ : ∃ L0 : Nat, (FM : Int) - 1 = (L0 : Nat) := ⟨FM - 1, by omega⟩
      have hl0 : L0 = LA := by omega
      subst hl0
      clear hfb hkm hX hX4 hcn hLA hIv
      have d1 : decide ((X : Int) < (FM : Int)) = false := decide_eq_false (by omega)
      have d3 : ¬ (X : Int) < (FM : Int) := by omega
      obtain ⟨F8, F64, F512, A8, A64, A512, W1, W2, W3, ⟨t1, t2, t3, t4, t5, t6⟩, ⟨w1, w2, w3⟩, ⟨b1, b2, b3, b4, b5, b6, b7, b8, b9⟩, hW⟩ := nodes_nums hFLA hLb
      have hc3 : cnt7 M = W3 := by rw [hcnt.out, hW]
      clear hW
      have HS := Lib.hid (And.intro hS hc3)
      have HP := hpg
      obtain ⟨DL, hDL⟩ : ∃ DL : Nat, (L0 : Int) - (F : Int) = (DL : Nat) := ⟨L0 - F, by omega⟩
      have hDL1 : (DL : Int) + 1 = ((K + 1 : Nat) : Int) := by omega
      have HL := Lib.hid (And.intro hDL1 hFLA)
      have bd : DL ≤ 4096 := by omega
      clear hU hT1 hF hTb hub hS hcnt hpg hc3 hLK hXL hlt hDL1 hFLA
      go_upto_region 18 with fail
      all_goals
        go_loopw [13, 14] (fun wnt by_ wx => ((by_ = .int .i64 8 ∧ wnt = .int .i64 1) ∨ (by_ = .int .i64 64 ∧ wnt = .int .i64 (W1 : Nat)) ∨ (by_ = .int .i64 512 ∧ wnt = .int .i64 (W2 : Nat)) ∨ (by_ = .int .i64 4096 ∧ wnt = .int .i64 (W3 : Nat))) ∧ ∃ n, wx = wr.drewN n) (fun _ by_ _ => 4096 - (intOf by_).toNat)
        case atStart => exact ⟨.inl ⟨rfl, rfl⟩, 0, rfl⟩
        case round =>
          obtain ⟨hc, n, rfl⟩ := hrel
          rcases hc with ⟨rfl, rfl⟩ | ⟨rfl, rfl⟩ | ⟨rfl, rfl⟩ | ⟨rfl, rfl⟩
          · go_upto_region 20 with fail
            go_quiet (fail)
            go_wp2
            go_roundw
            case rel => exact ⟨.inr (.inl ⟨by go_num, by go_num⟩), _, rfl⟩
            case measure => simp [intOf]
          · go_upto_region 20 with fail
            go_quiet (fail)
            go_wp2
            go_roundw
            case rel => exact ⟨.inr (.inr (.inl ⟨by go_num, by go_num⟩)), _, rfl⟩
            case measure => simp [intOf]
          · go_upto_region 20 with fail
            go_quiet (fail)
            go_wp2
            go_roundw
            case rel => exact ⟨.inr (.inr (.inr ⟨by go_num, by go_num⟩)), _, rfl⟩
            case measure => simp [intOf]
          · have hSn := HS.out.1.drewN n
            have HALL := Lib.hid ((tw_all hSn).mono fun e v' hh => hh.row)
            have HND := Lib.hid (fun v (s : Tw w v t p h g 300 M) => (tw_nodes s).mono (R' := fun e v' => e = .returned (.int .i64 (W3 : Nat)) ∧ Below v.heap.size v v') fun e v' ⟨he, hb⟩ => ⟨by rw [he, HS.out.2], hb⟩)
            have HSn := Lib.hid hSn
            have hlen := spotsF_length M
            rw [HP.out, List.length_range'] at hlen
            have HLEN := Lib.hid hlen
            have hl1 := HL.out.1
            clear hSn hlen
            go_wp2_with (first
              | (go_at_call 28; refine HALL.out.mono ?_; rintro e v3 ⟨v, rfl, hr, hb⟩
                 obtain ⟨A3, c3, rfl⟩ := hr.len
                 rw [HLEN.out] at hr ⊢
                 obtain ⟨g3, o3, R, rfl, hBg, hglt, hR, x0, x1, x2, x3, x4, x5⟩ := hr.at_ (i := 0) (by rw [HLEN.out]; omega)
                 rw [spotsF_at] at x0
                 simp only at x0
                 have hS3 := HSn.out.on hb
                 have HX := Lib.hid (And.intro x0 (And.intro hR hglt))
                 clear hr hb x0 x1 x2 x3 x4 x5 hBg hglt hR)
              | (go_at_call 29; refine (HND.out _ hS3).mono ?_; rintro e v5 ⟨rfl, hb⟩
                 have hS5 := Lib.hid (hS3.on hb)
                 have x0 : v5.cell? ⟨g3, o3, none⟩ = some (.int .i64 (F : Nat)) := by
                   have := (hb.cell (p := ⟨g3, R, none⟩) HX.out.2.2).trans HX.out.1
                   have e1 := HX.out.2.1
                   have e2 : o3 = R := by omega
                   rw [e2, this]
                   simp [HP.out]
                 clear hb hS3))
            go_ret
            exact ⟨rfl, hS5.out.bel⟩

set_option maxRecDepth 100000 in
theorem lifted (os : Os) (started : os.Started) (H : Type) (enc : TypeId × Value → H) :
    ReturnsInHanded {} Tryd.checked os 8 .any (fun w args => (Rows.radixNodesSpec.pre enc Tryd.prog Tryd.f8 Rows.radixNodesRow.domain false w args ∧ laidMet Tryd.prog Rows.radixNodesRow.laid w) ∧ sizedMet enc Tryd.prog Tryd.f8 (OpenSpec.ofChange Rows.radixNodesSpec) false w args) (Rows.radixNodesSpec.post enc Tryd.prog Tryd.f8 false true false false) := by
  refine returnsInHanded_of_change_and (C := Tryd.checked) (X := fun w _ => laidMet Tryd.prog Rows.radixNodesRow.laid w) (fun _ _ _ hh h => h.of_heap hh) own started (by kernel_rfl) Tryd.func8
    (ChangeSpec.witness_at (enc := enc) (C := Tryd.checked) (os := os) (X := fun w _ => laidMet Tryd.prog Rows.radixNodesRow.laid w) false (laidWorld os) #[.int .i64 0, .int .i64 0] 8 rfl (by kernel_rfl) (by kernel_rfl) (by kernel_rfl) (by kernel_rfl) (by kernel_rfl) (laid_met os _)) ?_
  intro W base args ds gs before hval0 hW hcnd _ hL _
  have hval : ∀ (j : Nat) t v, Tryd.f8.params[j]? = some t → args[j]? = some v → Value.okWide Tryd.prog W .any base t v := hval0
  have hW' := hW
  obtain ⟨p, q, hA0, hV, rfl, hfz, hnd⟩ := hW
  have hA : DataW.TrodAll enc Tryd.prog W 0 (fun _ => true) true Tryd.f8.params.toList args.toList ds p := hA0
  rw [Tryd.params8] at hA hval
  obtain ⟨v0, vs0, d0, ds0, p0, q0, hargs, rfl, rfl, h0, r0⟩ := trodAll_cons hA
  obtain ⟨v1, vs1, d1, ds1, p1, q1, rfl, rfl, rfl, h1, r1⟩ := trodAll_cons r0
  obtain ⟨rfl, rfl, rfl⟩ := trodAll_nil r1
  obtain rfl : args = #[v0, v1] := by cases args; simp_all
  obtain ⟨rfl, rfl⟩ := trodVars_none hV
  have k0 := h0
  have lt0 : ∀ x ∈ p0, x.block < W.heap.size := by obtain ⟨m, hm⟩ := k0; exact DataW.trod_lt m _ _ _ hm
  obtain ⟨a0, rfl, _, _, w0⟩ := open_int Tryd.underlying3 (hval 0 3 v0 rfl rfl) h0
  have k1 := h1
  have lt1 : ∀ x ∈ p1, x.block < W.heap.size := by obtain ⟨m, hm⟩ := k1; exact DataW.trod_lt m _ _ _ hm
  obtain ⟨a1, rfl, _, _, w1⟩ := open_int Tryd.underlying3 (hval 1 3 v1 rfl rfl) h1
  clear hA0 hval0
  refine (walk a0 a1 W w0 w1 (tab_of_laid hL)).mono fun e W' ⟨he, bel⟩ => ?_
  subst he
  exact ⟨_, rfl, _, _, _, [], _, [], hW', trodAll_mk1 (shut_bool Tryd.underlying4 _), (trodAll_cons_mk (Below.trod laidOut (by kernel_rfl) (of_decide_eq_true (by kernel_rfl)) k0 bel lt0) (trodAll_cons_mk (Below.trod laidOut (by kernel_rfl) (of_decide_eq_true (by kernel_rfl)) k1 bel lt1) trodAll_mk0)), rfl, bel.frame _, fun h => by cases h⟩
theorem over : Rows.radixNodesRow.holds Tryd.pinned (OpenSpec.ofChange Rows.radixNodesSpec) :=
  OpenClaim.holds_of_wide 8 Tryd.f8 rfl rfl rfl rfl rfl rfl rfl ⟨rfl, rfl, rfl, rfl, rfl⟩ rfl rfl rfl rfl rfl (by kernel_rfl) Tryd.func8 (by kernel_rfl)
    (of_decide_eq_true (by kernel_rfl)) (by unfold Func.isWrapper; first | (rw [if_pos (by decide +kernel)]; kernel_rfl) | (rw [if_neg (by decide +kernel)]; exact ⟨rfl, rfl⟩))
    (fun os started H enc _ => lifted os started H enc)
set_option maxRecDepth 100000 in
/-- The statement. -/
theorem proved : Rows.RadixNodesCardSaid :=
  Claim7.holds_tied_plain_at .later [] [.data] true _ false over (fun _ h => by cases h) (by kernel_rfl) (fun _ h => by cases h) radixNodes_row_tie rfl ⟨rfl, rfl⟩ (by kernel_rfl) rfl
    (fun f fn hf hfn => by
      obtain rfl : f = 8 := Option.some.inj (hf.symm.trans (by kernel_rfl))
      obtain rfl : fn = Tryd.f8 := Option.some.inj (hfn.symm.trans Tryd.func8)
      refine ⟨by kernel_rfl, fun j t ht => ?_⟩
      rw [Tryd.params8] at ht
      match j, ht with
      | 0, ht =>
        obtain rfl : t = 3 := by simpa using ht.symm
        exact (by kernel_rfl : Tryd.pinned.checked.prog.wantsStandIn 3 = false)
      | 1, ht =>
        obtain rfl : t = 3 := by simpa using ht.symm
        exact (by kernel_rfl : Tryd.pinned.checked.prog.wantsStandIn 3 = false)
      | j + 2, ht => simp at ht)
    (by kernel_rfl)
end Go.Proofs.YtbidlabhekiijaaDoor.lawNodes
