/- StackPlaces: for any top by a number, and any lengths: each arg's place is where its letters stand, one behind the other, up to the top. -/
import Derived.Test.YtafogipkbhglcaaJJ
namespace Go.Proofs.Ytafogipkbhglcaa.lawPlaces17
open Go.ChangeShapes Go.WideShapes Go.ChangeAt Go.RowKit Go.Deep
set_option linter.unusedVariables false
set_option linter.unusedSimpArgs false

theorem i64_and63J (n : Int) : bits .and .i64 n 63 = n % 64 := i64_and_mask n 6 63 (by omega) (by decide)

/-- What is built of such texts. -/
theorem builtJ {T : Nat} {L : List ByteArray} (hL : ∀ s ∈ L, OkT 19 s) (hl : L.length ≤ 8) (h1 : 2048 ≤ T) (h2 : T ≤ 4000) (h3 : T % 16 = 0) :
    ∃ S BS, buildE T L [] [] = 0 ∧ buildP T L [] [] = (T : Int) - (S : Nat) ∧ buildS T L [] [] = BS ∧ BS.size = S ∧ S ≤ 1024 ∧ tlen L + 8 * (L.length + 5) ≤ S ∧ sizeN L [] [] = S ∧
      Vw BS 0 (headL (T - tlen L) L [] []) (S - (tlen L + 8 * (L.length + 5))) L := by
  have ht := tlen_okT hL
  have hs := sizeN_le L [] []
  have hr : rawN L [] [] = 8 * (L.length + 5) + tlen L := by unfold rawN; simp only [List.length_nil, tlen_nil]; omega
  have hm : mayB T L [] [] = true := by
    unfold mayB
    rw [plainB_okT hL, decide_eq_true (by omega), decide_eq_true (by omega), decide_eq_true (by omega)]
    decide
  rw [hr] at hs
  obtain ⟨e1, e2, e3⟩ := build_yes (top := (T : Int)) hm (by omega)
  have e4 := buildS_size e1
  have hv := built_vw 0 T L [] []
  rw [tlen_nil, Nat.add_zero, List.append_nil, List.replicate_zero, List.nil_append, hr] at hv
  rw [Int.toNat_natCast] at e3
  rw [← e3] at hv
  refine ⟨_, _, e1, e2, rfl, e4, by omega, by omega, rfl, ?_⟩
  rw [show tlen L + 8 * (L.length + 5) = 8 * (L.length + 5) + tlen L by omega]
  exact hv

theorem head_first (a : Nat) (args env : List ByteArray) (aux : List Pa) : (headL a args env aux)[0]? = some args.length := by
  unfold headL
  simp
theorem head_place {a : Nat} {args env : List ByteArray} {aux : List Pa} {k : Nat} (h : k < args.length) : (headL a args env aux)[k + 1]? = some (a + tlen (args.take k)) := by
  have e : headL a args env aux = args.length :: (placesL a args ++ ([0] ++ (placesL (a + tlen args) env ++ [0]) ++ auxL aux ++ [0, 0])) := by unfold headL; simp
  rw [e, List.getElem?_cons_succ, List.getElem?_append_left (by rw [placesL_length]; exact h), placesL_at h]

set_option maxRecDepth 100000 in
set_option maxHeartbeats 3200000 in
theorem walk (a : Int) (A0 : Option Addr) (zs : List Int) (c0 : Nat) (W : World) (wa : (Lit.int .i64 a).wf = true) (hm : zs.length ≤ maxLen) (hz : IntRow W A0 zs) :
    Calls Try.prog 7 #[.int .i64 a, .slice A0 zs.length c0] W fun e w' => e = .returned (.bool true) ∧ Below W.heap.size W w' := by
  obtain ⟨R, hR⟩ : ∃ R, W.heap.size = R := ⟨_, rfl⟩
  unfold maxLen at hm
  obtain ⟨N0, hN0⟩ : ∃ n, zs.length = n := ⟨_, rfl⟩
  rw [hN0]
  rw [hN0] at hm
  have HZ := Lib.hid (fun v (hv : Below R W v) => intRow_below17 hz hR.symm hv)
  have HN0 := Lib.hid hN0
  have hA := i64_and63J a
  obtain ⟨t0, ht0⟩ : ∃ t : Nat, a % 64 = (t : Int) := ⟨(a % 64).toNat, by omega⟩
  rw [ht0] at hA
  obtain ⟨T, hT⟩ : ∃ T : Nat, T = 2048 + 16 * t0 := ⟨_, rfl⟩
  have hTi : (2048 : Int) + 16 * (t0 : Int) = (T : Int) := by omega
  have hTb : 2048 ≤ T ∧ T ≤ 4000 ∧ T % 16 = 0 := by omega
  have HAW := Lib.hid (awake17 W)
  have HRS := Lib.hid (show ∀ u, Below R W u → R ≤ u.heap.size from fun u hu => by rw [← hR]; exact hu.size)
  clear hz hN0 ht0 hT
  obtain ⟨i0, hi, hz0, hz1, hz2⟩ := info_parts infoStr
  go_enter Try.func7, Try.ntmps7
  go_wp2_with (go_at_call 8; refine HAW.out.mono ?_; rintro e w1 ⟨rfl, hbw⟩)
  have HB1 := Lib.hid (show Below R W w1 from by rw [← hR]; exact hbw)
  have HOW := Lib.hid (ownNil17 w1 R 9 1)
  clear hbw HAW hA hTi
  go_loopw [7, 8, 9, 10] (fun v7 v8 _ _ wr => ∃ (i : Nat) (L : List ByteArray), i ≤ N0 ∧ i ≤ 8 ∧ v8 = .int .i64 i ∧ Hid (L.length = i) ∧ Hid (∀ s ∈ L, OkT 19 s) ∧ Hid (wr.ownsRow R 9 1 v7 i (strs L)) ∧ Hid (Below R W wr)) (fun _ v8 _ _ _ => 8 - (intOf v8).toNat)
  case atStart => exact ⟨0, [], Nat.zero_le _, by omega, rfl, Lib.hid rfl, Lib.hid (by simp), HOW, HB1⟩
  case round =>
    obtain ⟨i, L, hiN, hi8, rfl, HL, HOK, HO, HB⟩ := hrel
    by_cases hlt : i < N0 ∧ i < 8
    · have hlt1 : (i : Int) < (N0 : Int) := by omega
      have hlt2 : (i : Int) < 8 := by omega
      have hil : i < zs.length := by rw [HN0.out]; exact hlt.1
      obtain ⟨r, k, hr1, hr2, hr3, hr4, hr5, hr6⟩ := rest_nat17 zs[i] 20 (by omega)
      obtain ⟨m, rfl⟩ : ∃ m : Nat, k = m := ⟨k.toNat, by omega⟩
      have hm20 : m < 20 := by omega
      have HZI := Lib.hid (show ∀ v, Below R W v → ∃ ad, A0 = some ad ∧ v.cell? (ad.add i) = some (.int .i64 zs[i]) from fun v hv => by
        obtain ⟨ad, h1, h2, h3, h4⟩ := HZ.out v hv i hil
        exact ⟨ad, h1, h3⟩)
      obtain ⟨ad, rfl, -⟩ := HZI.out _ HB.out
      obtain ⟨z, hzz⟩ : ∃ z, zs[i] = z := ⟨_, rfl⟩
      rw [hzz] at hr1 HZI
      obtain ⟨lt, hlt3⟩ : ∃ q : Nat, q = 97 + i := ⟨_, rfl⟩
      have hle1 : (97 : Int) + (i : Int) = (lt : Int) := by omega
      have hltb : 97 ≤ lt ∧ lt < 256 := by omega
      have hle2 : IntKind.u8.wrap (lt : Int) = (lt : Int) := by rw [IntKind.wrap_u8]; omega
      have HLR := Lib.hid (fun w => letterJ_run lt (by omega) w w.heap.size rfl)
      have HL0 := Lib.hid (letterJ_no0 (q := lt) (by omega) (by omega))
      have hC1 := letterJ_size lt
      generalize letterJ lt = C at *
      have i0' : (0 : Int) ≤ (i : Int) := by omega
      clear hlt hil hzz hlt3 hr5 hr6 hltb
      go_wp2_with fail
      go_loopw [9, 10] (fun v9 v10 wq => ∃ (j : Nat) (Z : ByteArray), j ≤ m ∧ v10 = .int .i64 j ∧ v9 = .string Z ∧ Z.size = j ∧ Hid ((0 : UInt8) ∉ Z.data.toList) ∧ Hid (wq.ownsRow R 9 1 u7 i (strs L)) ∧ Hid (Below R W wq)) (fun _ v10 _ => m - (intOf v10).toNat)
      case atStart => exact ⟨0, _, Nat.zero_le _, rfl, rfl, rfl, Lib.hid (by simp), HO, HB⟩
      case round =>
        clear HO HB
        obtain ⟨j, Z, hj, rfl, rfl, hzs, HZ0, HO, HB⟩ := hrel
        obtain ⟨ad', he, d0⟩ := HZI.out _ HB.out
        obtain rfl : ad = ad' := Option.some.inj he
        clear he
        by_cases hjm : j < m
        · have hjm' : (j : Int) < (m : Int) := by omega
          have hcv := HLR.out wr
          obtain ⟨Z2, hZ2⟩ : ∃ Z2, Z ++ C = Z2 := ⟨_, rfl⟩
          have hZ2s : Z2.size = j + 1 := by rw [← hZ2, ByteArray.size_append, hzs, hC1]
          have HZ2 := Lib.hid (show (0 : UInt8) ∉ Z2.data.toList from by rw [← hZ2]; exact no0_append HZ0.out HL0.out)
          have hov : ¬ (9223372036854775807 < Z.size + C.size) := by omega
          have HO2 := Lib.hid (HO.out.alloc (.cells #[.int .u8 (lt : Int)] 5))
          have HB2 := Lib.hid (HB.out.alloc (HRS.out _ HB.out) (.cells #[.int .u8 (lt : Int)] 5))
          go_wp2_with fail
          go_roundw
          case rel => exact ⟨j + 1, Z2, by omega, by go_num, rfl, hZ2s, HZ2, HO2, HB2⟩
          case measure => simp [intOf]; omega
        · obtain rfl : j = m := by omega
          have ho1 := HO.out
          have HT1 := Lib.hid (show OkT 19 Z from ⟨by omega, HZ0.out⟩)
          go_wp2_with (at_builtin; refine Hid.out ?_)
          refine Lib.hid ?_
          refine wpList_append_own _ rfl _ _ 22 rfl R 9 i0 (.string ⟨#[]⟩) 1 16 Try.underlying22 hi hz0 hz1 hz2 rfl (by decide) u7 i (strs L) rfl (ho1.alloc _) ⟨wr.heap.size, 0, none⟩ 1 1 [.string Z] rfl rfl (cell_one17 _ _ _) (fun u hu => by simp at hu; subst hu; rfl) (by unfold maxLen; omega) (by omega) (by have := HRS.out _ HB.out; simp; omega) ?_
          intro v' w2 hown1 hgrow _
          have HO2 := Lib.hid (show w2.ownsRow R 9 1 v' (i + 1) (strs (L ++ [Z])) from by
            rw [strs_snoc17]
            exact hown1)
          have HB2 := Lib.hid ((HB.out.alloc (HRS.out _ HB.out) (.cells #[.string Z] 9)).grown hgrow (by have := HRS.out _ HB.out; simp; omega) (fun z e => (ho1.lt _ e).1))
          have HL2 := Lib.hid (show (L ++ [Z]).length = i + 1 from by rw [List.length_append, HL.out]; rfl)
          have HK2 := Lib.hid (okT_snoc HOK.out HT1.out)
          clear hown1 hgrow ho1 HO HB
          go_wp2_with fail
          go_roundw
          case rel => exact ⟨i + 1, L ++ [Z], by omega, by omega, by go_num, HL2, HK2, HO2, HB2⟩
          case measure => simp [intOf]; omega
    · have hor : ¬ ((i : Int) < (N0 : Int)) ∨ ¬ ((i : Int) < 8) := by omega
      obtain ⟨hlen, A, c, rfl, hrow⟩ := strRow_own17 HO.out (fun z hz => by have := (HOK.out z hz).1; unfold maxLen; omega)
      obtain ⟨S, BS, e1, e2, e3, e4, e5, e6, e7, hv⟩ := builtJ HOK.out (by rw [HL.out]; exact hi8) hTb.1 hTb.2.1 hTb.2.2
      have htl := tlen_okT HOK.out
      have HBU := build_any (T : Int) A none none L [] [] c 0 0 wr (WalkArith.wf_i64 (by omega)) hrow (strRow_nil _ _) (PaRow.nil _ _) (by rw [HL.out]; omega) (by simp) (by simp) (by omega) (by simp [tlen_nil])
      rw [e1, e2, e3] at HBU
      rw [HL.out] at e6 hv htl HBU
      simp only [List.length_nil] at HBU
      have HC := Lib.hid HBU
      have HROW := Lib.hid hrow
      have HV := Lib.hid hv
      rw [HL.out]
      clear hlen hrow HBU hv e1 e2 e3 e7 HO
      have hx : (T : Int) - ((T : Int) - (S : Int)) = (S : Int) := by omega
      have hTT := hTb.2.1
      by_cases hq : (i : Int) < (N0 : Int)
      all_goals
        have h8 : (i : Int) < (N0 : Int) → ¬ (i : Int) < 8 := by omega
        first | (have h9 := h8 hq; clear h8) | clear h8
        go_upto_region 16 with (go_at_call 10; with_reducible refine HC.out.mono ?_; rintro e w3 ⟨rfl, hb3⟩)
        have HR3 := Lib.hid (strRow_below17 HROW.out rfl hb3)
        have HBE := Lib.hid (HB.out.trans (hb3.mono (HRS.out _ HB.out)))
        clear hb3 HROW HB HC hor hlt hx hq
        go_wp2_with fail
        go_loopw [14, 15, 16, 17, 18, 19] (fun v14 v15 _ _ _ _ wr => ∃ (q : Nat) (E : Nat) (qi : Int), q ≤ i ∧ v14 = .int .i64 E ∧ v15 = .int .i64 qi ∧ Hid (qi = (q : Int) - 1) ∧ Hid (E = T - tlen L + tlen (L.take q)) ∧ wr = w3) (fun _ v15 _ _ _ _ _ => (intOf v15 + 1).toNat)
        case atStart => exact ⟨i, T, _, Nat.le_refl _, rfl, rfl, Lib.hid rfl, Lib.hid (by rw [← HL.out, List.take_length]; omega), rfl⟩
        case round =>
          obtain ⟨q, E, qi, hqi, rfl, rfl, HQ, HE, hwr⟩ := hrel
          obtain rfl : w3 = wr := hwr.symm
          have hHl := headL_length (T - tlen L) L [] []
          rw [HL.out] at hHl
          simp only [List.length_nil] at hHl
          by_cases hq0 : q = 0
          · subst hq0
            obtain rfl : qi = -1 := by have := HQ.out; omega
            have h0 := head_first (T - tlen L) L [] []
            rw [HL.out] at h0
            obtain ⟨hlt0, h0'⟩ := List.getElem?_eq_some_iff.1 h0
            obtain ⟨g1, g2⟩ := HV.out.num (j := 0) hlt0 (by rw [h0']; omega)
            rw [h0'] at g1
            have HG := rget_any BS (((0 + 8 * 0 : Nat) : Nat) : Int) 8 w3 (by decide) (by decide) (by omega)
            rw [g1, g2] at HG
            have HG0 : Hid (Calls Try.prog 18 #[.string BS, .int .i64 0, .int .i64 8] w3 fun e w' => e = .returned (.tuple #[.int .u64 (i : Int), .bool true]) ∧ w3 = w') := Lib.hid HG
            have hwi : IntKind.i64.wrap (i : Int) = (i : Int) := IntWalk.i64_in _ (by omega)
            clear HG h0 h0' g1 g2 hlt0 HQ HE hHl HV
            go_wp2_with (go_at_call 18; with_reducible refine HG0.out.mono ?_; rintro e w4 ⟨rfl, rfl⟩)
            go_ret
            exact ⟨by simp, by rw [hR]; exact HBE.out⟩
          · obtain ⟨p, rfl⟩ : ∃ p, q = p + 1 := ⟨q - 1, by omega⟩
            obtain ⟨pi, hpi⟩ : ∃ x : Int, (p : Int) = x := ⟨_, rfl⟩
            obtain rfl : qi = (p : Int) := by have := HQ.out; omega
            have hpl : p < L.length := by rw [HL.out]; omega
            obtain ⟨ad2, rfl, hbl2, d2, hsz2⟩ := HR3.out p hpl
            have hE1 := HE.out
            have htk := tlen_take hpl
            have hp1 := head_place (a := T - tlen L) (env := []) (aux := []) hpl
            obtain ⟨E1, hE2⟩ : ∃ e, T - tlen L + tlen (L.take p) = e := ⟨_, rfl⟩
            have htl2 := tlen_take_le L p
            have htl3 := tlen_take_le L (p + 1)
            rw [hE2] at hp1
            obtain ⟨hlt0, h0'⟩ := List.getElem?_eq_some_iff.1 hp1
            obtain ⟨g1, g2⟩ := HV.out.num (j := p + 1) hlt0 (by rw [h0']; omega)
            rw [h0'] at g1
            obtain ⟨g, hg⟩ : ∃ g : Nat, 8 * (p + 1) = g := ⟨_, rfl⟩
            rw [Nat.zero_add, hg] at g1 g2
            have HG := Lib.hid (rget_any BS (g : Int) 8 w3 (WalkArith.wf_i64 (by omega)) (by decide) (by omega))
            rw [g1, g2] at HG
            have hgi : (8 : Int) * ((p : Int) + 1) = (g : Int) := by omega
            obtain ⟨o, ho⟩ : ∃ o : Nat, S - tlen L + tlen (L.take p) = o := ⟨_, rfl⟩
            obtain ⟨x1, x2⟩ := HV.out.text (plainB_okT HOK.out) hpl (by have := (HOK.out _ (List.getElem_mem hpl)).1; omega) (a := o) (by rw [hHl]; omega)
            have HX := Lib.hid (rtext_any BS (o : Int) 1024 w3 (WalkArith.wf_i64 (by omega)) (by decide) (by omega))
            rw [x1, x2] at HX
            have hoi : (E1 : Int) - ((T : Int) - (S : Int)) = (o : Int) := by omega
            have hEi : (E : Int) - (L[p].size : Int) - 1 = (E1 : Int) := by omega
            have hEb : E ≤ 5000 ∧ E1 ≤ 5000 := by omega
            have hwE : IntKind.i64.wrap (E1 : Int) = (E1 : Int) := IntWalk.i64_in _ (by omega)
            have hsb : L[p].size ≤ 19 := (HOK.out _ (List.getElem_mem hpl)).1
            have HE9 := Lib.hid hE2
            have k0 : (0 : Int) ≤ (p : Int) := by omega
            have k1 : (p : Int) < (i : Int) := by omega
            generalize L[p] = s at *
            clear hE1 htk hp1 htl2 htl3 hlt0 h0' g1 g2 x1 x2 hHl hg ho hsz2 hpl hE2 HQ HE HV hpi htl
            go_wp2_with (first
              | (go_at_call 18; with_reducible refine HG.out.mono ?_; rintro e w4 ⟨rfl, rfl⟩)
              | (go_at_call 19; with_reducible refine HX.out.mono ?_; rintro e w4 ⟨rfl, rfl⟩))
            go_roundw
            case rel => exact ⟨p, E1, _, by omega, rfl, rfl, Lib.hid rfl, Lib.hid HE9.out.symm, by trivial⟩
            case measure => simp [intOf]
set_option maxRecDepth 100000 in
theorem lifted (os : Os) (started : os.Started) (H : Type) (enc : TypeId × Value → H) :
    ReturnsInHanded {} Try.checked os 7 .any (Rows.stackPlacesSpec.pre6 enc Try.prog Try.f7 Rows.stackPlacesRow.domain false) (Rows.stackPlacesSpec.post enc Try.prog Try.f7 false true false false) := by
  refine returnsInHanded_of_change (C := Try.checked) own started (by kernel_rfl) Try.func7
    (ChangeSpec.witness6 (enc := enc) (C := Try.checked) false ⟨#[], #[.int .i64 0, .slice none 0 0], []⟩ 8 (by kernel_rfl) (by kernel_rfl) (by kernel_rfl) (by kernel_rfl)) ?_
  intro W base args ds gs before hval0 hW hcnd _
  have hval : ∀ (j : Nat) t v, Try.f7.params[j]? = some t → args[j]? = some v → Value.okWide Try.prog W .any base t v := hval0
  have hW' := hW
  obtain ⟨p, q, hA0, hV, rfl, hfz, hnd⟩ := hW
  have hA : DataW.TrodAll enc Try.prog W 0 (fun _ => true) true Try.f7.params.toList args.toList ds p := hA0
  rw [Try.params7] at hA hval
  obtain ⟨v0, vs0, d0, ds0, p0, q0, hargs, rfl, rfl, h0, r0⟩ := trodAll_cons hA
  obtain ⟨v1, vs1, d1, ds1, p1, q1, rfl, rfl, rfl, h1, r1⟩ := trodAll_cons r0
  obtain ⟨rfl, rfl, rfl⟩ := trodAll_nil r1
  obtain rfl : args = #[v0, v1] := by cases args; simp_all
  obtain ⟨rfl, rfl⟩ := trodVars_none hV
  have k0 := h0
  have lt0 : ∀ x ∈ p0, x.block < W.heap.size := by obtain ⟨m, hm⟩ := k0; exact DataW.trod_lt m _ _ _ hm
  obtain ⟨a0, rfl, _, _, w0⟩ := open_int Try.underlying3 (hval 0 3 v0 rfl rfl) h0
  have k1 := h1
  have lt1 : ∀ x ∈ p1, x.block < W.heap.size := by obtain ⟨m, hm⟩ := k1; exact DataW.trod_lt m _ _ _ hm
  obtain ⟨LA1, Ll1, Lc1, rfl, Lm1, Lr1⟩ := openInts17 (hval 1 49 v1 rfl rfl) h1
  clear hA0 hval0
  refine (walk a0 LA1 Ll1 Lc1 W w0 Lm1 Lr1).mono fun e W' ⟨he, bel⟩ => ?_
  subst he
  exact ⟨_, rfl, _, _, _, [], _, [], hW', trodAll_mk1 (shut_bool Try.underlying4 _), (trodAll_cons_mk (Below.trod laidOut (by kernel_rfl) (of_decide_eq_true (by kernel_rfl)) k0 bel lt0) (trodAll_cons_mk (Below.trod laidOut (by kernel_rfl) (of_decide_eq_true (by kernel_rfl)) k1 bel lt1) trodAll_mk0)), rfl, bel.frame _, fun h => by cases h⟩
theorem over : Rows.stackPlacesRow.holds Try.pinned (OpenSpec.ofChange Rows.stackPlacesSpec) :=
  OpenClaim.holds_of_wide 7 Try.f7 rfl rfl rfl rfl rfl rfl rfl ⟨rfl, rfl, rfl, rfl, rfl⟩ rfl rfl rfl rfl rfl (by kernel_rfl) Try.func7 (by kernel_rfl)
    (of_decide_eq_true (by kernel_rfl)) (by unfold Func.isWrapper; first | (rw [if_pos (by decide +kernel)]; kernel_rfl) | (rw [if_neg (by decide +kernel)]; exact ⟨rfl, rfl⟩))
    (fun os started H enc _ => lifted os started H enc)
/-- The statement. -/
theorem proved : Rows.StackPlacesSaid := over
end Go.Proofs.Ytafogipkbhglcaa.lawPlaces17
