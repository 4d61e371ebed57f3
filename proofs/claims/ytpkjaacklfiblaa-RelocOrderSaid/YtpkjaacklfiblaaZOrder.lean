/- RelocOrder: for any two numbers (their rests by 16: how many relocations there are, and how many are read): each is read at its place; of one more, or less, by their size. -/
import Derived.Test.YtpkjaacklfiblaaZE
import Derived.Test.YtpkjaacklfiblaaZG
namespace Go.Proofs.Ytpkjaacklfiblaa.lawOrderZ
open Go.ChangeShapes Go.WideShapes Go.ChangeAt Go.RowKit Go.Deep
set_option linter.unusedVariables false
set_option linter.unusedSimpArgs false

theorem i64_and4 (n : Int) : bits .and .i64 n 15 = n % 16 := i64_and_mask n 4 15 (by omega) (by decide)
def ordR (i : Nat) : Rl := ⟨i, 1, 1 + (i : Int), -(i : Int)⟩
def ordL (n : Nat) : List Rl := (List.range n).map ordR
theorem ordL_length (n : Nat) : (ordL n).length = n := by simp [ordL]
theorem ordL_succ (n : Nat) : ordL (n + 1) = ordL n ++ [ordR n] := by simp [ordL, List.range_succ]
theorem ordL_at (n i : Nat) (h : i < (ordL n).length) : (ordL n)[i] = ordR i := by simp [ordL]
theorem ordL_take {k n : Nat} (h : k ≤ n) : (ordL n).take k = ordL k := by
  apply List.ext_getElem
  · rw [List.length_take, ordL_length, ordL_length]; omega
  · intro i h1 h2
    rw [List.getElem_take, ordL_at, ordL_at]
theorem ordR_fits {i : Nat} (h : i ≤ 100) : (ordR i).fits :=
  ⟨show (0 : Int) ≤ (i : Int) by omega, show (i : Int) ≤ 9223372036854775807 by omega, show (0 : Int) ≤ 1 by decide, show (1 : Int) < 4294967296 by decide, show (0 : Int) ≤ 1 + (i : Int) by omega, show 1 + (i : Int) < 4294967296 by omega, (WalkArith.wf_i64 (by omega) : (Lit.int .i64 (-(i : Int))).wf = true)⟩
theorem ordL_fits {n : Nat} (h : n ≤ 100) : ∀ r ∈ ordL n, r.fits := fun r hr => by
  obtain ⟨i, hi, rfl⟩ := List.mem_map.1 hr
  exact ordR_fits (by have := List.mem_range.1 hi; omega)
def viewO (n : Nat) : ByteArray := mkb (rlBytes (ordL n))
theorem viewO_size (n : Nat) : (viewO n).size = 24 * n := by unfold viewO; rw [mkb_size, rlBytes_length, ordL_length]
theorem fillO (n : Nat) : fillS (viewO n) ((24 * n : Nat) : Int) = viewO n := by
  unfold viewO
  rw [fill_bytesZ _ _ (by rw [rlBytes_length, ordL_length]; exact Nat.le_refl _), rlBytes_length, ordL_length, Nat.sub_self, List.replicate_zero, List.append_nil]
theorem ord_yes {N K : Nat} (hN : N ≤ 15) (h : K ≤ N) : relL (viewO N) 0 (24 * (K : Int)) = ordL K ∧ relE (viewO N) 0 (24 * (K : Int)) = 0 := by
  have e0 : (24 * (K : Int) / 24).toNat = K := by omega
  have e1 : rlsAt (viewO N) 0 K = ordL K := by
    have := rlsAt_written (ordL N) [] (ordL_fits (by omega)) (k := K) (by rw [ordL_length]; exact h)
    rw [List.append_nil, ordL_take h] at this
    exact this
  have e2 : rlOk (viewO N) 0 K = true := by
    unfold rlOk
    rw [e1, List.all_eq_true]
    intro r hr
    obtain ⟨i, hi, rfl⟩ := List.mem_map.1 hr
    have hik := List.mem_range.1 hi
    rw [viewO_size]
    unfold Rl.may Rl.asks ordR
    simp only
    rw [if_neg (by decide), inn_iff.2 (show (0 : Int) ≤ (i : Int) ∧ (0 : Int) ≤ 8 ∧ (i : Int) ≤ ((24 * N : Nat) : Int) ∧ (8 : Int) ≤ ((24 * N : Nat) : Int) - (i : Int) from ⟨by omega, by omega, by omega, by omega⟩)]
    simp
    omega
  have e3 : inn 0 (24 * (K : Int)) (viewO N).size = true := by rw [inn_iff, viewO_size]; omega
  have h3 := rel_yes (s := viewO N) (f := 0) (z := 24 * (K : Int)) (by omega) e3 (by rw [e0]; exact e2)
  rw [e0, e1] at h3
  exact h3
theorem ord_no {N K : Nat} (h : N < K) : relL (viewO N) 0 (24 * (K : Int)) = [] ∧ relE (viewO N) 0 (24 * (K : Int)) = 17 :=
  rel_no (by omega) (fun x => by
    have := inn_iff.1 x.2.1
    rw [viewO_size] at this
    omega)

set_option maxRecDepth 100000 in
set_option maxHeartbeats 3200000 in
theorem walk (n m : Int) (w : World) (wn : (Lit.int .i64 n).wf = true) (wm : (Lit.int .i64 m).wf = true) :
    Calls Try.prog 7 #[.int .i64 n, .int .i64 m] w fun e w' => e = .returned (.bool true) ∧ Below w.heap.size w w' := by
  have HA := Lib.hid (fun v => awakeZ_any v)
  obtain ⟨N, hN⟩ : ∃ N : Nat, n % 16 = (N : Int) := ⟨(n % 16).toNat, by omega⟩
  obtain ⟨K, hK⟩ : ∃ K : Nat, m % 16 = (K : Int) := ⟨(m % 16).toNat, by omega⟩
  have hN15 : N ≤ 15 := by omega
  have hK15 : K ≤ 15 := by omega
  have e1 := i64_and4 n
  have e2 := i64_and4 m
  rw [hN] at e1
  rw [hK] at e2
  clear hN hK wn wm
  go_enter Try.func7, Try.ntmps7
  go_upto_region 5 with (go_at_call 9; refine (HA.out _).mono ?_; rintro e v1 ⟨rfl, hb1⟩)
  have HB1 := Lib.hid hb1
  clear hb1 HA
  go_wp2_with fail
  go_loopw [7, 8] (fun acc i wr => ∃ (k : Nat), k ≤ N ∧ i = .int .i64 k ∧ acc = .string (viewO k) ∧ Hid (Below w.heap.size w wr)) (fun _ i _ => N - (intOf i).toNat)
  case atStart => exact ⟨0, Nat.zero_le _, rfl, rfl, HB1⟩
  case round =>
    clear HB1
    obtain ⟨k, hk, rfl, rfl, HB⟩ := hrel
    have hvs := viewO_size k
    by_cases hlt : k < N
    · have HBY := Lib.hid (fun u => rbytes_any (ordR k) u (ordR_fits (by omega)).wf)
      have hsc : viewO k ++ mkb (ordR k).bytes = viewO (k + 1) := by unfold viewO; rw [mkb_append, ordL_succ, rlBytes_snoc]
      have hbz : (mkb (ordR k).bytes).size = 24 := by rw [mkb_size, Rl.bytes_length]
      unfold Rl.cs ordR at HBY
      simp only at HBY
      have hor : (⟨(k : Int), 1, 1 + (k : Int), -(k : Int)⟩ : Rl) = ordR k := rfl
      rw [hor] at HBY
      obtain ⟨T, hT⟩ : ∃ T, mkb (ordR k).bytes = T := ⟨_, rfl⟩
      rw [hT] at HBY hsc hbz
      obtain ⟨AC, hAC⟩ : ∃ AC, viewO k = AC := ⟨_, rfl⟩
      rw [hAC] at hvs hsc ⊢
      have hA1 : AC.size ≤ 400 := by omega
      have hT1 : T.size ≤ 300 := by omega
      have x1 : IntKind.i64.wrap (1 + (k : Int)) = 1 + (k : Int) := IntWalk.i64_in _ (by omega)
      have x2 : IntKind.i64.wrap (-(k : Int)) = -(k : Int) := IntWalk.i64_in _ (by omega)
      have y1 : wrap64 (1 + (k : Int)) = 1 + (k : Int) := IntWalk.wrap64_in _ (by omega)
      have y2 : wrap64 (-(k : Int)) = -(k : Int) := IntWalk.wrap64_in _ (by omega)
      have hbd : ∀ (w : World), (Instr.build 23 #[(0, .int .i64 (k : Int)), (1, .int .i64 1), (2, .int .i64 (1 + (k : Int))), (3, .int .i64 (-(k : Int)))]).run Try.prog w = .ok (.agg #[.int .i64 (k : Int), .int .i64 1, .int .i64 (1 + (k : Int)), .int .i64 (-(k : Int))]) w := fun w => run_build w 23 _ _ (by kernel_rfl)
      have HSC := Lib.hid hsc
      clear hsc hvs hbz hT hAC hor
      go_wp2_with (go_at_call 12; with_reducible refine (HBY.out _).mono ?_; rintro e u1 ⟨rfl, hb⟩; have HB2 := Lib.hid (HB.out.trans (hb.mono HB.out.size)); clear hb)
      go_roundw
      case rel => exact ⟨k + 1, by omega, by go_num, by rw [HSC.out], HB2⟩
      case measure => simp [intOf]; omega
    · obtain rfl : k = N := by omega
      have HF := Lib.hid (fun u => rfill_any (viewO k) ((24 * k : Nat) : Int) u (WalkArith.wf_i64 (by omega)) (by omega) (by omega))
      rw [fillO] at HF
      have HRD := Lib.hid (fun u => read_anyZ (viewO k) (dR 0 (24 * (K : Int))) (.slice none 0 0) u (dR_wf (by decide) (WalkArith.wf_i64 (by omega))) (by omega))
      rw [dR_cs, show (dR 0 (24 * (K : Int))).f 5 = 0 from rfl, show (dR 0 (24 * (K : Int))).f 6 = 24 * (K : Int) from rfl] at HRD
      unfold RelET at HRD
      have hyes := fun h : K ≤ k => ord_yes hN15 h
      have hno := fun h : k < K => ord_no h
      obtain ⟨V, hV⟩ : ∃ V, viewO k = V := ⟨_, rfl⟩
      rw [hV] at HF HRD hvs hyes hno ⊢
      obtain ⟨L, hL⟩ : ∃ L, relL V 0 (24 * (K : Int)) = L := ⟨_, rfl⟩
      obtain ⟨E, hE⟩ : ∃ E, relE V 0 (24 * (K : Int)) = E := ⟨_, rfl⟩
      rw [hL, hE] at HRD hyes hno
      have hcs : (k < K ∧ L = [] ∧ E = 17) ∨ (K ≤ k ∧ L = ordL K ∧ E = 0) := by
        by_cases h : k < K
        · exact .inl ⟨h, (hno h).1, (hno h).2⟩
        · exact .inr ⟨by omega, (hyes (by omega)).1, (hyes (by omega)).2⟩
      obtain ⟨Z, hZ⟩ : ∃ Z : Int, 24 * (k : Int) = Z := ⟨_, rfl⟩
      rw [show ((24 * k : Nat) : Int) = Z by omega] at HF
      obtain ⟨Y, hY⟩ : ∃ Y : Int, 24 * (K : Int) = Y := ⟨_, rfl⟩
      rw [hY] at HRD
      have z1 : IntKind.i64.wrap (24 * (k : Int)) = Z := by rw [IntWalk.i64_in _ (by omega)]; exact hZ
      have z2 : wrap64 (24 * (k : Int)) = Z := by rw [IntWalk.wrap64_in _ (by omega)]; exact hZ
      have z3 : IntKind.i64.wrap (24 * (K : Int)) = Y := by rw [IntWalk.i64_in _ (by omega)]; exact hY
      have z4 : wrap64 (24 * (K : Int)) = Y := by rw [IntWalk.wrap64_in _ (by omega)]; exact hY
      have hbd : ∀ (w : World), (Instr.build 37 #[(6, .int .i64 Y)]).run Try.prog w = .ok (.agg #[.slice none 0 0, .int .i64 0, .int .i64 0, .int .i64 0, .int .i64 0, .int .i64 0, .int .i64 Y, .int .i64 0, .int .i64 0]) w := fun w => run_build w 37 _ _ (by kernel_rfl)
      clear hyes hno hV hL hE hvs
      rcases hcs with ⟨h1, rfl, rfl⟩ | ⟨h1, hLL, rfl⟩
      · have d1 : decide ((k : Int) < (K : Int)) = true := decide_eq_true (by omega)
        go_wp2_with (first
          | (go_at_call 17; with_reducible refine (HF.out _).mono ?_; rintro e u1 ⟨rfl, hb⟩; have HB2 := Lib.hid (HB.out.trans (hb.mono HB.out.size)); clear hb)
          | (go_at_call 18; with_reducible refine (HRD.out _).mono ?_; rintro e u2 ⟨A1, c1, rfl, -, hb⟩; have HB3 := Lib.hid (HB2.out.trans (hb.mono HB2.out.size)); clear hb))
        go_ret
        exact ⟨rfl, HB3.out⟩
      · have d1 : decide ((k : Int) < (K : Int)) = false := decide_eq_false (by omega)
        have hKk : (K : Int) ≤ 15 := by omega
        have HLL := Lib.hid hLL
        have HLN := Lib.hid (show L.length = K from by rw [hLL, ordL_length])
        have hLN : L.length = K := HLN.out
        rw [hLN] at HRD
        clear hLL hLN
        have hk0 : (K = 0) ∨ (decide (0 < (K : Int)) = true ∧ decide (Z < 8 + (K : Int) - 1) = false) := by
          by_cases h : K = 0
          · exact .inl h
          · exact .inr ⟨decide_eq_true (by omega), decide_eq_false (by omega)⟩
        have p1 : IntKind.i64.wrap (8 + (K : Int)) = 8 + (K : Int) := IntWalk.i64_in _ (by omega)
        have p2 : IntKind.i64.wrap (8 + (K : Int) - 1) = 8 + (K : Int) - 1 := IntWalk.i64_in _ (by omega)
        have HK0 := Lib.hid hk0
        clear hk0 hZ hY
        go_upto_region 10 with (first
          | (go_at_call 17; with_reducible refine (HF.out _).mono ?_; rintro e u1 ⟨rfl, hb⟩; have HB2 := Lib.hid (HB.out.trans (hb.mono HB.out.size)); clear hb)
          | (go_at_call 18; with_reducible refine (HRD.out _).mono ?_; rintro e u2 ⟨A1, c1, rfl, hrow, hb⟩; have HB3 := Lib.hid (HB2.out.trans (hb.mono HB2.out.size)); clear hb))
        have HROW := Lib.hid hrow
        clear hrow HF HRD HB HB2 hbd
        have HZK := Lib.hid (show (K : Int) ≤ 0 ∨ ¬ Z < 8 + (K : Int) - 1 from by
          rcases HK0.out with h | h
          · left; omega
          · right; exact of_decide_eq_false h.2)
        clear HK0
        go_cut [57] from 43 to 56 (fun b wx => b = .bool false ∧ wx = u2)
        case first =>
          have hzk := HZK.out
          go_wp2_with fail
          all_goals
            go_meet
            clear z1 z2 z3 z4 p1 p2 d1
            refine ⟨?_, rfl⟩
            simp only [Value.bool.injEq]
            first
              | (simp; done)
              | (simp; omega)
        case rest =>
          obtain ⟨rfl, hwx⟩ := hcut
          have hwx' := hwx.symm
          clear hwx
          subst hwx'
          have hrow := HROW.out
          rw [HLL.out] at hrow
          have HRW := Lib.hid hrow
          clear HROW hrow HZK z1 z2 z3 z4 p1 p2 d1 HLL HLN
          go_wp2_with fail
          go_loopw [12] (fun i wx => ∃ j : Nat, j ≤ K ∧ i = .int .i64 j ∧ wx = u2) (fun i _ => K - (intOf i).toNat)
          case atStart => exact ⟨0, Nat.zero_le _, rfl, rfl⟩
          case round =>
            obtain ⟨j, hj, rfl, rfl⟩ := hrel
            by_cases hlt2 : j < K
            · obtain ⟨ad, rfl, hblt, hwf, c0, c1', c2, c3⟩ := HRW.out.at_ (i := j) (by rw [ordL_length]; exact hlt2)
              rw [ordL_at] at c0 c1' c2 c3
              unfold ordR at c0 c1' c2 c3
              simp only at c0 c1' c2 c3
              have x2 : IntKind.i64.wrap (-(j : Int)) = -(j : Int) := IntWalk.i64_in _ (by omega)
              have y2 : wrap64 (-(j : Int)) = -(j : Int) := IntWalk.wrap64_in _ (by omega)
              clear hwf hblt
              go_wp2_with fail
              go_roundw
              case rel => exact ⟨j + 1, by omega, by go_num, by first | rfl | trivial⟩
              case measure => simp [intOf]; omega
            · obtain rfl : j = K := by omega
              go_wp2_with fail
              go_ret
              exact ⟨by simp, HB3.out⟩

set_option maxRecDepth 100000 in
theorem lifted (os : Os) (started : os.Started) (H : Type) (enc : TypeId × Value → H) :
    ReturnsInHanded {} Try.checked os 7 .any (Rows.relocOrderSpec.pre6 enc Try.prog Try.f7 Rows.relocOrderRow.domain false) (Rows.relocOrderSpec.post enc Try.prog Try.f7 false true false false) := by
  refine returnsInHanded_of_change (C := Try.checked) own started (by kernel_rfl) Try.func7
    (ChangeSpec.witness6 (enc := enc) (C := Try.checked) false ⟨#[], #[.int .i64 0, .int .i64 0], []⟩ 8 (by kernel_rfl) (by kernel_rfl) (by kernel_rfl) (by kernel_rfl)) ?_
  intro W base args ds gs before hval0 hW hcnd _
  have hval : ∀ (j : Nat) t v, Try.f7.params[j]? = some t → args[j]? = some v → Value.okWide Try.prog W .any base t v := hval0
  have hW' := hW
  obtain ⟨p, q, hA0, hV, rfl, hfz, hnd⟩ := hW
  have hA : DataW.TrodAll enc Try.prog W 0 (fun _ => true) true Try.f7.params.toList args.toList ds p := hA0
  rw [Try.params7] at hA hval
  obtain ⟨v0, vs0, d0, ds0, p0, q0, hargs, rfl, rfl, h0, r0⟩ := trodAll_cons hA
  obtain ⟨v1, vs1, d1, ds1, p1, q1, rfl, rfl, rfl, h1, r1⟩ := trodAll_cons r0
  obtain ⟨rfl, rfl, rfl⟩ := trodAll_nil r1
  obtain rfl : args = #[v0, v1] := by cases args; simp_all
  obtain ⟨rfl, rfl⟩ := trodVars_none hV
  have k0 := h0
  have lt0 : ∀ x ∈ p0, x.block < W.heap.size := by obtain ⟨m, hm⟩ := k0; exact DataW.trod_lt m _ _ _ hm
  obtain ⟨a0, rfl, _, _, w0⟩ := open_int Try.underlying3 (hval 0 3 v0 rfl rfl) h0
  have k1 := h1
  have lt1 : ∀ x ∈ p1, x.block < W.heap.size := by obtain ⟨m, hm⟩ := k1; exact DataW.trod_lt m _ _ _ hm
  obtain ⟨a1, rfl, _, _, w1⟩ := open_int Try.underlying3 (hval 1 3 v1 rfl rfl) h1
  clear hA0 hval0
  refine (walk a0 a1 W w0 w1).mono fun e W' ⟨he, bel⟩ => ?_
  subst he
  exact ⟨_, rfl, _, _, _, [], _, [], hW', trodAll_mk1 (shut_bool Try.underlying4 _), (trodAll_cons_mk (Below.trod laidOut (by kernel_rfl) (of_decide_eq_true (by kernel_rfl)) k0 bel lt0) (trodAll_cons_mk (Below.trod laidOut (by kernel_rfl) (of_decide_eq_true (by kernel_rfl)) k1 bel lt1) trodAll_mk0)), rfl, bel.frame _, fun h => by cases h⟩
theorem over : Rows.relocOrderRow.holds Try.pinned (OpenSpec.ofChange Rows.relocOrderSpec) :=
  OpenClaim.holds_of_wide 7 Try.f7 rfl rfl rfl rfl rfl rfl rfl ⟨rfl, rfl, rfl, rfl, rfl⟩ rfl rfl rfl rfl rfl (by kernel_rfl) Try.func7 (by kernel_rfl)
    (of_decide_eq_true (by kernel_rfl)) (by unfold Func.isWrapper; first | (rw [if_pos (by decide +kernel)]; kernel_rfl) | (rw [if_neg (by decide +kernel)]; exact ⟨rfl, rfl⟩))
    (fun os started H enc _ => lifted os started H enc)
/-- The statement. -/
theorem proved : Rows.RelocOrderSaid := over
end Go.Proofs.Ytpkjaacklfiblaa.lawOrderZ
