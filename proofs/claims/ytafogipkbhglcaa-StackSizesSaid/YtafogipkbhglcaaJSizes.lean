/- StackSizes: for any two numbers: a stack of no args has 64 bytes at most; each text takes a number and its bytes and one more; it is even by 16. -/
import Derived.Test.YtafogipkbhglcaaJH
namespace Go.Proofs.Ytafogipkbhglcaa.lawSizes17
open Go.ChangeShapes Go.WideShapes Go.ChangeAt Go.RowKit Go.Deep
set_option linter.unusedVariables false
set_option linter.unusedSimpArgs false

def sL (k : Nat) : ByteArray := mkb (List.replicate k 115)
theorem sL_size (k : Nat) : (sL k).size = k := by unfold sL; rw [mkb_size, List.length_replicate]
theorem sL_snoc (k : Nat) : sL k ++ ⟨#[115]⟩ = sL (k + 1) := by
  unfold sL
  rw [show (⟨#[115]⟩ : ByteArray) = mkb [115] from rfl, mkb_append, ← List.replicate_succ']
theorem tlen_rep (n : Nat) (s : ByteArray) : tlen (List.replicate n s) = n * (s.size + 1) := by
  induction n with
  | zero => simp [tlen_nil]
  | succ n ih => rw [List.replicate_succ, tlen_cons, ih, Nat.add_mul]; omega
theorem plain_rep (n k : Nat) : plainB (List.replicate n (sL k)) = true := plainB_of (fun s hs => by
  rw [List.eq_of_mem_replicate hs]
  unfold sL
  rw [mkb_data]
  intro h
  have := List.eq_of_mem_replicate h
  revert this
  decide)
theorem raw_rep (n k : Nat) : rawN (List.replicate n (sL k)) [] [] = 40 + n * (8 + k + 1) := by
  unfold rawN
  rw [tlen_rep, sL_size, tlen_nil, List.length_replicate]
  simp only [List.length_nil, Nat.mul_add]
  omega

set_option maxRecDepth 100000 in
set_option maxHeartbeats 3200000 in
theorem walk (a b : Int) (W : World) (wa : (Lit.int .i64 a).wf = true) (wb : (Lit.int .i64 b).wf = true) :
    Calls Try.prog 5 #[.int .i64 a, .int .i64 b] W fun e w' => e = .returned (.bool true) ∧ Below W.heap.size W w' := by
  obtain ⟨R, hR⟩ : ∃ R, W.heap.size = R := ⟨_, rfl⟩
  obtain ⟨ra, na, ha1, ha2, ha3, ha4, ha5, ha6⟩ := rest_nat17 a 10 (by omega)
  obtain ⟨rb, nb, hb1, hb2, hb3, hb4, hb5, hb6⟩ := rest_nat17 b 21 (by omega)
  obtain ⟨n, rfl⟩ : ∃ n : Nat, na = n := ⟨na.toNat, by omega⟩
  obtain ⟨k, rfl⟩ : ∃ n : Nat, nb = n := ⟨nb.toNat, by omega⟩
  have HAW := Lib.hid (awake17 W)
  have hraw := raw_rep n k
  have hsl := sizeN_le (List.replicate n (sL k)) [] []
  rw [hraw] at hsl
  have hmul : n * (8 + k + 1) ≤ 9 * 29 := Nat.mul_le_mul (by omega) (by omega)
  have htl : tlen (List.replicate n (sL k)) ≤ 1000 := by
    rw [tlen_rep, sL_size]
    have : n * (k + 1) ≤ n * (8 + k + 1) := Nat.mul_le_mul_left _ (by omega)
    omega
  have hmay : mayB 2048 (List.replicate n (sL k)) [] [] = true := by
    unfold mayB
    rw [plain_rep]
    decide
  obtain ⟨Q, hQ⟩ : ∃ Q, n * (8 + k + 1) = Q := ⟨_, rfl⟩
  have hQi : (n : Int) * (8 + (k : Int) + 1) = (Q : Int) := by rw [← hQ]; push_cast; rfl
  rw [hQ] at hmul hsl
  obtain ⟨S, hS⟩ : ∃ S, sizeN (List.replicate n (sL k)) [] [] = S := ⟨_, rfl⟩
  have hS16 : S % 16 = 0 := by rw [← hS]; unfold sizeN; omega
  rw [hS] at hsl
  obtain ⟨e1, e2, e3⟩ := build_yes (top := 2048) hmay (by rw [hS]; omega)
  have e4 := buildS_size e1
  rw [hS] at e2 e4
  have HSZ := Lib.hid (fun (A : Option Addr) (c : Nat) (v : World) (hr : StrRow v A (List.replicate n (sL k))) => size_any A none none (List.replicate n (sL k)) [] [] c 0 0 v hr (strRow_nil _ _) (by rw [List.length_replicate]; omega) (by decide) (by decide) (by omega) (by decide))
  have HBU := Lib.hid (fun (A : Option Addr) (c : Nat) (v : World) (hr : StrRow v A (List.replicate n (sL k))) => build_any 2048 A none none (List.replicate n (sL k)) [] [] c 0 0 v (by decide) hr (strRow_nil _ _) (PaRow.nil _ _) (by rw [List.length_replicate]; omega) (by decide) (by decide) (by omega) (by decide))
  simp only [List.length_replicate, List.length_nil, e1, e2, hS] at HSZ HBU
  generalize buildS 2048 (List.replicate n (sL k)) [] [] = BS at *
  clear e1 e2 e3 hS hmay hraw htl hQ
  obtain ⟨i0, hi, hz0, hz1, hz2⟩ := info_parts infoStr
  go_enter Try.func5, Try.ntmps5
  go_wp2_with (go_at_call 8; refine HAW.out.mono ?_; rintro e w1 ⟨rfl, hbw⟩)
  have HB1 := Lib.hid (show Below R W w1 from by rw [← hR]; exact hbw)
  have HRS := Lib.hid (show ∀ u, Below R W u → R ≤ u.heap.size from fun u hu => by rw [← hR]; exact hu.size)
  clear hbw ha1 ha2 ha3 ha4 ha5 hb1 hb2 hb3 hb4 hb5 HAW
  go_loopw [8, 9] (fun v8 i wr => ∃ j : Nat, ∃ Z : ByteArray, j ≤ k ∧ i = .int .i64 j ∧ v8 = .string Z ∧ Hid (Z = sL j) ∧ wr = w1) (fun _ i _ => k - (intOf i).toNat)
  case atStart => exact ⟨0, _, Nat.zero_le _, rfl, rfl, Lib.hid rfl, rfl⟩
  case round =>
    obtain ⟨j, Z, hj, rfl, rfl, HZ, hwr⟩ := hrel
    obtain rfl : w1 = wr := hwr.symm
    have hzs : Z.size = j := by rw [HZ.out, sL_size]
    by_cases hlt : j < k
    · obtain ⟨Z2, hZ2⟩ : ∃ Z2, Z ++ ⟨#[115]⟩ = Z2 := ⟨_, rfl⟩
      have HZ2 := Lib.hid (show Z2 = sL (j + 1) from by rw [← hZ2, HZ.out, sL_snoc])
      have h1 : (⟨#[115]⟩ : ByteArray).size = 1 := rfl
      have hov : ¬ (9223372036854775807 < Z.size + 1) := by omega
      have hlt' : (j : Int) < (k : Int) := by omega
      go_wp2_with fail
      go_roundw
      case rel => exact ⟨j + 1, Z2, by omega, by go_num, rfl, HZ2, by trivial⟩
      case measure => simp [intOf]; omega
    · obtain rfl : j = k := by omega
      have hzk := HZ.out
      subst hzk
      go_wp2_with fail
      have HOW := Lib.hid (ownNil17 w1 R 9 1)
      go_loopw [10, 11] (fun v10 i wr => ∃ q : Nat, q ≤ n ∧ i = .int .i64 q ∧ Hid (wr.ownsRow R 9 1 v10 q (strs (List.replicate q (sL j)))) ∧ Hid (Below R W wr)) (fun _ i _ => n - (intOf i).toNat)
      case atStart => exact ⟨0, Nat.zero_le _, rfl, HOW, HB1⟩
      case round =>
        obtain ⟨q, hq, rfl, HO, HB⟩ := hrel
        by_cases hlq : q < n
        · have hlq' : (q : Int) < (n : Int) := by omega
          have ho1 := HO.out
          go_wp2_with (at_builtin; refine Hid.out ?_)
          refine Lib.hid ?_
          refine wpList_append_own _ rfl _ _ 22 rfl R 9 i0 (.string ⟨#[]⟩) 1 16 Try.underlying22 hi hz0 hz1 hz2 rfl (by decide) u10 q (strs (List.replicate q (sL j))) rfl (ho1.alloc _) ⟨wr.heap.size, 0, none⟩ 1 1 [.string (sL j)] rfl rfl (cell_one17 _ _ _) (fun u hu => by simp at hu; subst hu; rfl) (by unfold maxLen; omega) (by omega) (by have := HRS.out _ HB.out; simp; omega) ?_
          intro v' w2 hown1 hgrow _
          have HO2 := Lib.hid (show w2.ownsRow R 9 1 v' (q + 1) (strs (List.replicate (q + 1) (sL j))) from by
            rw [List.replicate_succ', strs_snoc17]
            exact hown1)
          have HB2 := Lib.hid ((HB.out.alloc (HRS.out _ HB.out) (.cells #[.string (sL j)] 9)).grown hgrow (by have := HRS.out _ HB.out; simp; omega) (fun z e => (ho1.lt _ e).1))
          clear hown1 hgrow ho1 HO HB
          go_wp2_with fail
          go_roundw
          case rel => exact ⟨q + 1, by omega, by go_num, HO2, HB2⟩
          case measure => simp [intOf]; omega
        · obtain rfl : q = n := by omega
          obtain ⟨-, A, c, rfl, hrow⟩ := strRow_own17 HO.out (fun z hz => by rw [List.eq_of_mem_replicate hz, sL_size]; unfold maxLen; omega)
          have HR1 := Lib.hid hrow
          have HC1 := Lib.hid (HSZ.out A c wr hrow)
          have HC2 := Lib.hid (HBU.out A c wr hrow)
          rw [List.length_replicate]
          clear hrow
          have hm1 : (S : Int).tmod 16 = 0 := by rw [Int.tmod_eq_emod_of_nonneg (by omega)]; omega
          go_wp2_with (first
            | (go_at_call 12; refine HC1.out.mono ?_; rintro e w3 ⟨rfl, rfl⟩)
            | (go_at_call 10; refine HC2.out.mono ?_; rintro e w3 ⟨rfl, hb3⟩))
          go_ret
          exact ⟨by simp, by rw [hR]; exact HB.out.trans (hb3.mono (HRS.out _ HB.out))⟩
set_option maxRecDepth 100000 in
theorem lifted (os : Os) (started : os.Started) (H : Type) (enc : TypeId × Value → H) :
    ReturnsInHanded {} Try.checked os 5 .any (Rows.stackSizesSpec.pre6 enc Try.prog Try.f5 Rows.stackSizesRow.domain false) (Rows.stackSizesSpec.post enc Try.prog Try.f5 false true false false) := by
  refine returnsInHanded_of_change (C := Try.checked) own started (by kernel_rfl) Try.func5
    (ChangeSpec.witness6 (enc := enc) (C := Try.checked) false ⟨#[], #[.int .i64 0, .int .i64 0], []⟩ 8 (by kernel_rfl) (by kernel_rfl) (by kernel_rfl) (by kernel_rfl)) ?_
  intro W base args ds gs before hval0 hW hcnd _
  have hval : ∀ (j : Nat) t v, Try.f5.params[j]? = some t → args[j]? = some v → Value.okWide Try.prog W .any base t v := hval0
  have hW' := hW
  obtain ⟨p, q, hA0, hV, rfl, hfz, hnd⟩ := hW
  have hA : DataW.TrodAll enc Try.prog W 0 (fun _ => true) true Try.f5.params.toList args.toList ds p := hA0
  rw [Try.params5] at hA hval
  obtain ⟨v0, vs0, d0, ds0, p0, q0, hargs, rfl, rfl, h0, r0⟩ := trodAll_cons hA
  obtain ⟨v1, vs1, d1, ds1, p1, q1, rfl, rfl, rfl, h1, r1⟩ := trodAll_cons r0
  obtain ⟨rfl, rfl, rfl⟩ := trodAll_nil r1
  obtain rfl : args = #[v0, v1] := by cases args; simp_all
  obtain ⟨rfl, rfl⟩ := trodVars_none hV
  have k0 := h0
  have lt0 : ∀ x ∈ p0, x.block < W.heap.size := by obtain ⟨m, hm⟩ := k0; exact DataW.trod_lt m _ _ _ hm
  obtain ⟨a0, rfl, _, _, w0⟩ := open_int Try.underlying3 (hval 0 3 v0 rfl rfl) h0
  have k1 := h1
  have lt1 : ∀ x ∈ p1, x.block < W.heap.size := by obtain ⟨m, hm⟩ := k1; exact DataW.trod_lt m _ _ _ hm
  obtain ⟨a1, rfl, _, _, w1⟩ := open_int Try.underlying3 (hval 1 3 v1 rfl rfl) h1
  clear hA0 hval0
  refine (walk a0 a1 W w0 w1).mono fun e W' ⟨he, bel⟩ => ?_
  subst he
  exact ⟨_, rfl, _, _, _, [], _, [], hW', trodAll_mk1 (shut_bool Try.underlying4 _), (trodAll_cons_mk (Below.trod laidOut (by kernel_rfl) (of_decide_eq_true (by kernel_rfl)) k0 bel lt0) (trodAll_cons_mk (Below.trod laidOut (by kernel_rfl) (of_decide_eq_true (by kernel_rfl)) k1 bel lt1) trodAll_mk0)), rfl, bel.frame _, fun h => by cases h⟩
theorem over : Rows.stackSizesRow.holds Try.pinned (OpenSpec.ofChange Rows.stackSizesSpec) :=
  OpenClaim.holds_of_wide 5 Try.f5 rfl rfl rfl rfl rfl rfl rfl ⟨rfl, rfl, rfl, rfl, rfl⟩ rfl rfl rfl rfl rfl (by kernel_rfl) Try.func5 (by kernel_rfl)
    (of_decide_eq_true (by kernel_rfl)) (by unfold Func.isWrapper; first | (rw [if_pos (by decide +kernel)]; kernel_rfl) | (rw [if_neg (by decide +kernel)]; exact ⟨rfl, rfl⟩))
    (fun os started H enc _ => lifted os started H enc)
/-- The statement. -/
theorem proved : Rows.StackSizesSaid := over
end Go.Proofs.Ytafogipkbhglcaa.lawSizes17
