/- RelocReads: for any relocations that are put ahead, any view and any two numbers: the program reads just what the document does, or refuses it. -/
import Derived.Test.YtpkjaacklfiblaaZB
import Derived.ChangeMaps
import Derived.Test.YtpkjaacklfiblaaZE
import Derived.Test.YtpkjaacklfiblaaZF
import Derived.Test.YtpkjaacklfiblaaZG
namespace Go.Proofs.Ytpkjaacklfiblaa.lawReadsZ
open Go.ChangeShapes Go.WideShapes Go.ChangeAt Go.RowKit Go.Deep
open Go.ChangeMaps (open_string)
set_option linter.unusedVariables false
set_option linter.unusedSimpArgs false

def zL (n : Nat) : List UInt8 := List.replicate n 0
theorem fill16 : fillS ⟨#[]⟩ 16 = mkb (zL 16) := by decide +kernel
/-- What was put together in k rounds. -/
def accZ (l : List Rl) (k : Nat) : ByteArray := mkb (zL 16 ++ rlBytes (l.take k))
theorem accZ_size (l : List Rl) {k : Nat} (h : k ≤ l.length) : (accZ l k).size = 16 + 24 * k := by unfold accZ; rw [mkb_size, List.length_append, rlBytes_length, List.length_take]; simp [zL]; omega
theorem accZ_succ (l : List Rl) {k : Nat} (h : k < l.length) : accZ l k ++ mkb l[k].bytes = accZ l (k + 1) := by
  unfold accZ
  rw [mkb_append, List.take_succ_eq_append_getElem h, rlBytes_snoc, List.append_assoc]

set_option maxRecDepth 100000 in
set_option maxHeartbeats 3200000 in
theorem walk (A : Option Addr) (l : List Rl) (c : Nat) (s : ByteArray) (q0 q1 : Int) (w : World) (hm : l.length ≤ maxLen) (hr : RlRow w A l) (ws : s.size ≤ maxLen) (w0 : (Lit.int .i64 q0).wf = true) (w1 : (Lit.int .i64 q1).wf = true) :
    Calls Try.prog 4 #[.slice A l.length c, .string s, .agg #[.int .i64 q0, .int .i64 q1]] w fun e w' => e = .returned (.bool true) ∧ Below w.heap.size w w' := by
  unfold maxLen at hm ws
  have HA := Lib.hid (fun v => awakeZ_any v)
  have HFI := Lib.hid (fun v => rfill_any ⟨#[]⟩ 16 v (by decide) (by decide) (by decide))
  rw [fill16] at HFI
  obtain ⟨s2, hs2, hz2⟩ : ∃ s2, (if 200 < s.size then s.extract 0 200 else s) = s2 ∧ s2.size ≤ 200 := ⟨_, rfl, by
    split
    · rw [extract_mkb, mkb_size, List.length_take]; omega
    · omega⟩
  obtain ⟨n, hn⟩ : ∃ n, l.length = n := ⟨_, rfl⟩
  obtain ⟨R, hR⟩ : ∃ R, w.heap.size = R := ⟨_, rfl⟩
  obtain ⟨W0, hW0⟩ : ∃ W, w.alloc (.cells #[.int .i64 q0, .int .i64 q1] 33) = W := ⟨_, rfl⟩
  have hk0 : Blk W0 R 33 #[.int .i64 q0, .int .i64 q1] := by rw [← hW0, ← hR]; exact Blk.new _ _ _
  have hb0 : Below R w W0 := by rw [← hW0, ← hR]; exact (Below.refl _ _).alloc (Nat.le_refl _) _
  have HP0 := Lib.hid (And.intro hk0 hb0)
  have HJ := Lib.hid (fun (u v : World) (h : Blk u R 33 #[.int .i64 q0, .int .i64 q1] ∧ Below R w u) (hb : Below u.heap.size u v) => show Blk v R 33 #[.int .i64 q0, .int .i64 q1] ∧ Below R w v from ⟨h.1.below hb h.1.lt, h.2.trans (hb.mono (Nat.le_of_lt h.1.lt))⟩)
  have HC := Lib.hid (fun (v : World) (h : Blk v R 33 #[.int .i64 q0, .int .i64 q1] ∧ Below R w v) => show v.cell? ⟨R, 0, none⟩ = some (.int .i64 q0) ∧ v.cell? ⟨R, 1, none⟩ = some (.int .i64 q1) from ⟨h.1.cell 0, h.1.cell 1⟩)
  have HRW := Lib.hid (fun (v : World) (h : Blk v R 33 #[.int .i64 q0, .int .i64 q1] ∧ Below R w v) => show RlRow v A l from hr.below hR.symm h.2)
  have HW0 := Lib.hid hW0
  have HN := Lib.hid hn
  have HR0 := Lib.hid hR
  rw [hn] at hm ⊢
  clear hk0 hb0 hW0 hn hr
  have hsl : (200 < s.size ∧ s2 = s.extract 0 200) ∨ (¬ 200 < s.size ∧ s2 = s) := by
    by_cases h : 200 < s.size
    · rw [if_pos h] at hs2; exact .inl ⟨h, hs2.symm⟩
    · rw [if_neg h] at hs2; exact .inr ⟨h, hs2.symm⟩
  clear hs2
  have hs2e : s2.size ≤ 200 := hz2
  clear hz2
  go_enter Try.func4, Try.ntmps4
  go_upto_region 1 with fail
  rw [HW0.out]
  try rw [hR]
  clear hR
  go_upto_region 2 with (go_at_call 9; refine (HA.out _).mono ?_; rintro e v1 ⟨rfl, hb1⟩)
  have HP1 := Lib.hid (HJ.out _ _ HP0.out hb1)
  clear HP0 HW0 hb1 HA
  go_upto_if 19 with fail
  go_cut [1] from 20 to 21 (fun sv wr => sv = .string s2 ∧ wr = v1)
  case first =>
    rcases hsl with ⟨h1, h2⟩ | ⟨h1, h2⟩
    · subst h2
      have b1 : (200 : Int) ≤ (s.size : Int) := by omega
      have b2 : (200 : Int) < (s.size : Int) := by omega
      clear hs2e
      go_wp2_with fail
      go_meet
      exact ⟨rfl, rfl⟩
    · have b2 : ¬ (200 : Int) < (s.size : Int) := by omega
      subst h2
      clear hs2e
      go_wp2_with fail
      go_meet
      exact ⟨rfl, rfl⟩
  case rest =>
    obtain ⟨rfl, rfl⟩ := hcut
    clear hsl
    go_upto_region 5 with (go_at_call 17; refine (HFI.out _).mono ?_; rintro e v2 ⟨rfl, hb2⟩)
    have HP2 := Lib.hid (HJ.out _ _ HP1.out hb2)
    clear HP1 hb2 HFI
    go_wp2_with fail
    go_loopw [8, 9] (fun acc i wr => ∃ (k : Nat), k ≤ n ∧ k ≤ 6 ∧ i = .int .i64 k ∧ acc = .string (accZ l k) ∧ Hid (Blk wr R 33 #[.int .i64 q0, .int .i64 q1] ∧ Below R w wr)) (fun _ i _ => n - (intOf i).toNat)
    case atStart => exact ⟨0, Nat.zero_le _, by omega, rfl, by unfold accZ; simp [rlBytes], HP2⟩
    case round =>
      clear HP2
      obtain ⟨k, hk, hk6, rfl, rfl, HP⟩ := hrel
      have hasz := accZ_size l (k := k) (by rw [HN.out]; exact hk)
      by_cases hlt : k < n ∧ k < 6
      · obtain ⟨h1, h2⟩ := hlt
        have hkl : k < l.length := by rw [HN.out]; exact h1
        obtain ⟨ad, rfl, hblt, hwf, d0, d1, d2, d3⟩ := (HRW.out _ HP.out).at_ hkl
        have hsc := accZ_succ l hkl
        have HBY := Lib.hid (fun u => rrbytes_any l[k] u hwf)
        have hbz : (mkb l[k].bytes).size = 24 := by rw [mkb_size, Rl.bytes_length]
        obtain ⟨T, hT⟩ : ∃ T, mkb l[k].bytes = T := ⟨_, rfl⟩
        rw [hT] at HBY hsc hbz
        obtain ⟨r, hr⟩ : ∃ r, l[k] = r := ⟨_, rfl⟩
        rw [hr] at HBY d0 d1 d2 d3
        obtain ⟨p, kk, y, a⟩ := r
        unfold Rl.cs at HBY
        simp only at HBY d0 d1 d2 d3
        obtain ⟨AC, hAC⟩ : ∃ AC, accZ l k = AC := ⟨_, rfl⟩
        rw [hAC] at hasz hsc ⊢
        have hi1 : decide ((k : Int) < (n : Int)) = true := decide_eq_true (by omega)
        have hi2 : decide ((k : Int) < 6) = true := decide_eq_true (by omega)
        have hA1 : AC.size ≤ 300 := by omega
        have hT1 : T.size ≤ 300 := by omega
        have HSC := Lib.hid hsc
        clear hsc hasz hbz hT hr hAC hwf hkl
        go_wp2_with (go_at_call 13; with_reducible refine (HBY.out _).mono ?_; rintro e u1 ⟨rfl, hb⟩; have HPX := Lib.hid (HJ.out _ _ HP.out hb); clear hb)
        go_roundw
        case rel => exact ⟨k + 1, by omega, by omega, by go_num, by rw [HSC.out], HPX⟩
        case measure => simp [intOf]; omega
      · have hl2 : (k < n ∧ ¬ k < 6) ∨ ¬ k < n := by omega
        obtain ⟨AC, hAC⟩ : ∃ AC, accZ l k = AC := ⟨_, rfl⟩
        rw [hAC] at hasz ⊢
        have hA1 : AC.size ≤ 300 := by omega
        clear hasz hAC
        obtain ⟨V, hV⟩ : ∃ V, AC ++ s2 = V := ⟨_, rfl⟩
        have hVs : V.size ≤ 600 := by rw [← hV, ByteArray.size_append]; omega
        have hLe := relL_le V q0 q1
        have HRD := Lib.hid (fun u => read_anyZ V (dR q0 q1) (.slice none 0 0) u (dR_wf w0 w1) (by omega))
        have HRR := Lib.hid (fun u => rread_anyZ V (dR q0 q1) (.slice none 0 0) u (dR_wf w0 w1) (by omega))
        rw [dR_cs, show (dR q0 q1).f 5 = q0 from rfl, show (dR q0 q1).f 6 = q1 from rfl] at HRD HRR
        generalize relL V q0 q1 = L at *
        generalize relE V q0 q1 = E at *
        obtain ⟨NL, hNL⟩ : ∃ NL, L.length = NL := ⟨_, rfl⟩
        unfold RelET at HRD HRR
        have HSA := Lib.hid (fun A1 A2 c1 c2 u (h1 : RlRow u A1 L) (h2 : RlRow u A2 L) => same_yes L L rfl A1 A2 c1 c2 u h1 h2 (by unfold maxLen; omega))
        rw [hNL] at HRD HRR HSA
        clear hLe hNL hVs
        have hbd : ∀ (w : World), (Instr.build 37 #[(5, .int .i64 q0), (6, .int .i64 q1)]).run Try.prog w = .ok (.agg #[.slice none 0 0, .int .i64 0, .int .i64 0, .int .i64 0, .int .i64 0, .int .i64 q0, .int .i64 q1, .int .i64 0, .int .i64 0]) w := fun w => run_build w 37 _ _ (by kernel_rfl)
        obtain ⟨x0, x1⟩ := HC.out _ HP.out
        obtain ⟨D, hD⟩ : ∃ D, wr.heap.size = D := ⟨_, rfl⟩
        obtain ⟨W1, hW1⟩ : ∃ W1, wr.alloc (.cells #[.slice none 0 0, .int .i64 0, .int .i64 0, .int .i64 0, .int .i64 0, .int .i64 q0, .int .i64 q1, .int .i64 0, .int .i64 0] 37) = W1 := ⟨_, rfl⟩
        have HD1 := Lib.hid (show Blk W1 D 37 #[.slice none 0 0, .int .i64 0, .int .i64 0, .int .i64 0, .int .i64 0, .int .i64 q0, .int .i64 q1, .int .i64 0, .int .i64 0] ∧ Below R w W1 from by
          rw [← hW1, ← hD]
          exact ⟨Blk.new _ _ _, HP.out.2.alloc (Nat.le_of_lt HP.out.1.lt) _⟩)
        have HRd : Hid (R < D) := Lib.hid (by rw [← hD]; exact HP.out.1.lt)
        have HW1 := Lib.hid hW1
        have HDD := Lib.hid hD
        have HVV := Lib.hid hV
        have HCD := Lib.hid (fun u (h : Blk u D 37 #[.slice none 0 0, .int .i64 0, .int .i64 0, .int .i64 0, .int .i64 0, .int .i64 q0, .int .i64 q1, .int .i64 0, .int .i64 0]) => show u.cell? ⟨D, 0, none⟩ = some (.slice none 0 0) ∧ u.cell? ⟨D, 1, none⟩ = some (.int .i64 0) ∧ u.cell? ⟨D, 2, none⟩ = some (.int .i64 0) ∧ u.cell? ⟨D, 3, none⟩ = some (.int .i64 0) ∧ u.cell? ⟨D, 4, none⟩ = some (.int .i64 0) ∧ u.cell? ⟨D, 5, none⟩ = some (.int .i64 q0) ∧ u.cell? ⟨D, 6, none⟩ = some (.int .i64 q1) ∧ u.cell? ⟨D, 7, none⟩ = some (.int .i64 0) ∧ u.cell? ⟨D, 8, none⟩ = some (.int .i64 0) from ⟨h.cell 0, h.cell 1, h.cell 2, h.cell 3, h.cell 4, h.cell 5, h.cell 6, h.cell 7, h.cell 8⟩)
        clear hW1 hD
        rcases hl2 with ⟨h1, h2⟩ | h1
        all_goals
          go_upto_region 10 with fail
          try rw [HVV.out]
          go_upto_region 11 with fail
          rw [HW1.out, HDD.out]
          clear x0 x1 hA1 hV HVV HP
          obtain ⟨x0, x1, x2, x3, x4, x5, x6, x7, x8⟩ := HCD.out _ HD1.out.1
          go_upto_region 12 with (go_at_call 18; with_reducible refine (HRD.out _).mono ?_; rintro e u1 ⟨A1, c1, rfl, hr1, hb1⟩)
          have HD2 := Lib.hid (And.intro (HD1.out.1.below hb1 HD1.out.1.lt) (HD1.out.2.trans (hb1.mono (by have := HD1.out.1.lt; have := HRd.out; omega))))
          have HR1 := Lib.hid hr1
          clear x0 x1 x2 x3 x4 x5 x6 x7 x8 hb1 hr1 HD1 HW1 HDD HRD
          obtain ⟨x0, x1, x2, x3, x4, x5, x6, x7, x8⟩ := HCD.out _ HD2.out.1
          go_upto_region 13 with (go_at_call 19; with_reducible refine (HRR.out _).mono ?_; rintro e u2 ⟨A2, c2, rfl, hr2, hb2⟩)
          have HD3 := Lib.hid (HD2.out.2.trans (hb2.mono (by have := HD2.out.1.lt; have := HRd.out; omega)))
          have HR3 := Lib.hid (And.intro (HR1.out.below rfl hb2) hr2)
          have HRs := Lib.hid (show R ≤ u2.heap.size from by have := HD2.out.1.lt; have := HRd.out; have := hb2.size; omega)
          clear x0 x1 x2 x3 x4 x5 x6 x7 x8 hb2 hr2 HD2 HR1 HRR
          go_wp2_with (go_at_call 20; with_reducible refine (HSA.out _ _ _ _ _ HR3.out.1 HR3.out.2).mono ?_; rintro e u3 ⟨rfl, hb3⟩; have hB := HD3.out.trans (hb3.mono HRs.out); clear hb3)
          go_ret
          exact ⟨by simp, by rw [HR0.out]; exact hB⟩

set_option maxRecDepth 100000 in
theorem lifted (os : Os) (started : os.Started) (H : Type) (enc : TypeId × Value → H) :
    ReturnsInHanded {} Try.checked os 4 .any (Rows.relocReadsSpec.pre6 enc Try.prog Try.f4 Rows.relocReadsRow.domain false) (Rows.relocReadsSpec.post enc Try.prog Try.f4 false true false false) := by
  refine returnsInHanded_of_change (C := Try.checked) own started (by kernel_rfl) Try.func4
    (ChangeSpec.witness6 (enc := enc) (C := Try.checked) false ⟨#[], #[.slice none 0 0, .string ⟨#[]⟩, .agg #[.int .i64 0, .int .i64 0]], []⟩ 8 (by kernel_rfl) (by kernel_rfl) (by kernel_rfl) (by kernel_rfl)) ?_
  intro W base args ds gs before hval0 hW hcnd _
  have hval : ∀ (j : Nat) t v, Try.f4.params[j]? = some t → args[j]? = some v → Value.okWide Try.prog W .any base t v := hval0
  have hW' := hW
  obtain ⟨p, q, hA0, hV, rfl, hfz, hnd⟩ := hW
  have hA : DataW.TrodAll enc Try.prog W 0 (fun _ => true) true Try.f4.params.toList args.toList ds p := hA0
  rw [Try.params4] at hA hval
  obtain ⟨v0, vs0, d0, ds0, p0, q0, hargs, rfl, rfl, h0, r0⟩ := trodAll_cons hA
  obtain ⟨v1, vs1, d1, ds1, p1, q1, rfl, rfl, rfl, h1, r1⟩ := trodAll_cons r0
  obtain ⟨v2, vs2, d2, ds2, p2, q2, rfl, rfl, rfl, h2, r2⟩ := trodAll_cons r1
  obtain ⟨rfl, rfl, rfl⟩ := trodAll_nil r2
  obtain rfl : args = #[v0, v1, v2] := by cases args; simp_all
  obtain ⟨rfl, rfl⟩ := trodVars_none hV
  have k0 := h0
  have lt0 : ∀ x ∈ p0, x.block < W.heap.size := by obtain ⟨m, hm⟩ := k0; exact DataW.trod_lt m _ _ _ hm
  obtain ⟨LA0, Ll0, Lc0, rfl, Lm0, Lr0⟩ := open_relsZ (hval 0 32 v0 rfl rfl) h0
  have k1 := h1
  have lt1 : ∀ x ∈ p1, x.block < W.heap.size := by obtain ⟨m, hm⟩ := k1; exact DataW.trod_lt m _ _ _ hm
  obtain ⟨a1, rfl, _, _, w1⟩ := open_string Try.underlying9 (hval 1 9 v1 rfl rfl) h1
  have k2 := h2
  have lt2 : ∀ x ∈ p2, x.block < W.heap.size := by obtain ⟨m, hm⟩ := k2; exact DataW.trod_lt m _ _ _ hm
  obtain ⟨z2, e2, hl2, hw2⟩ := open_ints_array Try.underlying33 Try.underlying3 (by kernel_rfl) (by kernel_rfl) (hval 2 33 v2 rfl rfl) h2
  obtain ⟨a2_0, a2_1, rfl⟩ : ∃ a2_0 a2_1, z2 = [a2_0, a2_1] := by
    match z2, hl2 with
    | [a2_0, a2_1], _ => exact ⟨_, _, rfl⟩
  obtain rfl : v2 = .agg #[.int .i64 a2_0, .int .i64 a2_1] := e2
  clear hA0 hval0
  refine (walk LA0 Ll0 Lc0 a1 a2_0 a2_1 W Lm0 Lr0 w1 (hw2 a2_0 (by simp)) (hw2 a2_1 (by simp))).mono fun e W' ⟨he, bel⟩ => ?_
  subst he
  exact ⟨_, rfl, _, _, _, [], _, [], hW', trodAll_mk1 (shut_bool Try.underlying4 _), (trodAll_cons_mk (Below.trod laidOut (by kernel_rfl) (of_decide_eq_true (by kernel_rfl)) k0 bel lt0) (trodAll_cons_mk (Below.trod laidOut (by kernel_rfl) (of_decide_eq_true (by kernel_rfl)) k1 bel lt1) (trodAll_cons_mk (Below.trod laidOut (by kernel_rfl) (of_decide_eq_true (by kernel_rfl)) k2 bel lt2) trodAll_mk0))), rfl, bel.frame _, fun h => by cases h⟩
theorem over : Rows.relocReadsRow.holds Try.pinned (OpenSpec.ofChange Rows.relocReadsSpec) :=
  OpenClaim.holds_of_wide 4 Try.f4 rfl rfl rfl rfl rfl rfl rfl ⟨rfl, rfl, rfl, rfl, rfl⟩ rfl rfl rfl rfl rfl (by kernel_rfl) Try.func4 (by kernel_rfl)
    (of_decide_eq_true (by kernel_rfl)) (by unfold Func.isWrapper; first | (rw [if_pos (by decide +kernel)]; kernel_rfl) | (rw [if_neg (by decide +kernel)]; exact ⟨rfl, rfl⟩))
    (fun os started H enc _ => lifted os started H enc)
/-- The statement. -/
theorem proved : Rows.RelocReadsSaid := over
end Go.Proofs.Ytpkjaacklfiblaa.lawReadsZ
