/- StackFull: for any two numbers: a stack has 1024 bytes at most, and no more than there are below its top. -/
import Derived.Test.YtafogipkbhglcaaJH
namespace Go.Proofs.Ytafogipkbhglcaa.lawFull17
open Go.ChangeShapes Go.WideShapes Go.ChangeAt Go.RowKit Go.Deep
set_option linter.unusedVariables false
set_option linter.unusedSimpArgs false

/-- Letters t, and bytes 0 behind. -/
def tRow (n k : Nat) : Array Value := (Lib.byteCells (List.replicate k 116 ++ List.replicate (n - k) 0)).toArray
theorem tRow_zero (n : Nat) : tRow n 0 = zrow n := by simp [tRow, zrow]
theorem tRow_full (n : Nat) : tRow n n = (Lib.byteCells (List.replicate n 116)).toArray := by simp [tRow]
theorem tRow_at {n k : Nat} (h : k < n) : (tRow n k)[k]? = some (.int .u8 0) := by
  unfold tRow Lib.byteCells
  rw [show n - k = (n - (k + 1)) + 1 by omega, List.replicate_succ]
  simp
theorem tRow_set {n k : Nat} (h : k < n) : (tRow n k).setIfInBounds k (.int .u8 116) = tRow n (k + 1) := by
  unfold tRow Lib.byteCells
  rw [List.map_append, List.map_append, List.map_replicate, List.map_replicate, List.map_replicate, List.map_replicate]
  rw [show n - k = (n - (k + 1)) + 1 by omega, List.replicate_succ, List.replicate_succ']
  simp
def tS (n : Nat) : ByteArray := mkb (List.replicate n 116)
theorem tS_size (n : Nat) : (tS n).size = n := by unfold tS; rw [mkb_size, List.length_replicate]
theorem plain_tS (n : Nat) : plainB [tS n] = true := plainB_of (fun s hs => by
  rw [List.mem_singleton.1 hs]
  unfold tS
  rw [mkb_data]
  intro h
  have := List.eq_of_mem_replicate h
  revert this
  decide)
theorem raw_tS (n : Nat) : rawN [tS n] [] [] = 49 + n := by
  unfold rawN
  rw [tlen_one, tS_size, tlen_nil]
  simp only [List.length_nil, List.length_singleton]
  omega
theorem may_tS {top : Int} (n : Nat) (h0 : 0 ≤ top) (h1 : top ≤ 262144) (h2 : top % 16 = 0) : mayB top [tS n] [] [] = true := by
  unfold mayB
  rw [plain_tS, decide_eq_true h0, decide_eq_true h1, decide_eq_true h2]
  decide

set_option maxRecDepth 100000 in
set_option maxHeartbeats 3200000 in
theorem walk (a b : Int) (W : World) (wa : (Lit.int .i64 a).wf = true) (wb : (Lit.int .i64 b).wf = true) :
    Calls Try.prog 6 #[.int .i64 a, .int .i64 b] W fun e w' => e = .returned (.bool true) ∧ Below W.heap.size W w' := by
  obtain ⟨R, hR⟩ : ∃ R, W.heap.size = R := ⟨_, rfl⟩
  obtain ⟨ra, na, ha1, ha2, ha3, ha4, ha5, ha6⟩ := rest_nat17 a 200 (by omega)
  obtain ⟨n, hn⟩ : ∃ n : Nat, (880 : Int) + na = n := ⟨(880 + na).toNat, by omega⟩
  have hnb : 880 ≤ n ∧ n ≤ 1079 := by omega
  have hb3 := i64_and3 b
  obtain ⟨c, hc⟩ : ∃ c : Int, b % 8 = c := ⟨_, rfl⟩
  rw [hc] at hb3
  have hcb : 0 ≤ c ∧ c < 8 := by omega
  obtain ⟨T, hT⟩ : ∃ T : Int, 1024 + 16 * c = T := ⟨_, rfl⟩
  have hTb : 1024 ≤ T ∧ T ≤ 1136 ∧ T % 16 = 0 := by omega
  have HAW := Lib.hid (awake17 W)
  have hraw := raw_tS n
  have hsl := sizeN_le [tS n] [] []
  rw [hraw] at hsl
  have htl : tlen [tS n] ≤ 10000 := by rw [tlen_one, tS_size]; omega
  obtain ⟨S, hS⟩ : ∃ S, sizeN [tS n] [] [] = S := ⟨_, rfl⟩
  rw [hS] at hsl
  have HSZ := Lib.hid (fun (v : World) => size_any (some ⟨v.heap.size, 0, none⟩) none none [tS n] [] [] 1 0 0 (v.alloc (.cells #[.string (tS n)] 9)) (strRow_one17 v _ (by rw [tS_size]; unfold maxLen; omega)) (strRow_nil _ _) (by simp) (by simp) (by simp) (by omega) (by decide))
  have HBU := Lib.hid (fun (t : Int) (ht : (Lit.int .i64 t).wf = true) (v : World) (X : Nat) (hX : v.heap.size = X) => build_any t (some ⟨X, 0, none⟩) none none [tS n] [] [] 1 0 0 (v.alloc (.cells #[.string (tS n)] 9)) ht (by rw [← hX]; exact strRow_one17 v _ (by rw [tS_size]; unfold maxLen; omega)) (strRow_nil _ _) (PaRow.nil _ _) (by simp) (by simp) (by simp) (by omega) (by decide))
  simp only [List.length_singleton, List.length_nil, hS] at HSZ HBU
  have HT := Lib.hid (HBU.out T (WalkArith.wf_i64 (by omega)))
  have HU := Lib.hid (HBU.out 512 (by decide))
  obtain ⟨u1, u2, u3⟩ := build_far (top := 512) (may_tS n (by decide) (by decide) (by decide)) (by rw [hS]; omega)
  rw [u1, u2, u3] at HU
  have HV := Lib.hid (show (S ≤ 1024 → ∃ P BS, buildE T [tS n] [] [] = 0 ∧ buildP T [tS n] [] [] = P ∧ buildS T [tS n] [] [] = BS ∧ BS.size = S) ∧ (1024 < S → ∃ P BS, buildE T [tS n] [] [] = 11 ∧ buildP T [tS n] [] [] = P ∧ buildS T [tS n] [] [] = BS) from by
    refine ⟨fun h => ?_, fun h => ?_⟩
    · obtain ⟨e1, e2, e3⟩ := build_yes (top := T) (may_tS n (by omega) (by omega) (by omega)) (by rw [hS]; omega)
      exact ⟨_, _, e1, rfl, rfl, by rw [buildS_size e1, hS]⟩
    · obtain ⟨e1, e2, e3⟩ := build_far (top := T) (may_tS n (by omega) (by omega) (by omega)) (by rw [hS]; omega)
      exact ⟨_, _, e1, rfl, rfl⟩)
  obtain ⟨i0, hi, hz0, hz1, hz2⟩ := info_parts infoU8
  have hmk := run_make_bytes (P := Try.prog) 38 5 i0 Try.underlying38 hi hz0 hz1 hz2 (n : Int) (by omega) (by omega)
  rw [Int.toNat_natCast] at hmk
  have hcv := fun (G : Nat) (wr : World) (h : Blk wr G 5 (tRow n n)) => run_string_blk (P := Try.prog) wr 38 9 5 G n 5 (List.replicate n 116) n (List.length_replicate ..) Try.underlying38 Try.underlying5 Try.underlying9 (by rw [← tRow_full]; exact h)
  have HCV := Lib.hid (show ∀ (G : Nat) (wr : World), Blk wr G 5 (tRow n n) → (convert 38 9 (.slice (some ⟨G, 0, none⟩) n n)).run Try.prog wr = .ok (.string (tS n)) wr from hcv)
  clear u1 u2 u3 hraw htl hS HBU hcv hc
  go_enter Try.func6, Try.ntmps6
  go_upto_region 4 with (go_at_call 8; refine HAW.out.mono ?_; rintro e w1 ⟨rfl, hbw⟩)
  obtain ⟨G, hG⟩ : ∃ G, w1.heap.size = G := ⟨_, rfl⟩
  have hRG : R ≤ G := by rw [← hR, ← hG]; exact hbw.size
  have HS0 := Lib.hid (show Blk (w1.alloc (.cells (zrow n) 5)) G 5 (tRow n 0) ∧ Below R W (w1.alloc (.cells (zrow n) 5)) from by
    rw [tRow_zero, ← hG, ← hR]
    exact ⟨Blk.new _ _ _, hbw.alloc hbw.size _⟩)
  have HRS := Lib.hid (show ∀ u, Below R W u → R ≤ u.heap.size from fun u hu => by rw [← hR]; exact hu.size)
  rw [hG]
  clear hbw ha1 ha2 ha3 ha4 ha5 ha6 HAW hmk hG
  generalize w1.alloc (.cells (zrow n) 5) = W0 at *
  go_wp2_with fail
  go_loopw [8] (fun i wr => ∃ j : Nat, j ≤ n ∧ i = .int .i64 j ∧ Hid (Blk wr G 5 (tRow n j)) ∧ Hid (Below R W wr)) (fun i _ => n - (intOf i).toNat)
  case atStart => exact ⟨0, Nat.zero_le _, rfl, Lib.hid HS0.out.1, Lib.hid HS0.out.2⟩
  case round =>
    obtain ⟨j, hj, rfl, HB, HBE⟩ := hrel
    by_cases hlt : j < n
    · have hlt' : (j : Int) < (n : Int) := by omega
      have j0 : (0 : Int) ≤ (j : Int) := by omega
      have f0 := HB.out.frozen j
      have c0 : wr.cell? ⟨G, j, none⟩ = some (.int .u8 0) := HB.out.at_ j _ (tRow_at hlt)
      have HB2 := Lib.hid (show Blk (wr.setCell ⟨G, j, none⟩ (.int .u8 116)) G 5 (tRow n (j + 1)) from by rw [← tRow_set hlt]; exact HB.out.set_ j _)
      have HBE2 := Lib.hid (HBE.out.setCell (p := ⟨G, j, none⟩) hRG (.int .u8 116))
      go_wp2_with fail
      go_roundw
      case rel => exact ⟨j + 1, by omega, by go_num, HB2, HBE2⟩
      case measure => simp [intOf]; omega
    · obtain rfl : j = n := by omega
      have x1 := HCV.out G wr HB.out
      have x2 := HCV.out G _ (HB.out.alloc (.cells #[.string (tS j)] 9))
      have HA1 := Lib.hid (HBE.out.alloc (HRS.out _ HBE.out) (.cells #[.string (tS j)] 9))
      have HBA := Lib.hid (HB.out.alloc (.cells #[.string (tS j)] 9))
      have HZ1 := Lib.hid (HSZ.out wr)
      have HZ2 := Lib.hid (HT.out (wr.alloc (.cells #[.string (tS j)] 9)) (wr.heap.size + 1) (by simp))
      have HBL := Lib.hid (show ∀ v u, Below R W v → Below (v.alloc (.cells #[.string (tS j)] 9)).heap.size (v.alloc (.cells #[.string (tS j)] 9)) u → Below R W u ∧ (Blk v G 5 (tRow j j) → Blk u G 5 (tRow j j)) from fun v u h1 h2 =>
        ⟨(h1.alloc (HRS.out _ h1) (.cells #[.string (tS j)] 9)).trans (h2.mono (by have := HRS.out _ h1; simp; omega)), fun h => (h.alloc _).below h2 (by have := h.lt; simp; omega)⟩)
      clear HB HSZ HT
      by_cases hs : S ≤ 1024
      · obtain ⟨P, BS, q1, q2, q3, q4⟩ := HV.out.1 hs
        rw [q1, q2, q3] at HZ2
        clear q1 q2 q3
        have hs2 : ¬ (1024 < (S : Int)) := by omega
        go_wp2_with (first
          | (go_at_call 12; with_reducible refine HZ1.out.mono ?_; rintro e w3 ⟨rfl, rfl⟩)
          | (go_at_call 10; with_reducible refine HZ2.out.mono ?_; rintro e w4 ⟨rfl, hb4⟩; have HX := Lib.hid (HBL.out _ _ HA1.out hb4); have x3 := HCV.out G w4 (HX.out.2 HBA.out))
          | (go_at_call 10; with_reducible refine (HU.out w4 _ rfl).mono ?_; rintro e w5 ⟨rfl, hb5⟩))
        go_ret
        exact ⟨by simp, by rw [hR]; exact (HBL.out _ _ HX.out.1 hb5).1⟩
      · obtain ⟨P, BS, q1, q2, q3⟩ := HV.out.2 (by omega)
        rw [q1, q2, q3] at HZ2
        clear q1 q2 q3
        have hs2 : (1024 < (S : Int)) := by omega
        go_wp2_with (first
          | (go_at_call 12; with_reducible refine HZ1.out.mono ?_; rintro e w3 ⟨rfl, rfl⟩)
          | (go_at_call 10; with_reducible refine HZ2.out.mono ?_; rintro e w4 ⟨rfl, hb4⟩; have HX := Lib.hid (HBL.out _ _ HA1.out hb4); have x3 := HCV.out G w4 (HX.out.2 HBA.out))
          | (go_at_call 10; with_reducible refine (HU.out w4 _ rfl).mono ?_; rintro e w5 ⟨rfl, hb5⟩))
        go_ret
        exact ⟨by simp, by rw [hR]; exact (HBL.out _ _ HX.out.1 hb5).1⟩
set_option maxRecDepth 100000 in
theorem lifted (os : Os) (started : os.Started) (H : Type) (enc : TypeId × Value → H) :
    ReturnsInHanded {} Try.checked os 6 .any (Rows.stackFullSpec.pre6 enc Try.prog Try.f6 Rows.stackFullRow.domain false) (Rows.stackFullSpec.post enc Try.prog Try.f6 false true false false) := by
  refine returnsInHanded_of_change (C := Try.checked) own started (by kernel_rfl) Try.func6
    (ChangeSpec.witness6 (enc := enc) (C := Try.checked) false ⟨#[], #[.int .i64 0, .int .i64 0], []⟩ 8 (by kernel_rfl) (by kernel_rfl) (by kernel_rfl) (by kernel_rfl)) ?_
  intro W base args ds gs before hval0 hW hcnd _
  have hval : ∀ (j : Nat) t v, Try.f6.params[j]? = some t → args[j]? = some v → Value.okWide Try.prog W .any base t v := hval0
  have hW' := hW
  obtain ⟨p, q, hA0, hV, rfl, hfz, hnd⟩ := hW
  have hA : DataW.TrodAll enc Try.prog W 0 (fun _ => true) true Try.f6.params.toList args.toList ds p := hA0
  rw [Try.params6] at hA hval
  obtain ⟨v0, vs0, d0, ds0, p0, q0, hargs, rfl, rfl, h0, r0⟩ := trodAll_cons hA
  obtain ⟨v1, vs1, d1, ds1, p1, q1, rfl, rfl, rfl, h1, r1⟩ := trodAll_cons r0
  obtain ⟨rfl, rfl, rfl⟩ := trodAll_nil r1
  obtain rfl : args = #[v0, v1] := by cases args; simp_all
  obtain ⟨rfl, rfl⟩ := trodVars_none hV
  have k0 := h0
  have lt0 : ∀ x ∈ p0, x.block < W.heap.size := by obtain ⟨m, hm⟩ := k0; exact DataW.trod_lt m _ _ _ hm
  obtain ⟨a0, rfl, _, _, w0⟩ := open_int Try.underlying3 (hval 0 3 v0 rfl rfl) h0
  have k1 := h1
  have lt1 : ∀ x ∈ p1, x.block < W.heap.size := by obtain ⟨m, hm⟩ := k1; exact DataW.trod_lt m _ _ _ hm
  obtain ⟨a1, rfl, _, _, w1⟩ := open_int Try.underlying3 (hval 1 3 v1 rfl rfl) h1
  clear hA0 hval0
  refine (walk a0 a1 W w0 w1).mono fun e W' ⟨he, bel⟩ => ?_
  subst he
  exact ⟨_, rfl, _, _, _, [], _, [], hW', trodAll_mk1 (shut_bool Try.underlying4 _), (trodAll_cons_mk (Below.trod laidOut (by kernel_rfl) (of_decide_eq_true (by kernel_rfl)) k0 bel lt0) (trodAll_cons_mk (Below.trod laidOut (by kernel_rfl) (of_decide_eq_true (by kernel_rfl)) k1 bel lt1) trodAll_mk0)), rfl, bel.frame _, fun h => by cases h⟩
theorem over : Rows.stackFullRow.holds Try.pinned (OpenSpec.ofChange Rows.stackFullSpec) :=
  OpenClaim.holds_of_wide 6 Try.f6 rfl rfl rfl rfl rfl rfl rfl ⟨rfl, rfl, rfl, rfl, rfl⟩ rfl rfl rfl rfl rfl (by kernel_rfl) Try.func6 (by kernel_rfl)
    (of_decide_eq_true (by kernel_rfl)) (by unfold Func.isWrapper; first | (rw [if_pos (by decide +kernel)]; kernel_rfl) | (rw [if_neg (by decide +kernel)]; exact ⟨rfl, rfl⟩))
    (fun os started H enc _ => lifted os started H enc)
/-- The statement. -/
theorem proved : Rows.StackFullSaid := over
end Go.Proofs.Ytafogipkbhglcaa.lawFull17
