/- RelocKinds: for any kind, any symbol to 3 and any number that is added: of kinds there are four; one of another kind is none, has no value, and asks for nothing; a base's asks for no symbol, the others for one. -/
import Derived.Test.YtpkjaacklfiblaaZE
import Derived.Test.YtpkjaacklfiblaaZG
namespace Go.Proofs.Ytpkjaacklfiblaa.lawKindsZ
open Go.ChangeShapes Go.WideShapes Go.ChangeAt Go.RowKit Go.Deep
set_option linter.unusedVariables false
set_option linter.unusedSimpArgs false

theorem i64_and2 (n : Int) : bits .and .i64 n 3 = n % 4 := i64_and_mask n 2 3 (by omega) (by decide)
def viewK (r : Rl) : ByteArray := mkb (r.bytes ++ List.replicate 16 0)
theorem viewK_size (r : Rl) : (viewK r).size = 40 := by unfold viewK; rw [mkb_size, List.length_append, r.bytes_length, List.length_replicate]
theorem fillK (r : Rl) : fillS (mkb r.bytes) 40 = viewK r := by
  have h := fill_bytesZ r.bytes 40 (by rw [r.bytes_length]; omega)
  rw [r.bytes_length] at h
  exact h
/-- Whether it is read. -/
theorem kind_read (r : Rl) (hr : r.fits) (hp : r.p = 0) : relE (viewK r) 0 24 = if (if r.k = 8 then r.s == 0 else r.asks && decide (0 < r.s)) then 0 else 17 := by
  have e1 : rlsAt (viewK r) 0 1 = [r] := by
    have := rlsAt_written [r] (List.replicate 16 0) (by simpa using hr) (k := 1) (by simp)
    rw [show rlBytes [r] = r.bytes from by simp [rlBytes]] at this
    exact this
  have e2 : rlOk (viewK r) 0 1 = r.may 40 := by unfold rlOk; rw [e1, viewK_size]; simp
  have e3 : inn 0 8 40 = true := by decide
  have e4 : r.may 40 = (if r.k = 8 then r.s == 0 else r.asks && decide (0 < r.s)) := by unfold Rl.may; rw [hp, e3, Bool.and_true]
  have e5 : relB (viewK r) 0 24 = r.may 40 := by
    unfold relB
    rw [viewK_size, show ((24 : Int) / 24).toNat = 1 from rfl, e2]
    simp
    intro _
    decide
  unfold relE
  rw [e5, e4]

/-- What came in and the relocation that was put together. -/
structure Kd (w : World) (G : Nat) (cs : Array Value) (v : World) : Prop where
  k : Blk v G 23 cs
  b : Below w.heap.size w v
  s : w.heap.size ≤ G
theorem Kd.below {w v v2 : World} {G : Nat} {cs : Array Value} (h : Kd w G cs v) (hb : Below v.heap.size v v2) : Kd w G cs v2 := ⟨h.k.below hb h.k.lt, h.b.trans (hb.mono (by have := h.k.lt; have := h.s; omega)), h.s⟩

set_option maxRecDepth 100000 in
set_option maxHeartbeats 1600000 in
theorem k1z (symbol add : Int) (w : World) (hy : symbol % 4 = 0) (wk : (Lit.int .i64 1).wf = true) (wa : (Lit.int .i64 add).wf = true) :
    Calls Try.prog 8 #[.int .i64 1, .int .i64 symbol, .int .i64 add] w fun e w' => e = .returned (.bool true) ∧ Below w.heap.size w w' := by
  have hy2 := i64_and2 symbol
  have hyb : 0 ≤ 0 ∧ 0 ≤ 3 := by omega
  rw [hy] at hy2
  have hwf : (⟨0, 1, 0, add⟩ : Rl).wf := ⟨(by decide : (Lit.int .i64 0).wf = true), wk, (WalkArith.wf_i64 (by omega) : (Lit.int .i64 0).wf = true), wa⟩
  have hE : relE (viewK (⟨0, 1, 0, add⟩ : Rl)) 0 24 = 17 := (kind_read (⟨0, 1, 0, add⟩ : Rl) (⟨Int.le_refl _, show (0 : Int) ≤ 9223372036854775807 by decide, show (0 : Int) ≤ 1 by decide, show (1 : Int) < 4294967296 by decide, show (0 : Int) ≤ 0 by omega, show 0 < (4294967296 : Int) by omega, wa⟩) rfl).trans (by rfl)
  have HA := Lib.hid (fun v => awakeZ_any v)
  have H1 := Lib.hid (fun v => value_any (⟨0, 1, 0, add⟩ : Rl) 5 9 v)
  have H2 := Lib.hid (fun v => rbytes_any (⟨0, 1, 0, add⟩ : Rl) v hwf)
  have H3 := Lib.hid (fun v => rfill_any (mkb (⟨0, 1, 0, add⟩ : Rl).bytes) 40 v (by decide) (by rw [mkb_size, Rl.bytes_length]; decide) (by decide))
  rw [fillK] at H3
  have hvs := viewK_size (⟨0, 1, 0, add⟩ : Rl)
  have H6 := Lib.hid (fun v => read_anyZ (viewK (⟨0, 1, 0, add⟩ : Rl)) (dR 0 24) (.slice none 0 0) v (dR_wf (by decide) (by decide)) (by rw [hvs]; decide))
  rw [dR_cs, show (dR 0 24).f 5 = 0 from rfl, show (dR 0 24).f 6 = 24 from rfl] at H6
  rw [hE] at H6
  unfold RelET at H6
  have H4 := Lib.hid (fun v => asks_any (⟨0, 1, 0, add⟩ : Rl) v)
  have H5 := Lib.hid (fun v => shift_any (⟨0, 1, 0, add⟩ : Rl) v)
  have hkn : (⟨0, 1, 0, add⟩ : Rl).known = true := rfl
  have hak : (⟨0, 1, 0, add⟩ : Rl).asks = true := rfl
  rw [hkn] at H1 H5
  rw [hak] at H4
  rw [if_pos rfl] at H5
  generalize (⟨0, 1, 0, add⟩ : Rl).val 5 9 = va at *
  generalize mkb (⟨0, 1, 0, add⟩ : Rl).bytes = BY at *
  generalize viewK (⟨0, 1, 0, add⟩ : Rl) = V at *
  generalize relL V 0 24 = L at *
  generalize L.length = NL at *
  clear hkn hak hwf hvs wk wa
  unfold Rl.cs at *
  simp only at *
  have hbd : ∀ (w : World), (Instr.build 37 #[(6, .int .i64 24)]).run Try.prog w = .ok (.agg #[.slice none 0 0, .int .i64 0, .int .i64 0, .int .i64 0, .int .i64 0, .int .i64 0, .int .i64 24, .int .i64 0, .int .i64 0]) w := fun w => run_build w 37 _ _ (by kernel_rfl)
  go_enter Try.func8, Try.ntmps8
  go_upto_region 4 with (go_at_call 9; refine (HA.out _).mono ?_; rintro e v1 ⟨rfl, hb1⟩)
  have HK1 := Lib.hid (show Kd w v1.heap.size #[.int .i64 0, .int .i64 1, .int .i64 0, .int .i64 add] (v1.alloc (.cells #[.int .i64 0, .int .i64 1, .int .i64 0, .int .i64 add] 23)) from ⟨Blk.new _ _ _, hb1.alloc hb1.size _, hb1.size⟩)
  clear hb1 HA
  go_upto_region 5 with fail
  generalize v1.alloc (.cells #[.int .i64 0, .int .i64 1, .int .i64 0, .int .i64 add] 23) = v2 at *
  generalize v1.heap.size = G at *
  have c0 : v2.cell? ⟨G, 0, none⟩ = some (.int .i64 0) := HK1.out.k.at_ 0 _ rfl; have c1 : v2.cell? ⟨G, 1, none⟩ = some (.int .i64 1) := HK1.out.k.at_ 1 _ rfl; have c2 : v2.cell? ⟨G, 2, none⟩ = some (.int .i64 0) := HK1.out.k.at_ 2 _ rfl; have c3 : v2.cell? ⟨G, 3, none⟩ = some (.int .i64 add) := HK1.out.k.at_ 3 _ rfl
  go_upto_region 6 with (go_at_call 10; refine (H1.out _).mono ?_; rintro e v3 ⟨rfl, hb3⟩; have HK3 := Lib.hid (HK1.out.below hb3); clear hb3)
  clear c0 c1 c2 c3 HK1 H1
  have c0 : v3.cell? ⟨G, 0, none⟩ = some (.int .i64 0) := HK3.out.k.at_ 0 _ rfl; have c1 : v3.cell? ⟨G, 1, none⟩ = some (.int .i64 1) := HK3.out.k.at_ 1 _ rfl; have c2 : v3.cell? ⟨G, 2, none⟩ = some (.int .i64 0) := HK3.out.k.at_ 2 _ rfl; have c3 : v3.cell? ⟨G, 3, none⟩ = some (.int .i64 add) := HK3.out.k.at_ 3 _ rfl
  go_upto_region 7 with (first
    | (go_at_call 12; refine (H2.out _).mono ?_; rintro e v4 ⟨rfl, hb4⟩; have HK4 := Lib.hid (HK3.out.below hb4); clear hb4)
    | (go_at_call 17; refine (H3.out _).mono ?_; rintro e v5 ⟨rfl, hb5⟩; have HK5 := Lib.hid (HK4.out.below hb5); clear hb5)
    | (go_at_call 18; refine (H6.out _).mono ?_; rintro e v6 ⟨A1, k1, rfl, -, hb6⟩; have HK6 := Lib.hid (HK5.out.below hb6); clear hb6))
  clear c0 c1 c2 c3 HK3 H2 H3 H6
  have c0 : v6.cell? ⟨G, 0, none⟩ = some (.int .i64 0) := HK6.out.k.at_ 0 _ rfl; have c1 : v6.cell? ⟨G, 1, none⟩ = some (.int .i64 1) := HK6.out.k.at_ 1 _ rfl; have c2 : v6.cell? ⟨G, 2, none⟩ = some (.int .i64 0) := HK6.out.k.at_ 2 _ rfl; have c3 : v6.cell? ⟨G, 3, none⟩ = some (.int .i64 add) := HK6.out.k.at_ 3 _ rfl
  go_wp2_with (first
    | (go_at_call 14; refine (H4.out _).mono ?_; rintro e v7 ⟨rfl, hb7⟩; have HK7 := Lib.hid (HK6.out.below hb7); clear hb7 c0 c1 c2 c3; have c0 : v7.cell? ⟨G, 0, none⟩ = some (.int .i64 0) := HK7.out.k.at_ 0 _ rfl; have c1 : v7.cell? ⟨G, 1, none⟩ = some (.int .i64 1) := HK7.out.k.at_ 1 _ rfl; have c2 : v7.cell? ⟨G, 2, none⟩ = some (.int .i64 0) := HK7.out.k.at_ 2 _ rfl; have c3 : v7.cell? ⟨G, 3, none⟩ = some (.int .i64 add) := HK7.out.k.at_ 3 _ rfl)
    | (go_at_call 16; refine (H5.out _).mono ?_; rintro e v8 ⟨rfl, hb8⟩; have HK8 := Lib.hid (HK7.out.below hb8); clear hb8))
  go_ret
  exact ⟨by first | rfl | simp, HK8.out.b⟩

set_option maxRecDepth 100000 in
set_option maxHeartbeats 1600000 in
theorem k1p (symbol add y : Int) (w : World) (hy : symbol % 4 = y) (wk : (Lit.int .i64 1).wf = true) (wa : (Lit.int .i64 add).wf = true) (hpos : 0 < y) :
    Calls Try.prog 8 #[.int .i64 1, .int .i64 symbol, .int .i64 add] w fun e w' => e = .returned (.bool true) ∧ Below w.heap.size w w' := by
  have hy2 := i64_and2 symbol
  have hyb : 0 ≤ y ∧ y ≤ 3 := by omega
  rw [hy] at hy2
  have hwf : (⟨0, 1, y, add⟩ : Rl).wf := ⟨(by decide : (Lit.int .i64 0).wf = true), wk, (WalkArith.wf_i64 (by omega) : (Lit.int .i64 y).wf = true), wa⟩
  have hE : relE (viewK (⟨0, 1, y, add⟩ : Rl)) 0 24 = 0 := (kind_read (⟨0, 1, y, add⟩ : Rl) (⟨Int.le_refl _, show (0 : Int) ≤ 9223372036854775807 by decide, show (0 : Int) ≤ 1 by decide, show (1 : Int) < 4294967296 by decide, show (0 : Int) ≤ y by omega, show y < (4294967296 : Int) by omega, wa⟩) rfl).trans (by rw [if_neg (show ¬ (1 : Int) = 8 by decide), show (⟨0, 1, y, add⟩ : Rl).asks = true from rfl, Bool.true_and, if_pos (decide_eq_true hpos)])
  have hpd : decide (0 < y) = true := decide_eq_true hpos
  have hpz : (y == 0) = false := by simp; omega
  have HA := Lib.hid (fun v => awakeZ_any v)
  have H1 := Lib.hid (fun v => value_any (⟨0, 1, y, add⟩ : Rl) 5 9 v)
  have H2 := Lib.hid (fun v => rbytes_any (⟨0, 1, y, add⟩ : Rl) v hwf)
  have H3 := Lib.hid (fun v => rfill_any (mkb (⟨0, 1, y, add⟩ : Rl).bytes) 40 v (by decide) (by rw [mkb_size, Rl.bytes_length]; decide) (by decide))
  rw [fillK] at H3
  have hvs := viewK_size (⟨0, 1, y, add⟩ : Rl)
  have H6 := Lib.hid (fun v => read_anyZ (viewK (⟨0, 1, y, add⟩ : Rl)) (dR 0 24) (.slice none 0 0) v (dR_wf (by decide) (by decide)) (by rw [hvs]; decide))
  rw [dR_cs, show (dR 0 24).f 5 = 0 from rfl, show (dR 0 24).f 6 = 24 from rfl] at H6
  rw [hE] at H6
  unfold RelET at H6
  have H4 := Lib.hid (fun v => asks_any (⟨0, 1, y, add⟩ : Rl) v)
  have H5 := Lib.hid (fun v => shift_any (⟨0, 1, y, add⟩ : Rl) v)
  have hkn : (⟨0, 1, y, add⟩ : Rl).known = true := rfl
  have hak : (⟨0, 1, y, add⟩ : Rl).asks = true := rfl
  rw [hkn] at H1 H5
  rw [hak] at H4
  rw [if_pos rfl] at H5
  generalize (⟨0, 1, y, add⟩ : Rl).val 5 9 = va at *
  generalize mkb (⟨0, 1, y, add⟩ : Rl).bytes = BY at *
  generalize viewK (⟨0, 1, y, add⟩ : Rl) = V at *
  generalize relL V 0 24 = L at *
  generalize L.length = NL at *
  clear hkn hak hwf hvs wk wa
  unfold Rl.cs at *
  simp only at *
  have hbd : ∀ (w : World), (Instr.build 37 #[(6, .int .i64 24)]).run Try.prog w = .ok (.agg #[.slice none 0 0, .int .i64 0, .int .i64 0, .int .i64 0, .int .i64 0, .int .i64 0, .int .i64 24, .int .i64 0, .int .i64 0]) w := fun w => run_build w 37 _ _ (by kernel_rfl)
  go_enter Try.func8, Try.ntmps8
  go_upto_region 4 with (go_at_call 9; refine (HA.out _).mono ?_; rintro e v1 ⟨rfl, hb1⟩)
  have HK1 := Lib.hid (show Kd w v1.heap.size #[.int .i64 0, .int .i64 1, .int .i64 y, .int .i64 add] (v1.alloc (.cells #[.int .i64 0, .int .i64 1, .int .i64 y, .int .i64 add] 23)) from ⟨Blk.new _ _ _, hb1.alloc hb1.size _, hb1.size⟩)
  clear hb1 HA
  go_upto_region 5 with fail
  generalize v1.alloc (.cells #[.int .i64 0, .int .i64 1, .int .i64 y, .int .i64 add] 23) = v2 at *
  generalize v1.heap.size = G at *
  have c0 : v2.cell? ⟨G, 0, none⟩ = some (.int .i64 0) := HK1.out.k.at_ 0 _ rfl; have c1 : v2.cell? ⟨G, 1, none⟩ = some (.int .i64 1) := HK1.out.k.at_ 1 _ rfl; have c2 : v2.cell? ⟨G, 2, none⟩ = some (.int .i64 y) := HK1.out.k.at_ 2 _ rfl; have c3 : v2.cell? ⟨G, 3, none⟩ = some (.int .i64 add) := HK1.out.k.at_ 3 _ rfl
  go_upto_region 6 with (go_at_call 10; refine (H1.out _).mono ?_; rintro e v3 ⟨rfl, hb3⟩; have HK3 := Lib.hid (HK1.out.below hb3); clear hb3)
  clear c0 c1 c2 c3 HK1 H1
  have c0 : v3.cell? ⟨G, 0, none⟩ = some (.int .i64 0) := HK3.out.k.at_ 0 _ rfl; have c1 : v3.cell? ⟨G, 1, none⟩ = some (.int .i64 1) := HK3.out.k.at_ 1 _ rfl; have c2 : v3.cell? ⟨G, 2, none⟩ = some (.int .i64 y) := HK3.out.k.at_ 2 _ rfl; have c3 : v3.cell? ⟨G, 3, none⟩ = some (.int .i64 add) := HK3.out.k.at_ 3 _ rfl
  go_upto_region 7 with (first
    | (go_at_call 12; refine (H2.out _).mono ?_; rintro e v4 ⟨rfl, hb4⟩; have HK4 := Lib.hid (HK3.out.below hb4); clear hb4)
    | (go_at_call 17; refine (H3.out _).mono ?_; rintro e v5 ⟨rfl, hb5⟩; have HK5 := Lib.hid (HK4.out.below hb5); clear hb5)
    | (go_at_call 18; refine (H6.out _).mono ?_; rintro e v6 ⟨A1, k1, rfl, -, hb6⟩; have HK6 := Lib.hid (HK5.out.below hb6); clear hb6))
  clear c0 c1 c2 c3 HK3 H2 H3 H6
  have c0 : v6.cell? ⟨G, 0, none⟩ = some (.int .i64 0) := HK6.out.k.at_ 0 _ rfl; have c1 : v6.cell? ⟨G, 1, none⟩ = some (.int .i64 1) := HK6.out.k.at_ 1 _ rfl; have c2 : v6.cell? ⟨G, 2, none⟩ = some (.int .i64 y) := HK6.out.k.at_ 2 _ rfl; have c3 : v6.cell? ⟨G, 3, none⟩ = some (.int .i64 add) := HK6.out.k.at_ 3 _ rfl
  go_wp2_with (first
    | (go_at_call 14; refine (H4.out _).mono ?_; rintro e v7 ⟨rfl, hb7⟩; have HK7 := Lib.hid (HK6.out.below hb7); clear hb7 c0 c1 c2 c3; have c0 : v7.cell? ⟨G, 0, none⟩ = some (.int .i64 0) := HK7.out.k.at_ 0 _ rfl; have c1 : v7.cell? ⟨G, 1, none⟩ = some (.int .i64 1) := HK7.out.k.at_ 1 _ rfl; have c2 : v7.cell? ⟨G, 2, none⟩ = some (.int .i64 y) := HK7.out.k.at_ 2 _ rfl; have c3 : v7.cell? ⟨G, 3, none⟩ = some (.int .i64 add) := HK7.out.k.at_ 3 _ rfl)
    | (go_at_call 16; refine (H5.out _).mono ?_; rintro e v8 ⟨rfl, hb8⟩; have HK8 := Lib.hid (HK7.out.below hb8); clear hb8))
  go_ret
  exact ⟨by first | rfl | simp, HK8.out.b⟩

set_option maxRecDepth 100000 in
set_option maxHeartbeats 1600000 in
theorem k6z (symbol add : Int) (w : World) (hy : symbol % 4 = 0) (wk : (Lit.int .i64 6).wf = true) (wa : (Lit.int .i64 add).wf = true) :
    Calls Try.prog 8 #[.int .i64 6, .int .i64 symbol, .int .i64 add] w fun e w' => e = .returned (.bool true) ∧ Below w.heap.size w w' := by
  have hy2 := i64_and2 symbol
  have hyb : 0 ≤ 0 ∧ 0 ≤ 3 := by omega
  rw [hy] at hy2
  have hwf : (⟨0, 6, 0, add⟩ : Rl).wf := ⟨(by decide : (Lit.int .i64 0).wf = true), wk, (WalkArith.wf_i64 (by omega) : (Lit.int .i64 0).wf = true), wa⟩
  have hE : relE (viewK (⟨0, 6, 0, add⟩ : Rl)) 0 24 = 17 := (kind_read (⟨0, 6, 0, add⟩ : Rl) (⟨Int.le_refl _, show (0 : Int) ≤ 9223372036854775807 by decide, show (0 : Int) ≤ 6 by decide, show (6 : Int) < 4294967296 by decide, show (0 : Int) ≤ 0 by omega, show 0 < (4294967296 : Int) by omega, wa⟩) rfl).trans (by rfl)
  have HA := Lib.hid (fun v => awakeZ_any v)
  have H1 := Lib.hid (fun v => value_any (⟨0, 6, 0, add⟩ : Rl) 5 9 v)
  have H2 := Lib.hid (fun v => rbytes_any (⟨0, 6, 0, add⟩ : Rl) v hwf)
  have H3 := Lib.hid (fun v => rfill_any (mkb (⟨0, 6, 0, add⟩ : Rl).bytes) 40 v (by decide) (by rw [mkb_size, Rl.bytes_length]; decide) (by decide))
  rw [fillK] at H3
  have hvs := viewK_size (⟨0, 6, 0, add⟩ : Rl)
  have H6 := Lib.hid (fun v => read_anyZ (viewK (⟨0, 6, 0, add⟩ : Rl)) (dR 0 24) (.slice none 0 0) v (dR_wf (by decide) (by decide)) (by rw [hvs]; decide))
  rw [dR_cs, show (dR 0 24).f 5 = 0 from rfl, show (dR 0 24).f 6 = 24 from rfl] at H6
  rw [hE] at H6
  unfold RelET at H6
  have H4 := Lib.hid (fun v => asks_any (⟨0, 6, 0, add⟩ : Rl) v)
  have H5 := Lib.hid (fun v => shift_any (⟨0, 6, 0, add⟩ : Rl) v)
  have hkn : (⟨0, 6, 0, add⟩ : Rl).known = true := rfl
  have hak : (⟨0, 6, 0, add⟩ : Rl).asks = true := rfl
  rw [hkn] at H1 H5
  rw [hak] at H4
  rw [if_pos rfl] at H5
  generalize (⟨0, 6, 0, add⟩ : Rl).val 5 9 = va at *
  generalize mkb (⟨0, 6, 0, add⟩ : Rl).bytes = BY at *
  generalize viewK (⟨0, 6, 0, add⟩ : Rl) = V at *
  generalize relL V 0 24 = L at *
  generalize L.length = NL at *
  clear hkn hak hwf hvs wk wa
  unfold Rl.cs at *
  simp only at *
  have hbd : ∀ (w : World), (Instr.build 37 #[(6, .int .i64 24)]).run Try.prog w = .ok (.agg #[.slice none 0 0, .int .i64 0, .int .i64 0, .int .i64 0, .int .i64 0, .int .i64 0, .int .i64 24, .int .i64 0, .int .i64 0]) w := fun w => run_build w 37 _ _ (by kernel_rfl)
  go_enter Try.func8, Try.ntmps8
  go_upto_region 4 with (go_at_call 9; refine (HA.out _).mono ?_; rintro e v1 ⟨rfl, hb1⟩)
  have HK1 := Lib.hid (show Kd w v1.heap.size #[.int .i64 0, .int .i64 6, .int .i64 0, .int .i64 add] (v1.alloc (.cells #[.int .i64 0, .int .i64 6, .int .i64 0, .int .i64 add] 23)) from ⟨Blk.new _ _ _, hb1.alloc hb1.size _, hb1.size⟩)
  clear hb1 HA
  go_upto_region 5 with fail
  generalize v1.alloc (.cells #[.int .i64 0, .int .i64 6, .int .i64 0, .int .i64 add] 23) = v2 at *
  generalize v1.heap.size = G at *
  have c0 : v2.cell? ⟨G, 0, none⟩ = some (.int .i64 0) := HK1.out.k.at_ 0 _ rfl; have c1 : v2.cell? ⟨G, 1, none⟩ = some (.int .i64 6) := HK1.out.k.at_ 1 _ rfl; have c2 : v2.cell? ⟨G, 2, none⟩ = some (.int .i64 0) := HK1.out.k.at_ 2 _ rfl; have c3 : v2.cell? ⟨G, 3, none⟩ = some (.int .i64 add) := HK1.out.k.at_ 3 _ rfl
  go_upto_region 6 with (go_at_call 10; refine (H1.out _).mono ?_; rintro e v3 ⟨rfl, hb3⟩; have HK3 := Lib.hid (HK1.out.below hb3); clear hb3)
  clear c0 c1 c2 c3 HK1 H1
  have c0 : v3.cell? ⟨G, 0, none⟩ = some (.int .i64 0) := HK3.out.k.at_ 0 _ rfl; have c1 : v3.cell? ⟨G, 1, none⟩ = some (.int .i64 6) := HK3.out.k.at_ 1 _ rfl; have c2 : v3.cell? ⟨G, 2, none⟩ = some (.int .i64 0) := HK3.out.k.at_ 2 _ rfl; have c3 : v3.cell? ⟨G, 3, none⟩ = some (.int .i64 add) := HK3.out.k.at_ 3 _ rfl
  go_upto_region 7 with (first
    | (go_at_call 12; refine (H2.out _).mono ?_; rintro e v4 ⟨rfl, hb4⟩; have HK4 := Lib.hid (HK3.out.below hb4); clear hb4)
    | (go_at_call 17; refine (H3.out _).mono ?_; rintro e v5 ⟨rfl, hb5⟩; have HK5 := Lib.hid (HK4.out.below hb5); clear hb5)
    | (go_at_call 18; refine (H6.out _).mono ?_; rintro e v6 ⟨A1, k1, rfl, -, hb6⟩; have HK6 := Lib.hid (HK5.out.below hb6); clear hb6))
  clear c0 c1 c2 c3 HK3 H2 H3 H6
  have c0 : v6.cell? ⟨G, 0, none⟩ = some (.int .i64 0) := HK6.out.k.at_ 0 _ rfl; have c1 : v6.cell? ⟨G, 1, none⟩ = some (.int .i64 6) := HK6.out.k.at_ 1 _ rfl; have c2 : v6.cell? ⟨G, 2, none⟩ = some (.int .i64 0) := HK6.out.k.at_ 2 _ rfl; have c3 : v6.cell? ⟨G, 3, none⟩ = some (.int .i64 add) := HK6.out.k.at_ 3 _ rfl
  go_wp2_with (first
    | (go_at_call 14; refine (H4.out _).mono ?_; rintro e v7 ⟨rfl, hb7⟩; have HK7 := Lib.hid (HK6.out.below hb7); clear hb7 c0 c1 c2 c3; have c0 : v7.cell? ⟨G, 0, none⟩ = some (.int .i64 0) := HK7.out.k.at_ 0 _ rfl; have c1 : v7.cell? ⟨G, 1, none⟩ = some (.int .i64 6) := HK7.out.k.at_ 1 _ rfl; have c2 : v7.cell? ⟨G, 2, none⟩ = some (.int .i64 0) := HK7.out.k.at_ 2 _ rfl; have c3 : v7.cell? ⟨G, 3, none⟩ = some (.int .i64 add) := HK7.out.k.at_ 3 _ rfl)
    | (go_at_call 16; refine (H5.out _).mono ?_; rintro e v8 ⟨rfl, hb8⟩; have HK8 := Lib.hid (HK7.out.below hb8); clear hb8))
  go_ret
  exact ⟨by first | rfl | simp, HK8.out.b⟩

set_option maxRecDepth 100000 in
set_option maxHeartbeats 1600000 in
theorem k6p (symbol add y : Int) (w : World) (hy : symbol % 4 = y) (wk : (Lit.int .i64 6).wf = true) (wa : (Lit.int .i64 add).wf = true) (hpos : 0 < y) :
    Calls Try.prog 8 #[.int .i64 6, .int .i64 symbol, .int .i64 add] w fun e w' => e = .returned (.bool true) ∧ Below w.heap.size w w' := by
  have hy2 := i64_and2 symbol
  have hyb : 0 ≤ y ∧ y ≤ 3 := by omega
  rw [hy] at hy2
  have hwf : (⟨0, 6, y, add⟩ : Rl).wf := ⟨(by decide : (Lit.int .i64 0).wf = true), wk, (WalkArith.wf_i64 (by omega) : (Lit.int .i64 y).wf = true), wa⟩
  have hE : relE (viewK (⟨0, 6, y, add⟩ : Rl)) 0 24 = 0 := (kind_read (⟨0, 6, y, add⟩ : Rl) (⟨Int.le_refl _, show (0 : Int) ≤ 9223372036854775807 by decide, show (0 : Int) ≤ 6 by decide, show (6 : Int) < 4294967296 by decide, show (0 : Int) ≤ y by omega, show y < (4294967296 : Int) by omega, wa⟩) rfl).trans (by rw [if_neg (show ¬ (6 : Int) = 8 by decide), show (⟨0, 6, y, add⟩ : Rl).asks = true from rfl, Bool.true_and, if_pos (decide_eq_true hpos)])
  have hpd : decide (0 < y) = true := decide_eq_true hpos
  have hpz : (y == 0) = false := by simp; omega
  have HA := Lib.hid (fun v => awakeZ_any v)
  have H1 := Lib.hid (fun v => value_any (⟨0, 6, y, add⟩ : Rl) 5 9 v)
  have H2 := Lib.hid (fun v => rbytes_any (⟨0, 6, y, add⟩ : Rl) v hwf)
  have H3 := Lib.hid (fun v => rfill_any (mkb (⟨0, 6, y, add⟩ : Rl).bytes) 40 v (by decide) (by rw [mkb_size, Rl.bytes_length]; decide) (by decide))
  rw [fillK] at H3
  have hvs := viewK_size (⟨0, 6, y, add⟩ : Rl)
  have H6 := Lib.hid (fun v => read_anyZ (viewK (⟨0, 6, y, add⟩ : Rl)) (dR 0 24) (.slice none 0 0) v (dR_wf (by decide) (by decide)) (by rw [hvs]; decide))
  rw [dR_cs, show (dR 0 24).f 5 = 0 from rfl, show (dR 0 24).f 6 = 24 from rfl] at H6
  rw [hE] at H6
  unfold RelET at H6
  have H4 := Lib.hid (fun v => asks_any (⟨0, 6, y, add⟩ : Rl) v)
  have H5 := Lib.hid (fun v => shift_any (⟨0, 6, y, add⟩ : Rl) v)
  have hkn : (⟨0, 6, y, add⟩ : Rl).known = true := rfl
  have hak : (⟨0, 6, y, add⟩ : Rl).asks = true := rfl
  rw [hkn] at H1 H5
  rw [hak] at H4
  rw [if_pos rfl] at H5
  generalize (⟨0, 6, y, add⟩ : Rl).val 5 9 = va at *
  generalize mkb (⟨0, 6, y, add⟩ : Rl).bytes = BY at *
  generalize viewK (⟨0, 6, y, add⟩ : Rl) = V at *
  generalize relL V 0 24 = L at *
  generalize L.length = NL at *
  clear hkn hak hwf hvs wk wa
  unfold Rl.cs at *
  simp only at *
  have hbd : ∀ (w : World), (Instr.build 37 #[(6, .int .i64 24)]).run Try.prog w = .ok (.agg #[.slice none 0 0, .int .i64 0, .int .i64 0, .int .i64 0, .int .i64 0, .int .i64 0, .int .i64 24, .int .i64 0, .int .i64 0]) w := fun w => run_build w 37 _ _ (by kernel_rfl)
  go_enter Try.func8, Try.ntmps8
  go_upto_region 4 with (go_at_call 9; refine (HA.out _).mono ?_; rintro e v1 ⟨rfl, hb1⟩)
  have HK1 := Lib.hid (show Kd w v1.heap.size #[.int .i64 0, .int .i64 6, .int .i64 y, .int .i64 add] (v1.alloc (.cells #[.int .i64 0, .int .i64 6, .int .i64 y, .int .i64 add] 23)) from ⟨Blk.new _ _ _, hb1.alloc hb1.size _, hb1.size⟩)
  clear hb1 HA
  go_upto_region 5 with fail
  generalize v1.alloc (.cells #[.int .i64 0, .int .i64 6, .int .i64 y, .int .i64 add] 23) = v2 at *
  generalize v1.heap.size = G at *
  have c0 : v2.cell? ⟨G, 0, none⟩ = some (.int .i64 0) := HK1.out.k.at_ 0 _ rfl; have c1 : v2.cell? ⟨G, 1, none⟩ = some (.int .i64 6) := HK1.out.k.at_ 1 _ rfl; have c2 : v2.cell? ⟨G, 2, none⟩ = some (.int .i64 y) := HK1.out.k.at_ 2 _ rfl; have c3 : v2.cell? ⟨G, 3, none⟩ = some (.int .i64 add) := HK1.out.k.at_ 3 _ rfl
  go_upto_region 6 with (go_at_call 10; refine (H1.out _).mono ?_; rintro e v3 ⟨rfl, hb3⟩; have HK3 := Lib.hid (HK1.out.below hb3); clear hb3)
  clear c0 c1 c2 c3 HK1 H1
  have c0 : v3.cell? ⟨G, 0, none⟩ = some (.int .i64 0) := HK3.out.k.at_ 0 _ rfl; have c1 : v3.cell? ⟨G, 1, none⟩ = some (.int .i64 6) := HK3.out.k.at_ 1 _ rfl; have c2 : v3.cell? ⟨G, 2, none⟩ = some (.int .i64 y) := HK3.out.k.at_ 2 _ rfl; have c3 : v3.cell? ⟨G, 3, none⟩ = some (.int .i64 add) := HK3.out.k.at_ 3 _ rfl
  go_upto_region 7 with (first
    | (go_at_call 12; refine (H2.out _).mono ?_; rintro e v4 ⟨rfl, hb4⟩; have HK4 := Lib.hid (HK3.out.below hb4); clear hb4)
    | (go_at_call 17; refine (H3.out _).mono ?_; rintro e v5 ⟨rfl, hb5⟩; have HK5 := Lib.hid (HK4.out.below hb5); clear hb5)
    | (go_at_call 18; refine (H6.out _).mono ?_; rintro e v6 ⟨A1, k1, rfl, -, hb6⟩; have HK6 := Lib.hid (HK5.out.below hb6); clear hb6))
  clear c0 c1 c2 c3 HK3 H2 H3 H6
  have c0 : v6.cell? ⟨G, 0, none⟩ = some (.int .i64 0) := HK6.out.k.at_ 0 _ rfl; have c1 : v6.cell? ⟨G, 1, none⟩ = some (.int .i64 6) := HK6.out.k.at_ 1 _ rfl; have c2 : v6.cell? ⟨G, 2, none⟩ = some (.int .i64 y) := HK6.out.k.at_ 2 _ rfl; have c3 : v6.cell? ⟨G, 3, none⟩ = some (.int .i64 add) := HK6.out.k.at_ 3 _ rfl
  go_wp2_with (first
    | (go_at_call 14; refine (H4.out _).mono ?_; rintro e v7 ⟨rfl, hb7⟩; have HK7 := Lib.hid (HK6.out.below hb7); clear hb7 c0 c1 c2 c3; have c0 : v7.cell? ⟨G, 0, none⟩ = some (.int .i64 0) := HK7.out.k.at_ 0 _ rfl; have c1 : v7.cell? ⟨G, 1, none⟩ = some (.int .i64 6) := HK7.out.k.at_ 1 _ rfl; have c2 : v7.cell? ⟨G, 2, none⟩ = some (.int .i64 y) := HK7.out.k.at_ 2 _ rfl; have c3 : v7.cell? ⟨G, 3, none⟩ = some (.int .i64 add) := HK7.out.k.at_ 3 _ rfl)
    | (go_at_call 16; refine (H5.out _).mono ?_; rintro e v8 ⟨rfl, hb8⟩; have HK8 := Lib.hid (HK7.out.below hb8); clear hb8))
  go_ret
  exact ⟨by first | rfl | simp, HK8.out.b⟩

set_option maxRecDepth 100000 in
set_option maxHeartbeats 1600000 in
theorem k7z (symbol add : Int) (w : World) (hy : symbol % 4 = 0) (wk : (Lit.int .i64 7).wf = true) (wa : (Lit.int .i64 add).wf = true) :
    Calls Try.prog 8 #[.int .i64 7, .int .i64 symbol, .int .i64 add] w fun e w' => e = .returned (.bool true) ∧ Below w.heap.size w w' := by
  have hy2 := i64_and2 symbol
  have hyb : 0 ≤ 0 ∧ 0 ≤ 3 := by omega
  rw [hy] at hy2
  have hwf : (⟨0, 7, 0, add⟩ : Rl).wf := ⟨(by decide : (Lit.int .i64 0).wf = true), wk, (WalkArith.wf_i64 (by omega) : (Lit.int .i64 0).wf = true), wa⟩
  have hE : relE (viewK (⟨0, 7, 0, add⟩ : Rl)) 0 24 = 17 := (kind_read (⟨0, 7, 0, add⟩ : Rl) (⟨Int.le_refl _, show (0 : Int) ≤ 9223372036854775807 by decide, show (0 : Int) ≤ 7 by decide, show (7 : Int) < 4294967296 by decide, show (0 : Int) ≤ 0 by omega, show 0 < (4294967296 : Int) by omega, wa⟩) rfl).trans (by rfl)
  have HA := Lib.hid (fun v => awakeZ_any v)
  have H1 := Lib.hid (fun v => value_any (⟨0, 7, 0, add⟩ : Rl) 5 9 v)
  have H2 := Lib.hid (fun v => rbytes_any (⟨0, 7, 0, add⟩ : Rl) v hwf)
  have H3 := Lib.hid (fun v => rfill_any (mkb (⟨0, 7, 0, add⟩ : Rl).bytes) 40 v (by decide) (by rw [mkb_size, Rl.bytes_length]; decide) (by decide))
  rw [fillK] at H3
  have hvs := viewK_size (⟨0, 7, 0, add⟩ : Rl)
  have H6 := Lib.hid (fun v => read_anyZ (viewK (⟨0, 7, 0, add⟩ : Rl)) (dR 0 24) (.slice none 0 0) v (dR_wf (by decide) (by decide)) (by rw [hvs]; decide))
  rw [dR_cs, show (dR 0 24).f 5 = 0 from rfl, show (dR 0 24).f 6 = 24 from rfl] at H6
  rw [hE] at H6
  unfold RelET at H6
  have H4 := Lib.hid (fun v => asks_any (⟨0, 7, 0, add⟩ : Rl) v)
  have H5 := Lib.hid (fun v => shift_any (⟨0, 7, 0, add⟩ : Rl) v)
  have hkn : (⟨0, 7, 0, add⟩ : Rl).known = true := rfl
  have hak : (⟨0, 7, 0, add⟩ : Rl).asks = true := rfl
  rw [hkn] at H1 H5
  rw [hak] at H4
  rw [if_pos rfl] at H5
  generalize (⟨0, 7, 0, add⟩ : Rl).val 5 9 = va at *
  generalize mkb (⟨0, 7, 0, add⟩ : Rl).bytes = BY at *
  generalize viewK (⟨0, 7, 0, add⟩ : Rl) = V at *
  generalize relL V 0 24 = L at *
  generalize L.length = NL at *
  clear hkn hak hwf hvs wk wa
  unfold Rl.cs at *
  simp only at *
  have hbd : ∀ (w : World), (Instr.build 37 #[(6, .int .i64 24)]).run Try.prog w = .ok (.agg #[.slice none 0 0, .int .i64 0, .int .i64 0, .int .i64 0, .int .i64 0, .int .i64 0, .int .i64 24, .int .i64 0, .int .i64 0]) w := fun w => run_build w 37 _ _ (by kernel_rfl)
  go_enter Try.func8, Try.ntmps8
  go_upto_region 4 with (go_at_call 9; refine (HA.out _).mono ?_; rintro e v1 ⟨rfl, hb1⟩)
  have HK1 := Lib.hid (show Kd w v1.heap.size #[.int .i64 0, .int .i64 7, .int .i64 0, .int .i64 add] (v1.alloc (.cells #[.int .i64 0, .int .i64 7, .int .i64 0, .int .i64 add] 23)) from ⟨Blk.new _ _ _, hb1.alloc hb1.size _, hb1.size⟩)
  clear hb1 HA
  go_upto_region 5 with fail
  generalize v1.alloc (.cells #[.int .i64 0, .int .i64 7, .int .i64 0, .int .i64 add] 23) = v2 at *
  generalize v1.heap.size = G at *
  have c0 : v2.cell? ⟨G, 0, none⟩ = some (.int .i64 0) := HK1.out.k.at_ 0 _ rfl; have c1 : v2.cell? ⟨G, 1, none⟩ = some (.int .i64 7) := HK1.out.k.at_ 1 _ rfl; have c2 : v2.cell? ⟨G, 2, none⟩ = some (.int .i64 0) := HK1.out.k.at_ 2 _ rfl; have c3 : v2.cell? ⟨G, 3, none⟩ = some (.int .i64 add) := HK1.out.k.at_ 3 _ rfl
  go_upto_region 6 with (go_at_call 10; refine (H1.out _).mono ?_; rintro e v3 ⟨rfl, hb3⟩; have HK3 := Lib.hid (HK1.out.below hb3); clear hb3)
  clear c0 c1 c2 c3 HK1 H1
  have c0 : v3.cell? ⟨G, 0, none⟩ = some (.int .i64 0) := HK3.out.k.at_ 0 _ rfl; have c1 : v3.cell? ⟨G, 1, none⟩ = some (.int .i64 7) := HK3.out.k.at_ 1 _ rfl; have c2 : v3.cell? ⟨G, 2, none⟩ = some (.int .i64 0) := HK3.out.k.at_ 2 _ rfl; have c3 : v3.cell? ⟨G, 3, none⟩ = some (.int .i64 add) := HK3.out.k.at_ 3 _ rfl
  go_upto_region 7 with (first
    | (go_at_call 12; refine (H2.out _).mono ?_; rintro e v4 ⟨rfl, hb4⟩; have HK4 := Lib.hid (HK3.out.below hb4); clear hb4)
    | (go_at_call 17; refine (H3.out _).mono ?_; rintro e v5 ⟨rfl, hb5⟩; have HK5 := Lib.hid (HK4.out.below hb5); clear hb5)
    | (go_at_call 18; refine (H6.out _).mono ?_; rintro e v6 ⟨A1, k1, rfl, -, hb6⟩; have HK6 := Lib.hid (HK5.out.below hb6); clear hb6))
  clear c0 c1 c2 c3 HK3 H2 H3 H6
  have c0 : v6.cell? ⟨G, 0, none⟩ = some (.int .i64 0) := HK6.out.k.at_ 0 _ rfl; have c1 : v6.cell? ⟨G, 1, none⟩ = some (.int .i64 7) := HK6.out.k.at_ 1 _ rfl; have c2 : v6.cell? ⟨G, 2, none⟩ = some (.int .i64 0) := HK6.out.k.at_ 2 _ rfl; have c3 : v6.cell? ⟨G, 3, none⟩ = some (.int .i64 add) := HK6.out.k.at_ 3 _ rfl
  go_wp2_with (first
    | (go_at_call 14; refine (H4.out _).mono ?_; rintro e v7 ⟨rfl, hb7⟩; have HK7 := Lib.hid (HK6.out.below hb7); clear hb7 c0 c1 c2 c3; have c0 : v7.cell? ⟨G, 0, none⟩ = some (.int .i64 0) := HK7.out.k.at_ 0 _ rfl; have c1 : v7.cell? ⟨G, 1, none⟩ = some (.int .i64 7) := HK7.out.k.at_ 1 _ rfl; have c2 : v7.cell? ⟨G, 2, none⟩ = some (.int .i64 0) := HK7.out.k.at_ 2 _ rfl; have c3 : v7.cell? ⟨G, 3, none⟩ = some (.int .i64 add) := HK7.out.k.at_ 3 _ rfl)
    | (go_at_call 16; refine (H5.out _).mono ?_; rintro e v8 ⟨rfl, hb8⟩; have HK8 := Lib.hid (HK7.out.below hb8); clear hb8))
  go_ret
  exact ⟨by first | rfl | simp, HK8.out.b⟩

set_option maxRecDepth 100000 in
set_option maxHeartbeats 1600000 in
theorem k7p (symbol add y : Int) (w : World) (hy : symbol % 4 = y) (wk : (Lit.int .i64 7).wf = true) (wa : (Lit.int .i64 add).wf = true) (hpos : 0 < y) :
    Calls Try.prog 8 #[.int .i64 7, .int .i64 symbol, .int .i64 add] w fun e w' => e = .returned (.bool true) ∧ Below w.heap.size w w' := by
  have hy2 := i64_and2 symbol
  have hyb : 0 ≤ y ∧ y ≤ 3 := by omega
  rw [hy] at hy2
  have hwf : (⟨0, 7, y, add⟩ : Rl).wf := ⟨(by decide : (Lit.int .i64 0).wf = true), wk, (WalkArith.wf_i64 (by omega) : (Lit.int .i64 y).wf = true), wa⟩
  have hE : relE (viewK (⟨0, 7, y, add⟩ : Rl)) 0 24 = 0 := (kind_read (⟨0, 7, y, add⟩ : Rl) (⟨Int.le_refl _, show (0 : Int) ≤ 9223372036854775807 by decide, show (0 : Int) ≤ 7 by decide, show (7 : Int) < 4294967296 by decide, show (0 : Int) ≤ y by omega, show y < (4294967296 : Int) by omega, wa⟩) rfl).trans (by rw [if_neg (show ¬ (7 : Int) = 8 by decide), show (⟨0, 7, y, add⟩ : Rl).asks = true from rfl, Bool.true_and, if_pos (decide_eq_true hpos)])
  have hpd : decide (0 < y) = true := decide_eq_true hpos
  have hpz : (y == 0) = false := by simp; omega
  have HA := Lib.hid (fun v => awakeZ_any v)
  have H1 := Lib.hid (fun v => value_any (⟨0, 7, y, add⟩ : Rl) 5 9 v)
  have H2 := Lib.hid (fun v => rbytes_any (⟨0, 7, y, add⟩ : Rl) v hwf)
  have H3 := Lib.hid (fun v => rfill_any (mkb (⟨0, 7, y, add⟩ : Rl).bytes) 40 v (by decide) (by rw [mkb_size, Rl.bytes_length]; decide) (by decide))
  rw [fillK] at H3
  have hvs := viewK_size (⟨0, 7, y, add⟩ : Rl)
  have H6 := Lib.hid (fun v => read_anyZ (viewK (⟨0, 7, y, add⟩ : Rl)) (dR 0 24) (.slice none 0 0) v (dR_wf (by decide) (by decide)) (by rw [hvs]; decide))
  rw [dR_cs, show (dR 0 24).f 5 = 0 from rfl, show (dR 0 24).f 6 = 24 from rfl] at H6
  rw [hE] at H6
  unfold RelET at H6
  have H4 := Lib.hid (fun v => asks_any (⟨0, 7, y, add⟩ : Rl) v)
  have H5 := Lib.hid (fun v => shift_any (⟨0, 7, y, add⟩ : Rl) v)
  have hkn : (⟨0, 7, y, add⟩ : Rl).known = true := rfl
  have hak : (⟨0, 7, y, add⟩ : Rl).asks = true := rfl
  rw [hkn] at H1 H5
  rw [hak] at H4
  rw [if_pos rfl] at H5
  generalize (⟨0, 7, y, add⟩ : Rl).val 5 9 = va at *
  generalize mkb (⟨0, 7, y, add⟩ : Rl).bytes = BY at *
  generalize viewK (⟨0, 7, y, add⟩ : Rl) = V at *
  generalize relL V 0 24 = L at *
  generalize L.length = NL at *
  clear hkn hak hwf hvs wk wa
  unfold Rl.cs at *
  simp only at *
  have hbd : ∀ (w : World), (Instr.build 37 #[(6, .int .i64 24)]).run Try.prog w = .ok (.agg #[.slice none 0 0, .int .i64 0, .int .i64 0, .int .i64 0, .int .i64 0, .int .i64 0, .int .i64 24, .int .i64 0, .int .i64 0]) w := fun w => run_build w 37 _ _ (by kernel_rfl)
  go_enter Try.func8, Try.ntmps8
  go_upto_region 4 with (go_at_call 9; refine (HA.out _).mono ?_; rintro e v1 ⟨rfl, hb1⟩)
  have HK1 := Lib.hid (show Kd w v1.heap.size #[.int .i64 0, .int .i64 7, .int .i64 y, .int .i64 add] (v1.alloc (.cells #[.int .i64 0, .int .i64 7, .int .i64 y, .int .i64 add] 23)) from ⟨Blk.new _ _ _, hb1.alloc hb1.size _, hb1.size⟩)
  clear hb1 HA
  go_upto_region 5 with fail
  generalize v1.alloc (.cells #[.int .i64 0, .int .i64 7, .int .i64 y, .int .i64 add] 23) = v2 at *
  generalize v1.heap.size = G at *
  have c0 : v2.cell? ⟨G, 0, none⟩ = some (.int .i64 0) := HK1.out.k.at_ 0 _ rfl; have c1 : v2.cell? ⟨G, 1, none⟩ = some (.int .i64 7) := HK1.out.k.at_ 1 _ rfl; have c2 : v2.cell? ⟨G, 2, none⟩ = some (.int .i64 y) := HK1.out.k.at_ 2 _ rfl; have c3 : v2.cell? ⟨G, 3, none⟩ = some (.int .i64 add) := HK1.out.k.at_ 3 _ rfl
  go_upto_region 6 with (go_at_call 10; refine (H1.out _).mono ?_; rintro e v3 ⟨rfl, hb3⟩; have HK3 := Lib.hid (HK1.out.below hb3); clear hb3)
  clear c0 c1 c2 c3 HK1 H1
  have c0 : v3.cell? ⟨G, 0, none⟩ = some (.int .i64 0) := HK3.out.k.at_ 0 _ rfl; have c1 : v3.cell? ⟨G, 1, none⟩ = some (.int .i64 7) := HK3.out.k.at_ 1 _ rfl; have c2 : v3.cell? ⟨G, 2, none⟩ = some (.int .i64 y) := HK3.out.k.at_ 2 _ rfl; have c3 : v3.cell? ⟨G, 3, none⟩ = some (.int .i64 add) := HK3.out.k.at_ 3 _ rfl
  go_upto_region 7 with (first
    | (go_at_call 12; refine (H2.out _).mono ?_; rintro e v4 ⟨rfl, hb4⟩; have HK4 := Lib.hid (HK3.out.below hb4); clear hb4)
    | (go_at_call 17; refine (H3.out _).mono ?_; rintro e v5 ⟨rfl, hb5⟩; have HK5 := Lib.hid (HK4.out.below hb5); clear hb5)
    | (go_at_call 18; refine (H6.out _).mono ?_; rintro e v6 ⟨A1, k1, rfl, -, hb6⟩; have HK6 := Lib.hid (HK5.out.below hb6); clear hb6))
  clear c0 c1 c2 c3 HK3 H2 H3 H6
  have c0 : v6.cell? ⟨G, 0, none⟩ = some (.int .i64 0) := HK6.out.k.at_ 0 _ rfl; have c1 : v6.cell? ⟨G, 1, none⟩ = some (.int .i64 7) := HK6.out.k.at_ 1 _ rfl; have c2 : v6.cell? ⟨G, 2, none⟩ = some (.int .i64 y) := HK6.out.k.at_ 2 _ rfl; have c3 : v6.cell? ⟨G, 3, none⟩ = some (.int .i64 add) := HK6.out.k.at_ 3 _ rfl
  go_wp2_with (first
    | (go_at_call 14; refine (H4.out _).mono ?_; rintro e v7 ⟨rfl, hb7⟩; have HK7 := Lib.hid (HK6.out.below hb7); clear hb7 c0 c1 c2 c3; have c0 : v7.cell? ⟨G, 0, none⟩ = some (.int .i64 0) := HK7.out.k.at_ 0 _ rfl; have c1 : v7.cell? ⟨G, 1, none⟩ = some (.int .i64 7) := HK7.out.k.at_ 1 _ rfl; have c2 : v7.cell? ⟨G, 2, none⟩ = some (.int .i64 y) := HK7.out.k.at_ 2 _ rfl; have c3 : v7.cell? ⟨G, 3, none⟩ = some (.int .i64 add) := HK7.out.k.at_ 3 _ rfl)
    | (go_at_call 16; refine (H5.out _).mono ?_; rintro e v8 ⟨rfl, hb8⟩; have HK8 := Lib.hid (HK7.out.below hb8); clear hb8))
  go_ret
  exact ⟨by first | rfl | simp, HK8.out.b⟩

set_option maxRecDepth 100000 in
set_option maxHeartbeats 1600000 in
theorem k8z (symbol add : Int) (w : World) (hy : symbol % 4 = 0) (wk : (Lit.int .i64 8).wf = true) (wa : (Lit.int .i64 add).wf = true) :
    Calls Try.prog 8 #[.int .i64 8, .int .i64 symbol, .int .i64 add] w fun e w' => e = .returned (.bool true) ∧ Below w.heap.size w w' := by
  have hy2 := i64_and2 symbol
  have hyb : 0 ≤ 0 ∧ 0 ≤ 3 := by omega
  rw [hy] at hy2
  have hwf : (⟨0, 8, 0, add⟩ : Rl).wf := ⟨(by decide : (Lit.int .i64 0).wf = true), wk, (WalkArith.wf_i64 (by omega) : (Lit.int .i64 0).wf = true), wa⟩
  have hE : relE (viewK (⟨0, 8, 0, add⟩ : Rl)) 0 24 = 0 := (kind_read (⟨0, 8, 0, add⟩ : Rl) (⟨Int.le_refl _, show (0 : Int) ≤ 9223372036854775807 by decide, show (0 : Int) ≤ 8 by decide, show (8 : Int) < 4294967296 by decide, show (0 : Int) ≤ 0 by omega, show 0 < (4294967296 : Int) by omega, wa⟩) rfl).trans (by rfl)
  have HA := Lib.hid (fun v => awakeZ_any v)
  have H1 := Lib.hid (fun v => value_any (⟨0, 8, 0, add⟩ : Rl) 5 9 v)
  have H2 := Lib.hid (fun v => rbytes_any (⟨0, 8, 0, add⟩ : Rl) v hwf)
  have H3 := Lib.hid (fun v => rfill_any (mkb (⟨0, 8, 0, add⟩ : Rl).bytes) 40 v (by decide) (by rw [mkb_size, Rl.bytes_length]; decide) (by decide))
  rw [fillK] at H3
  have hvs := viewK_size (⟨0, 8, 0, add⟩ : Rl)
  have H6 := Lib.hid (fun v => read_anyZ (viewK (⟨0, 8, 0, add⟩ : Rl)) (dR 0 24) (.slice none 0 0) v (dR_wf (by decide) (by decide)) (by rw [hvs]; decide))
  rw [dR_cs, show (dR 0 24).f 5 = 0 from rfl, show (dR 0 24).f 6 = 24 from rfl] at H6
  rw [hE] at H6
  unfold RelET at H6
  have H4 := Lib.hid (fun v => asks_any (⟨0, 8, 0, add⟩ : Rl) v)
  have H5 := Lib.hid (fun v => shift_any (⟨0, 8, 0, add⟩ : Rl) v)
  have hkn : (⟨0, 8, 0, add⟩ : Rl).known = true := rfl
  have hak : (⟨0, 8, 0, add⟩ : Rl).asks = false := rfl
  rw [hkn] at H1 H5
  rw [hak] at H4
  rw [if_pos rfl] at H5
  generalize (⟨0, 8, 0, add⟩ : Rl).val 5 9 = va at *
  generalize mkb (⟨0, 8, 0, add⟩ : Rl).bytes = BY at *
  generalize viewK (⟨0, 8, 0, add⟩ : Rl) = V at *
  generalize relL V 0 24 = L at *
  generalize L.length = NL at *
  clear hkn hak hwf hvs wk wa
  unfold Rl.cs at *
  simp only at *
  have hbd : ∀ (w : World), (Instr.build 37 #[(6, .int .i64 24)]).run Try.prog w = .ok (.agg #[.slice none 0 0, .int .i64 0, .int .i64 0, .int .i64 0, .int .i64 0, .int .i64 0, .int .i64 24, .int .i64 0, .int .i64 0]) w := fun w => run_build w 37 _ _ (by kernel_rfl)
  go_enter Try.func8, Try.ntmps8
  go_upto_region 4 with (go_at_call 9; refine (HA.out _).mono ?_; rintro e v1 ⟨rfl, hb1⟩)
  have HK1 := Lib.hid (show Kd w v1.heap.size #[.int .i64 0, .int .i64 8, .int .i64 0, .int .i64 add] (v1.alloc (.cells #[.int .i64 0, .int .i64 8, .int .i64 0, .int .i64 add] 23)) from ⟨Blk.new _ _ _, hb1.alloc hb1.size _, hb1.size⟩)
  clear hb1 HA
  go_upto_region 5 with fail
  generalize v1.alloc (.cells #[.int .i64 0, .int .i64 8, .int .i64 0, .int .i64 add] 23) = v2 at *
  generalize v1.heap.size = G at *
  have c0 : v2.cell? ⟨G, 0, none⟩ = some (.int .i64 0) := HK1.out.k.at_ 0 _ rfl; have c1 : v2.cell? ⟨G, 1, none⟩ = some (.int .i64 8) := HK1.out.k.at_ 1 _ rfl; have c2 : v2.cell? ⟨G, 2, none⟩ = some (.int .i64 0) := HK1.out.k.at_ 2 _ rfl; have c3 : v2.cell? ⟨G, 3, none⟩ = some (.int .i64 add) := HK1.out.k.at_ 3 _ rfl
  go_upto_region 6 with (go_at_call 10; refine (H1.out _).mono ?_; rintro e v3 ⟨rfl, hb3⟩; have HK3 := Lib.hid (HK1.out.below hb3); clear hb3)
  clear c0 c1 c2 c3 HK1 H1
  have c0 : v3.cell? ⟨G, 0, none⟩ = some (.int .i64 0) := HK3.out.k.at_ 0 _ rfl; have c1 : v3.cell? ⟨G, 1, none⟩ = some (.int .i64 8) := HK3.out.k.at_ 1 _ rfl; have c2 : v3.cell? ⟨G, 2, none⟩ = some (.int .i64 0) := HK3.out.k.at_ 2 _ rfl; have c3 : v3.cell? ⟨G, 3, none⟩ = some (.int .i64 add) := HK3.out.k.at_ 3 _ rfl
  go_upto_region 7 with (first
    | (go_at_call 12; refine (H2.out _).mono ?_; rintro e v4 ⟨rfl, hb4⟩; have HK4 := Lib.hid (HK3.out.below hb4); clear hb4)
    | (go_at_call 17; refine (H3.out _).mono ?_; rintro e v5 ⟨rfl, hb5⟩; have HK5 := Lib.hid (HK4.out.below hb5); clear hb5)
    | (go_at_call 18; refine (H6.out _).mono ?_; rintro e v6 ⟨A1, k1, rfl, -, hb6⟩; have HK6 := Lib.hid (HK5.out.below hb6); clear hb6))
  clear c0 c1 c2 c3 HK3 H2 H3 H6
  have c0 : v6.cell? ⟨G, 0, none⟩ = some (.int .i64 0) := HK6.out.k.at_ 0 _ rfl; have c1 : v6.cell? ⟨G, 1, none⟩ = some (.int .i64 8) := HK6.out.k.at_ 1 _ rfl; have c2 : v6.cell? ⟨G, 2, none⟩ = some (.int .i64 0) := HK6.out.k.at_ 2 _ rfl; have c3 : v6.cell? ⟨G, 3, none⟩ = some (.int .i64 add) := HK6.out.k.at_ 3 _ rfl
  go_wp2_with (first
    | (go_at_call 14; refine (H4.out _).mono ?_; rintro e v7 ⟨rfl, hb7⟩; have HK7 := Lib.hid (HK6.out.below hb7); clear hb7 c0 c1 c2 c3; have c0 : v7.cell? ⟨G, 0, none⟩ = some (.int .i64 0) := HK7.out.k.at_ 0 _ rfl; have c1 : v7.cell? ⟨G, 1, none⟩ = some (.int .i64 8) := HK7.out.k.at_ 1 _ rfl; have c2 : v7.cell? ⟨G, 2, none⟩ = some (.int .i64 0) := HK7.out.k.at_ 2 _ rfl; have c3 : v7.cell? ⟨G, 3, none⟩ = some (.int .i64 add) := HK7.out.k.at_ 3 _ rfl)
    | (go_at_call 16; refine (H5.out _).mono ?_; rintro e v8 ⟨rfl, hb8⟩; have HK8 := Lib.hid (HK7.out.below hb8); clear hb8))
  go_ret
  exact ⟨by first | rfl | simp, HK8.out.b⟩

set_option maxRecDepth 100000 in
set_option maxHeartbeats 1600000 in
theorem k8p (symbol add y : Int) (w : World) (hy : symbol % 4 = y) (wk : (Lit.int .i64 8).wf = true) (wa : (Lit.int .i64 add).wf = true) (hpos : 0 < y) :
    Calls Try.prog 8 #[.int .i64 8, .int .i64 symbol, .int .i64 add] w fun e w' => e = .returned (.bool true) ∧ Below w.heap.size w w' := by
  have hy2 := i64_and2 symbol
  have hyb : 0 ≤ y ∧ y ≤ 3 := by omega
  rw [hy] at hy2
  have hwf : (⟨0, 8, y, add⟩ : Rl).wf := ⟨(by decide : (Lit.int .i64 0).wf = true), wk, (WalkArith.wf_i64 (by omega) : (Lit.int .i64 y).wf = true), wa⟩
  have hE : relE (viewK (⟨0, 8, y, add⟩ : Rl)) 0 24 = 17 := (kind_read (⟨0, 8, y, add⟩ : Rl) (⟨Int.le_refl _, show (0 : Int) ≤ 9223372036854775807 by decide, show (0 : Int) ≤ 8 by decide, show (8 : Int) < 4294967296 by decide, show (0 : Int) ≤ y by omega, show y < (4294967296 : Int) by omega, wa⟩) rfl).trans (by rw [if_pos rfl]; exact if_neg (by simp; omega))
  have hpd : decide (0 < y) = true := decide_eq_true hpos
  have hpz : (y == 0) = false := by simp; omega
  have HA := Lib.hid (fun v => awakeZ_any v)
  have H1 := Lib.hid (fun v => value_any (⟨0, 8, y, add⟩ : Rl) 5 9 v)
  have H2 := Lib.hid (fun v => rbytes_any (⟨0, 8, y, add⟩ : Rl) v hwf)
  have H3 := Lib.hid (fun v => rfill_any (mkb (⟨0, 8, y, add⟩ : Rl).bytes) 40 v (by decide) (by rw [mkb_size, Rl.bytes_length]; decide) (by decide))
  rw [fillK] at H3
  have hvs := viewK_size (⟨0, 8, y, add⟩ : Rl)
  have H6 := Lib.hid (fun v => read_anyZ (viewK (⟨0, 8, y, add⟩ : Rl)) (dR 0 24) (.slice none 0 0) v (dR_wf (by decide) (by decide)) (by rw [hvs]; decide))
  rw [dR_cs, show (dR 0 24).f 5 = 0 from rfl, show (dR 0 24).f 6 = 24 from rfl] at H6
  rw [hE] at H6
  unfold RelET at H6
  have H4 := Lib.hid (fun v => asks_any (⟨0, 8, y, add⟩ : Rl) v)
  have H5 := Lib.hid (fun v => shift_any (⟨0, 8, y, add⟩ : Rl) v)
  have hkn : (⟨0, 8, y, add⟩ : Rl).known = true := rfl
  have hak : (⟨0, 8, y, add⟩ : Rl).asks = false := rfl
  rw [hkn] at H1 H5
  rw [hak] at H4
  rw [if_pos rfl] at H5
  generalize (⟨0, 8, y, add⟩ : Rl).val 5 9 = va at *
  generalize mkb (⟨0, 8, y, add⟩ : Rl).bytes = BY at *
  generalize viewK (⟨0, 8, y, add⟩ : Rl) = V at *
  generalize relL V 0 24 = L at *
  generalize L.length = NL at *
  clear hkn hak hwf hvs wk wa
  unfold Rl.cs at *
  simp only at *
  have hbd : ∀ (w : World), (Instr.build 37 #[(6, .int .i64 24)]).run Try.prog w = .ok (.agg #[.slice none 0 0, .int .i64 0, .int .i64 0, .int .i64 0, .int .i64 0, .int .i64 0, .int .i64 24, .int .i64 0, .int .i64 0]) w := fun w => run_build w 37 _ _ (by kernel_rfl)
  go_enter Try.func8, Try.ntmps8
  go_upto_region 4 with (go_at_call 9; refine (HA.out _).mono ?_; rintro e v1 ⟨rfl, hb1⟩)
  have HK1 := Lib.hid (show Kd w v1.heap.size #[.int .i64 0, .int .i64 8, .int .i64 y, .int .i64 add] (v1.alloc (.cells #[.int .i64 0, .int .i64 8, .int .i64 y, .int .i64 add] 23)) from ⟨Blk.new _ _ _, hb1.alloc hb1.size _, hb1.size⟩)
  clear hb1 HA
  go_upto_region 5 with fail
  generalize v1.alloc (.cells #[.int .i64 0, .int .i64 8, .int .i64 y, .int .i64 add] 23) = v2 at *
  generalize v1.heap.size = G at *
  have c0 : v2.cell? ⟨G, 0, none⟩ = some (.int .i64 0) := HK1.out.k.at_ 0 _ rfl; have c1 : v2.cell? ⟨G, 1, none⟩ = some (.int .i64 8) := HK1.out.k.at_ 1 _ rfl; have c2 : v2.cell? ⟨G, 2, none⟩ = some (.int .i64 y) := HK1.out.k.at_ 2 _ rfl; have c3 : v2.cell? ⟨G, 3, none⟩ = some (.int .i64 add) := HK1.out.k.at_ 3 _ rfl
  go_upto_region 6 with (go_at_call 10; refine (H1.out _).mono ?_; rintro e v3 ⟨rfl, hb3⟩; have HK3 := Lib.hid (HK1.out.below hb3); clear hb3)
  clear c0 c1 c2 c3 HK1 H1
  have c0 : v3.cell? ⟨G, 0, none⟩ = some (.int .i64 0) := HK3.out.k.at_ 0 _ rfl; have c1 : v3.cell? ⟨G, 1, none⟩ = some (.int .i64 8) := HK3.out.k.at_ 1 _ rfl; have c2 : v3.cell? ⟨G, 2, none⟩ = some (.int .i64 y) := HK3.out.k.at_ 2 _ rfl; have c3 : v3.cell? ⟨G, 3, none⟩ = some (.int .i64 add) := HK3.out.k.at_ 3 _ rfl
  go_upto_region 7 with (first
    | (go_at_call 12; refine (H2.out _).mono ?_; rintro e v4 ⟨rfl, hb4⟩; have HK4 := Lib.hid (HK3.out.below hb4); clear hb4)
    | (go_at_call 17; refine (H3.out _).mono ?_; rintro e v5 ⟨rfl, hb5⟩; have HK5 := Lib.hid (HK4.out.below hb5); clear hb5)
    | (go_at_call 18; refine (H6.out _).mono ?_; rintro e v6 ⟨A1, k1, rfl, -, hb6⟩; have HK6 := Lib.hid (HK5.out.below hb6); clear hb6))
  clear c0 c1 c2 c3 HK3 H2 H3 H6
  have c0 : v6.cell? ⟨G, 0, none⟩ = some (.int .i64 0) := HK6.out.k.at_ 0 _ rfl; have c1 : v6.cell? ⟨G, 1, none⟩ = some (.int .i64 8) := HK6.out.k.at_ 1 _ rfl; have c2 : v6.cell? ⟨G, 2, none⟩ = some (.int .i64 y) := HK6.out.k.at_ 2 _ rfl; have c3 : v6.cell? ⟨G, 3, none⟩ = some (.int .i64 add) := HK6.out.k.at_ 3 _ rfl
  go_wp2_with (first
    | (go_at_call 14; refine (H4.out _).mono ?_; rintro e v7 ⟨rfl, hb7⟩; have HK7 := Lib.hid (HK6.out.below hb7); clear hb7 c0 c1 c2 c3; have c0 : v7.cell? ⟨G, 0, none⟩ = some (.int .i64 0) := HK7.out.k.at_ 0 _ rfl; have c1 : v7.cell? ⟨G, 1, none⟩ = some (.int .i64 8) := HK7.out.k.at_ 1 _ rfl; have c2 : v7.cell? ⟨G, 2, none⟩ = some (.int .i64 y) := HK7.out.k.at_ 2 _ rfl; have c3 : v7.cell? ⟨G, 3, none⟩ = some (.int .i64 add) := HK7.out.k.at_ 3 _ rfl)
    | (go_at_call 16; refine (H5.out _).mono ?_; rintro e v8 ⟨rfl, hb8⟩; have HK8 := Lib.hid (HK7.out.below hb8); clear hb8))
  go_ret
  exact ⟨by first | rfl | simp, HK8.out.b⟩

set_option maxRecDepth 100000 in
set_option maxHeartbeats 1600000 in
theorem ko (symbol add kind y : Int) (w : World) (hy : symbol % 4 = y) (wk : (Lit.int .i64 kind).wf = true) (wa : (Lit.int .i64 add).wf = true) (h1 : (kind == 1) = false) (h6 : (kind == 6) = false) (h7 : (kind == 7) = false) (h8 : (kind == 8) = false) (hk0 : 0 ≤ kind) (hk1 : kind ≤ 2147483648) :
    Calls Try.prog 8 #[.int .i64 kind, .int .i64 symbol, .int .i64 add] w fun e w' => e = .returned (.bool true) ∧ Below w.heap.size w w' := by
  have hy2 := i64_and2 symbol
  have hyb : 0 ≤ y ∧ y ≤ 3 := by omega
  rw [hy] at hy2
  have hwf : (⟨0, kind, y, add⟩ : Rl).wf := ⟨(by decide : (Lit.int .i64 0).wf = true), wk, (WalkArith.wf_i64 (by omega) : (Lit.int .i64 y).wf = true), wa⟩
  have hE : relE (viewK (⟨0, kind, y, add⟩ : Rl)) 0 24 = 17 := (kind_read (⟨0, kind, y, add⟩ : Rl) (⟨Int.le_refl _, show (0 : Int) ≤ 9223372036854775807 by decide, hk0, show kind < (4294967296 : Int) by omega, show (0 : Int) ≤ y by omega, show y < (4294967296 : Int) by omega, wa⟩) rfl).trans (by rw [if_neg (show ¬ kind = 8 from fun h => by rw [h] at h8; exact absurd h8 (by decide)), show (⟨0, kind, y, add⟩ : Rl).asks = false from (by unfold Rl.asks; simp only [h1, h6, h7]; rfl), Bool.false_and]; rfl)
  have HA := Lib.hid (fun v => awakeZ_any v)
  have H1 := Lib.hid (fun v => value_any (⟨0, kind, y, add⟩ : Rl) 5 9 v)
  have H2 := Lib.hid (fun v => rbytes_any (⟨0, kind, y, add⟩ : Rl) v hwf)
  have H3 := Lib.hid (fun v => rfill_any (mkb (⟨0, kind, y, add⟩ : Rl).bytes) 40 v (by decide) (by rw [mkb_size, Rl.bytes_length]; decide) (by decide))
  rw [fillK] at H3
  have hvs := viewK_size (⟨0, kind, y, add⟩ : Rl)
  have H6 := Lib.hid (fun v => read_anyZ (viewK (⟨0, kind, y, add⟩ : Rl)) (dR 0 24) (.slice none 0 0) v (dR_wf (by decide) (by decide)) (by rw [hvs]; decide))
  rw [dR_cs, show (dR 0 24).f 5 = 0 from rfl, show (dR 0 24).f 6 = 24 from rfl] at H6
  rw [hE] at H6
  unfold RelET at H6
  have H4 := Lib.hid (fun v => asks_any (⟨0, kind, y, add⟩ : Rl) v)
  have H5 := Lib.hid (fun v => shift_any (⟨0, kind, y, add⟩ : Rl) v)
  have hkn : (⟨0, kind, y, add⟩ : Rl).known = false := by unfold Rl.known Rl.asks; simp only [h1, h6, h7, h8]; rfl
  have hak : (⟨0, kind, y, add⟩ : Rl).asks = false := by unfold Rl.asks; simp only [h1, h6, h7]; rfl
  rw [hkn] at H1 H5
  rw [hak] at H4
  rw [if_neg (by simp)] at H5
  generalize (⟨0, kind, y, add⟩ : Rl).val 5 9 = va at *
  generalize mkb (⟨0, kind, y, add⟩ : Rl).bytes = BY at *
  generalize viewK (⟨0, kind, y, add⟩ : Rl) = V at *
  generalize relL V 0 24 = L at *
  generalize L.length = NL at *
  clear hkn hak hwf hvs wk wa
  unfold Rl.cs at *
  simp only at *
  have hbd : ∀ (w : World), (Instr.build 37 #[(6, .int .i64 24)]).run Try.prog w = .ok (.agg #[.slice none 0 0, .int .i64 0, .int .i64 0, .int .i64 0, .int .i64 0, .int .i64 0, .int .i64 24, .int .i64 0, .int .i64 0]) w := fun w => run_build w 37 _ _ (by kernel_rfl)
  go_enter Try.func8, Try.ntmps8
  go_upto_region 4 with (go_at_call 9; refine (HA.out _).mono ?_; rintro e v1 ⟨rfl, hb1⟩)
  have HK1 := Lib.hid (show Kd w v1.heap.size #[.int .i64 0, .int .i64 kind, .int .i64 y, .int .i64 add] (v1.alloc (.cells #[.int .i64 0, .int .i64 kind, .int .i64 y, .int .i64 add] 23)) from ⟨Blk.new _ _ _, hb1.alloc hb1.size _, hb1.size⟩)
  clear hb1 HA
  go_upto_region 5 with fail
  generalize v1.alloc (.cells #[.int .i64 0, .int .i64 kind, .int .i64 y, .int .i64 add] 23) = v2 at *
  generalize v1.heap.size = G at *
  have c0 : v2.cell? ⟨G, 0, none⟩ = some (.int .i64 0) := HK1.out.k.at_ 0 _ rfl; have c1 : v2.cell? ⟨G, 1, none⟩ = some (.int .i64 kind) := HK1.out.k.at_ 1 _ rfl; have c2 : v2.cell? ⟨G, 2, none⟩ = some (.int .i64 y) := HK1.out.k.at_ 2 _ rfl; have c3 : v2.cell? ⟨G, 3, none⟩ = some (.int .i64 add) := HK1.out.k.at_ 3 _ rfl
  go_upto_region 6 with (go_at_call 10; refine (H1.out _).mono ?_; rintro e v3 ⟨rfl, hb3⟩; have HK3 := Lib.hid (HK1.out.below hb3); clear hb3)
  clear c0 c1 c2 c3 HK1 H1
  have c0 : v3.cell? ⟨G, 0, none⟩ = some (.int .i64 0) := HK3.out.k.at_ 0 _ rfl; have c1 : v3.cell? ⟨G, 1, none⟩ = some (.int .i64 kind) := HK3.out.k.at_ 1 _ rfl; have c2 : v3.cell? ⟨G, 2, none⟩ = some (.int .i64 y) := HK3.out.k.at_ 2 _ rfl; have c3 : v3.cell? ⟨G, 3, none⟩ = some (.int .i64 add) := HK3.out.k.at_ 3 _ rfl
  go_upto_region 7 with (first
    | (go_at_call 12; refine (H2.out _).mono ?_; rintro e v4 ⟨rfl, hb4⟩; have HK4 := Lib.hid (HK3.out.below hb4); clear hb4)
    | (go_at_call 17; refine (H3.out _).mono ?_; rintro e v5 ⟨rfl, hb5⟩; have HK5 := Lib.hid (HK4.out.below hb5); clear hb5)
    | (go_at_call 18; refine (H6.out _).mono ?_; rintro e v6 ⟨A1, k1, rfl, -, hb6⟩; have HK6 := Lib.hid (HK5.out.below hb6); clear hb6))
  clear c0 c1 c2 c3 HK3 H2 H3 H6
  have c0 : v6.cell? ⟨G, 0, none⟩ = some (.int .i64 0) := HK6.out.k.at_ 0 _ rfl; have c1 : v6.cell? ⟨G, 1, none⟩ = some (.int .i64 kind) := HK6.out.k.at_ 1 _ rfl; have c2 : v6.cell? ⟨G, 2, none⟩ = some (.int .i64 y) := HK6.out.k.at_ 2 _ rfl; have c3 : v6.cell? ⟨G, 3, none⟩ = some (.int .i64 add) := HK6.out.k.at_ 3 _ rfl
  go_wp2_with (first
    | (go_at_call 14; refine (H4.out _).mono ?_; rintro e v7 ⟨rfl, hb7⟩; have HK7 := Lib.hid (HK6.out.below hb7); clear hb7 c0 c1 c2 c3; have c0 : v7.cell? ⟨G, 0, none⟩ = some (.int .i64 0) := HK7.out.k.at_ 0 _ rfl; have c1 : v7.cell? ⟨G, 1, none⟩ = some (.int .i64 kind) := HK7.out.k.at_ 1 _ rfl; have c2 : v7.cell? ⟨G, 2, none⟩ = some (.int .i64 y) := HK7.out.k.at_ 2 _ rfl; have c3 : v7.cell? ⟨G, 3, none⟩ = some (.int .i64 add) := HK7.out.k.at_ 3 _ rfl)
    | (go_at_call 16; refine (H5.out _).mono ?_; rintro e v8 ⟨rfl, hb8⟩; have HK8 := Lib.hid (HK7.out.below hb8); clear hb8))
  go_ret
  exact ⟨by first | rfl | simp, HK8.out.b⟩

set_option maxRecDepth 100000 in
set_option maxHeartbeats 1600000 in
theorem kx (symbol add kind y : Int) (w : World) (hy : symbol % 4 = y) (wk : (Lit.int .i64 kind).wf = true) (wa : (Lit.int .i64 add).wf = true) (h1 : (kind == 1) = false) (h6 : (kind == 6) = false) (h7 : (kind == 7) = false) (h8 : (kind == 8) = false) (hx : kind < 0) :
    Calls Try.prog 8 #[.int .i64 kind, .int .i64 symbol, .int .i64 add] w fun e w' => e = .returned (.bool true) ∧ Below w.heap.size w w' := by
  have hy2 := i64_and2 symbol
  have hyb : 0 ≤ y ∧ y ≤ 3 := by omega
  rw [hy] at hy2
  have hwf : (⟨0, kind, y, add⟩ : Rl).wf := ⟨(by decide : (Lit.int .i64 0).wf = true), wk, (WalkArith.wf_i64 (by omega) : (Lit.int .i64 y).wf = true), wa⟩
  have HA := Lib.hid (fun v => awakeZ_any v)
  have H1 := Lib.hid (fun v => value_any (⟨0, kind, y, add⟩ : Rl) 5 9 v)
  have H2 := Lib.hid (fun v => rbytes_any (⟨0, kind, y, add⟩ : Rl) v hwf)
  have H3 := Lib.hid (fun v => rfill_any (mkb (⟨0, kind, y, add⟩ : Rl).bytes) 40 v (by decide) (by rw [mkb_size, Rl.bytes_length]; decide) (by decide))
  rw [fillK] at H3
  have hvs := viewK_size (⟨0, kind, y, add⟩ : Rl)
  have H6 := Lib.hid (fun v => read_anyZ (viewK (⟨0, kind, y, add⟩ : Rl)) (dR 0 24) (.slice none 0 0) v (dR_wf (by decide) (by decide)) (by rw [hvs]; decide))
  rw [dR_cs, show (dR 0 24).f 5 = 0 from rfl, show (dR 0 24).f 6 = 24 from rfl] at H6
  unfold RelET at H6
  have H4 := Lib.hid (fun v => asks_any (⟨0, kind, y, add⟩ : Rl) v)
  have H5 := Lib.hid (fun v => shift_any (⟨0, kind, y, add⟩ : Rl) v)
  have hkn : (⟨0, kind, y, add⟩ : Rl).known = false := by unfold Rl.known Rl.asks; simp only [h1, h6, h7, h8]; rfl
  have hak : (⟨0, kind, y, add⟩ : Rl).asks = false := by unfold Rl.asks; simp only [h1, h6, h7]; rfl
  rw [hkn] at H1 H5
  rw [hak] at H4
  rw [if_neg (by simp)] at H5
  generalize (⟨0, kind, y, add⟩ : Rl).val 5 9 = va at *
  generalize mkb (⟨0, kind, y, add⟩ : Rl).bytes = BY at *
  generalize viewK (⟨0, kind, y, add⟩ : Rl) = V at *
  generalize relL V 0 24 = L at *
  generalize relE V 0 24 = E at *
  generalize L.length = NL at *
  clear hkn hak hwf hvs wk wa
  unfold Rl.cs at *
  simp only at *
  have hbd : ∀ (w : World), (Instr.build 37 #[(6, .int .i64 24)]).run Try.prog w = .ok (.agg #[.slice none 0 0, .int .i64 0, .int .i64 0, .int .i64 0, .int .i64 0, .int .i64 0, .int .i64 24, .int .i64 0, .int .i64 0]) w := fun w => run_build w 37 _ _ (by kernel_rfl)
  go_enter Try.func8, Try.ntmps8
  go_upto_region 4 with (go_at_call 9; refine (HA.out _).mono ?_; rintro e v1 ⟨rfl, hb1⟩)
  have HK1 := Lib.hid (show Kd w v1.heap.size #[.int .i64 0, .int .i64 kind, .int .i64 y, .int .i64 add] (v1.alloc (.cells #[.int .i64 0, .int .i64 kind, .int .i64 y, .int .i64 add] 23)) from ⟨Blk.new _ _ _, hb1.alloc hb1.size _, hb1.size⟩)
  clear hb1 HA
  go_upto_region 5 with fail
  generalize v1.alloc (.cells #[.int .i64 0, .int .i64 kind, .int .i64 y, .int .i64 add] 23) = v2 at *
  generalize v1.heap.size = G at *
  have c0 : v2.cell? ⟨G, 0, none⟩ = some (.int .i64 0) := HK1.out.k.at_ 0 _ rfl; have c1 : v2.cell? ⟨G, 1, none⟩ = some (.int .i64 kind) := HK1.out.k.at_ 1 _ rfl; have c2 : v2.cell? ⟨G, 2, none⟩ = some (.int .i64 y) := HK1.out.k.at_ 2 _ rfl; have c3 : v2.cell? ⟨G, 3, none⟩ = some (.int .i64 add) := HK1.out.k.at_ 3 _ rfl
  go_upto_region 6 with (go_at_call 10; refine (H1.out _).mono ?_; rintro e v3 ⟨rfl, hb3⟩; have HK3 := Lib.hid (HK1.out.below hb3); clear hb3)
  clear c0 c1 c2 c3 HK1 H1
  have c0 : v3.cell? ⟨G, 0, none⟩ = some (.int .i64 0) := HK3.out.k.at_ 0 _ rfl; have c1 : v3.cell? ⟨G, 1, none⟩ = some (.int .i64 kind) := HK3.out.k.at_ 1 _ rfl; have c2 : v3.cell? ⟨G, 2, none⟩ = some (.int .i64 y) := HK3.out.k.at_ 2 _ rfl; have c3 : v3.cell? ⟨G, 3, none⟩ = some (.int .i64 add) := HK3.out.k.at_ 3 _ rfl
  go_upto_region 7 with (first
    | (go_at_call 12; refine (H2.out _).mono ?_; rintro e v4 ⟨rfl, hb4⟩; have HK4 := Lib.hid (HK3.out.below hb4); clear hb4)
    | (go_at_call 17; refine (H3.out _).mono ?_; rintro e v5 ⟨rfl, hb5⟩; have HK5 := Lib.hid (HK4.out.below hb5); clear hb5)
    | (go_at_call 18; refine (H6.out _).mono ?_; rintro e v6 ⟨A1, k1, rfl, -, hb6⟩; have HK6 := Lib.hid (HK5.out.below hb6); clear hb6))
  clear c0 c1 c2 c3 HK3 H2 H3 H6
  have c0 : v6.cell? ⟨G, 0, none⟩ = some (.int .i64 0) := HK6.out.k.at_ 0 _ rfl; have c1 : v6.cell? ⟨G, 1, none⟩ = some (.int .i64 kind) := HK6.out.k.at_ 1 _ rfl; have c2 : v6.cell? ⟨G, 2, none⟩ = some (.int .i64 y) := HK6.out.k.at_ 2 _ rfl; have c3 : v6.cell? ⟨G, 3, none⟩ = some (.int .i64 add) := HK6.out.k.at_ 3 _ rfl
  go_wp2
  go_ret
  exact ⟨rfl, HK6.out.b⟩

set_option maxRecDepth 100000 in
set_option maxHeartbeats 1600000 in
theorem ky (symbol add kind y : Int) (w : World) (hy : symbol % 4 = y) (wk : (Lit.int .i64 kind).wf = true) (wa : (Lit.int .i64 add).wf = true) (h1 : (kind == 1) = false) (h6 : (kind == 6) = false) (h7 : (kind == 7) = false) (h8 : (kind == 8) = false) (hx : 2147483648 < kind) :
    Calls Try.prog 8 #[.int .i64 kind, .int .i64 symbol, .int .i64 add] w fun e w' => e = .returned (.bool true) ∧ Below w.heap.size w w' := by
  have hy2 := i64_and2 symbol
  have hyb : 0 ≤ y ∧ y ≤ 3 := by omega
  rw [hy] at hy2
  have hwf : (⟨0, kind, y, add⟩ : Rl).wf := ⟨(by decide : (Lit.int .i64 0).wf = true), wk, (WalkArith.wf_i64 (by omega) : (Lit.int .i64 y).wf = true), wa⟩
  have HA := Lib.hid (fun v => awakeZ_any v)
  have H1 := Lib.hid (fun v => value_any (⟨0, kind, y, add⟩ : Rl) 5 9 v)
  have H2 := Lib.hid (fun v => rbytes_any (⟨0, kind, y, add⟩ : Rl) v hwf)
  have H3 := Lib.hid (fun v => rfill_any (mkb (⟨0, kind, y, add⟩ : Rl).bytes) 40 v (by decide) (by rw [mkb_size, Rl.bytes_length]; decide) (by decide))
  rw [fillK] at H3
  have hvs := viewK_size (⟨0, kind, y, add⟩ : Rl)
  have H6 := Lib.hid (fun v => read_anyZ (viewK (⟨0, kind, y, add⟩ : Rl)) (dR 0 24) (.slice none 0 0) v (dR_wf (by decide) (by decide)) (by rw [hvs]; decide))
  rw [dR_cs, show (dR 0 24).f 5 = 0 from rfl, show (dR 0 24).f 6 = 24 from rfl] at H6
  unfold RelET at H6
  have H4 := Lib.hid (fun v => asks_any (⟨0, kind, y, add⟩ : Rl) v)
  have H5 := Lib.hid (fun v => shift_any (⟨0, kind, y, add⟩ : Rl) v)
  have hkn : (⟨0, kind, y, add⟩ : Rl).known = false := by unfold Rl.known Rl.asks; simp only [h1, h6, h7, h8]; rfl
  have hak : (⟨0, kind, y, add⟩ : Rl).asks = false := by unfold Rl.asks; simp only [h1, h6, h7]; rfl
  rw [hkn] at H1 H5
  rw [hak] at H4
  rw [if_neg (by simp)] at H5
  generalize (⟨0, kind, y, add⟩ : Rl).val 5 9 = va at *
  generalize mkb (⟨0, kind, y, add⟩ : Rl).bytes = BY at *
  generalize viewK (⟨0, kind, y, add⟩ : Rl) = V at *
  generalize relL V 0 24 = L at *
  generalize relE V 0 24 = E at *
  generalize L.length = NL at *
  clear hkn hak hwf hvs wk wa
  unfold Rl.cs at *
  simp only at *
  have hbd : ∀ (w : World), (Instr.build 37 #[(6, .int .i64 24)]).run Try.prog w = .ok (.agg #[.slice none 0 0, .int .i64 0, .int .i64 0, .int .i64 0, .int .i64 0, .int .i64 0, .int .i64 24, .int .i64 0, .int .i64 0]) w := fun w => run_build w 37 _ _ (by kernel_rfl)
  go_enter Try.func8, Try.ntmps8
  go_upto_region 4 with (go_at_call 9; refine (HA.out _).mono ?_; rintro e v1 ⟨rfl, hb1⟩)
  have HK1 := Lib.hid (show Kd w v1.heap.size #[.int .i64 0, .int .i64 kind, .int .i64 y, .int .i64 add] (v1.alloc (.cells #[.int .i64 0, .int .i64 kind, .int .i64 y, .int .i64 add] 23)) from ⟨Blk.new _ _ _, hb1.alloc hb1.size _, hb1.size⟩)
  clear hb1 HA
  go_upto_region 5 with fail
  generalize v1.alloc (.cells #[.int .i64 0, .int .i64 kind, .int .i64 y, .int .i64 add] 23) = v2 at *
  generalize v1.heap.size = G at *
  have c0 : v2.cell? ⟨G, 0, none⟩ = some (.int .i64 0) := HK1.out.k.at_ 0 _ rfl; have c1 : v2.cell? ⟨G, 1, none⟩ = some (.int .i64 kind) := HK1.out.k.at_ 1 _ rfl; have c2 : v2.cell? ⟨G, 2, none⟩ = some (.int .i64 y) := HK1.out.k.at_ 2 _ rfl; have c3 : v2.cell? ⟨G, 3, none⟩ = some (.int .i64 add) := HK1.out.k.at_ 3 _ rfl
  go_upto_region 6 with (go_at_call 10; refine (H1.out _).mono ?_; rintro e v3 ⟨rfl, hb3⟩; have HK3 := Lib.hid (HK1.out.below hb3); clear hb3)
  clear c0 c1 c2 c3 HK1 H1
  have c0 : v3.cell? ⟨G, 0, none⟩ = some (.int .i64 0) := HK3.out.k.at_ 0 _ rfl; have c1 : v3.cell? ⟨G, 1, none⟩ = some (.int .i64 kind) := HK3.out.k.at_ 1 _ rfl; have c2 : v3.cell? ⟨G, 2, none⟩ = some (.int .i64 y) := HK3.out.k.at_ 2 _ rfl; have c3 : v3.cell? ⟨G, 3, none⟩ = some (.int .i64 add) := HK3.out.k.at_ 3 _ rfl
  go_upto_region 7 with (first
    | (go_at_call 12; refine (H2.out _).mono ?_; rintro e v4 ⟨rfl, hb4⟩; have HK4 := Lib.hid (HK3.out.below hb4); clear hb4)
    | (go_at_call 17; refine (H3.out _).mono ?_; rintro e v5 ⟨rfl, hb5⟩; have HK5 := Lib.hid (HK4.out.below hb5); clear hb5)
    | (go_at_call 18; refine (H6.out _).mono ?_; rintro e v6 ⟨A1, k1, rfl, -, hb6⟩; have HK6 := Lib.hid (HK5.out.below hb6); clear hb6))
  clear c0 c1 c2 c3 HK3 H2 H3 H6
  have c0 : v6.cell? ⟨G, 0, none⟩ = some (.int .i64 0) := HK6.out.k.at_ 0 _ rfl; have c1 : v6.cell? ⟨G, 1, none⟩ = some (.int .i64 kind) := HK6.out.k.at_ 1 _ rfl; have c2 : v6.cell? ⟨G, 2, none⟩ = some (.int .i64 y) := HK6.out.k.at_ 2 _ rfl; have c3 : v6.cell? ⟨G, 3, none⟩ = some (.int .i64 add) := HK6.out.k.at_ 3 _ rfl
  go_wp2
  go_ret
  exact ⟨rfl, HK6.out.b⟩

theorem walk (kind symbol add : Int) (w : World) (wk : (Lit.int .i64 kind).wf = true) (ws : (Lit.int .i64 symbol).wf = true) (wa : (Lit.int .i64 add).wf = true) :
    Calls Try.prog 8 #[.int .i64 kind, .int .i64 symbol, .int .i64 add] w fun e w' => e = .returned (.bool true) ∧ Below w.heap.size w w' := by
  by_cases hz : symbol % 4 = 0
  · by_cases h1 : kind = 1
    · subst h1; exact k1z symbol add w hz wk wa
    · by_cases h6 : kind = 6
      · subst h6; exact k6z symbol add w hz wk wa
      · by_cases h7 : kind = 7
        · subst h7; exact k7z symbol add w hz wk wa
        · by_cases h8 : kind = 8
          · subst h8; exact k8z symbol add w hz wk wa
          · have b1 : (kind == 1) = false := by simpa using h1
            have b6 : (kind == 6) = false := by simpa using h6
            have b7 : (kind == 7) = false := by simpa using h7
            have b8 : (kind == 8) = false := by simpa using h8
            by_cases hn : kind < 0
            · exact kx symbol add kind _ w rfl wk wa b1 b6 b7 b8 hn
            · by_cases hm : 2147483648 < kind
              · exact ky symbol add kind _ w rfl wk wa b1 b6 b7 b8 hm
              · exact ko symbol add kind _ w rfl wk wa b1 b6 b7 b8 (by omega) (by omega)
  · by_cases h1 : kind = 1
    · subst h1; exact k1p symbol add _ w rfl wk wa (by omega)
    · by_cases h6 : kind = 6
      · subst h6; exact k6p symbol add _ w rfl wk wa (by omega)
      · by_cases h7 : kind = 7
        · subst h7; exact k7p symbol add _ w rfl wk wa (by omega)
        · by_cases h8 : kind = 8
          · subst h8; exact k8p symbol add _ w rfl wk wa (by omega)
          · have b1 : (kind == 1) = false := by simpa using h1
            have b6 : (kind == 6) = false := by simpa using h6
            have b7 : (kind == 7) = false := by simpa using h7
            have b8 : (kind == 8) = false := by simpa using h8
            by_cases hn : kind < 0
            · exact kx symbol add kind _ w rfl wk wa b1 b6 b7 b8 hn
            · by_cases hm : 2147483648 < kind
              · exact ky symbol add kind _ w rfl wk wa b1 b6 b7 b8 hm
              · exact ko symbol add kind _ w rfl wk wa b1 b6 b7 b8 (by omega) (by omega)

set_option maxRecDepth 100000 in
theorem lifted (os : Os) (started : os.Started) (H : Type) (enc : TypeId × Value → H) :
    ReturnsInHanded {} Try.checked os 8 .any (Rows.relocKindsSpec.pre6 enc Try.prog Try.f8 Rows.relocKindsRow.domain false) (Rows.relocKindsSpec.post enc Try.prog Try.f8 false true false false) := by
  refine returnsInHanded_of_change (C := Try.checked) own started (by kernel_rfl) Try.func8
    (ChangeSpec.witness6 (enc := enc) (C := Try.checked) false ⟨#[], #[.int .i64 0, .int .i64 0, .int .i64 0], []⟩ 8 (by kernel_rfl) (by kernel_rfl) (by kernel_rfl) (by kernel_rfl)) ?_
  intro W base args ds gs before hval0 hW hcnd _
  have hval : ∀ (j : Nat) t v, Try.f8.params[j]? = some t → args[j]? = some v → Value.okWide Try.prog W .any base t v := hval0
  have hW' := hW
  obtain ⟨p, q, hA0, hV, rfl, hfz, hnd⟩ := hW
  have hA : DataW.TrodAll enc Try.prog W 0 (fun _ => true) true Try.f8.params.toList args.toList ds p := hA0
  rw [Try.params8] at hA hval
  obtain ⟨v0, vs0, d0, ds0, p0, q0, hargs, rfl, rfl, h0, r0⟩ := trodAll_cons hA
  obtain ⟨v1, vs1, d1, ds1, p1, q1, rfl, rfl, rfl, h1, r1⟩ := trodAll_cons r0
  obtain ⟨v2, vs2, d2, ds2, p2, q2, rfl, rfl, rfl, h2, r2⟩ := trodAll_cons r1
  obtain ⟨rfl, rfl, rfl⟩ := trodAll_nil r2
  obtain rfl : args = #[v0, v1, v2] := by cases args; simp_all
  obtain ⟨rfl, rfl⟩ := trodVars_none hV
  have k0 := h0
  have lt0 : ∀ x ∈ p0, x.block < W.heap.size := by obtain ⟨m, hm⟩ := k0; exact DataW.trod_lt m _ _ _ hm
  obtain ⟨a0, rfl, _, _, w0⟩ := open_int Try.underlying3 (hval 0 3 v0 rfl rfl) h0
  have k1 := h1
  have lt1 : ∀ x ∈ p1, x.block < W.heap.size := by obtain ⟨m, hm⟩ := k1; exact DataW.trod_lt m _ _ _ hm
  obtain ⟨a1, rfl, _, _, w1⟩ := open_int Try.underlying3 (hval 1 3 v1 rfl rfl) h1
  have k2 := h2
  have lt2 : ∀ x ∈ p2, x.block < W.heap.size := by obtain ⟨m, hm⟩ := k2; exact DataW.trod_lt m _ _ _ hm
  obtain ⟨a2, rfl, _, _, w2⟩ := open_int Try.underlying3 (hval 2 3 v2 rfl rfl) h2
  clear hA0 hval0
  refine (walk a0 a1 a2 W w0 w1 w2).mono fun e W' ⟨he, bel⟩ => ?_
  subst he
  exact ⟨_, rfl, _, _, _, [], _, [], hW', trodAll_mk1 (shut_bool Try.underlying4 _), (trodAll_cons_mk (Below.trod laidOut (by kernel_rfl) (of_decide_eq_true (by kernel_rfl)) k0 bel lt0) (trodAll_cons_mk (Below.trod laidOut (by kernel_rfl) (of_decide_eq_true (by kernel_rfl)) k1 bel lt1) (trodAll_cons_mk (Below.trod laidOut (by kernel_rfl) (of_decide_eq_true (by kernel_rfl)) k2 bel lt2) trodAll_mk0))), rfl, bel.frame _, fun h => by cases h⟩
theorem over : Rows.relocKindsRow.holds Try.pinned (OpenSpec.ofChange Rows.relocKindsSpec) :=
  OpenClaim.holds_of_wide 8 Try.f8 rfl rfl rfl rfl rfl rfl rfl ⟨rfl, rfl, rfl, rfl, rfl⟩ rfl rfl rfl rfl rfl (by kernel_rfl) Try.func8 (by kernel_rfl)
    (of_decide_eq_true (by kernel_rfl)) (by unfold Func.isWrapper; first | (rw [if_pos (by decide +kernel)]; kernel_rfl) | (rw [if_neg (by decide +kernel)]; exact ⟨rfl, rfl⟩))
    (fun os started H enc _ => lifted os started H enc)
/-- The statement. -/
theorem proved : Rows.RelocKindsSaid := over
end Go.Proofs.Ytpkjaacklfiblaa.lawKindsZ
