/- RelocShifts: for any relocation of a kind that there is, any base, symbol and shift (each cut to 40 bits): where all goes up by as much, each value does; of a relocation that asks for no symbol it hangs on the base alone, of others on the symbol's alone. -/
import Derived.Test.YtpkjaacklfiblaaZC
namespace Go.Proofs.Ytpkjaacklfiblaa.lawShiftsZ
open Go.ChangeShapes Go.WideShapes Go.ChangeAt Go.RowKit Go.Deep
set_option linter.unusedVariables false
set_option linter.unusedSimpArgs false

theorem i64_and2 (n : Int) : bits .and .i64 n 3 = n % 4 := i64_and_mask n 2 3 (by omega) (by decide)
def kndL (j : Nat) : Int := if j = 0 then 1 else if j = 1 then 6 else if j = 2 then 7 else 8
theorem shift_math (r : Rl) (j : Nat) (hj : j < 4) (hk : r.k = kndL j) (A B C : Int) (hA : 0 ≤ A ∧ A < 1099511627776) (hB : 0 ≤ B ∧ B < 1099511627776) (hC : 0 ≤ C ∧ C < 1099511627776) :
    r.known = true ∧ IntKind.u64.wrap (r.val (A + C) (B + C) - r.val A B) = C ∧ (C = 0 ∨ ((r.val (A + C) B == r.val A B) = r.asks)) := by
  obtain ⟨p, k, y, a⟩ := r
  simp only at hk
  subst hk
  unfold Rl.known Rl.asks Rl.val kndL
  have h : j = 0 ∨ j = 1 ∨ j = 2 ∨ j = 3 := by omega
  rcases h with rfl | rfl | rfl | rfl
  · refine ⟨rfl, ?_, .inr ?_⟩
    · simp only [IntKind.wrap_u64]; simp; omega
    · simp
  · refine ⟨rfl, ?_, .inr ?_⟩
    · simp only [IntKind.wrap_u64]; simp; omega
    · simp
  · refine ⟨rfl, ?_, .inr ?_⟩
    · simp only [IntKind.wrap_u64]; simp; omega
    · simp
  · refine ⟨rfl, ?_, ?_⟩
    · simp only [IntKind.wrap_u64]; simp; omega
    · by_cases h0 : C = 0
      · exact .inl h0
      · right
        simp only [IntKind.wrap_u64]
        simp
        omega

set_option maxRecDepth 100000 in
set_option maxHeartbeats 3200000 in
theorem walk (r : Rl) (q0 q1 q2 : Int) (w : World) (wr : r.wf) (w0 : (Lit.int .i64 q0).wf = true) (w1 : (Lit.int .i64 q1).wf = true) (w2 : (Lit.int .i64 q2).wf = true) :
    Calls Try.prog 6 #[.agg r.cs, .agg #[.int .i64 q0, .int .i64 q1, .int .i64 q2]] w fun e w' => e = .returned (.bool true) ∧ Below w.heap.size w w' := by
  have HA := Lib.hid (fun v => awakeZ_any v)
  obtain ⟨p, k, y, a⟩ := r
  clear wr w0 w1 w2
  obtain ⟨j, hj, hjk⟩ : ∃ j : Nat, j < 4 ∧ bits .and .i64 k 3 = (j : Int) := ⟨(k % 4).toNat, by omega, by rw [i64_and2 k]; omega⟩
  obtain ⟨K, hK⟩ : ∃ K, kndL j = K := ⟨_, rfl⟩
  have e0 := i64_and40 q0
  have e1 := i64_and40 q1
  have e2 := i64_and40 q2
  obtain ⟨A, hA⟩ : ∃ A, q0 % 1099511627776 = A := ⟨_, rfl⟩
  obtain ⟨B, hB⟩ : ∃ A, q1 % 1099511627776 = A := ⟨_, rfl⟩
  obtain ⟨C, hC⟩ : ∃ A, q2 % 1099511627776 = A := ⟨_, rfl⟩
  have bA : 0 ≤ A ∧ A < 1099511627776 := by omega
  have bB : 0 ≤ B ∧ B < 1099511627776 := by omega
  have bC : 0 ≤ C ∧ C < 1099511627776 := by omega
  rw [hA] at e0
  rw [hB] at e1
  rw [hC] at e2
  clear hA hB hC
  obtain ⟨m1, m2, m3⟩ := shift_math ⟨p, K, y, a⟩ j hj hK.symm A B C bA bB bC
  have hcell : (#[.int .i64 1, .int .i64 6, .int .i64 7, .int .i64 8] : Array Value)[j]? = some (.int .i64 K) := by
    rw [← hK]
    unfold kndL
    match j, hj with
    | 0, _ | 1, _ | 2, _ | 3, _ => rfl
  clear hK
  have H1 := Lib.hid (fun v => value_any ⟨p, K, y, a⟩ A B v)
  have H2 := Lib.hid (fun v => value_any ⟨p, K, y, a⟩ (A + C) (B + C) v)
  have H3 := Lib.hid (fun v => value_any ⟨p, K, y, a⟩ (A + C) B v)
  have H4 := Lib.hid (fun v => shift_any ⟨p, K, y, a⟩ v)
  have H5 := Lib.hid (fun v => asks_any ⟨p, K, y, a⟩ v)
  rw [m1] at H1 H2 H3 H4
  rw [if_pos rfl] at H4
  generalize (⟨p, K, y, a⟩ : Rl).val A B = va at *
  generalize (⟨p, K, y, a⟩ : Rl).val (A + C) (B + C) = vb at *
  generalize (⟨p, K, y, a⟩ : Rl).val (A + C) B = vc at *
  generalize (⟨p, K, y, a⟩ : Rl).asks = ak at *
  clear m1
  unfold Rl.cs at *
  simp only at *
  obtain ⟨R, hR⟩ : ∃ R, w.heap.size = R := ⟨_, rfl⟩
  obtain ⟨W0, hW0⟩ : ∃ W, (w.alloc (.cells #[.int .i64 p, .int .i64 k, .int .i64 y, .int .i64 a] 23)).alloc (.cells #[.int .i64 q0, .int .i64 q1, .int .i64 q2] 45) = W := ⟨_, rfl⟩
  have hk0 : Blk W0 R 23 #[.int .i64 p, .int .i64 k, .int .i64 y, .int .i64 a] := by rw [← hW0, ← hR]; exact (Blk.new _ _ _).alloc _
  have hq0 : Blk W0 (R + 1) 45 #[.int .i64 q0, .int .i64 q1, .int .i64 q2] := by
    rw [← hW0, ← hR]
    have := Blk.new (w.alloc (.cells #[.int .i64 p, .int .i64 k, .int .i64 y, .int .i64 a] 23)) 45 #[.int .i64 q0, .int .i64 q1, .int .i64 q2]
    simpa using this
  have hb0 : Below R w W0 := by rw [← hW0, ← hR]; exact ((Below.refl _ _).alloc (Nat.le_refl _) _).alloc (by simp) _
  have HW0 := Lib.hid hW0
  have HP0 := Lib.hid (And.intro hk0 (And.intro hq0 hb0))
  have HJ := Lib.hid (fun (u v : World) (cs : Array Value) (h : Blk u R 23 cs ∧ Blk u (R + 1) 45 #[.int .i64 q0, .int .i64 q1, .int .i64 q2] ∧ Below R w u) (hb : Below u.heap.size u v) => show Blk v R 23 cs ∧ Blk v (R + 1) 45 #[.int .i64 q0, .int .i64 q1, .int .i64 q2] ∧ Below R w v from ⟨h.1.below hb h.1.lt, h.2.1.below hb h.2.1.lt, h.2.2.trans (hb.mono (Nat.le_of_lt h.1.lt))⟩)
  have HC := Lib.hid (fun (v : World) (k : Int) (h : Blk v R 23 #[.int .i64 p, .int .i64 k, .int .i64 y, .int .i64 a] ∧ Blk v (R + 1) 45 #[.int .i64 q0, .int .i64 q1, .int .i64 q2] ∧ Below R w v) => show (v.cell? ⟨R, 0, none⟩ = some (.int .i64 p) ∧ v.cell? ⟨R, 1, none⟩ = some (.int .i64 k) ∧ v.cell? ⟨R, 2, none⟩ = some (.int .i64 y) ∧ v.cell? ⟨R, 3, none⟩ = some (.int .i64 a)) ∧ v.cell? ⟨R + 1, 0, none⟩ = some (.int .i64 q0) ∧ v.cell? ⟨R + 1, 1, none⟩ = some (.int .i64 q1) ∧ v.cell? ⟨R + 1, 2, none⟩ = some (.int .i64 q2) from ⟨⟨h.1.cell 0, h.1.cell 1, h.1.cell 2, h.1.cell 3⟩, h.2.1.cell 0, h.2.1.cell 1, h.2.1.cell 2⟩)
  rw [hR]
  clear hk0 hq0 hb0 hW0
  go_enter Try.func6, Try.ntmps6
  go_upto_region 1 with fail
  rw [HW0.out]
  try rw [hR]
  go_upto_region 2 with (go_at_call 9; refine (HA.out _).mono ?_; rintro e v1 ⟨rfl, hb1⟩)
  have HP1 := Lib.hid (HJ.out _ _ _ HP0.out hb1)
  clear HP0 HW0 hb1 HA
  obtain ⟨G, hG⟩ : ∃ G, v1.heap.size = G := ⟨_, rfl⟩
  have hGR : R + 1 < G := by have := HP1.out.2.1.lt; omega
  have HG := Lib.hid hG
  have HP2 := Lib.hid (And.intro (Blk.new v1 43 #[.int .i64 1, .int .i64 6, .int .i64 7, .int .i64 8]) (HJ.out _ _ _ HP1.out ((Below.refl v1.heap.size v1).alloc (Nat.le_refl _) (.cells #[.int .i64 1, .int .i64 6, .int .i64 7, .int .i64 8] 43))))
  rw [hG] at HP2
  clear HP1 hG
  go_upto_region 3 with fail
  rw [HG.out]
  generalize v1.alloc (.cells #[.int .i64 1, .int .i64 6, .int .i64 7, .int .i64 8] 43) = v2 at *
  clear HG
  obtain ⟨⟨c0, c1, c2, c3⟩, -⟩ := HC.out _ _ HP2.out.2
  have g0 : v2.cell? ⟨G, j, none⟩ = some (.int .i64 K) := (HP2.out.1.cell j).trans hcell
  have f1 := HP2.out.2.1.frozen 1
  have HP3 := Lib.hid (show Blk (v2.setCell ⟨R, 1, none⟩ (.int .i64 K)) R 23 #[.int .i64 p, .int .i64 K, .int .i64 y, .int .i64 a] ∧ Blk (v2.setCell ⟨R, 1, none⟩ (.int .i64 K)) (R + 1) 45 #[.int .i64 q0, .int .i64 q1, .int .i64 q2] ∧ Below R w (v2.setCell ⟨R, 1, none⟩ (.int .i64 K)) from by
    obtain ⟨-, h1, h2, h3⟩ := HP2.out
    exact ⟨by simpa using h1.set_ 1 (.int .i64 K), h2.far (p := ⟨R, 1, none⟩) (by simp) _, h3.setCell (p := ⟨R, 1, none⟩) (Nat.le_refl _) _⟩)
  have hj4 : (j : Int) < 4 := by omega
  clear HP2 hcell
  go_upto_region 4 with fail
  generalize v2.setCell ⟨R, 1, none⟩ (.int .i64 K) = v3 at *
  clear c0 c1 c2 c3 g0 f1 hjk hj hj4 hGR
  obtain ⟨⟨c0, c1, c2, c3⟩, d0, d1, d2⟩ := HC.out _ _ HP3.out
  go_upto_region 6 with (go_at_call 10; with_reducible refine (H1.out _).mono ?_; rintro e v4 ⟨rfl, hb4⟩)
  have HP4 := Lib.hid (HJ.out _ _ _ HP3.out hb4)
  clear HP3 hb4 c0 c1 c2 c3 d0 d1 d2 H1
  obtain ⟨⟨c0, c1, c2, c3⟩, d0, d1, d2⟩ := HC.out _ _ HP4.out
  go_upto_region 7 with (go_at_call 10; with_reducible refine (H2.out _).mono ?_; rintro e v5 ⟨rfl, hb5⟩)
  have HP5 := Lib.hid (HJ.out _ _ _ HP4.out hb5)
  clear HP4 hb5 c0 c1 c2 c3 d0 d1 d2 H2
  obtain ⟨⟨c0, c1, c2, c3⟩, d0, d1, d2⟩ := HC.out _ _ HP5.out
  go_upto_region 8 with (go_at_call 10; with_reducible refine (H3.out _).mono ?_; rintro e v6 ⟨rfl, hb6⟩)
  have HP6 := Lib.hid (HJ.out _ _ _ HP5.out hb6)
  clear HP5 hb6 c0 c1 c2 c3 d0 d1 d2 H3
  go_upto_region 9 with fail
  have n1 := Lib.hid (show Blk v6.drew R 23 #[.int .i64 p, .int .i64 K, .int .i64 y, .int .i64 a] ∧ Blk v6.drew (R + 1) 45 #[.int .i64 q0, .int .i64 q1, .int .i64 q2] ∧ Below R w v6.drew from ⟨HP6.out.1.drew, HP6.out.2.1.drew, HP6.out.2.2.drew⟩)
  obtain ⟨⟨c0, c1, c2, c3⟩, -, -, d2⟩ := HC.out _ _ n1.out
  clear HP6
  have xC : IntKind.u64.wrap C = C := IntWalk.u64_in _ (by omega)
  have x1 : IntKind.u64.wrap 1 = 1 := by decide +kernel
  have xm : IntKind.u64.wrap (C * IntKind.u64.wrap 1) = C := by rw [x1, Int.mul_one, xC]
  have hsw : C = 0 ∨ ((C == 0) = false ∧ (vc == va) = ak) := by
    by_cases h : C = 0
    · exact .inl h
    · exact .inr ⟨by simpa using h, m3.resolve_left h⟩
  have HSW := Lib.hid hsw
  clear m3 hsw
  rcases HSW.out with rfl | ⟨hc, hs⟩
  · clear HSW H5
    refine wp_region_held_drew (S := fun w' => w'.cell? ⟨R, 0, none⟩ = some (.int .i64 p) ∧ w'.cell? ⟨R, 1, none⟩ = some (.int .i64 K) ∧ w'.cell? ⟨R, 2, none⟩ = some (.int .i64 y) ∧ w'.cell? ⟨R, 3, none⟩ = some (.int .i64 a) ∧ w'.cell? ⟨R + 1, 2, none⟩ = some (.int .i64 q2) ∧ Hid (Blk w' R 23 #[.int .i64 p, .int .i64 K, .int .i64 y, .int .i64 a] ∧ Blk w' (R + 1) 45 #[.int .i64 q0, .int .i64 q1, .int .i64 q2] ∧ Below R w w')) (by kernel_rfl) ⟨c0, c1, c2, c3, d2, n1⟩ (fun _ => ?_)
    refine wpAnyH_take (i := 0) (oi := { dst := some 80, op := Go.Op.move (Go.Operand.tmp 5), type := 4, pos := "law.go:87", after := #[], guard := none }) (v := ?_) rfl (by kernel_rfl) (by kernel_rfl) (by kernel_rfl) (fun _ _ _ h => h) (Or.inl ⟨by rfl, ?_⟩) ⟨c0, c1, c2, c3, d2, n1⟩ ?_
    rotate_left
    · (intro w0 hS0; obtain ⟨z0, z1, z2, z3, z4, -⟩ := hS0; go_simp; try with_reducible rfl)
    try simp only [Act.put, List.setIfInBounds_toArray, List.set_cons_zero, List.set_cons_succ]
    refine wpAnyH_take (i := 1) (oi := { dst := some 81, op := Go.Op.move (Go.Operand.tmp 80), type := 4, pos := "law.go:87", after := #[{ on := 0, ground := Go.Ground.data }], guard := none }) (v := ?_) rfl (by kernel_rfl) (by kernel_rfl) (by kernel_rfl) (fun _ _ _ h => h) (Or.inl ⟨by rfl, ?_⟩) ⟨c0, c1, c2, c3, d2, n1⟩ ?_
    rotate_left
    · (intro w0 hS0; obtain ⟨z0, z1, z2, z3, z4, -⟩ := hS0; go_simp; try with_reducible rfl)
    try simp only [Act.put, List.setIfInBounds_toArray, List.set_cons_zero, List.set_cons_succ]
    refine wpAnyH_take (i := 2) (oi := { dst := some 82, op := Go.Op.move (Go.Operand.tmp 9), type := 4, pos := "law.go:87", after := #[{ on := 1, ground := Go.Ground.guard }], guard := some (1, true) }) (v := ?_) rfl (by kernel_rfl) (by kernel_rfl) (by kernel_rfl) (fun _ _ _ h => h) (Or.inl ⟨by rfl, ?_⟩) ⟨c0, c1, c2, c3, d2, n1⟩ ?_
    rotate_left
    · (intro w0 hS0; obtain ⟨z0, z1, z2, z3, z4, -⟩ := hS0; go_simp; try with_reducible rfl)
    try simp only [Act.put, List.setIfInBounds_toArray, List.set_cons_zero, List.set_cons_succ]
    refine wpAnyH_take (i := 3) (oi := { dst := some 83, op := Go.Op.pick (Go.Operand.tmp 81) (Go.Operand.tmp 82) (Go.Operand.const (Go.Value.bool false)), type := 4, pos := "law.go:87", after := #[{ on := 1, ground := Go.Ground.data }, { on := 2, ground := Go.Ground.data }], guard := none }) (v := ?_) rfl (by kernel_rfl) (by kernel_rfl) (by kernel_rfl) (fun _ _ _ h => h) (Or.inl ⟨by rfl, ?_⟩) ⟨c0, c1, c2, c3, d2, n1⟩ ?_
    rotate_left
    · (intro w0 hS0; obtain ⟨z0, z1, z2, z3, z4, -⟩ := hS0; go_simp; try with_reducible rfl)
    try simp only [Act.put, List.setIfInBounds_toArray, List.set_cons_zero, List.set_cons_succ]
    refine wpAnyH_take (i := 4) (oi := { dst := some 84, op := Go.Op.move (Go.Operand.tmp 83), type := 4, pos := "law.go:87", after := #[{ on := 3, ground := Go.Ground.data }, { on := 1, ground := Go.Ground.chain }], guard := none }) (v := ?_) rfl (by kernel_rfl) (by kernel_rfl) (by kernel_rfl) (fun _ _ _ h => h) (Or.inl ⟨by rfl, ?_⟩) ⟨c0, c1, c2, c3, d2, n1⟩ ?_
    rotate_left
    · (intro w0 hS0; obtain ⟨z0, z1, z2, z3, z4, -⟩ := hS0; go_simp; try with_reducible rfl)
    try simp only [Act.put, List.setIfInBounds_toArray, List.set_cons_zero, List.set_cons_succ]
    refine wpAnyH_take (i := 5) (oi := { dst := some 85, op := Go.Op.move (Go.Operand.tmp 11), type := 4, pos := "law.go:87", after := #[{ on := 4, ground := Go.Ground.guard }], guard := some (4, true) }) (v := ?_) rfl (by kernel_rfl) (by kernel_rfl) (by kernel_rfl) (fun _ _ _ h => h) (Or.inl ⟨by rfl, ?_⟩) ⟨c0, c1, c2, c3, d2, n1⟩ ?_
    rotate_left
    · (intro w0 hS0; obtain ⟨z0, z1, z2, z3, z4, -⟩ := hS0; go_simp; try with_reducible rfl)
    try simp only [Act.put, List.setIfInBounds_toArray, List.set_cons_zero, List.set_cons_succ]
    refine wpAnyH_take (i := 6) (oi := { dst := some 86, op := Go.Op.pick (Go.Operand.tmp 84) (Go.Operand.tmp 85) (Go.Operand.const (Go.Value.bool false)), type := 4, pos := "law.go:87", after := #[{ on := 4, ground := Go.Ground.data }, { on := 5, ground := Go.Ground.data }], guard := none }) (v := ?_) rfl (by kernel_rfl) (by kernel_rfl) (by kernel_rfl) (fun _ _ _ h => h) (Or.inl ⟨by rfl, ?_⟩) ⟨c0, c1, c2, c3, d2, n1⟩ ?_
    rotate_left
    · (intro w0 hS0; obtain ⟨z0, z1, z2, z3, z4, -⟩ := hS0; go_simp; try with_reducible rfl)
    try simp only [Act.put, List.setIfInBounds_toArray, List.set_cons_zero, List.set_cons_succ]
    refine wpAnyH_take (i := 7) (oi := { dst := some 87, op := Go.Op.move (Go.Operand.tmp 86), type := 4, pos := "law.go:87", after := #[{ on := 6, ground := Go.Ground.data }, { on := 4, ground := Go.Ground.chain }], guard := none }) (v := ?_) rfl (by kernel_rfl) (by kernel_rfl) (by kernel_rfl) (fun _ _ _ h => h) (Or.inl ⟨by rfl, ?_⟩) ⟨c0, c1, c2, c3, d2, n1⟩ ?_
    rotate_left
    · (intro w0 hS0; obtain ⟨z0, z1, z2, z3, z4, -⟩ := hS0; go_simp; try with_reducible rfl)
    try simp only [Act.put, List.setIfInBounds_toArray, List.set_cons_zero, List.set_cons_succ]
    refine wpAnyH_take (i := 8) (oi := { dst := some 88, op := Go.Op.move (Go.Operand.tmp 10), type := 25, pos := "law.go:87", after := #[{ on := 7, ground := Go.Ground.guard }], guard := some (7, true) }) (v := ?_) rfl (by kernel_rfl) (by kernel_rfl) (by kernel_rfl) (fun _ _ _ h => h) (Or.inl ⟨by rfl, ?_⟩) ⟨c0, c1, c2, c3, d2, n1⟩ ?_
    rotate_left
    · (intro w0 hS0; obtain ⟨z0, z1, z2, z3, z4, -⟩ := hS0; go_simp; try with_reducible rfl)
    try simp only [Act.put, List.setIfInBounds_toArray, List.set_cons_zero, List.set_cons_succ]
    refine wpAnyH_take (i := 9) (oi := { dst := some 89, op := Go.Op.move (Go.Operand.tmp 8), type := 25, pos := "law.go:87", after := #[{ on := 7, ground := Go.Ground.guard }], guard := some (7, true) }) (v := ?_) rfl (by kernel_rfl) (by kernel_rfl) (by kernel_rfl) (fun _ _ _ h => h) (Or.inl ⟨by rfl, ?_⟩) ⟨c0, c1, c2, c3, d2, n1⟩ ?_
    rotate_left
    · (intro w0 hS0; obtain ⟨z0, z1, z2, z3, z4, -⟩ := hS0; go_simp; try with_reducible rfl)
    try simp only [Act.put, List.setIfInBounds_toArray, List.set_cons_zero, List.set_cons_succ]
    refine wpAnyH_take (i := 10) (oi := { dst := some 90, op := Go.Op.binOp Go.BinOp.sub 25 (Go.Operand.tmp 88) (Go.Operand.tmp 89) 25, type := 25, pos := "law.go:87", after := #[{ on := 8, ground := Go.Ground.data }, { on := 9, ground := Go.Ground.data }, { on := 7, ground := Go.Ground.guard }], guard := some (7, true) }) (v := ?_) rfl (by kernel_rfl) (by kernel_rfl) (by kernel_rfl) (fun _ _ _ h => h) (Or.inl ⟨by rfl, ?_⟩) ⟨c0, c1, c2, c3, d2, n1⟩ ?_
    rotate_left
    · (intro w0 hS0; obtain ⟨z0, z1, z2, z3, z4, -⟩ := hS0; go_simp; try with_reducible rfl)
    try simp only [Act.put, List.setIfInBounds_toArray, List.set_cons_zero, List.set_cons_succ]
    refine wpAnyH_take (i := 11) (oi := { dst := some 91, op := Go.Op.indexAddr 45 (Go.Operand.tmp 3) (Go.Operand.const (Go.Value.int Go.IntKind.i64 2)), type := 0, pos := "law.go:87", after := #[{ on := 7, ground := Go.Ground.guard }], guard := some (7, true) }) (v := ?_) rfl (by kernel_rfl) (by kernel_rfl) (by kernel_rfl) (fun _ _ _ h => h) (Or.inl ⟨by rfl, ?_⟩) ⟨c0, c1, c2, c3, d2, n1⟩ ?_
    rotate_left
    · (intro w0 hS0; obtain ⟨z0, z1, z2, z3, z4, -⟩ := hS0; go_simp; try with_reducible rfl)
    try simp only [Act.put, List.setIfInBounds_toArray, List.set_cons_zero, List.set_cons_succ]
    refine wpAnyH_take (i := 12) (oi := { dst := some 92, op := Go.Op.load 3 (Go.Operand.tmp 91), type := 3, pos := "law.go:87", after := #[{ on := 11, ground := Go.Ground.data }, { on := 7, ground := Go.Ground.guard }], guard := some (7, true) }) (v := ?_) rfl (by kernel_rfl) (by kernel_rfl) (by kernel_rfl) (fun _ _ _ h => h) (Or.inl ⟨by rfl, ?_⟩) ⟨c0, c1, c2, c3, d2, n1⟩ ?_
    rotate_left
    · (intro w0 hS0; obtain ⟨z0, z1, z2, z3, z4, -⟩ := hS0; go_simp; try with_reducible rfl)
    try simp only [Act.put, List.setIfInBounds_toArray, List.set_cons_zero, List.set_cons_succ]
    refine wpAnyH_take (i := 13) (oi := { dst := some 93, op := Go.Op.move (Go.Operand.tmp 7), type := 3, pos := "law.go:87", after := #[{ on := 7, ground := Go.Ground.guard }], guard := some (7, true) }) (v := ?_) rfl (by kernel_rfl) (by kernel_rfl) (by kernel_rfl) (fun _ _ _ h => h) (Or.inl ⟨by rfl, ?_⟩) ⟨c0, c1, c2, c3, d2, n1⟩ ?_
    rotate_left
    · (intro w0 hS0; obtain ⟨z0, z1, z2, z3, z4, -⟩ := hS0; go_simp; try with_reducible rfl)
    try simp only [Act.put, List.setIfInBounds_toArray, List.set_cons_zero, List.set_cons_succ]
    refine wpAnyH_take (i := 14) (oi := { dst := some 94, op := Go.Op.binOp Go.BinOp.and 3 (Go.Operand.tmp 92) (Go.Operand.tmp 93) 3, type := 3, pos := "law.go:87", after := #[{ on := 12, ground := Go.Ground.data }, { on := 13, ground := Go.Ground.data }, { on := 7, ground := Go.Ground.guard }], guard := some (7, true) }) (v := ?_) rfl (by kernel_rfl) (by kernel_rfl) (by kernel_rfl) (fun _ _ _ h => h) (Or.inl ⟨by rfl, ?_⟩) ⟨c0, c1, c2, c3, d2, n1⟩ ?_
    rotate_left
    · (intro w0 hS0; obtain ⟨z0, z1, z2, z3, z4, -⟩ := hS0; go_simp; try with_reducible rfl)
    try simp only [Act.put, List.setIfInBounds_toArray, List.set_cons_zero, List.set_cons_succ]
    refine wpAnyH_take (i := 15) (oi := { dst := some 95, op := Go.Op.convert 3 25 (Go.Operand.tmp 94), type := 25, pos := "law.go:87", after := #[{ on := 14, ground := Go.Ground.data }, { on := 7, ground := Go.Ground.guard }], guard := some (7, true) }) (v := ?_) rfl (by kernel_rfl) (by kernel_rfl) (by kernel_rfl) (fun _ _ _ h => h) (Or.inl ⟨by rfl, ?_⟩) ⟨c0, c1, c2, c3, d2, n1⟩ ?_
    rotate_left
    · (intro w0 hS0; obtain ⟨z0, z1, z2, z3, z4, -⟩ := hS0; go_simp; try with_reducible rfl)
    try simp only [Act.put, List.setIfInBounds_toArray, List.set_cons_zero, List.set_cons_succ]
    refine wpAnyH_take (i := 16) (oi := { dst := some 96, op := Go.Op.load 23 (Go.Operand.tmp 2), type := 23, pos := "law.go:87", after := #[{ on := 7, ground := Go.Ground.guard }], guard := some (7, true) }) (v := ?_) rfl (by kernel_rfl) (by kernel_rfl) (by kernel_rfl) (fun _ _ _ h => h) (Or.inl ⟨by rfl, ?_⟩) ⟨c0, c1, c2, c3, d2, n1⟩ ?_
    rotate_left
    · (intro w0 hS0; obtain ⟨z0, z1, z2, z3, z4, -⟩ := hS0; go_simp; try with_reducible rfl)
    try simp only [Act.put, List.setIfInBounds_toArray, List.set_cons_zero, List.set_cons_succ]
    refine wpAnyH_ready (rs := [17]) (by kernel_rfl) (by simp) ?_
    refine AllReadyH.cons rfl (fun K' hK => ?_) AllReadyH.nil
    go_simp
    go_at_call 16
    refine (H4.out _).mono ?_
    rintro e wx ⟨rfl, hb⟩
    have n2 := Lib.hid (HJ.out _ _ _ n1.out hb)
    clear n1 c0 c1 c2 c3 d2 hb
    have n1 := n2
    clear n2
    obtain ⟨⟨c0, c1, c2, c3⟩, -, -, d2⟩ := HC.out _ _ n1.out
    refine hK.out _ _ ⟨c0, c1, c2, c3, d2, n1⟩ (fun _ => ?_)
    clear hK K'
    try simp only [Act.put, List.setIfInBounds_toArray, List.set_cons_zero, List.set_cons_succ]
    refine wpAnyH_take (i := 18) (oi := { dst := some 98, op := Go.Op.convert 3 25 (Go.Operand.tmp 97), type := 25, pos := "law.go:87", after := #[{ on := 17, ground := Go.Ground.data }, { on := 7, ground := Go.Ground.guard }], guard := some (7, true) }) (v := ?_) rfl (by kernel_rfl) (by kernel_rfl) (by kernel_rfl) (fun _ _ _ h => h) (Or.inl ⟨by rfl, ?_⟩) ⟨c0, c1, c2, c3, d2, n1⟩ ?_
    rotate_left
    · (intro w0 hS0; obtain ⟨z0, z1, z2, z3, z4, -⟩ := hS0; go_simp; try with_reducible rfl)
    try simp only [Act.put, List.setIfInBounds_toArray, List.set_cons_zero, List.set_cons_succ]
    refine wpAnyH_take (i := 19) (oi := { dst := some 99, op := Go.Op.binOp Go.BinOp.mul 25 (Go.Operand.tmp 95) (Go.Operand.tmp 98) 25, type := 25, pos := "law.go:87", after := #[{ on := 15, ground := Go.Ground.data }, { on := 18, ground := Go.Ground.data }, { on := 7, ground := Go.Ground.guard }], guard := some (7, true) }) (v := ?_) rfl (by kernel_rfl) (by kernel_rfl) (by kernel_rfl) (fun _ _ _ h => h) (Or.inl ⟨by rfl, ?_⟩) ⟨c0, c1, c2, c3, d2, n1⟩ ?_
    rotate_left
    · (intro w0 hS0; obtain ⟨z0, z1, z2, z3, z4, -⟩ := hS0; go_simp; try with_reducible rfl)
    try simp only [Act.put, List.setIfInBounds_toArray, List.set_cons_zero, List.set_cons_succ]
    refine wpAnyH_take (i := 20) (oi := { dst := some 100, op := Go.Op.binOp Go.BinOp.eql 25 (Go.Operand.tmp 90) (Go.Operand.tmp 99) 25, type := 4, pos := "law.go:87", after := #[{ on := 10, ground := Go.Ground.data }, { on := 19, ground := Go.Ground.data }, { on := 7, ground := Go.Ground.guard }], guard := some (7, true) }) (v := ?_) rfl (by kernel_rfl) (by kernel_rfl) (by kernel_rfl) (fun _ _ _ h => h) (Or.inl ⟨by rfl, ?_⟩) ⟨c0, c1, c2, c3, d2, n1⟩ ?_
    rotate_left
    · (intro w0 hS0; obtain ⟨z0, z1, z2, z3, z4, -⟩ := hS0; go_simp; try with_reducible rfl)
    try simp only [Act.put, List.setIfInBounds_toArray, List.set_cons_zero, List.set_cons_succ]
    refine wpAnyH_take (i := 21) (oi := { dst := some 101, op := Go.Op.pick (Go.Operand.tmp 87) (Go.Operand.tmp 100) (Go.Operand.const (Go.Value.bool false)), type := 4, pos := "law.go:87", after := #[{ on := 7, ground := Go.Ground.data }, { on := 20, ground := Go.Ground.data }], guard := none }) (v := ?_) rfl (by kernel_rfl) (by kernel_rfl) (by kernel_rfl) (fun _ _ _ h => h) (Or.inl ⟨by rfl, ?_⟩) ⟨c0, c1, c2, c3, d2, n1⟩ ?_
    rotate_left
    · (intro w0 hS0; obtain ⟨z0, z1, z2, z3, z4, -⟩ := hS0; go_simp; try with_reducible rfl)
    try simp only [Act.put, List.setIfInBounds_toArray, List.set_cons_zero, List.set_cons_succ]
    refine wpAnyH_take (i := 22) (oi := { dst := some 102, op := Go.Op.move (Go.Operand.tmp 101), type := 4, pos := "law.go:87", after := #[{ on := 21, ground := Go.Ground.data }, { on := 17, ground := Go.Ground.chain }], guard := none }) (v := ?_) rfl (by kernel_rfl) (by kernel_rfl) (by kernel_rfl) (fun _ _ _ h => h) (Or.inl ⟨by rfl, ?_⟩) ⟨c0, c1, c2, c3, d2, n1⟩ ?_
    rotate_left
    · (intro w0 hS0; obtain ⟨z0, z1, z2, z3, z4, -⟩ := hS0; go_simp; try with_reducible rfl)
    try simp only [Act.put, List.setIfInBounds_toArray, List.set_cons_zero, List.set_cons_succ]
    refine wpAnyH_take (i := 23) (oi := { dst := some 103, op := Go.Op.indexAddr 45 (Go.Operand.tmp 3) (Go.Operand.const (Go.Value.int Go.IntKind.i64 2)), type := 0, pos := "law.go:87", after := #[{ on := 22, ground := Go.Ground.guard }], guard := some (22, true) }) (v := ?_) rfl (by kernel_rfl) (by kernel_rfl) (by kernel_rfl) (fun _ _ _ h => h) (Or.inl ⟨by rfl, ?_⟩) ⟨c0, c1, c2, c3, d2, n1⟩ ?_
    rotate_left
    · (intro w0 hS0; obtain ⟨z0, z1, z2, z3, z4, -⟩ := hS0; go_simp; try with_reducible rfl)
    try simp only [Act.put, List.setIfInBounds_toArray, List.set_cons_zero, List.set_cons_succ]
    refine wpAnyH_take (i := 24) (oi := { dst := some 104, op := Go.Op.load 3 (Go.Operand.tmp 103), type := 3, pos := "law.go:87", after := #[{ on := 23, ground := Go.Ground.data }, { on := 22, ground := Go.Ground.guard }], guard := some (22, true) }) (v := ?_) rfl (by kernel_rfl) (by kernel_rfl) (by kernel_rfl) (fun _ _ _ h => h) (Or.inl ⟨by rfl, ?_⟩) ⟨c0, c1, c2, c3, d2, n1⟩ ?_
    rotate_left
    · (intro w0 hS0; obtain ⟨z0, z1, z2, z3, z4, -⟩ := hS0; go_simp; try with_reducible rfl)
    try simp only [Act.put, List.setIfInBounds_toArray, List.set_cons_zero, List.set_cons_succ]
    refine wpAnyH_take (i := 25) (oi := { dst := some 105, op := Go.Op.move (Go.Operand.tmp 7), type := 3, pos := "law.go:87", after := #[{ on := 22, ground := Go.Ground.guard }], guard := some (22, true) }) (v := ?_) rfl (by kernel_rfl) (by kernel_rfl) (by kernel_rfl) (fun _ _ _ h => h) (Or.inl ⟨by rfl, ?_⟩) ⟨c0, c1, c2, c3, d2, n1⟩ ?_
    rotate_left
    · (intro w0 hS0; obtain ⟨z0, z1, z2, z3, z4, -⟩ := hS0; go_simp; try with_reducible rfl)
    try simp only [Act.put, List.setIfInBounds_toArray, List.set_cons_zero, List.set_cons_succ]
    refine wpAnyH_take (i := 26) (oi := { dst := some 106, op := Go.Op.binOp Go.BinOp.and 3 (Go.Operand.tmp 104) (Go.Operand.tmp 105) 3, type := 3, pos := "law.go:87", after := #[{ on := 24, ground := Go.Ground.data }, { on := 25, ground := Go.Ground.data }, { on := 22, ground := Go.Ground.guard }], guard := some (22, true) }) (v := ?_) rfl (by kernel_rfl) (by kernel_rfl) (by kernel_rfl) (fun _ _ _ h => h) (Or.inl ⟨by rfl, ?_⟩) ⟨c0, c1, c2, c3, d2, n1⟩ ?_
    rotate_left
    · (intro w0 hS0; obtain ⟨z0, z1, z2, z3, z4, -⟩ := hS0; go_simp; try with_reducible rfl)
    try simp only [Act.put, List.setIfInBounds_toArray, List.set_cons_zero, List.set_cons_succ]
    refine wpAnyH_take (i := 27) (oi := { dst := some 107, op := Go.Op.binOp Go.BinOp.eql 3 (Go.Operand.tmp 106) (Go.Operand.const (Go.Value.int Go.IntKind.i64 0)) 3, type := 4, pos := "law.go:87", after := #[{ on := 26, ground := Go.Ground.data }, { on := 22, ground := Go.Ground.guard }], guard := some (22, true) }) (v := ?_) rfl (by kernel_rfl) (by kernel_rfl) (by kernel_rfl) (fun _ _ _ h => h) (Or.inl ⟨by rfl, ?_⟩) ⟨c0, c1, c2, c3, d2, n1⟩ ?_
    rotate_left
    · (intro w0 hS0; obtain ⟨z0, z1, z2, z3, z4, -⟩ := hS0; go_simp; try with_reducible rfl)
    try simp only [Act.put, List.setIfInBounds_toArray, List.set_cons_zero, List.set_cons_succ]
    refine wpAnyH_take (i := 28) (oi := { dst := some 108, op := Go.Op.move (Go.Operand.tmp 107), type := 4, pos := "law.go:87", after := #[{ on := 27, ground := Go.Ground.data }, { on := 22, ground := Go.Ground.chain }, { on := 22, ground := Go.Ground.guard }], guard := some (22, true) }) (v := ?_) rfl (by kernel_rfl) (by kernel_rfl) (by kernel_rfl) (fun _ _ _ h => h) (Or.inl ⟨by rfl, ?_⟩) ⟨c0, c1, c2, c3, d2, n1⟩ ?_
    rotate_left
    · (intro w0 hS0; obtain ⟨z0, z1, z2, z3, z4, -⟩ := hS0; go_simp; try with_reducible rfl)
    try simp only [Act.put, List.setIfInBounds_toArray, List.set_cons_zero, List.set_cons_succ]
    refine wpAnyH_take (i := 29) (oi := { dst := some 109, op := Go.Op.move (Go.Operand.tmp 14), type := 4, pos := "law.go:87", after := #[{ on := 28, ground := Go.Ground.guard }], guard := some (28, false) }) (v := undef) rfl (by kernel_rfl) (by kernel_rfl) (by kernel_rfl) (fun _ _ _ h => h) (Or.inr ⟨by rfl, rfl⟩) ⟨c0, c1, c2, c3, d2, n1⟩ ?_
    try simp only [Act.put, List.setIfInBounds_toArray, List.set_cons_zero, List.set_cons_succ]
    refine wpAnyH_take (i := 30) (oi := { dst := some 110, op := Go.Op.load 23 (Go.Operand.tmp 2), type := 23, pos := "law.go:87", after := #[{ on := 28, ground := Go.Ground.guard }], guard := some (28, false) }) (v := undef) rfl (by kernel_rfl) (by kernel_rfl) (by kernel_rfl) (fun _ _ _ h => h) (Or.inr ⟨by rfl, rfl⟩) ⟨c0, c1, c2, c3, d2, n1⟩ ?_
    try simp only [Act.put, List.setIfInBounds_toArray, List.set_cons_zero, List.set_cons_succ]
    refine wpAnyH_take (i := 31) (oi := { dst := some 111, op := Go.Op.call { callee := Go.Callee.value (Go.Operand.func 14), args := #[Go.Operand.tmp 110], argTypes := #[23] }, type := 4, pos := "law.go:87", after := #[{ on := 30, ground := Go.Ground.data }, { on := 28, ground := Go.Ground.chain }, { on := 28, ground := Go.Ground.guard }], guard := some (28, false) }) (v := undef) rfl (by kernel_rfl) (by kernel_rfl) (by kernel_rfl) (fun _ _ _ h => h) (Or.inr ⟨by rfl, rfl⟩) ⟨c0, c1, c2, c3, d2, n1⟩ ?_
    try simp only [Act.put, List.setIfInBounds_toArray, List.set_cons_zero, List.set_cons_succ]
    refine wpAnyH_take (i := 32) (oi := { dst := some 112, op := Go.Op.binOp Go.BinOp.eql 4 (Go.Operand.tmp 109) (Go.Operand.tmp 111) 4, type := 4, pos := "law.go:87", after := #[{ on := 29, ground := Go.Ground.data }, { on := 31, ground := Go.Ground.data }, { on := 28, ground := Go.Ground.guard }], guard := some (28, false) }) (v := undef) rfl (by kernel_rfl) (by kernel_rfl) (by kernel_rfl) (fun _ _ _ h => h) (Or.inr ⟨by rfl, rfl⟩) ⟨c0, c1, c2, c3, d2, n1⟩ ?_
    try simp only [Act.put, List.setIfInBounds_toArray, List.set_cons_zero, List.set_cons_succ]
    refine wpAnyH_take (i := 33) (oi := { dst := some 113, op := Go.Op.pick (Go.Operand.tmp 108) (Go.Operand.const (Go.Value.bool true)) (Go.Operand.tmp 112), type := 4, pos := "law.go:87", after := #[{ on := 28, ground := Go.Ground.data }, { on := 32, ground := Go.Ground.data }, { on := 22, ground := Go.Ground.guard }], guard := some (22, true) }) (v := ?_) rfl (by kernel_rfl) (by kernel_rfl) (by kernel_rfl) (fun _ _ _ h => h) (Or.inl ⟨by rfl, ?_⟩) ⟨c0, c1, c2, c3, d2, n1⟩ ?_
    rotate_left
    · (intro w0 hS0; obtain ⟨z0, z1, z2, z3, z4, -⟩ := hS0; go_simp; try with_reducible rfl)
    try simp only [Act.put, List.setIfInBounds_toArray, List.set_cons_zero, List.set_cons_succ]
    refine wpAnyH_take (i := 34) (oi := { dst := some 114, op := Go.Op.pick (Go.Operand.tmp 102) (Go.Operand.tmp 113) (Go.Operand.const (Go.Value.bool false)), type := 4, pos := "law.go:87", after := #[{ on := 22, ground := Go.Ground.data }, { on := 33, ground := Go.Ground.data }], guard := none }) (v := ?_) rfl (by kernel_rfl) (by kernel_rfl) (by kernel_rfl) (fun _ _ _ h => h) (Or.inl ⟨by rfl, ?_⟩) ⟨c0, c1, c2, c3, d2, n1⟩ ?_
    rotate_left
    · (intro w0 hS0; obtain ⟨z0, z1, z2, z3, z4, -⟩ := hS0; go_simp; try with_reducible rfl)
    try simp only [Act.put, List.setIfInBounds_toArray, List.set_cons_zero, List.set_cons_succ]
    refine wpAnyH_take (i := 35) (oi := { dst := some 4, op := Go.Op.assign (Go.Operand.tmp 114), type := 4, pos := "law.go:87", after := #[{ on := 34, ground := Go.Ground.data }, { on := 31, ground := Go.Ground.chain }, { on := 0, ground := Go.Ground.phase }, { on := 1, ground := Go.Ground.phase }, { on := 2, ground := Go.Ground.phase }, { on := 3, ground := Go.Ground.phase }, { on := 4, ground := Go.Ground.phase }, { on := 5, ground := Go.Ground.phase }, { on := 6, ground := Go.Ground.phase }, { on := 7, ground := Go.Ground.phase }, { on := 8, ground := Go.Ground.phase }, { on := 9, ground := Go.Ground.phase }, { on := 10, ground := Go.Ground.phase }, { on := 11, ground := Go.Ground.phase }, { on := 12, ground := Go.Ground.phase }, { on := 13, ground := Go.Ground.phase }, { on := 14, ground := Go.Ground.phase }, { on := 15, ground := Go.Ground.phase }, { on := 16, ground := Go.Ground.phase }, { on := 17, ground := Go.Ground.phase }, { on := 18, ground := Go.Ground.phase }, { on := 19, ground := Go.Ground.phase }, { on := 20, ground := Go.Ground.phase }, { on := 21, ground := Go.Ground.phase }, { on := 22, ground := Go.Ground.phase }, { on := 23, ground := Go.Ground.phase }, { on := 24, ground := Go.Ground.phase }, { on := 25, ground := Go.Ground.phase }, { on := 26, ground := Go.Ground.phase }, { on := 27, ground := Go.Ground.phase }, { on := 28, ground := Go.Ground.phase }, { on := 29, ground := Go.Ground.phase }, { on := 30, ground := Go.Ground.phase }, { on := 31, ground := Go.Ground.phase }, { on := 32, ground := Go.Ground.phase }, { on := 33, ground := Go.Ground.phase }, { on := 34, ground := Go.Ground.phase }], guard := none }) (v := ?_) rfl (by kernel_rfl) (by kernel_rfl) (by kernel_rfl) (fun _ _ _ h => h) (Or.inl ⟨by rfl, ?_⟩) ⟨c0, c1, c2, c3, d2, n1⟩ ?_
    rotate_left
    · (intro w0 hS0; obtain ⟨z0, z1, z2, z3, z4, -⟩ := hS0; go_simp; try with_reducible rfl)
    try simp only [Act.put, List.setIfInBounds_toArray, List.set_cons_zero, List.set_cons_succ]
    refine wpAnyH_done (by kernel_rfl) ?_ _
    go_wp2
    go_ret
    exact ⟨by simp, n1.out.2.2⟩
  · clear HSW
    go_region_held3 (fun w' => w'.cell? ⟨R, 0, none⟩ = some (.int .i64 p) ∧ w'.cell? ⟨R, 1, none⟩ = some (.int .i64 K) ∧ w'.cell? ⟨R, 2, none⟩ = some (.int .i64 y) ∧ w'.cell? ⟨R, 3, none⟩ = some (.int .i64 a) ∧ w'.cell? ⟨R + 1, 2, none⟩ = some (.int .i64 q2) ∧ Hid (Blk w' R 23 #[.int .i64 p, .int .i64 K, .int .i64 y, .int .i64 a] ∧ Blk w' (R + 1) 45 #[.int .i64 q0, .int .i64 q1, .int .i64 q2] ∧ Below R w w'))
      (first | exact ⟨c0, c1, c2, c3, d2, n1⟩)
      (first
      | (go_at_call 16; refine (H4.out _).mono ?_; rintro e wx ⟨rfl, hb⟩; rcases ‹(_ : Prop) ∧ _ ∧ _ ∧ _ ∧ _ ∧ Hid _› with ⟨-, -, -, -, -, kb⟩; clear n1 c0 c1 c2 c3 d2; have n1 := Lib.hid (HJ.out _ _ _ kb.out hb); obtain ⟨⟨c0, c1, c2, c3⟩, -, -, d2⟩ := HC.out _ _ n1.out; clear hb kb)
      | (go_at_call 14; refine (H5.out _).mono ?_; rintro e wx ⟨rfl, hb⟩; rcases ‹(_ : Prop) ∧ _ ∧ _ ∧ _ ∧ _ ∧ Hid _› with ⟨-, -, -, -, -, kb⟩; clear n1 c0 c1 c2 c3 d2; have n1 := Lib.hid (HJ.out _ _ _ kb.out hb); obtain ⟨⟨c0, c1, c2, c3⟩, -, -, d2⟩ := HC.out _ _ n1.out; clear hb kb))
    all_goals
      rcases ‹(_ : Prop) ∧ _ ∧ _ ∧ _ ∧ _ ∧ Hid _› with ⟨-, -, -, -, -, kb⟩
      go_wp2
      go_ret
      exact ⟨by simp, kb.out.2.2⟩

set_option maxRecDepth 100000 in
theorem lifted (os : Os) (started : os.Started) (H : Type) (enc : TypeId × Value → H) :
    ReturnsInHanded {} Try.checked os 6 .any (Rows.relocShiftsSpec.pre6 enc Try.prog Try.f6 Rows.relocShiftsRow.domain false) (Rows.relocShiftsSpec.post enc Try.prog Try.f6 false true false false) := by
  refine returnsInHanded_of_change (C := Try.checked) own started (by kernel_rfl) Try.func6
    (ChangeSpec.witness6 (enc := enc) (C := Try.checked) false ⟨#[], #[zrelV, .agg #[.int .i64 0, .int .i64 0, .int .i64 0]], []⟩ 8 (by kernel_rfl) (by kernel_rfl) (by kernel_rfl) (by kernel_rfl)) ?_
  intro W base args ds gs before hval0 hW hcnd _
  have hval : ∀ (j : Nat) t v, Try.f6.params[j]? = some t → args[j]? = some v → Value.okWide Try.prog W .any base t v := hval0
  have hW' := hW
  obtain ⟨p, q, hA0, hV, rfl, hfz, hnd⟩ := hW
  have hA : DataW.TrodAll enc Try.prog W 0 (fun _ => true) true Try.f6.params.toList args.toList ds p := hA0
  rw [Try.params6] at hA hval
  obtain ⟨v0, vs0, d0, ds0, p0, q0, hargs, rfl, rfl, h0, r0⟩ := trodAll_cons hA
  obtain ⟨v1, vs1, d1, ds1, p1, q1, rfl, rfl, rfl, h1, r1⟩ := trodAll_cons r0
  obtain ⟨rfl, rfl, rfl⟩ := trodAll_nil r1
  obtain rfl : args = #[v0, v1] := by cases args; simp_all
  obtain ⟨rfl, rfl⟩ := trodVars_none hV
  have k0 := h0
  have lt0 : ∀ x ∈ p0, x.block < W.heap.size := by obtain ⟨m, hm⟩ := k0; exact DataW.trod_lt m _ _ _ hm
  obtain ⟨a0, rfl, w0⟩ := open_relZ (hval 0 23 v0 rfl rfl) h0
  have k1 := h1
  have lt1 : ∀ x ∈ p1, x.block < W.heap.size := by obtain ⟨m, hm⟩ := k1; exact DataW.trod_lt m _ _ _ hm
  obtain ⟨z1, e1, hl1, hw1⟩ := open_ints_array Try.underlying45 Try.underlying3 (by kernel_rfl) (by kernel_rfl) (hval 1 45 v1 rfl rfl) h1
  obtain ⟨a1_0, a1_1, a1_2, rfl⟩ : ∃ a1_0 a1_1 a1_2, z1 = [a1_0, a1_1, a1_2] := by
    match z1, hl1 with
    | [a1_0, a1_1, a1_2], _ => exact ⟨_, _, _, rfl⟩
  obtain rfl : v1 = .agg #[.int .i64 a1_0, .int .i64 a1_1, .int .i64 a1_2] := e1
  clear hA0 hval0
  refine (walk a0 a1_0 a1_1 a1_2 W w0 (hw1 a1_0 (by simp)) (hw1 a1_1 (by simp)) (hw1 a1_2 (by simp))).mono fun e W' ⟨he, bel⟩ => ?_
  subst he
  exact ⟨_, rfl, _, _, _, [], _, [], hW', trodAll_mk1 (shut_bool Try.underlying4 _), (trodAll_cons_mk (Below.trod laidOut (by kernel_rfl) (of_decide_eq_true (by kernel_rfl)) k0 bel lt0) (trodAll_cons_mk (Below.trod laidOut (by kernel_rfl) (of_decide_eq_true (by kernel_rfl)) k1 bel lt1) trodAll_mk0)), rfl, bel.frame _, fun h => by cases h⟩
theorem over : Rows.relocShiftsRow.holds Try.pinned (OpenSpec.ofChange Rows.relocShiftsSpec) :=
  OpenClaim.holds_of_wide 6 Try.f6 rfl rfl rfl rfl rfl rfl rfl ⟨rfl, rfl, rfl, rfl, rfl⟩ rfl rfl rfl rfl rfl (by kernel_rfl) Try.func6 (by kernel_rfl)
    (of_decide_eq_true (by kernel_rfl)) (by unfold Func.isWrapper; first | (rw [if_pos (by decide +kernel)]; kernel_rfl) | (rw [if_neg (by decide +kernel)]; exact ⟨rfl, rfl⟩))
    (fun os started H enc _ => lifted os started H enc)
/-- The statement. -/
theorem proved : Rows.RelocShiftsSaid := over
end Go.Proofs.Ytpkjaacklfiblaa.lawShiftsZ
