/- FaultShares: for any region, any number, and an entry that is here and may not be written: a page whose frame others hold, too, is copied to be written. -/
import Derived.Test.YtdfokgfcohfgeaaDoorMG
namespace Go.Proofs.YtdfokgfcohfgeaaDoor.lawShares16
open Go.RowKit Go.ChangeShapes Go.WideShapes Go.Deep
open Go.Proofs.YtdfokgfcohfgeaaDoor.l16
set_option linter.unusedVariables false
set_option linter.unusedSimpArgs false

theorem and15 (n : Int) : bits .and .i64 n 15 = n % 16 := i64_and_mask n 4 15 (by omega) (by decide)
theorem and255 (n : Int) : bits .and .i64 n 255 = n % 256 := i64_and_mask n 8 255 (by omega) (by decide)
@[go_sem] theorem build_slS (a c : Bool) (n : Int) (w : World) : (Instr.build 25 #[(0, .bool a), (2, .bool c), (4, .int .i64 n)]).run Tryd.prog w = .ok (.agg #[.bool a, .bool false, .bool c, .bool false, .int .i64 n]) w := run_build w 25 _ _ (by kernel_rfl)
/-- The region and the entry lie, and the table. -/
structure Two (w : World) (R G : Nat) (rc sc : Array Value) (W : World) : Prop where
  br : Blk W R 23 rc
  bs : Blk W G 25 sc
  tab : Askd W
  below : Below w.heap.size w W
theorem Two.on {w : World} {R G : Nat} {rc sc : Array Value} {W W' : World} (h : Two w R G rc sc W) (hb : Below W.heap.size W W') : Two w R G rc sc W' :=
  ⟨h.br.below hb h.br.lt, h.bs.below hb h.bs.lt, h.tab.on hb, h.below.trans (hb.mono h.below.size)⟩

theorem Two.cells {w : World} {R G : Nat} {a0 a1 a2 a3 a4 a5 b0 b1 b2 b3 b4 : Value} {W : World} (h : Two w R G #[a0, a1, a2, a3, a4, a5] #[b0, b1, b2, b3, b4] W) :
    W.cell? ⟨R, 0, none⟩ = some a0 ∧ W.cell? ⟨R, 1, none⟩ = some a1 ∧ W.cell? ⟨R, 2, none⟩ = some a2 ∧ W.cell? ⟨R, 3, none⟩ = some a3 ∧ W.cell? ⟨R, 4, none⟩ = some a4 ∧ W.cell? ⟨R, 5, none⟩ = some a5 ∧
    W.cell? ⟨G, 0, none⟩ = some b0 ∧ W.cell? ⟨G, 1, none⟩ = some b1 ∧ W.cell? ⟨G, 2, none⟩ = some b2 ∧ W.cell? ⟨G, 3, none⟩ = some b3 ∧ W.cell? ⟨G, 4, none⟩ = some b4 :=
  ⟨h.br.at_ 0 _ rfl, h.br.at_ 1 _ rfl, h.br.at_ 2 _ rfl, h.br.at_ 3 _ rfl, h.br.at_ 4 _ rfl, h.br.at_ 5 _ rfl, h.bs.at_ 0 _ rfl, h.bs.at_ 1 _ rfl, h.bs.at_ 2 _ rfl, h.bs.at_ 3 _ rfl, h.bs.at_ 4 _ rfl⟩

set_option maxRecDepth 100000 in
set_option maxHeartbeats 3200000 in
theorem walk (r : Rg) (n : Int) (cp : Bool) (w : World) (wr : r.Wf) (wn : (Lit.int .i64 n).wf = true) (hT : Askd w) :
    Calls Tryd.prog 5 #[.agg r.cs, .int .i64 n, .bool cp] w fun e w' => e = .returned (.bool true) ∧ Below w.heap.size w w' := by
  have HA := Lib.hid (fun (v : World) (h : Askd v) => awakeM v h)
  clear wr wn
  have h0 := (Below.refl w.heap.size w).alloc (Nat.le_refl _) (.cells r.cs 23)
  have HT0 := Lib.hid (hT.on h0)
  have HK0 := Lib.hid (Blk.new w 23 r.cs)
  have HB0 := Lib.hid h0
  have HTP := Lib.hid hT.pos
  clear h0 hT
  obtain ⟨f, t, p, k, fl, pg⟩ := r
  obtain ⟨P, hP⟩ : ∃ P, bits .or .i64 p 2 = P := ⟨_, rfl⟩
  have hP2 : hasM P 2 = true := by rw [← hP]; exact hasM_or (by decide)
  obtain ⟨N, hN⟩ : ∃ N, n % 16 = N := ⟨_, rfl⟩
  have e1 : bits .and .i64 n 15 = N := by rw [and15, hN]
  have e2 : bits .and .i64 n 255 = n % 256 := and255 n
  obtain ⟨m, hm⟩ : ∃ m, n % 256 = m := ⟨_, rfl⟩
  rw [hm] at e2
  obtain ⟨J, hJ⟩ : ∃ J, 2 + N = J := ⟨_, rfl⟩
  have hJ1 : ¬ J ≤ 1 := by omega
  have j1 : wrap64 J = J := IntWalk.wrap64_in _ (by omega)
  have j2 : IntKind.i64.wrap J = J := IntWalk.i64_in _ (by omega)
  have H1 := Lib.hid (fun (v : World) (h : Askd v) => decide_any ⟨f, t, P, k, fl, pg⟩ true ⟨true, false, cp, false, m⟩ 2 J v h)
  have H2 := Lib.hid (fun (v : World) (h : Askd v) => decide_any ⟨f, t, P, k, fl, pg⟩ true ⟨true, false, cp, false, m⟩ 2 1 v h)
  have H3 := Lib.hid (fun (v : World) (h : Askd v) => decide_any ⟨f, t, P, k, fl, pg⟩ true ⟨true, false, cp, false, m⟩ 1 2 v h)
  obtain ⟨b4, hb4⟩ : ∃ b, hasM P 4 = b := ⟨_, rfl⟩
  rw [show actM (alM ⟨f, t, P, k, fl, pg⟩ true 2) k ⟨true, false, cp, false, m⟩ 2 J = 6 from by rw [show alM ⟨f, t, P, k, fl, pg⟩ true 2 = true from hP2]; unfold actM handM; simp [hJ1]] at H1
  rw [show actM (alM ⟨f, t, P, k, fl, pg⟩ true 2) k ⟨true, false, cp, false, m⟩ 2 1 = if cp = true then 7 else 6 from by rw [show alM ⟨f, t, P, k, fl, pg⟩ true 2 = true from hP2]; unfold actM handM; simp] at H2
  rw [show actM (alM ⟨f, t, P, k, fl, pg⟩ true 1) k ⟨true, false, cp, false, m⟩ 1 2 = if b4 = true then 1 else 2 from by rw [show alM ⟨f, t, P, k, fl, pg⟩ true 1 = b4 from hb4]; unfold actM handM; cases b4 <;> simp] at H3
  clear hN hm hJ1 hP2
  unfold Rg.cs Sl.v at *
  simp only at *
  have HS := Lib.hid (fun (v1 : World) (hb : Below (w.alloc (.cells #[.int .i64 f, .int .i64 t, .int .i64 p, .int .i64 k, .int .i64 fl, .int .i64 pg] 23)).heap.size (w.alloc (.cells #[.int .i64 f, .int .i64 t, .int .i64 p, .int .i64 k, .int .i64 fl, .int .i64 pg] 23)) v1) W (hW : (v1.setCell ⟨w.heap.size, 2, none⟩ (.int .i64 P)).alloc (.cells #[.bool true, .bool false, .bool cp, .bool false, .int .i64 m] 25) = W) =>
    show Two w w.heap.size v1.heap.size #[.int .i64 f, .int .i64 t, .int .i64 P, .int .i64 k, .int .i64 fl, .int .i64 pg] #[.bool true, .bool false, .bool cp, .bool false, .int .i64 m] W from by
      subst hW
      have k0 := HK0.out.below hb HK0.out.lt
      have k1 := k0.set_ 2 (.int .i64 P)
      have hb1 := HB0.out.trans (hb.mono HB0.out.size)
      have hb2 : Below w.heap.size w (v1.setCell ⟨w.heap.size, 2, none⟩ (.int .i64 P)) := hb1.setCell (p := ⟨w.heap.size, 2, none⟩) (Nat.le_refl _) _
      have hsz : (v1.setCell ⟨w.heap.size, 2, none⟩ (.int .i64 P)).heap.size = v1.heap.size := by simp
      have k2 := Blk.new (v1.setCell ⟨w.heap.size, 2, none⟩ (.int .i64 P)) 25 #[.bool true, .bool false, .bool cp, .bool false, .int .i64 m]
      rw [hsz] at k2
      refine ⟨?_, k2, ?_, hb2.alloc hb2.size _⟩
      · have := k1.alloc (.cells #[.bool true, .bool false, .bool cp, .bool false, .int .i64 m] 25)
        simpa using this
      · have hpos : 0 < w.heap.size := by
          exact HTP.out
        exact ((HT0.out.on hb).below ((Below.refl w.heap.size v1).setCell (p := ⟨w.heap.size, 2, none⟩) (Nat.le_refl _) _) hpos).alloc _)
  clear HB0
  cases cp <;> cases b4
  · have hz : bits .and .i64 P 4 = 0 := by unfold hasM at hb4; simpa using hb4
    clear hb4
    simp only [Bool.false_eq_true, if_true, if_false] at H2 H3
    go_enter Tryd.func5, Tryd.ntmps5
    go_upto_region 4 with (
      go_at_call 9; refine (HA.out _ HT0.out).mono ?_; rintro e v1 ⟨rfl, hb⟩
      have k0 := HK0.out.below hb HK0.out.lt
      have c2 : v1.cell? ⟨w.heap.size, 2, none⟩ = some (.int .i64 p) := k0.at_ 2 _ rfl
      have f2 := k0.frozen 2
      have HS1 := Lib.hid (HS.out v1 hb)
      clear hb k0)
    try clear f2 c2
    generalize hW : World.alloc _ _ = V
    have HV := Lib.hid (HS1.out V hW)
    clear hW HS1 HK0 HT0 HS HA
    generalize v1.heap.size = G at *
    obtain ⟨c0, c1, c2, c3, c4, c5, s0, s1, s2, s3, s4⟩ := HV.out.cells
    go_wp2_with (first
      | (go_at_call 16; with_reducible refine (H1.out _ HV.out.tab).mono ?_; rintro e v ⟨rfl, hb⟩
         have HVn := Lib.hid (HV.out.on hb)
         clear HV c0 c1 c2 c3 c4 c5 s0 s1 s2 s3 s4 hb
         have HV := HVn
         clear HVn
         obtain ⟨c0, c1, c2, c3, c4, c5, s0, s1, s2, s3, s4⟩ := HV.out.cells)
      | (go_at_call 16; with_reducible refine (H2.out _ HV.out.tab).mono ?_; rintro e v ⟨rfl, hb⟩
         have HVn := Lib.hid (HV.out.on hb)
         clear HV c0 c1 c2 c3 c4 c5 s0 s1 s2 s3 s4 hb
         have HV := HVn
         clear HVn
         obtain ⟨c0, c1, c2, c3, c4, c5, s0, s1, s2, s3, s4⟩ := HV.out.cells)
      | (go_at_call 16; with_reducible refine (H3.out _ HV.out.tab).mono ?_; rintro e v ⟨rfl, hb⟩
         have HVn := Lib.hid (HV.out.on hb)
         clear HV c0 c1 c2 c3 c4 c5 s0 s1 s2 s3 s4 hb
         have HV := HVn
         clear HVn
         obtain ⟨c0, c1, c2, c3, c4, c5, s0, s1, s2, s3, s4⟩ := HV.out.cells))
    all_goals (go_ret; exact ⟨by simp, HV.out.below⟩)
  · have hz : (bits .and .i64 P 4 == 0) = false := by unfold hasM at hb4; simpa using hb4
    clear hb4
    simp only [Bool.false_eq_true, if_true, if_false] at H2 H3
    go_enter Tryd.func5, Tryd.ntmps5
    go_upto_region 4 with (
      go_at_call 9; refine (HA.out _ HT0.out).mono ?_; rintro e v1 ⟨rfl, hb⟩
      have k0 := HK0.out.below hb HK0.out.lt
      have c2 : v1.cell? ⟨w.heap.size, 2, none⟩ = some (.int .i64 p) := k0.at_ 2 _ rfl
      have f2 := k0.frozen 2
      have HS1 := Lib.hid (HS.out v1 hb)
      clear hb k0)
    try clear f2 c2
    generalize hW : World.alloc _ _ = V
    have HV := Lib.hid (HS1.out V hW)
    clear hW HS1 HK0 HT0 HS HA
    generalize v1.heap.size = G at *
    obtain ⟨c0, c1, c2, c3, c4, c5, s0, s1, s2, s3, s4⟩ := HV.out.cells
    go_wp2_with (first
      | (go_at_call 16; with_reducible refine (H1.out _ HV.out.tab).mono ?_; rintro e v ⟨rfl, hb⟩
         have HVn := Lib.hid (HV.out.on hb)
         clear HV c0 c1 c2 c3 c4 c5 s0 s1 s2 s3 s4 hb
         have HV := HVn
         clear HVn
         obtain ⟨c0, c1, c2, c3, c4, c5, s0, s1, s2, s3, s4⟩ := HV.out.cells)
      | (go_at_call 16; with_reducible refine (H2.out _ HV.out.tab).mono ?_; rintro e v ⟨rfl, hb⟩
         have HVn := Lib.hid (HV.out.on hb)
         clear HV c0 c1 c2 c3 c4 c5 s0 s1 s2 s3 s4 hb
         have HV := HVn
         clear HVn
         obtain ⟨c0, c1, c2, c3, c4, c5, s0, s1, s2, s3, s4⟩ := HV.out.cells)
      | (go_at_call 16; with_reducible refine (H3.out _ HV.out.tab).mono ?_; rintro e v ⟨rfl, hb⟩
         have HVn := Lib.hid (HV.out.on hb)
         clear HV c0 c1 c2 c3 c4 c5 s0 s1 s2 s3 s4 hb
         have HV := HVn
         clear HVn
         obtain ⟨c0, c1, c2, c3, c4, c5, s0, s1, s2, s3, s4⟩ := HV.out.cells))
    all_goals (go_ret; exact ⟨by simp, HV.out.below⟩)
  · have hz : bits .and .i64 P 4 = 0 := by unfold hasM at hb4; simpa using hb4
    clear hb4
    simp only [Bool.false_eq_true, if_true, if_false] at H2 H3
    go_enter Tryd.func5, Tryd.ntmps5
    go_upto_region 4 with (
      go_at_call 9; refine (HA.out _ HT0.out).mono ?_; rintro e v1 ⟨rfl, hb⟩
      have k0 := HK0.out.below hb HK0.out.lt
      have c2 : v1.cell? ⟨w.heap.size, 2, none⟩ = some (.int .i64 p) := k0.at_ 2 _ rfl
      have f2 := k0.frozen 2
      have HS1 := Lib.hid (HS.out v1 hb)
      clear hb k0)
    try clear f2 c2
    generalize hW : World.alloc _ _ = V
    have HV := Lib.hid (HS1.out V hW)
    clear hW HS1 HK0 HT0 HS HA
    generalize v1.heap.size = G at *
    obtain ⟨c0, c1, c2, c3, c4, c5, s0, s1, s2, s3, s4⟩ := HV.out.cells
    go_wp2_with (first
      | (go_at_call 16; with_reducible refine (H1.out _ HV.out.tab).mono ?_; rintro e v ⟨rfl, hb⟩
         have HVn := Lib.hid (HV.out.on hb)
         clear HV c0 c1 c2 c3 c4 c5 s0 s1 s2 s3 s4 hb
         have HV := HVn
         clear HVn
         obtain ⟨c0, c1, c2, c3, c4, c5, s0, s1, s2, s3, s4⟩ := HV.out.cells)
      | (go_at_call 16; with_reducible refine (H2.out _ HV.out.tab).mono ?_; rintro e v ⟨rfl, hb⟩
         have HVn := Lib.hid (HV.out.on hb)
         clear HV c0 c1 c2 c3 c4 c5 s0 s1 s2 s3 s4 hb
         have HV := HVn
         clear HVn
         obtain ⟨c0, c1, c2, c3, c4, c5, s0, s1, s2, s3, s4⟩ := HV.out.cells)
      | (go_at_call 16; with_reducible refine (H3.out _ HV.out.tab).mono ?_; rintro e v ⟨rfl, hb⟩
         have HVn := Lib.hid (HV.out.on hb)
         clear HV c0 c1 c2 c3 c4 c5 s0 s1 s2 s3 s4 hb
         have HV := HVn
         clear HVn
         obtain ⟨c0, c1, c2, c3, c4, c5, s0, s1, s2, s3, s4⟩ := HV.out.cells))
    all_goals (go_ret; exact ⟨by simp, HV.out.below⟩)
  · have hz : (bits .and .i64 P 4 == 0) = false := by unfold hasM at hb4; simpa using hb4
    clear hb4
    simp only [Bool.false_eq_true, if_true, if_false] at H2 H3
    go_enter Tryd.func5, Tryd.ntmps5
    go_upto_region 4 with (
      go_at_call 9; refine (HA.out _ HT0.out).mono ?_; rintro e v1 ⟨rfl, hb⟩
      have k0 := HK0.out.below hb HK0.out.lt
      have c2 : v1.cell? ⟨w.heap.size, 2, none⟩ = some (.int .i64 p) := k0.at_ 2 _ rfl
      have f2 := k0.frozen 2
      have HS1 := Lib.hid (HS.out v1 hb)
      clear hb k0)
    try clear f2 c2
    generalize hW : World.alloc _ _ = V
    have HV := Lib.hid (HS1.out V hW)
    clear hW HS1 HK0 HT0 HS HA
    generalize v1.heap.size = G at *
    obtain ⟨c0, c1, c2, c3, c4, c5, s0, s1, s2, s3, s4⟩ := HV.out.cells
    go_wp2_with (first
      | (go_at_call 16; with_reducible refine (H1.out _ HV.out.tab).mono ?_; rintro e v ⟨rfl, hb⟩
         have HVn := Lib.hid (HV.out.on hb)
         clear HV c0 c1 c2 c3 c4 c5 s0 s1 s2 s3 s4 hb
         have HV := HVn
         clear HVn
         obtain ⟨c0, c1, c2, c3, c4, c5, s0, s1, s2, s3, s4⟩ := HV.out.cells)
      | (go_at_call 16; with_reducible refine (H2.out _ HV.out.tab).mono ?_; rintro e v ⟨rfl, hb⟩
         have HVn := Lib.hid (HV.out.on hb)
         clear HV c0 c1 c2 c3 c4 c5 s0 s1 s2 s3 s4 hb
         have HV := HVn
         clear HVn
         obtain ⟨c0, c1, c2, c3, c4, c5, s0, s1, s2, s3, s4⟩ := HV.out.cells)
      | (go_at_call 16; with_reducible refine (H3.out _ HV.out.tab).mono ?_; rintro e v ⟨rfl, hb⟩
         have HVn := Lib.hid (HV.out.on hb)
         clear HV c0 c1 c2 c3 c4 c5 s0 s1 s2 s3 s4 hb
         have HV := HVn
         clear HVn
         obtain ⟨c0, c1, c2, c3, c4, c5, s0, s1, s2, s3, s4⟩ := HV.out.cells))
    all_goals (go_ret; exact ⟨by simp, HV.out.below⟩)

set_option maxRecDepth 100000 in
theorem lifted (os : Os) (started : os.Started) (H : Type) (enc : TypeId × Value → H) :
    ReturnsInHanded {} Tryd.checked os 5 .any (fun w args => (Rows.faultSharesSpec.pre enc Tryd.prog Tryd.f5 Rows.faultSharesRow.domain false w args ∧ laidMet Tryd.prog Rows.faultSharesRow.laid w) ∧ sizedMet enc Tryd.prog Tryd.f5 (OpenSpec.ofChange Rows.faultSharesSpec) false w args) (Rows.faultSharesSpec.post enc Tryd.prog Tryd.f5 false true false false) := by
  refine returnsInHanded_of_change_and (C := Tryd.checked) (X := fun w _ => laidMet Tryd.prog Rows.faultSharesRow.laid w) (fun _ _ _ hh h => h.of_heap hh) own started (by kernel_rfl) Tryd.func5
    (ChangeSpec.witness_at (enc := enc) (C := Tryd.checked) (os := os) (X := fun w _ => laidMet Tryd.prog Rows.faultSharesRow.laid w) false (laidWorld os) #[zregM, .int .i64 0, .bool false] 8 rfl (by kernel_rfl) (by kernel_rfl) (by kernel_rfl) (by kernel_rfl) (by kernel_rfl) (laid_met os _)) ?_
  intro W base args ds gs before hval0 hW hcnd _ hL _
  have hval : ∀ (j : Nat) t v, Tryd.f5.params[j]? = some t → args[j]? = some v → Value.okWide Tryd.prog W .any base t v := hval0
  have hW' := hW
  obtain ⟨p, q, hA0, hV, rfl, hfz, hnd⟩ := hW
  have hA : DataW.TrodAll enc Tryd.prog W 0 (fun _ => true) true Tryd.f5.params.toList args.toList ds p := hA0
  rw [Tryd.params5] at hA hval
  obtain ⟨v0, vs0, d0, ds0, p0, q0, hargs, rfl, rfl, h0, r0⟩ := trodAll_cons hA
  obtain ⟨v1, vs1, d1, ds1, p1, q1, rfl, rfl, rfl, h1, r1⟩ := trodAll_cons r0
  obtain ⟨v2, vs2, d2, ds2, p2, q2, rfl, rfl, rfl, h2, r2⟩ := trodAll_cons r1
  obtain ⟨rfl, rfl, rfl⟩ := trodAll_nil r2
  obtain rfl : args = #[v0, v1, v2] := by cases args; simp_all
  obtain ⟨rfl, rfl⟩ := trodVars_none hV
  have k0 := h0
  have lt0 : ∀ x ∈ p0, x.block < W.heap.size := by obtain ⟨m, hm⟩ := k0; exact DataW.trod_lt m _ _ _ hm
  obtain ⟨a0, rfl, w0⟩ := open_regionU (hval 0 23 v0 rfl rfl) h0
  have k1 := h1
  have lt1 : ∀ x ∈ p1, x.block < W.heap.size := by obtain ⟨m, hm⟩ := k1; exact DataW.trod_lt m _ _ _ hm
  obtain ⟨a1, rfl, _, _, w1⟩ := open_int Tryd.underlying3 (hval 1 3 v1 rfl rfl) h1
  have k2 := h2
  have lt2 : ∀ x ∈ p2, x.block < W.heap.size := by obtain ⟨m, hm⟩ := k2; exact DataW.trod_lt m _ _ _ hm
  obtain ⟨a2, rfl, _, _⟩ := open_bool Tryd.underlying4 (hval 2 4 v2 rfl rfl) h2
  clear hA0 hval0
  refine (walk a0 a1 a2 W w0 w1 (tab_of_laid hL)).mono fun e W' ⟨he, bel⟩ => ?_
  subst he
  exact ⟨_, rfl, _, _, _, [], _, [], hW', trodAll_mk1 (shut_bool Tryd.underlying4 _), (trodAll_cons_mk (Below.trod laidOut (by kernel_rfl) (of_decide_eq_true (by kernel_rfl)) k0 bel lt0) (trodAll_cons_mk (Below.trod laidOut (by kernel_rfl) (of_decide_eq_true (by kernel_rfl)) k1 bel lt1) (trodAll_cons_mk (Below.trod laidOut (by kernel_rfl) (of_decide_eq_true (by kernel_rfl)) k2 bel lt2) trodAll_mk0))), rfl, bel.frame _, fun h => by cases h⟩
theorem over : Rows.faultSharesRow.holds Tryd.pinned (OpenSpec.ofChange Rows.faultSharesSpec) :=
  OpenClaim.holds_of_wide 5 Tryd.f5 rfl rfl rfl rfl rfl rfl rfl ⟨rfl, rfl, rfl, rfl, rfl⟩ rfl rfl rfl rfl rfl (by kernel_rfl) Tryd.func5 (by kernel_rfl)
    (of_decide_eq_true (by kernel_rfl)) (by unfold Func.isWrapper; first | (rw [if_pos (by decide +kernel)]; kernel_rfl) | (rw [if_neg (by decide +kernel)]; exact ⟨rfl, rfl⟩))
    (fun os started H enc _ => lifted os started H enc)
set_option maxRecDepth 100000 in
/-- The statement. -/
theorem proved : Rows.FaultSharesCardSaid :=
  Claim7.holds_tied_plain_at .later [] [.data] true _ false over (fun _ h => by cases h) (by kernel_rfl) (fun _ h => by cases h) faultShares_row_tie rfl ⟨rfl, rfl⟩ (by kernel_rfl) rfl
    (fun f fn hf hfn => by
      obtain rfl : f = 5 := Option.some.inj (hf.symm.trans (by kernel_rfl))
      obtain rfl : fn = Tryd.f5 := Option.some.inj (hfn.symm.trans Tryd.func5)
      refine ⟨by kernel_rfl, fun j t ht => ?_⟩
      rw [Tryd.params5] at ht
      match j, ht with
      | 0, ht =>
        obtain rfl : t = 23 := by simpa using ht.symm
        exact (by kernel_rfl : Tryd.pinned.checked.prog.wantsStandIn 23 = false)
      | 1, ht =>
        obtain rfl : t = 3 := by simpa using ht.symm
        exact (by kernel_rfl : Tryd.pinned.checked.prog.wantsStandIn 3 = false)
      | 2, ht =>
        obtain rfl : t = 4 := by simpa using ht.symm
        exact (by kernel_rfl : Tryd.pinned.checked.prog.wantsStandIn 4 = false)
      | j + 3, ht => simp at ht)
    (by kernel_rfl)
end Go.Proofs.YtdfokgfcohfgeaaDoor.lawShares16
