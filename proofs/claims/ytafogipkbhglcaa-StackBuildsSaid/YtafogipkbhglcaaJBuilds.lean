/- StackBuilds: for any top, and any args, env and aux: stacks are built, or not, as P17.1 says. -/
import Derived.Test.YtafogipkbhglcaaJT
import Derived.Test.YtafogipkbhglcaaJU
namespace Go.Proofs.Ytafogipkbhglcaa.lawBuilds17
open Go.ChangeShapes Go.WideShapes Go.ChangeAt Go.RowKit Go.Deep
set_option linter.unusedVariables false
set_option linter.unusedSimpArgs false

theorem Bg.In.below {b : Bg} {w w' : World} (h : b.In w) {n : Nat} (hn : n = w.heap.size) (hb : Below n w w') : b.In w' :=
  ⟨strRow_below17 h.a hn hb, strRow_below17 h.d hn hb, h.x.below hn hb, h.al, h.dl, h.xl, h.xc⟩
theorem paRow_take {w : World} {A : Option Addr} {l : List Pa} (h : PaRow w A l) (n : Nat) : PaRow w A (l.take n) := fun i hi => by
  have hi2 : i < l.length := by rw [List.length_take] at hi; omega
  obtain ⟨ad, e, hlt, hc, hw⟩ := h i hi2
  rw [List.getElem_take]
  exact ⟨ad, e, hlt, hc, hw⟩
/-- The law's own box. -/
structure Bb (w : World) (R : Nat) (u0 u1 u2 : Value) (v : World) : Prop where
  b : Blk v R 25 #[u0, u1, u2]
  bel : Below R w v
theorem Bb.below {w v v' : World} {R : Nat} {u0 u1 u2 : Value} (h : Bb w R u0 u1 u2 v) (hb : Below v.heap.size v v') : Bb w R u0 u1 u2 v' := ⟨h.b.below hb h.b.lt, h.bel.trans (hb.mono (Nat.le_of_lt h.b.lt))⟩
theorem Bb.set {w v : World} {R : Nat} {u0 u1 u2 : Value} (h : Bb w R u0 u1 u2 v) (a b c : Value) : Bb w R a b c (((v.setCell ⟨R, 0, none⟩ a).setCell ⟨R, 1, none⟩ b).setCell ⟨R, 2, none⟩ c) :=
  ⟨blk3U h.b a b c, ((h.bel.setCell (p := ⟨R, 0, none⟩) (Nat.le_refl _) a).setCell (p := ⟨R, 1, none⟩) (Nat.le_refl _) b).setCell (p := ⟨R, 2, none⟩) (Nat.le_refl _) c⟩
theorem Bb.cells {w v : World} {R : Nat} {u0 u1 u2 : Value} (h : Bb w R u0 u1 u2 v) : v.cell? ⟨R, 0, none⟩ = some u0 ∧ v.cell? ⟨R, 1, none⟩ = some u1 ∧ v.cell? ⟨R, 2, none⟩ = some u2 ∧ v.frozen? ⟨R, 0, none⟩ = false ∧ v.frozen? ⟨R, 1, none⟩ = false ∧ v.frozen? ⟨R, 2, none⟩ = false :=
  ⟨h.b.at_ 0 _ rfl, h.b.at_ 1 _ rfl, h.b.at_ 2 _ rfl, h.b.frozen 0, h.b.frozen 1, h.b.frozen 2⟩

set_option maxRecDepth 100000 in
set_option maxHeartbeats 3200000 in
theorem walk (top : Int) (b : Bg) (W : World) (wt : (Lit.int .i64 top).wf = true) (hb : b.In W) :
    Calls Try.prog 3 #[.int .i64 top, b.v] W fun e w' => e = .returned (.bool true) ∧ Below W.heap.size W w' := by
  obtain ⟨R, hR⟩ : ∃ R, W.heap.size = R := ⟨_, rfl⟩
  have HBI := Lib.hid (fun v (hv : Below R W v) => Bg.In.below hb hR.symm hv)
  have HSM := Lib.hid (fun v (hv : Below R W v) => small17 b v (Bg.In.below hb hR.symm hv))
  have HPX := Lib.hid (fun v (hv : Below R W v) => paRow_take (Bg.In.below hb hR.symm hv).x 10)
  clear hb
  obtain ⟨L1, hL1⟩ : ∃ L, fewL17 b.args = L := ⟨_, rfl⟩
  obtain ⟨L2, hL2⟩ : ∃ L, fewL17 b.env = L := ⟨_, rfl⟩
  obtain ⟨L3, hL3⟩ : ∃ L, b.aux.take 10 = L := ⟨_, rfl⟩
  have hl1 : L1.length ≤ 10 := by rw [← hL1, fewL17_len]; omega
  have hl2 : L2.length ≤ 10 := by rw [← hL2, fewL17_len]; omega
  have hl3 : L3.length ≤ 10 := by rw [← hL3, List.length_take]; omega
  have hs1 : ∀ s ∈ L1, s.size ≤ 40 := by rw [← hL1]; exact fewL17_ok _
  have hs2 : ∀ s ∈ L2, s.size ≤ 40 := by rw [← hL2]; exact fewL17_ok _
  have ht1 : tlen L1 ≤ 1000 := Nat.le_trans (tlen_le hs1) (by have := Nat.mul_le_mul_right 41 hl1; omega)
  have ht2 : tlen L2 ≤ 1000 := Nat.le_trans (tlen_le hs2) (by have := Nat.mul_le_mul_right 41 hl2; omega)
  have HSM2 := Lib.hid (show ∀ v, Below R W v → Calls Try.prog 9 #[b.v] v fun e w' => ∃ A c D d, e = .returned (.agg #[.slice A L1.length c, .slice D L2.length d, .slice b.X L3.length b.x]) ∧ StrRow w' A L1 ∧ StrRow w' D L2 ∧ Below v.heap.size v w' ∧ (∀ ad, A = some ad → v.heap.size ≤ ad.block) ∧ (∀ ad, D = some ad → v.heap.size ≤ ad.block) from fun v hv => by
    rw [← hL1, ← hL2, ← hL3]
    exact HSM.out v hv)
  rw [hL3] at HPX
  obtain ⟨X, hX⟩ : ∃ X, b.X = X := ⟨_, rfl⟩
  obtain ⟨x, hx⟩ : ∃ x, b.x = x := ⟨_, rfl⟩
  rw [hX] at HPX HSM2
  rw [hx] at HSM2
  have HBU := Lib.hid (fun (A D : Option Addr) (c d : Nat) (v : World) (q1 : StrRow v A L1) (q2 : StrRow v D L2) (q3 : Below R W v) => build_any top A D X L1 L2 L3 c d x v wt q1 q2 (HPX.out v q3) (by omega) (by omega) (by omega) (by omega) (by omega))
  have HRB := Lib.hid (fun (A D : Option Addr) (c d : Nat) (v : World) (q1 : StrRow v A L1) (q2 : StrRow v D L2) (q3 : Below R W v) => rbuild17 top A D X L1 L2 L3 c d x v wt q1 q2 (HPX.out v q3) (by omega) (by omega) (by omega) (fun s hs => by have := hs1 s hs; omega) (fun s hs => by have := hs2 s hs; omega))
  have HSZ := Lib.hid (fun (A D : Option Addr) (c d : Nat) (v : World) (q1 : StrRow v A L1) (q2 : StrRow v D L2) => size_any A D X L1 L2 L3 c d x v q1 q2 (by omega) (by omega) (by omega) (by omega) (by omega))
  have HRZ := Lib.hid (fun (A D : Option Addr) (c d : Nat) (v : World) (q1 : StrRow v A L1) (q2 : StrRow v D L2) => rsize17 A D X L1 L2 L3 c d x v q1 q2 (by omega) (by omega) (by omega) (by omega) (by omega))
  unfold builtV at HRB
  obtain ⟨P, hP⟩ : ∃ P, buildP top L1 L2 L3 = P := ⟨_, rfl⟩
  obtain ⟨BS, hBS⟩ : ∃ P, buildS top L1 L2 L3 = P := ⟨_, rfl⟩
  obtain ⟨E, hE⟩ : ∃ P, buildE top L1 L2 L3 = P := ⟨_, rfl⟩
  obtain ⟨S, hS⟩ : ∃ P, sizeN L1 L2 L3 = P := ⟨_, rfl⟩
  obtain ⟨k1, hk1⟩ : ∃ P, L1.length = P := ⟨_, rfl⟩
  obtain ⟨k2, hk2⟩ : ∃ P, L2.length = P := ⟨_, rfl⟩
  obtain ⟨k3, hk3⟩ : ∃ P, L3.length = P := ⟨_, rfl⟩
  rw [hP, hBS, hE, hk1, hk2, hk3] at HBU HRB
  rw [hS, hk1, hk2, hk3] at HSZ HRZ
  rw [hk1, hk2, hk3] at HSM2
  have HAW := Lib.hid (fun v => awake17 v)
  have HBV := Lib.hid (show ∃ u0 u1 u2, b.v = .agg #[u0, u1, u2] from ⟨_, _, _, rfl⟩)
  clear hL1 hL2 hL3 hl1 hl2 hl3 hs1 hs2 ht1 ht2 hX hx hP hBS hE hS hk1 hk2 hk3 HSM HBI wt
  obtain ⟨u0, u1, u2, hbv⟩ := HBV.out
  rw [hbv] at HSM2 ⊢
  clear HBV hbv
  have HS0 := Lib.hid (show Bb W R u0 u1 u2 (W.alloc (.cells #[u0, u1, u2] 25)) from by
    rw [← hR]
    exact ⟨Blk.new _ _ _, (Below.refl _ _).alloc (Nat.le_refl _) _⟩)
  obtain ⟨W0, hW⟩ : ∃ W0, W.alloc (.cells #[u0, u1, u2] 25) = W0 := ⟨_, rfl⟩
  rw [hW] at HS0
  have HW := Lib.hid hW
  clear hW
  go_enter Try.func3, Try.ntmps3
  go_upto_region 1 with fail
  rw [HW.out]
  go_upto_region 2 with (go_at_call 8; refine (HAW.out _).mono ?_; rintro e v1 ⟨rfl, hb1⟩)
  have HS1 := Lib.hid (HS0.out.below hb1)
  obtain ⟨x0, x1, x2, -, -, -⟩ := HS1.out.cells
  clear hb1 HS0 HW HAW
  go_upto_region 3 with (go_at_call 9; refine (HSM2.out _ HS1.out.bel).mono ?_; rintro e v2 ⟨A, c, D, d, rfl, hr1, hr2, hb2, hn1, hn2⟩; have HS2 := Lib.hid (HS1.out.below hb2); obtain ⟨p0, p1, p2, q0, q1, q2⟩ := HS2.out.cells)
  have HG := Lib.hid (show R < v1.heap.size from HS1.out.b.lt)
  have HN1 := Lib.hid (show ∀ ad, A = some ad → ad.block ≠ R from fun ad e h => by have h1 := HG.out; have h2 := hn1 ad e; omega)
  have HN2 := Lib.hid (show ∀ ad, D = some ad → ad.block ≠ R from fun ad e h => by have h1 := HG.out; have h2 := hn2 ad e; omega)
  have HR1 := Lib.hid (strRow_far17 (strRow_far17 (strRow_far17 hr1 (p := ⟨R, 0, none⟩) (fun ad e => HN1.out ad e) (.slice A k1 c)) (p := ⟨R, 1, none⟩) (fun ad e => HN1.out ad e) (.slice D k2 d)) (p := ⟨R, 2, none⟩) (fun ad e => HN1.out ad e) (.slice X k3 x))
  have HR2 := Lib.hid (strRow_far17 (strRow_far17 (strRow_far17 hr2 (p := ⟨R, 0, none⟩) (fun ad e => HN2.out ad e) (.slice A k1 c)) (p := ⟨R, 1, none⟩) (fun ad e => HN2.out ad e) (.slice D k2 d)) (p := ⟨R, 2, none⟩) (fun ad e => HN2.out ad e) (.slice X k3 x))
  have HS3 := Lib.hid (HS2.out.set (.slice A k1 c) (.slice D k2 d) (.slice X k3 x))
  clear hr1 hr2 hb2 hn1 hn2 x0 x1 x2 p0 p1 p2 q0 q1 q2 HS1 HS2 HSM2
  generalize ((v2.setCell ⟨R, 0, none⟩ (.slice A k1 c)).setCell ⟨R, 1, none⟩ (.slice D k2 d)).setCell ⟨R, 2, none⟩ (.slice X k3 x) = W3 at *
  obtain ⟨x0, x1, x2, -, -, -⟩ := HS3.out.cells
  go_upto_region 4 with (go_at_call 10; refine (HBU.out A D c d _ HR1.out HR2.out HS3.out.bel).mono ?_; rintro e v4 ⟨rfl, hb4⟩)
  have HS4 := Lib.hid (HS3.out.below hb4)
  have HR3 := Lib.hid (strRow_below17 HR1.out rfl hb4)
  have HR4 := Lib.hid (strRow_below17 HR2.out rfl hb4)
  clear hb4 x0 x1 x2 HS3 HR1 HR2
  obtain ⟨x0, x1, x2, -, -, -⟩ := HS4.out.cells
  go_upto_region 5 with (go_at_call 11; refine (HRB.out A D c d _ HR3.out HR4.out HS4.out.bel).mono ?_; rintro e v5 ⟨rfl, hb5⟩)
  obtain ⟨G, hG⟩ : ∃ G, v5.heap.size = G := ⟨_, rfl⟩
  have HB6 := Lib.hid (show Below v5.heap.size v5 (v5.alloc (.cells #[.int .i64 P, .string BS, .int .i64 E] 32)) from (Below.refl _ _).alloc (Nat.le_refl _) _)
  have HS5 := Lib.hid ((HS4.out.below hb5).below HB6.out)
  have HR5 := Lib.hid (strRow_below17 (strRow_below17 HR3.out rfl hb5) rfl HB6.out)
  have HR6 := Lib.hid (strRow_below17 (strRow_below17 HR4.out rfl hb5) rfl HB6.out)
  have HK := Lib.hid (show Blk (v5.alloc (.cells #[.int .i64 P, .string BS, .int .i64 E] 32)) G 32 #[.int .i64 P, .string BS, .int .i64 E] from by rw [← hG]; exact Blk.new _ _ _)
  rw [hG]
  clear hb5 x0 x1 x2 HS4 HR3 HR4 HB6 hG HBU HRB
  generalize v5.alloc (.cells #[.int .i64 P, .string BS, .int .i64 E] 32) = W6 at *
  obtain ⟨x0, x1, x2, -, -, -⟩ := HS5.out.cells
  have y0 : W6.cell? ⟨G, 0, none⟩ = some (.int .i64 P) := HK.out.at_ 0 _ rfl
  have y1 : W6.cell? ⟨G, 1, none⟩ = some (.string BS) := HK.out.at_ 1 _ rfl
  have y2 : W6.cell? ⟨G, 2, none⟩ = some (.int .i64 E) := HK.out.at_ 2 _ rfl
  have HQ1 := Lib.hid (fun q => (HSZ.out A D c d (W6.drewN q) HR5.out HR6.out).mono (fun e w' (h : _ ∧ _) => And.intro h.1 h.2.symm))
  have HQ2 := Lib.hid (fun q => (HRZ.out A D c d (W6.drewN q) HR5.out HR6.out).mono (fun e w' (h : _ ∧ _) => And.intro h.1 h.2.symm))
  go_quiet (first
    | (go_at_call 12; with_reducible exact Calls.quiet_of_same (HQ1.out _))
    | (go_at_call 13; with_reducible exact Calls.quiet_of_same (HQ2.out _)))
  go_wp2
  go_ret
  exact ⟨by simp, by rw [hR]; exact Go.Proofs.Ytafogipkbhglcaa.Below.drewN HS5.out.bel _⟩

set_option maxRecDepth 100000 in
theorem lifted (os : Os) (started : os.Started) (H : Type) (enc : TypeId × Value → H) :
    ReturnsInHanded {} Try.checked os 3 .any (Rows.stackBuildsSpec.pre6 enc Try.prog Try.f3 Rows.stackBuildsRow.domain false) (Rows.stackBuildsSpec.post enc Try.prog Try.f3 false true false false) := by
  refine returnsInHanded_of_change (C := Try.checked) own started (by kernel_rfl) Try.func3
    (ChangeSpec.witness6 (enc := enc) (C := Try.checked) false ⟨#[], #[.int .i64 0, zbegV], []⟩ 8 (by kernel_rfl) (by kernel_rfl) (by kernel_rfl) (by kernel_rfl)) ?_
  intro W base args ds gs before hval0 hW hcnd _
  have hval : ∀ (j : Nat) t v, Try.f3.params[j]? = some t → args[j]? = some v → Value.okWide Try.prog W .any base t v := hval0
  have hW' := hW
  obtain ⟨p, q, hA0, hV, rfl, hfz, hnd⟩ := hW
  have hA : DataW.TrodAll enc Try.prog W 0 (fun _ => true) true Try.f3.params.toList args.toList ds p := hA0
  rw [Try.params3] at hA hval
  obtain ⟨v0, vs0, d0, ds0, p0, q0, hargs, rfl, rfl, h0, r0⟩ := trodAll_cons hA
  obtain ⟨v1, vs1, d1, ds1, p1, q1, rfl, rfl, rfl, h1, r1⟩ := trodAll_cons r0
  obtain ⟨rfl, rfl, rfl⟩ := trodAll_nil r1
  obtain rfl : args = #[v0, v1] := by cases args; simp_all
  obtain ⟨rfl, rfl⟩ := trodVars_none hV
  have k0 := h0
  have lt0 : ∀ x ∈ p0, x.block < W.heap.size := by obtain ⟨m, hm⟩ := k0; exact DataW.trod_lt m _ _ _ hm
  obtain ⟨a0, rfl, _, _, w0⟩ := open_int Try.underlying3 (hval 0 3 v0 rfl rfl) h0
  have k1 := h1
  have lt1 : ∀ x ∈ p1, x.block < W.heap.size := by obtain ⟨m, hm⟩ := k1; exact DataW.trod_lt m _ _ _ hm
  obtain ⟨a1, rfl, w1⟩ := open_begin17 (hval 1 25 v1 rfl rfl) h1
  clear hA0 hval0
  refine (walk a0 a1 W w0 w1).mono fun e W' ⟨he, bel⟩ => ?_
  subst he
  exact ⟨_, rfl, _, _, _, [], _, [], hW', trodAll_mk1 (shut_bool Try.underlying4 _), (trodAll_cons_mk (Below.trod laidOut (by kernel_rfl) (of_decide_eq_true (by kernel_rfl)) k0 bel lt0) (trodAll_cons_mk (Below.trod laidOut (by kernel_rfl) (of_decide_eq_true (by kernel_rfl)) k1 bel lt1) trodAll_mk0)), rfl, bel.frame _, fun h => by cases h⟩
theorem over : Rows.stackBuildsRow.holds Try.pinned (OpenSpec.ofChange Rows.stackBuildsSpec) :=
  OpenClaim.holds_of_wide 3 Try.f3 rfl rfl rfl rfl rfl rfl rfl ⟨rfl, rfl, rfl, rfl, rfl⟩ rfl rfl rfl rfl rfl (by kernel_rfl) Try.func3 (by kernel_rfl)
    (of_decide_eq_true (by kernel_rfl)) (by unfold Func.isWrapper; first | (rw [if_pos (by decide +kernel)]; kernel_rfl) | (rw [if_neg (by decide +kernel)]; exact ⟨rfl, rfl⟩))
    (fun os started H enc _ => lifted os started H enc)
/-- The statement. -/
theorem proved : Rows.StackBuildsSaid := over
end Go.Proofs.Ytafogipkbhglcaa.lawBuilds17
