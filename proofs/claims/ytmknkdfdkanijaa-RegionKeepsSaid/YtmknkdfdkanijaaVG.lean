/- The reference's Add; a change done by the document. -/
import Derived.Test.YtmknkdfdkanijaaVF
namespace Go.Proofs.Ytmknkdfdkanijaa
open Go.RowKit Go.ChangeShapes Go.WideShapes Go.Deep
set_option linter.unusedVariables false
set_option linter.unusedSimpArgs false

set_option maxRecDepth 100000 in
set_option maxHeartbeats 12800000 in
theorem radd_any (l : List Rg) (r : Rg) (A : Option Addr) (n c : Nat) (w : World) (h : RS w A n c l) (hasc : Asc l) (hr : r.Wf) :
    Calls Try.prog 29 #[.slice A n c, .agg r.cs] w (RowE w) := by
  have HSP := Lib.hid (fun (v : World) (hv : Below w.heap.size w v) => rspread_any l A n c v (h.below hv) hasc)
  have HRW := Lib.hid (fun (v : World) (g : Nat) (f : Nat → Rg × Bool) (h1 : OwnR v ⟨g, 0, none⟩ f) (h2 : OkF f) => rrow_any f ⟨g, 0, none⟩ v h1 h2)
  have HM := Lib.hid (fun v => rmay_any r v hr)
  have HWF := Lib.hid hr
  obtain ⟨mb, hmb⟩ : ∃ m, r.mayB = m := ⟨_, rfl⟩
  have HMY := Lib.hid (show mb = true → r.May from fun e => (mayB_iff hr).1 (hmb.trans e))
  rw [hmb] at HM
  obtain ⟨W, hW⟩ : ∃ W, w.alloc (.cells r.cs 29) = W := ⟨_, rfl⟩
  have b0 : Blk W w.heap.size 29 r.cs := by rw [← hW]; exact Blk.new _ _ _
  have hbw : Below w.heap.size w W := by rw [← hW]; exact (Below.refl _ _).alloc (Nat.le_refl _) _
  have HC := Lib.hid (fun (x : World) (hx : Below W.heap.size W x) => show SixAt x w.heap.size r ∧ Below w.heap.size w x from ⟨(b0.below hx b0.lt).six, hbw.trans (hx.mono hbw.size)⟩)
  have HWS := Lib.hid (show W.heap.size = w.heap.size + 1 from by rw [← hW]; simp)
  unfold RowE
  obtain ⟨rf, rt, rp, rk, rfl', rpg⟩ := r
  have hm9 := HM.out
  unfold Rg.cs at hW hm9 ⊢
  simp only at hW hm9 ⊢
  have HW := Lib.hid hW
  have HMM := Lib.hid hm9
  obtain ⟨⟨s0, s1, s2, s3, s4, s5⟩, hb00⟩ := HC.out W (Below.refl _ _)
  simp only at s0 s1 s2 s3 s4 s5
  clear h hasc hr hmb hW b0 hbw HM hm9 hb00
  cases mb with
  | false =>
    go_enter Try.func29, Try.ntmps29
    go_upto_region 1 with fail
    rw [HW.out]
    go_wp2_with (go_at_call 40; refine (HMM.out _).mono ?_; rintro e x ⟨rfl, hb⟩)
    go_ret2
    exact ⟨none, 0, 0, 1, rfl, fun h => absurd h (by decide), (HC.out x hb).2⟩
  | true =>
    have hmay := HMY.out rfl
    have m1 := hmay.f
    have m2 := hmay.ft
    have m3 := hmay.t
    simp only at m1 m2 m3
    obtain ⟨a0, rfl⟩ : ∃ a0 : Nat, rf = (a0 : Int) := ⟨rf.toNat, by omega⟩
    obtain ⟨b0, rfl⟩ : ∃ b0 : Nat, rt = (b0 : Int) := ⟨rt.toNat, by omega⟩
    have hab : a0 < b0 ∧ b0 ≤ 4096 := by omega
    have HMAY := Lib.hid hmay
    clear hmay m1 m2 m3
    go_enter Try.func29, Try.ntmps29
    go_upto_region 1 with fail
    rw [HW.out]
    go_upto_region 4 with (go_at_call 40; refine (HMM.out _).mono ?_; rintro e x0 ⟨rfl, hb0⟩)
    clear s0 s1 s2 s3 s4 s5
    have HX0 := Lib.hid hb0
    clear hb0
    go_upto_region 5 with (go_at_call 18; refine (HSP.out _ (HC.out x0 HX0.out).2).mono ?_; rintro e v1 ⟨ad, f0, rfl, ho, hsp, hlo, hb1⟩)
    obtain ⟨g, rfl⟩ : ∃ g, ad = ⟨g, 0, none⟩ := ⟨_, ho.where_⟩
    have hlo : x0.heap.size ≤ g := hlo
    have hbv1 := HX0.out.trans (hb1.mono HX0.out.size)
    have HV1 := Lib.hid (And.intro hbv1 (And.intro ho hsp))
    have HG := Lib.hid (show W.heap.size ≤ g from Nat.le_trans HX0.out.size hlo)
    have HIS := Lib.hid (fun (p : Nat) (hp : p < 4096) => show v1.cell? ⟨g, p * 7 + 6, none⟩ = some (.bool (f0 p).2) from (ho.sevenL hp).c6)
    clear ho hsp hlo hb1 hbv1
    obtain ⟨⟨s0, s1, -⟩, -⟩ := HC.out v1 HV1.out.1
    simp only at s0 s1
    go_wp2
    go_loopw [8] (fun iv wr => ∃ p : Nat, a0 ≤ p ∧ p ≤ b0 ∧ iv = .int .i64 p ∧ wr = v1) (fun iv _ => b0 - (intOf iv).toNat)
    case atStart => exact ⟨a0, Nat.le_refl _, by omega, rfl, rfl⟩
    case round =>
      obtain ⟨p, hp0, hp1, rfl, rfl⟩ := hrel
      by_cases hpl : p < b0
      · have hs := HIS.out p (by omega)
        have k0 : (0 : Int) ≤ (p : Int) := by omega
        have k1 : (p : Int) < 4096 := by omega
        have k2 : (p : Int) < (b0 : Int) := by omega
        obtain ⟨s, hse⟩ : ∃ s, (f0 p).2 = s := ⟨_, rfl⟩
        rw [hse] at hs
        clear hse
        cases s with
        | true =>
          go_wp2
          go_ret2
          exact ⟨none, 0, 0, 13, rfl, fun h => absurd h (by decide), (HC.out _ HV1.out.1).2⟩
        | false =>
          go_wp2
          go_roundw
          case rel => exact ⟨p + 1, by omega, by omega, by go_num, by simp⟩
          case measure => simp [intOf]; omega
      · obtain rfl : b0 = p := by omega
        obtain ⟨⟨r0, r1, r2, r3, r4, r5⟩, -⟩ := HC.out _ HV1.out.1
        simp only at r0 r1 r2 r3 r4 r5
        have HSP2 := Lib.hid (fun (v : World) => show Calls Try.prog 18 #[.slice (some ⟨v.heap.size, 0, none⟩) 1 1] (v.alloc (.cells #[.int .i64 (a0 : Int), .int .i64 (b0 : Int), .int .i64 rp, .int .i64 rk, .int .i64 rfl', .int .i64 rpg] 29)) (fun e w' => ∃ (g2 : Nat) (f : Nat → Rg × Bool), e = .returned (.slice (some ⟨g2, 0, none⟩) 4096 4096) ∧ Hid (OwnR w' ⟨g2, 0, none⟩ f ∧ SpO [(⟨(a0 : Int), (b0 : Int), rp, rk, rfl', rpg⟩ : Rg)] f ∧ v.heap.size < g2 ∧ Below v.heap.size v w')) from by
          have hrs : RS (v.alloc (.cells #[.int .i64 (a0 : Int), .int .i64 (b0 : Int), .int .i64 rp, .int .i64 rk, .int .i64 rfl', .int .i64 rpg] 29)) (some ⟨v.heap.size, 0, none⟩) 1 1 [(⟨(a0 : Int), (b0 : Int), rp, rk, rfl', rpg⟩ : Rg)] := ⟨rg_new v [(⟨(a0 : Int), (b0 : Int), rp, rk, rfl', rpg⟩ : Rg)] (fun q hq => by simp at hq; subst hq; exact HWF.out), rfl, Nat.le_refl _, by decide, fun ad e => by cases e; simp⟩
          refine (rspread_any [(⟨(a0 : Int), (b0 : Int), rp, rk, rfl', rpg⟩ : Rg)] (some ⟨v.heap.size, 0, none⟩) 1 1 _ hrs (one_row HMAY.out).asc).mono ?_
          rintro e w' ⟨ad, f, h1, h2, h3, h4, h5⟩
          have hw := h2.where_
          have h6 := (Below.refl v.heap.size v).alloc (Nat.le_refl _) (.cells #[.int .i64 (a0 : Int), .int .i64 (b0 : Int), .int .i64 rp, .int .i64 rk, .int .i64 rfl', .int .i64 rpg] 29)
          simp at h4
          rw [hw] at h1 h2
          exact ⟨ad.block, f, h1, Lib.hid ⟨h2, h3, h4, h6.trans (h5.mono h6.size)⟩⟩)
        go_upto_region 11 with (go_at_call 18; refine (HSP2.out _).mono ?_; rintro e v2 ⟨g2, f2, rfl, h2⟩)
        clear r0 r1 r2 r3 r4 r5 s0 s1
        obtain ⟨ho2, hsp2, hlo2, hb2⟩ := h2.out
        obtain ⟨hbv1, ho, hsp⟩ := HV1.out
        have hbv2 := hbv1.trans (hb2.mono hbv1.size)
        have hgl : g < wr.heap.size := ho.lt
        have HGG := Lib.hid (show g2 ≠ g from by omega)
        have HST := Lib.hid (show ∃ f, OkF f ∧ OwnR v2 ⟨g, 0, none⟩ f ∧ OwnR v2 ⟨g2, 0, none⟩ f2 ∧ Below W.heap.size W v2 from ⟨f0, hsp.1, ho.below hb2, ho2, hbv2⟩)
        have HF2 := Lib.hid hsp2.1
        obtain ⟨⟨s0, s1, -⟩, -⟩ := HC.out v2 hbv2
        simp only at s0 s1
        clear ho2 hsp2 hlo2 hb2 hbv1 ho hsp hbv2 hgl HV1 HIS h2
        go_wp2
        clear s0 s1
        go_loopw [10] (fun iv wq => ∃ p : Nat, a0 ≤ p ∧ p ≤ b0 ∧ iv = .int .i64 p ∧ Hid (∃ f, OkF f ∧ OwnR wq ⟨g, 0, none⟩ f ∧ OwnR wq ⟨g2, 0, none⟩ f2 ∧ Below W.heap.size W wq)) (fun iv _ => b0 - (intOf iv).toNat)
        case atStart => exact ⟨a0, Nat.le_refl _, by omega, rfl, HST⟩
        case round =>
          clear HST
          obtain ⟨p, hp0, hp1, rfl, HI⟩ := hrel
          by_cases hpl : p < b0
          · have k0 : (0 : Int) ≤ (p : Int) := by omega
            have k1 : (p : Int) < 4096 := by omega
            have k2 : (p : Int) < (b0 : Int) := by omega
            have hlt : p < 4096 := by omega
            obtain ⟨f, h1, h2, h3, h4⟩ := HI.out
            obtain ⟨⟨s0, s1, -⟩, -⟩ := HC.out _ h4
            simp only at s0 s1
            have hx9 := HF2.out p hlt
            have hsx := h3.sevenL hlt
            have hsy := h2.sevenL hlt
            obtain ⟨x, hx⟩ : ∃ x, f2 p = x := ⟨_, rfl⟩
            rw [hx] at hx9 hsx
            have hfin := h2.allL hlt x.1 x.2
            have hHG := HG.out
            have HFIN := Lib.hid (show ∃ f', OkF f' ∧ OwnR _ ⟨g, 0, none⟩ f' ∧ OwnR _ ⟨g2, 0, none⟩ f2 ∧ Below W.heap.size W _ from ⟨_, h1.set p (x := (x.1, x.2)) hx9, hfin.1, h3.but hfin.2 HGG.out, h4.trans (hfin.2.below h4.size (fun k hk => by have hk : k = g := hk; omega))⟩)
            obtain ⟨⟨xf, xt, xp, xk, xfl, xpg⟩, xb⟩ := x
            obtain ⟨t0, t1, t2, t3, t4, t5, t6, tj⟩ := hsx
            obtain ⟨u0, u1, u2, u3, u4, u5, u6, uj⟩ := hsy
            have g0 := uj (p * 7)
            have g1 := uj (p * 7 + 1)
            have g2' := uj (p * 7 + 2)
            have g3 := uj (p * 7 + 3)
            have g4 := uj (p * 7 + 4)
            have g5 := uj (p * 7 + 5)
            have g6 := uj (p * 7 + 6)
            simp only at t0 t1 t2 t3 t4 t5 t6
            clear hfin uj tj h1 h2 h3 h4 hx9 hx hHG
            go_wp2
            go_roundw
            case rel => exact ⟨p + 1, by omega, by omega, by go_num, HFIN⟩
            case measure => simp [intOf]; omega
          · obtain rfl : b0 = p := by omega
            obtain ⟨f, h1, h2, h3, h4⟩ := HI.out
            obtain ⟨⟨s0, s1, -⟩, hb9⟩ := HC.out _ h4
            simp only at s0 s1
            have HR := Lib.hid (HRW.out _ g f h2 h1)
            have HB := Lib.hid hb9
            clear h1 h2 h3 h4 hb9
            go_wp2_with (go_at_call 39; refine HR.out.mono ?_; rintro e v5 ⟨A1, n1, c1, L, rfl, h4, h5, h6⟩)
            go_ret2
            exact ⟨A1, n1, c1, 0, rfl, fun _ => ⟨L, h4, h5.1, h5.2.from HB.out.size⟩, HB.out.trans (h6.mono HB.out.size)⟩
set_option maxRecDepth 100000 in
set_option maxHeartbeats 6400000 in
/-- A change, done by the document: a row that may be, or no OK. -/
theorem of_any (o : OpU) (l : List Rg) (A : Option Addr) (n c : Nat) (w : World) (h : RS w A n c l) (hasc : Asc l) (ho : o.Wf) :
    Calls Try.prog 11 #[.agg o.cs, .slice A n c] w (RowE w) := by
  obtain ⟨W, hW⟩ : ∃ W, w.alloc (.cells o.cs 31) = W := ⟨_, rfl⟩
  have b0 : Blk W w.heap.size 31 o.cs := by rw [← hW]; exact Blk.new _ _ _
  have hbw : Below w.heap.size w W := by rw [← hW]; exact (Below.refl _ _).alloc (Nat.le_refl _) _
  have hRW := h.below hbw
  have HCU := Lib.hid (rcut_any l o.f o.t A n c W hRW hasc)
  have HPR := Lib.hid (rprotect_any l o.f o.t o.p A n c W hRW hasc)
  have HAD := Lib.hid (radd_any l o.r A n c W hRW hasc ho.r)
  have HB := Lib.hid hbw
  have hm := i64_and7U o.kd
  have hm2 : 0 ≤ o.kd % 8 ∧ o.kd % 8 < 8 := by omega
  obtain ⟨R, hR⟩ : ∃ R, RowE w = R := ⟨_, rfl⟩
  rw [hR]
  have HR := Lib.hid (fun (e : Ending) (x : World) => show RowE w e x → R e x from fun h => by rw [← hR]; exact h)
  obtain ⟨kd, f, t, p, inn, ⟨rf, rt, rp, rk, rfl', rpg⟩⟩ := o
  simp only at hm hm2
  obtain ⟨c0, c1, c2, c3, c4, c5, c6, c7, c8, c9, c10⟩ := show W.cell? ⟨w.heap.size, 0, none⟩ = some (.int .i64 kd) ∧ W.cell? ⟨w.heap.size, 1, none⟩ = some (.int .i64 f) ∧ W.cell? ⟨w.heap.size, 2, none⟩ = some (.int .i64 t) ∧ W.cell? ⟨w.heap.size, 3, none⟩ = some (.int .i64 p) ∧ W.cell? ⟨w.heap.size, 4, none⟩ = some (.bool inn) ∧ W.cell? ⟨w.heap.size, 5, none⟩ = some (.int .i64 rf) ∧ W.cell? ⟨w.heap.size, 6, none⟩ = some (.int .i64 rt) ∧ W.cell? ⟨w.heap.size, 7, none⟩ = some (.int .i64 rp) ∧ W.cell? ⟨w.heap.size, 8, none⟩ = some (.int .i64 rk) ∧ W.cell? ⟨w.heap.size, 9, none⟩ = some (.int .i64 rfl') ∧ W.cell? ⟨w.heap.size, 10, none⟩ = some (.int .i64 rpg) from
    ⟨b0.at_ 0 _ rfl, b0.at_ 1 _ rfl, b0.at_ 2 _ rfl, b0.at_ 3 _ rfl, b0.at_ 4 _ rfl, b0.at_ 5 _ rfl, b0.at_ 6 _ rfl, b0.at_ 7 _ rfl, b0.at_ 8 _ rfl, b0.at_ 9 _ rfl, b0.at_ 10 _ rfl⟩
  have had := HAD.out
  clear HAD
  unfold OpU.cs at hW ⊢
  unfold Rg.cs at had
  simp only at hW had ⊢
  have HAD := Lib.hid had
  have HW := Lib.hid hW
  obtain ⟨K, hK⟩ : ∃ K, kd % 8 = K := ⟨_, rfl⟩
  rw [hK] at hm hm2
  clear h hasc ho hW b0 hbw hRW hR had hK
  have hcase : (K = 4 ∨ K = 5) ∨ (K = 6 ∨ K = 7) ∨ (K = 0 ∨ K = 1 ∨ K = 2 ∨ K = 3) := by omega
  clear hm2
  rcases hcase with (rfl | rfl) | (rfl | rfl) | (rfl | rfl | rfl | rfl)
  · go_enter Try.func11, Try.ntmps11
    go_upto_region 1 with fail
    rw [HW.out]
    go_wp2_with (go_at_call 27; refine HCU.out.mono ?_; rintro e v ⟨A1, n1, c1, L, rfl, h1, h2, h3⟩)
    try go_ret2
    exact HR.out _ _ ⟨A1, n1, c1, 0, rfl, fun _ => ⟨L, h1, h2.1, h2.2.from HB.out.size⟩, HB.out.trans (h3.mono HB.out.size)⟩
  · go_enter Try.func11, Try.ntmps11
    go_upto_region 1 with fail
    rw [HW.out]
    go_wp2_with (go_at_call 27; refine HCU.out.mono ?_; rintro e v ⟨A1, n1, c1, L, rfl, h1, h2, h3⟩)
    try go_ret2
    exact HR.out _ _ ⟨A1, n1, c1, 0, rfl, fun _ => ⟨L, h1, h2.1, h2.2.from HB.out.size⟩, HB.out.trans (h3.mono HB.out.size)⟩
  · go_enter Try.func11, Try.ntmps11
    go_upto_region 1 with fail
    rw [HW.out]
    go_wp2_with (go_at_call 28; refine HPR.out.mono ?_; rintro e v ⟨A1, n1, c1, en, rfl, h1, h2⟩)
    try go_ret2
    exact HR.out _ _ ⟨A1, n1, c1, en, rfl, fun e => (h1 e).imp fun L h => ⟨h.1, h.2.1, h.2.2.from HB.out.size⟩, HB.out.trans (h2.mono HB.out.size)⟩
  · go_enter Try.func11, Try.ntmps11
    go_upto_region 1 with fail
    rw [HW.out]
    go_wp2_with (go_at_call 28; refine HPR.out.mono ?_; rintro e v ⟨A1, n1, c1, en, rfl, h1, h2⟩)
    try go_ret2
    exact HR.out _ _ ⟨A1, n1, c1, en, rfl, fun e => (h1 e).imp fun L h => ⟨h.1, h.2.1, h.2.2.from HB.out.size⟩, HB.out.trans (h2.mono HB.out.size)⟩
  · go_enter Try.func11, Try.ntmps11
    go_upto_region 1 with fail
    rw [HW.out]
    go_wp2_with (go_at_call 29; refine HAD.out.mono ?_; rintro e v ⟨A1, n1, c1, en, rfl, h1, h2⟩)
    try go_ret2
    exact HR.out _ _ ⟨A1, n1, c1, en, rfl, fun e => (h1 e).imp fun L h => ⟨h.1, h.2.1, h.2.2.from HB.out.size⟩, HB.out.trans (h2.mono HB.out.size)⟩
  · go_enter Try.func11, Try.ntmps11
    go_upto_region 1 with fail
    rw [HW.out]
    go_wp2_with (go_at_call 29; refine HAD.out.mono ?_; rintro e v ⟨A1, n1, c1, en, rfl, h1, h2⟩)
    try go_ret2
    exact HR.out _ _ ⟨A1, n1, c1, en, rfl, fun e => (h1 e).imp fun L h => ⟨h.1, h.2.1, h.2.2.from HB.out.size⟩, HB.out.trans (h2.mono HB.out.size)⟩
  · go_enter Try.func11, Try.ntmps11
    go_upto_region 1 with fail
    rw [HW.out]
    go_wp2_with (go_at_call 29; refine HAD.out.mono ?_; rintro e v ⟨A1, n1, c1, en, rfl, h1, h2⟩)
    try go_ret2
    exact HR.out _ _ ⟨A1, n1, c1, en, rfl, fun e => (h1 e).imp fun L h => ⟨h.1, h.2.1, h.2.2.from HB.out.size⟩, HB.out.trans (h2.mono HB.out.size)⟩
  · go_enter Try.func11, Try.ntmps11
    go_upto_region 1 with fail
    rw [HW.out]
    go_wp2_with (go_at_call 29; refine HAD.out.mono ?_; rintro e v ⟨A1, n1, c1, en, rfl, h1, h2⟩)
    try go_ret2
    exact HR.out _ _ ⟨A1, n1, c1, en, rfl, fun e => (h1 e).imp fun L h => ⟨h.1, h.2.1, h.2.2.from HB.out.size⟩, HB.out.trans (h2.mono HB.out.size)⟩
end Go.Proofs.Ytmknkdfdkanijaa
