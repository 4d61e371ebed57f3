/- RadixPacks: for any entry and any bits: they are packed and unpacked as the chapter says. -/
import Derived.Test.YtbidlabhekiijaaDoorQE
namespace Go.Proofs.YtbidlabhekiijaaDoor.lawPacks
open Go.ChangeShapes Go.WideShapes Go.ChangeAt Go.RowKit
set_option linter.unusedVariables false

@[local go_sem] theorem eq_same (a b c d : Bool) (n : Int) (w : World) : (Op.equalIn 10000 23 (.agg #[.bool a, .bool b, .bool c, .bool d, .int .i64 n]) (.agg #[.bool a, .bool b, .bool c, .bool d, .int .i64 n])).run Tryd.prog w = .ok true w := by
  rw [eq_sl]
  simp

set_option maxRecDepth 100000 in
set_option maxHeartbeats 1600000 in
theorem walk (s : Sl) (x : Int) (w : World) (ws : (Lit.int .i64 s.n).wf = true) (wx : (Lit.int .u64 x).wf = true) (hT : Tab w) :
    Calls Tryd.prog 3 #[s.v, .int .u64 x] w fun e w' => e = .returned (.bool true) ∧ Below w.heap.size w w' := by
  have hx : 0 ≤ x ∧ x < 18446744073709551616 := by have := bounds_u64 wx; omega
  have HA := Lib.hid (fun (v : World) (h : Tab v) => awake7_any v h)
  have HM := Lib.hid (refMay_any s)
  have HP := Lib.hid (pack_any s)
  have HRP := Lib.hid (refPack_any s)
  have HU := Lib.hid (fun v => unpack_any x v wx)
  have HRU := Lib.hid (fun v => refUnpack_any x v hx)
  have hr := s.pack_range
  have HU2 := Lib.hid (fun v => unpack_any s.pack v (wf_u64 hr.1 (by omega)))
  obtain ⟨bk, hbk⟩ : ∃ bk, unpS s.pack = bk := ⟨_, rfl⟩
  have hbk2 : bk = if s.may = true then s else Sl.zero := by
    rw [← hbk]
    by_cases hm : s.may = true
    · rw [if_pos hm, Sl.unp_pack hm]
    · rw [if_neg hm, Sl.pack_no (by simpa using hm), unpS_zero]
  rw [hbk] at HU2
  obtain ⟨y, hy⟩ : ∃ y, unpS x = y := ⟨_, rfl⟩
  rw [hy] at HU HRU
  obtain ⟨pk, hpk⟩ : ∃ pk, s.pack = pk := ⟨_, rfl⟩
  rw [hpk] at HP HRP HU2
  obtain ⟨mb, hmb⟩ : ∃ mb, s.may = mb := ⟨_, rfl⟩
  rw [hmb] at HM hbk2
  have hB0 := (Below.refl w.heap.size w).alloc (Nat.le_refl _) (.cells s.cs 23)
  have k0 := Blk.new w 23 s.cs
  have hT0 := hT.alloc (.cells s.cs 23)
  obtain ⟨W0, hW0⟩ : ∃ W0, w.alloc (.cells s.cs 23) = W0 := ⟨_, rfl⟩
  rw [hW0] at hB0 k0 hT0
  have HK := Lib.hid (And.intro k0 (And.intro hB0 hT0))
  clear hT hT0 hB0 k0 hr hx wx hbk hy hpk hmb ws
  obtain ⟨sa, sb, sc, sd, sn⟩ := s
  obtain ⟨ya, yb, yc, yd, yn⟩ := y
  unfold Sl.v Sl.cs at *
  simp only at *
  cases mb
  · obtain rfl := hbk2
    simp only [Sl.zero, if_neg (show ¬ (false = true) by decide)] at *
    go_enter Tryd.func3, Tryd.ntmps3
    go_wp2_with (first
      | (go_at_call 10; refine (HA.out _ HK.out.2.2).mono ?_; rintro e v1 ⟨rfl, hb⟩
         have h1 := HK.out.1.below hb HK.out.1.lt
         have hlt := h1.lt
         have q0 := h1.at_ 0 _ rfl
         have q1 := h1.at_ 1 _ rfl
         have q2 := h1.at_ 2 _ rfl
         have q3 := h1.at_ 3 _ rfl
         have q4 := h1.at_ 4 _ rfl
         have h2 := h1.alloc (.cells #[.bool sa, .bool sb, .bool sc, .bool sd, .int .i64 sn] 23)
         have g2 := Blk.new v1 23 #[.bool sa, .bool sb, .bool sc, .bool sd, .int .i64 sn]
         have HB1 := HK.out.2.1.trans (hb.mono HK.out.2.1.size)
         have hB2 := HB1.alloc HB1.size (.cells #[.bool sa, .bool sb, .bool sc, .bool sd, .int .i64 sn] 23)
         obtain ⟨V1, hV1⟩ : ∃ V1, v1.alloc (.cells #[.bool sa, .bool sb, .bool sc, .bool sd, .int .i64 sn] 23) = V1 := ⟨_, rfl⟩
         rw [hV1] at h2 g2 hB2
         have x0 := h2.at_ 0 _ rfl
         have x1 := h2.at_ 1 _ rfl
         have x2 := h2.at_ 2 _ rfl
         have x3 := h2.at_ 3 _ rfl
         have x4 := h2.at_ 4 _ rfl
         have HK1 := Lib.hid (And.intro h2 (And.intro g2 (And.intro hB2 (And.intro hlt HB1.size))))
         clear h1 hb h2 g2 hB2 HB1 hlt)
      | (go_at_call 11; refine Hid.out ?_))
    refine Lib.hid ?_
    refine (HM.out _).mono ?_
    rintro e v2 ⟨rfl, hb⟩
    have h2 := HK1.out.1.below hb HK1.out.1.lt
    have g2 := HK1.out.2.1.below hb HK1.out.2.1.lt
    have hB2 := HK1.out.2.2.1.trans (hb.mono HK1.out.2.2.1.size)
    clear x0 x1 x2 x3 x4 q0 q1 q2 q3 q4 hb
    obtain ⟨bb, hbb⟩ : ∃ bb, v1.heap.size = bb := ⟨_, rfl⟩
    have hlt := HK1.out.2.2.2.1
    have hle := HK1.out.2.2.2.2
    rw [hbb] at g2 hlt hle
    clear HK1
    try rw [hbb]
    have x0 := h2.at_ 0 _ rfl
    have x1 := h2.at_ 1 _ rfl
    have x2 := h2.at_ 2 _ rfl
    have x3 := h2.at_ 3 _ rfl
    have x4 := h2.at_ 4 _ rfl
    have f0 := g2.frozen 0
    have f1 := g2.frozen 1
    have f2 := g2.frozen 2
    have f3 := g2.frozen 3
    have f4 := g2.frozen 4
    have z0 := g2.at_ 0 _ rfl
    have z1 := g2.at_ 1 _ rfl
    have z2 := g2.at_ 2 _ rfl
    have z3 := g2.at_ 3 _ rfl
    have z4 := g2.at_ 4 _ rfl
    have g3 := sl_set (show Blk v2 bb 23 (Sl.mk sa sb sc sd sn).cs from g2) Sl.zero
    have h3 := sl_set_far h2 (show w.heap.size ≠ bb by omega) Sl.zero
    have hB3 := sl_set_below hB2 hle Sl.zero
    unfold Sl.cs Sl.zero at g3 h3 hB3
    simp only at g3 h3 hB3
    obtain ⟨V3, hV3⟩ : ∃ V3, ((((v2.setCell ⟨bb, 0, none⟩ (.bool false)).setCell ⟨bb, 1, none⟩ (.bool false)).setCell ⟨bb, 2, none⟩ (.bool false)).setCell ⟨bb, 3, none⟩ (.bool false)).setCell ⟨bb, 4, none⟩ (.int .i64 0) = V3 := ⟨_, rfl⟩
    rw [hV3] at g3 h3 hB3
    clear h2 g2 hB2
    go_upto_region 6 with fail
    try clear x0 x1 x2 x3 x4
    try clear f0 f1 f2 f3 f4 z0 z1 z2 z3 z4
    have K0 := Lib.hid (h3.drewN 1)
    have K1 := Lib.hid (g3.drewN 1)
    have HB := Lib.hid (Below.drewN hB3 1)
    have x0 := h3.at_ 0 _ rfl
    have z0 := g3.at_ 0 _ rfl
    have x1 := h3.at_ 1 _ rfl
    have z1 := g3.at_ 1 _ rfl
    have x2 := h3.at_ 2 _ rfl
    have z2 := g3.at_ 2 _ rfl
    have x3 := h3.at_ 3 _ rfl
    have z3 := g3.at_ 3 _ rfl
    have x4 := h3.at_ 4 _ rfl
    have z4 := g3.at_ 4 _ rfl
    clear h3 g3 hB3
    go_region_held3 (fun w' => w'.cell? ⟨w.heap.size, 0, none⟩ = some (.bool sa) ∧ w'.cell? ⟨w.heap.size, 1, none⟩ = some (.bool sb) ∧ w'.cell? ⟨w.heap.size, 2, none⟩ = some (.bool sc) ∧ w'.cell? ⟨w.heap.size, 3, none⟩ = some (.bool sd) ∧ w'.cell? ⟨w.heap.size, 4, none⟩ = some (.int .i64 sn) ∧ w'.cell? ⟨bb, 0, none⟩ = some (.bool false) ∧ w'.cell? ⟨bb, 1, none⟩ = some (.bool false) ∧ w'.cell? ⟨bb, 2, none⟩ = some (.bool false) ∧ w'.cell? ⟨bb, 3, none⟩ = some (.bool false) ∧ w'.cell? ⟨bb, 4, none⟩ = some (.int .i64 0))
      (first | exact ⟨x0, x1, x2, x3, x4, z0, z1, z2, z3, z4⟩)
      (first
      | (go_at_call 12; (with_reducible refine (HP.out _).mono ?_); rintro e v3 ⟨rfl, hb⟩; have K0n := Lib.hid (K0.out.below hb K0.out.lt); have K1n := Lib.hid (K1.out.below hb K1.out.lt); have HBn := Lib.hid (HB.out.trans (hb.mono HB.out.size)); clear x0 x1 x2 x3 x4 z0 z1 z2 z3 z4 K0 K1 HB hb; have K0 := K0n; have K1 := K1n; have HB := HBn; clear K0n K1n HBn; have x0 := K0.out.at_ 0 _ rfl; have z0 := K1.out.at_ 0 _ rfl; have x1 := K0.out.at_ 1 _ rfl; have z1 := K1.out.at_ 1 _ rfl; have x2 := K0.out.at_ 2 _ rfl; have z2 := K1.out.at_ 2 _ rfl; have x3 := K0.out.at_ 3 _ rfl; have z3 := K1.out.at_ 3 _ rfl; have x4 := K0.out.at_ 4 _ rfl; have z4 := K1.out.at_ 4 _ rfl)
      | (go_at_call 13; (with_reducible refine (HRP.out _).mono ?_); rintro e v3 ⟨rfl, hb⟩; have K0n := Lib.hid (K0.out.below hb K0.out.lt); have K1n := Lib.hid (K1.out.below hb K1.out.lt); have HBn := Lib.hid (HB.out.trans (hb.mono HB.out.size)); clear x0 x1 x2 x3 x4 z0 z1 z2 z3 z4 K0 K1 HB hb; have K0 := K0n; have K1 := K1n; have HB := HBn; clear K0n K1n HBn; have x0 := K0.out.at_ 0 _ rfl; have z0 := K1.out.at_ 0 _ rfl; have x1 := K0.out.at_ 1 _ rfl; have z1 := K1.out.at_ 1 _ rfl; have x2 := K0.out.at_ 2 _ rfl; have z2 := K1.out.at_ 2 _ rfl; have x3 := K0.out.at_ 3 _ rfl; have z3 := K1.out.at_ 3 _ rfl; have x4 := K0.out.at_ 4 _ rfl; have z4 := K1.out.at_ 4 _ rfl)
      | (go_at_call 14; (with_reducible refine (HU.out _).mono ?_); rintro e v3 ⟨rfl, hb⟩; have K0n := Lib.hid (K0.out.below hb K0.out.lt); have K1n := Lib.hid (K1.out.below hb K1.out.lt); have HBn := Lib.hid (HB.out.trans (hb.mono HB.out.size)); clear x0 x1 x2 x3 x4 z0 z1 z2 z3 z4 K0 K1 HB hb; have K0 := K0n; have K1 := K1n; have HB := HBn; clear K0n K1n HBn; have x0 := K0.out.at_ 0 _ rfl; have z0 := K1.out.at_ 0 _ rfl; have x1 := K0.out.at_ 1 _ rfl; have z1 := K1.out.at_ 1 _ rfl; have x2 := K0.out.at_ 2 _ rfl; have z2 := K1.out.at_ 2 _ rfl; have x3 := K0.out.at_ 3 _ rfl; have z3 := K1.out.at_ 3 _ rfl; have x4 := K0.out.at_ 4 _ rfl; have z4 := K1.out.at_ 4 _ rfl)
      | (go_at_call 14; (with_reducible refine (HU2.out _).mono ?_); rintro e v3 ⟨rfl, hb⟩; have K0n := Lib.hid (K0.out.below hb K0.out.lt); have K1n := Lib.hid (K1.out.below hb K1.out.lt); have HBn := Lib.hid (HB.out.trans (hb.mono HB.out.size)); clear x0 x1 x2 x3 x4 z0 z1 z2 z3 z4 K0 K1 HB hb; have K0 := K0n; have K1 := K1n; have HB := HBn; clear K0n K1n HBn; have x0 := K0.out.at_ 0 _ rfl; have z0 := K1.out.at_ 0 _ rfl; have x1 := K0.out.at_ 1 _ rfl; have z1 := K1.out.at_ 1 _ rfl; have x2 := K0.out.at_ 2 _ rfl; have z2 := K1.out.at_ 2 _ rfl; have x3 := K0.out.at_ 3 _ rfl; have z3 := K1.out.at_ 3 _ rfl; have x4 := K0.out.at_ 4 _ rfl; have z4 := K1.out.at_ 4 _ rfl)
      | (go_at_call 15; (with_reducible refine (HRU.out _).mono ?_); rintro e v3 ⟨rfl, hb⟩; have K0n := Lib.hid (K0.out.below hb K0.out.lt); have K1n := Lib.hid (K1.out.below hb K1.out.lt); have HBn := Lib.hid (HB.out.trans (hb.mono HB.out.size)); clear x0 x1 x2 x3 x4 z0 z1 z2 z3 z4 K0 K1 HB hb; have K0 := K0n; have K1 := K1n; have HB := HBn; clear K0n K1n HBn; have x0 := K0.out.at_ 0 _ rfl; have z0 := K1.out.at_ 0 _ rfl; have x1 := K0.out.at_ 1 _ rfl; have z1 := K1.out.at_ 1 _ rfl; have x2 := K0.out.at_ 2 _ rfl; have z2 := K1.out.at_ 2 _ rfl; have x3 := K0.out.at_ 3 _ rfl; have z3 := K1.out.at_ 3 _ rfl; have x4 := K0.out.at_ 4 _ rfl; have z4 := K1.out.at_ 4 _ rfl))
    go_wp2
    go_ret
    exact ⟨rfl, HB.out⟩
  · obtain rfl := hbk2
    simp only [if_true] at *
    go_enter Tryd.func3, Tryd.ntmps3
    go_wp2_with (first
      | (go_at_call 10; refine (HA.out _ HK.out.2.2).mono ?_; rintro e v1 ⟨rfl, hb⟩
         have h1 := HK.out.1.below hb HK.out.1.lt
         have hlt := h1.lt
         have q0 := h1.at_ 0 _ rfl
         have q1 := h1.at_ 1 _ rfl
         have q2 := h1.at_ 2 _ rfl
         have q3 := h1.at_ 3 _ rfl
         have q4 := h1.at_ 4 _ rfl
         have h2 := h1.alloc (.cells #[.bool sa, .bool sb, .bool sc, .bool sd, .int .i64 sn] 23)
         have g2 := Blk.new v1 23 #[.bool sa, .bool sb, .bool sc, .bool sd, .int .i64 sn]
         have HB1 := HK.out.2.1.trans (hb.mono HK.out.2.1.size)
         have hB2 := HB1.alloc HB1.size (.cells #[.bool sa, .bool sb, .bool sc, .bool sd, .int .i64 sn] 23)
         obtain ⟨V1, hV1⟩ : ∃ V1, v1.alloc (.cells #[.bool sa, .bool sb, .bool sc, .bool sd, .int .i64 sn] 23) = V1 := ⟨_, rfl⟩
         rw [hV1] at h2 g2 hB2
         have x0 := h2.at_ 0 _ rfl
         have x1 := h2.at_ 1 _ rfl
         have x2 := h2.at_ 2 _ rfl
         have x3 := h2.at_ 3 _ rfl
         have x4 := h2.at_ 4 _ rfl
         have HK1 := Lib.hid (And.intro h2 (And.intro g2 (And.intro hB2 (And.intro hlt HB1.size))))
         clear h1 hb h2 g2 hB2 HB1 hlt)
      | (go_at_call 11; refine Hid.out ?_))
    refine Lib.hid ?_
    refine (HM.out _).mono ?_
    rintro e v2 ⟨rfl, hb⟩
    have h2 := HK1.out.1.below hb HK1.out.1.lt
    have g2 := HK1.out.2.1.below hb HK1.out.2.1.lt
    have hB2 := HK1.out.2.2.1.trans (hb.mono HK1.out.2.2.1.size)
    clear x0 x1 x2 x3 x4 q0 q1 q2 q3 q4 hb
    obtain ⟨bb, hbb⟩ : ∃ bb, v1.heap.size = bb := ⟨_, rfl⟩
    have hlt := HK1.out.2.2.2.1
    have hle := HK1.out.2.2.2.2
    rw [hbb] at g2 hlt hle
    clear HK1
    try rw [hbb]
    have x0 := h2.at_ 0 _ rfl
    have x1 := h2.at_ 1 _ rfl
    have x2 := h2.at_ 2 _ rfl
    have x3 := h2.at_ 3 _ rfl
    have x4 := h2.at_ 4 _ rfl
    have g3 := g2
    have h3 := h2
    have hB3 := hB2
    clear h2 g2 hB2
    go_upto_region 6 with fail
    try clear x0 x1 x2 x3 x4
    try clear f0 f1 f2 f3 f4 z0 z1 z2 z3 z4
    have K0 := Lib.hid (h3.drewN 1)
    have K1 := Lib.hid (g3.drewN 1)
    have HB := Lib.hid (Below.drewN hB3 1)
    have x0 := h3.at_ 0 _ rfl
    have z0 := g3.at_ 0 _ rfl
    have x1 := h3.at_ 1 _ rfl
    have z1 := g3.at_ 1 _ rfl
    have x2 := h3.at_ 2 _ rfl
    have z2 := g3.at_ 2 _ rfl
    have x3 := h3.at_ 3 _ rfl
    have z3 := g3.at_ 3 _ rfl
    have x4 := h3.at_ 4 _ rfl
    have z4 := g3.at_ 4 _ rfl
    clear h3 g3 hB3
    go_region_held3 (fun w' => w'.cell? ⟨w.heap.size, 0, none⟩ = some (.bool sa) ∧ w'.cell? ⟨w.heap.size, 1, none⟩ = some (.bool sb) ∧ w'.cell? ⟨w.heap.size, 2, none⟩ = some (.bool sc) ∧ w'.cell? ⟨w.heap.size, 3, none⟩ = some (.bool sd) ∧ w'.cell? ⟨w.heap.size, 4, none⟩ = some (.int .i64 sn) ∧ w'.cell? ⟨bb, 0, none⟩ = some (.bool sa) ∧ w'.cell? ⟨bb, 1, none⟩ = some (.bool sb) ∧ w'.cell? ⟨bb, 2, none⟩ = some (.bool sc) ∧ w'.cell? ⟨bb, 3, none⟩ = some (.bool sd) ∧ w'.cell? ⟨bb, 4, none⟩ = some (.int .i64 sn))
      (first | exact ⟨x0, x1, x2, x3, x4, z0, z1, z2, z3, z4⟩)
      (first
      | (go_at_call 12; (with_reducible refine (HP.out _).mono ?_); rintro e v3 ⟨rfl, hb⟩; have K0n := Lib.hid (K0.out.below hb K0.out.lt); have K1n := Lib.hid (K1.out.below hb K1.out.lt); have HBn := Lib.hid (HB.out.trans (hb.mono HB.out.size)); clear x0 x1 x2 x3 x4 z0 z1 z2 z3 z4 K0 K1 HB hb; have K0 := K0n; have K1 := K1n; have HB := HBn; clear K0n K1n HBn; have x0 := K0.out.at_ 0 _ rfl; have z0 := K1.out.at_ 0 _ rfl; have x1 := K0.out.at_ 1 _ rfl; have z1 := K1.out.at_ 1 _ rfl; have x2 := K0.out.at_ 2 _ rfl; have z2 := K1.out.at_ 2 _ rfl; have x3 := K0.out.at_ 3 _ rfl; have z3 := K1.out.at_ 3 _ rfl; have x4 := K0.out.at_ 4 _ rfl; have z4 := K1.out.at_ 4 _ rfl)
      | (go_at_call 13; (with_reducible refine (HRP.out _).mono ?_); rintro e v3 ⟨rfl, hb⟩; have K0n := Lib.hid (K0.out.below hb K0.out.lt); have K1n := Lib.hid (K1.out.below hb K1.out.lt); have HBn := Lib.hid (HB.out.trans (hb.mono HB.out.size)); clear x0 x1 x2 x3 x4 z0 z1 z2 z3 z4 K0 K1 HB hb; have K0 := K0n; have K1 := K1n; have HB := HBn; clear K0n K1n HBn; have x0 := K0.out.at_ 0 _ rfl; have z0 := K1.out.at_ 0 _ rfl; have x1 := K0.out.at_ 1 _ rfl; have z1 := K1.out.at_ 1 _ rfl; have x2 := K0.out.at_ 2 _ rfl; have z2 := K1.out.at_ 2 _ rfl; have x3 := K0.out.at_ 3 _ rfl; have z3 := K1.out.at_ 3 _ rfl; have x4 := K0.out.at_ 4 _ rfl; have z4 := K1.out.at_ 4 _ rfl)
      | (go_at_call 14; (with_reducible refine (HU.out _).mono ?_); rintro e v3 ⟨rfl, hb⟩; have K0n := Lib.hid (K0.out.below hb K0.out.lt); have K1n := Lib.hid (K1.out.below hb K1.out.lt); have HBn := Lib.hid (HB.out.trans (hb.mono HB.out.size)); clear x0 x1 x2 x3 x4 z0 z1 z2 z3 z4 K0 K1 HB hb; have K0 := K0n; have K1 := K1n; have HB := HBn; clear K0n K1n HBn; have x0 := K0.out.at_ 0 _ rfl; have z0 := K1.out.at_ 0 _ rfl; have x1 := K0.out.at_ 1 _ rfl; have z1 := K1.out.at_ 1 _ rfl; have x2 := K0.out.at_ 2 _ rfl; have z2 := K1.out.at_ 2 _ rfl; have x3 := K0.out.at_ 3 _ rfl; have z3 := K1.out.at_ 3 _ rfl; have x4 := K0.out.at_ 4 _ rfl; have z4 := K1.out.at_ 4 _ rfl)
      | (go_at_call 14; (with_reducible refine (HU2.out _).mono ?_); rintro e v3 ⟨rfl, hb⟩; have K0n := Lib.hid (K0.out.below hb K0.out.lt); have K1n := Lib.hid (K1.out.below hb K1.out.lt); have HBn := Lib.hid (HB.out.trans (hb.mono HB.out.size)); clear x0 x1 x2 x3 x4 z0 z1 z2 z3 z4 K0 K1 HB hb; have K0 := K0n; have K1 := K1n; have HB := HBn; clear K0n K1n HBn; have x0 := K0.out.at_ 0 _ rfl; have z0 := K1.out.at_ 0 _ rfl; have x1 := K0.out.at_ 1 _ rfl; have z1 := K1.out.at_ 1 _ rfl; have x2 := K0.out.at_ 2 _ rfl; have z2 := K1.out.at_ 2 _ rfl; have x3 := K0.out.at_ 3 _ rfl; have z3 := K1.out.at_ 3 _ rfl; have x4 := K0.out.at_ 4 _ rfl; have z4 := K1.out.at_ 4 _ rfl)
      | (go_at_call 15; (with_reducible refine (HRU.out _).mono ?_); rintro e v3 ⟨rfl, hb⟩; have K0n := Lib.hid (K0.out.below hb K0.out.lt); have K1n := Lib.hid (K1.out.below hb K1.out.lt); have HBn := Lib.hid (HB.out.trans (hb.mono HB.out.size)); clear x0 x1 x2 x3 x4 z0 z1 z2 z3 z4 K0 K1 HB hb; have K0 := K0n; have K1 := K1n; have HB := HBn; clear K0n K1n HBn; have x0 := K0.out.at_ 0 _ rfl; have z0 := K1.out.at_ 0 _ rfl; have x1 := K0.out.at_ 1 _ rfl; have z1 := K1.out.at_ 1 _ rfl; have x2 := K0.out.at_ 2 _ rfl; have z2 := K1.out.at_ 2 _ rfl; have x3 := K0.out.at_ 3 _ rfl; have z3 := K1.out.at_ 3 _ rfl; have x4 := K0.out.at_ 4 _ rfl; have z4 := K1.out.at_ 4 _ rfl))
    go_wp2
    go_ret
    exact ⟨rfl, HB.out⟩

set_option maxRecDepth 100000 in
theorem lifted (os : Os) (started : os.Started) (H : Type) (enc : TypeId × Value → H) :
    ReturnsInHanded {} Tryd.checked os 3 .any (fun w args => (Rows.radixPacksSpec.pre enc Tryd.prog Tryd.f3 Rows.radixPacksRow.domain false w args ∧ laidMet Tryd.prog Rows.radixPacksRow.laid w) ∧ sizedMet enc Tryd.prog Tryd.f3 (OpenSpec.ofChange Rows.radixPacksSpec) false w args) (Rows.radixPacksSpec.post enc Tryd.prog Tryd.f3 false true false false) := by
  refine returnsInHanded_of_change_and (C := Tryd.checked) (X := fun w _ => laidMet Tryd.prog Rows.radixPacksRow.laid w) (fun _ _ _ hh h => h.of_heap hh) own started (by kernel_rfl) Tryd.func3
    (ChangeSpec.witness_at (enc := enc) (C := Tryd.checked) (os := os) (X := fun w _ => laidMet Tryd.prog Rows.radixPacksRow.laid w) false (laidWorld os) #[zslotV, .int .u64 0] 8 rfl (by kernel_rfl) (by kernel_rfl) (by kernel_rfl) (by kernel_rfl) (by kernel_rfl) (laid_met os _)) ?_
  intro W base args ds gs before hval0 hW hcnd _ hL _
  have hval : ∀ (j : Nat) t v, Tryd.f3.params[j]? = some t → args[j]? = some v → Value.okWide Tryd.prog W .any base t v := hval0
  have hW' := hW
  obtain ⟨p, q, hA0, hV, rfl, hfz, hnd⟩ := hW
  have hA : DataW.TrodAll enc Tryd.prog W 0 (fun _ => true) true Tryd.f3.params.toList args.toList ds p := hA0
  rw [Tryd.params3] at hA hval
  obtain ⟨v0, vs0, d0, ds0, p0, q0, hargs, rfl, rfl, h0, r0⟩ := trodAll_cons hA
  obtain ⟨v1, vs1, d1, ds1, p1, q1, rfl, rfl, rfl, h1, r1⟩ := trodAll_cons r0
  obtain ⟨rfl, rfl, rfl⟩ := trodAll_nil r1
  obtain rfl : args = #[v0, v1] := by cases args; simp_all
  obtain ⟨rfl, rfl⟩ := trodVars_none hV
  have k0 := h0
  have lt0 : ∀ x ∈ p0, x.block < W.heap.size := by obtain ⟨m, hm⟩ := k0; exact DataW.trod_lt m _ _ _ hm
  obtain ⟨a0, rfl, w0⟩ := open_slot (hval 0 23 v0 rfl rfl) h0
  have k1 := h1
  have lt1 : ∀ x ∈ p1, x.block < W.heap.size := by obtain ⟨m, hm⟩ := k1; exact DataW.trod_lt m _ _ _ hm
  obtain ⟨a1, rfl, _, _, w1⟩ := open_int Tryd.underlying24 (hval 1 24 v1 rfl rfl) h1
  clear hA0 hval0
  refine (walk a0 a1 W w0 w1 (tab_of_laid hL)).mono fun e W' ⟨he, bel⟩ => ?_
  subst he
  exact ⟨_, rfl, _, _, _, [], _, [], hW', trodAll_mk1 (shut_bool Tryd.underlying4 _), (trodAll_cons_mk (Below.trod laidOut (by kernel_rfl) (of_decide_eq_true (by kernel_rfl)) k0 bel lt0) (trodAll_cons_mk (Below.trod laidOut (by kernel_rfl) (of_decide_eq_true (by kernel_rfl)) k1 bel lt1) trodAll_mk0)), rfl, bel.frame _, fun h => by cases h⟩
theorem over : Rows.radixPacksRow.holds Tryd.pinned (OpenSpec.ofChange Rows.radixPacksSpec) :=
  OpenClaim.holds_of_wide 3 Tryd.f3 rfl rfl rfl rfl rfl rfl rfl ⟨rfl, rfl, rfl, rfl, rfl⟩ rfl rfl rfl rfl rfl (by kernel_rfl) Tryd.func3 (by kernel_rfl)
    (of_decide_eq_true (by kernel_rfl)) (by unfold Func.isWrapper; first | (rw [if_pos (by decide +kernel)]; kernel_rfl) | (rw [if_neg (by decide +kernel)]; exact ⟨rfl, rfl⟩))
    (fun os started H enc _ => lifted os started H enc)
set_option maxRecDepth 100000 in
/-- The statement. -/
theorem proved : Rows.RadixPacksCardSaid :=
  Claim7.holds_tied_plain_at .later [] [.data] true _ false over (fun _ h => by cases h) (by kernel_rfl) (fun _ h => by cases h) radixPacks_row_tie rfl ⟨rfl, rfl⟩ (by kernel_rfl) rfl
    (fun f fn hf hfn => by
      obtain rfl : f = 3 := Option.some.inj (hf.symm.trans (by kernel_rfl))
      obtain rfl : fn = Tryd.f3 := Option.some.inj (hfn.symm.trans Tryd.func3)
      refine ⟨by kernel_rfl, fun j t ht => ?_⟩
      rw [Tryd.params3] at ht
      match j, ht with
      | 0, ht =>
        obtain rfl : t = 23 := by simpa using ht.symm
        exact (by kernel_rfl : Tryd.pinned.checked.prog.wantsStandIn 23 = false)
      | 1, ht =>
        obtain rfl : t = 24 := by simpa using ht.symm
        exact (by kernel_rfl : Tryd.pinned.checked.prog.wantsStandIn 24 = false)
      | j + 2, ht => simp at ht)
    (by kernel_rfl)
end Go.Proofs.YtbidlabhekiijaaDoor.lawPacks
