/- Package region: areOne, mayBe. -/
import Derived.Test.YtmknkdfdkanijaaUD
namespace Go.Proofs.Ytmknkdfdkanijaa
open Go.RowKit Go.ChangeShapes Go.WideShapes Go.Deep
set_option linter.unusedVariables false
set_option linter.unusedSimpArgs false

/-- Its numbers are small. -/
structure Rg.Bd (r : Rg) : Prop where
  f : 0 ≤ r.f ∧ r.f ≤ 4096
  t : 0 ≤ r.t ∧ r.t ≤ 4096
  pg : r.k = 1 → 0 ≤ r.pg ∧ r.pg ≤ 1073741824
theorem Rg.May.bd {r : Rg} (h : r.May) : r.Bd := by
  obtain ⟨h1, h2, h3, h4, h5, h6⟩ := h
  exact ⟨by omega, by omega, fun hk => by omega⟩
/-- A region's six cells. -/
def SixAt (v : World) (g : Nat) (r : Rg) : Prop :=
  v.cell? ⟨g, 0, none⟩ = some (.int .i64 r.f) ∧ v.cell? ⟨g, 1, none⟩ = some (.int .i64 r.t) ∧ v.cell? ⟨g, 2, none⟩ = some (.int .i64 r.p) ∧ v.cell? ⟨g, 3, none⟩ = some (.int .i64 r.k) ∧ v.cell? ⟨g, 4, none⟩ = some (.int .i64 r.fl) ∧ v.cell? ⟨g, 5, none⟩ = some (.int .i64 r.pg)
theorem Blk.six {v : World} {g : Nat} {r : Rg} (h : Blk v g 29 r.cs) : SixAt v g r := ⟨h.at_ 0 _ rfl, h.at_ 1 _ rfl, h.at_ 2 _ rfl, h.at_ 3 _ rfl, h.at_ 4 _ rfl, h.at_ 5 _ rfl⟩

set_option maxRecDepth 100000 in
set_option maxHeartbeats 3200000 in
theorem areOne_any (a b : Rg) (w : World) (ha : a.Bd) : Calls Try.prog 38 #[.agg a.cs, .agg b.cs] w fun e w' => e = .returned (.bool (decide (oneR a b))) ∧ Below w.heap.size w w' := by
  have hP := fun v => part_any a a.t b.t v (fun hk => by have := ha.f; have := ha.t; have := ha.pg hk; omega)
  have e1 : (a.part a.t b.t).cs = #[.int .i64 a.t, .int .i64 b.t, .int .i64 a.p, .int .i64 a.k, .int .i64 a.fl, .int .i64 (a.pgAt a.t)] := rfl
  have e2 : decide (oneR a b) = (b.f == a.t && b.t == b.t && b.p == a.p && b.k == a.k && b.fl == a.fl && b.pg == a.pgAt a.t) := by
    rw [Bool.eq_iff_iff, decide_eq_true_iff]
    unfold oneR Rg.part
    simp only [Bool.and_eq_true, beq_iff_eq]
    refine ⟨fun h => ?_, fun h => ?_⟩
    · have h0 := congrArg Rg.f h
      have h1 := congrArg Rg.p h
      have h2 := congrArg Rg.k h
      have h3 := congrArg Rg.fl h
      have h4 := congrArg Rg.pg h
      exact ⟨⟨⟨⟨⟨h0, trivial⟩, h1⟩, h2⟩, h3⟩, h4⟩
    · obtain ⟨⟨⟨⟨⟨h0, -⟩, h1⟩, h2⟩, h3⟩, h4⟩ := h
      exact Rg.ext h0 rfl h1 h2 h3 h4
  rw [e2]
  simp only [e1] at hP
  clear e2 e1
  generalize a.pgAt a.t = z at *
  have hb0 : Blk ((w.alloc (.cells a.cs 29)).alloc (.cells b.cs 29)) w.heap.size 29 a.cs := (Blk.new _ _ _).alloc _
  have hb1 : Blk ((w.alloc (.cells a.cs 29)).alloc (.cells b.cs 29)) (w.heap.size + 1) 29 b.cs := blk_twoU w _ _ _
  have hbl := ((Below.refl w.heap.size w).alloc (Nat.le_refl _) (.cells a.cs 29)).alloc (by simp) (.cells b.cs 29)
  obtain ⟨W, hW⟩ : ∃ W, (w.alloc (.cells a.cs 29)).alloc (.cells b.cs 29) = W := ⟨_, rfl⟩
  have hsz : W.heap.size = w.heap.size + 2 := by rw [← hW]; simp
  rw [hW] at hb0 hb1 hbl
  obtain ⟨af, at', ap, ak, afl, apg⟩ := a
  obtain ⟨bf, bt, bp, bk, bfl, bpg⟩ := b
  simp only at hP
  have HS := Lib.hid (fun (v : World) (hb : Below W.heap.size W v) => show v.cell? ⟨w.heap.size, 0, none⟩ = some (.int .i64 af) ∧ v.cell? ⟨w.heap.size, 1, none⟩ = some (.int .i64 at') ∧ v.cell? ⟨w.heap.size, 2, none⟩ = some (.int .i64 ap) ∧ v.cell? ⟨w.heap.size, 3, none⟩ = some (.int .i64 ak) ∧ v.cell? ⟨w.heap.size, 4, none⟩ = some (.int .i64 afl) ∧ v.cell? ⟨w.heap.size, 5, none⟩ = some (.int .i64 apg) ∧
      v.cell? ⟨w.heap.size + 1, 0, none⟩ = some (.int .i64 bf) ∧ v.cell? ⟨w.heap.size + 1, 1, none⟩ = some (.int .i64 bt) ∧ v.cell? ⟨w.heap.size + 1, 2, none⟩ = some (.int .i64 bp) ∧ v.cell? ⟨w.heap.size + 1, 3, none⟩ = some (.int .i64 bk) ∧ v.cell? ⟨w.heap.size + 1, 4, none⟩ = some (.int .i64 bfl) ∧ v.cell? ⟨w.heap.size + 1, 5, none⟩ = some (.int .i64 bpg) ∧ Hid (Below w.heap.size w v) from by
    obtain ⟨x0, x1, x2, x3, x4, x5⟩ := (hb0.below hb hb0.lt).six
    obtain ⟨y0, y1, y2, y3, y4, y5⟩ := (hb1.below hb hb1.lt).six
    exact ⟨x0, x1, x2, x3, x4, x5, y0, y1, y2, y3, y4, y5, Lib.hid (hbl.trans (hb.mono (by omega)))⟩)
  unfold Rg.cs at hW hP ⊢
  simp only at hW hP ⊢
  have HW := Lib.hid hW
  have HP := Lib.hid hP
  have HD := Lib.hid (show ∀ x, Below W.drew.heap.size W.drew x → Below W.heap.size W x from fun x h => (Below.refl W.heap.size W).drew.trans h)
  clear hb0 hb1 hbl hsz hW hP ha
  have hc : (at' = bf ∧ ap = bp ∧ ak = bk ∧ afl = bfl ∧ z = bpg) ∨ (¬ bf = at') ∨ (at' = bf ∧ ¬ bp = ap) ∨ (at' = bf ∧ ap = bp ∧ ¬ bk = ak) ∨ (at' = bf ∧ ap = bp ∧ ak = bk ∧ ¬ bfl = afl) ∨ (at' = bf ∧ ap = bp ∧ ak = bk ∧ afl = bfl ∧ ¬ bpg = z) := by
    by_cases h1 : bf = at' <;> by_cases h2 : bp = ap <;> by_cases h3 : bk = ak <;> by_cases h4 : bfl = afl <;> by_cases h5 : bpg = z <;> simp_all
  rcases hc with ⟨rfl, rfl, rfl, rfl, rfl⟩ | h | ⟨rfl, h⟩ | ⟨rfl, rfl, h⟩ | ⟨rfl, rfl, rfl, h⟩ | ⟨rfl, rfl, rfl, rfl, h⟩
  · go_enter Try.func38, Try.ntmps38
    go_upto_region 1 with fail
    rw [HW.out]
    have hS0 := HS.out W (Below.refl _ _)
    obtain ⟨a0, a1, a2, a3, a4, a5, b0, b1, b2, b3, b4, b5, HB⟩ := hS0
    go_region_held3 (fun v => v.cell? ⟨w.heap.size, 0, none⟩ = some (.int .i64 af) ∧ v.cell? ⟨w.heap.size, 1, none⟩ = some (.int .i64 at') ∧ v.cell? ⟨w.heap.size, 2, none⟩ = some (.int .i64 ap) ∧ v.cell? ⟨w.heap.size, 3, none⟩ = some (.int .i64 ak) ∧ v.cell? ⟨w.heap.size, 4, none⟩ = some (.int .i64 afl) ∧ v.cell? ⟨w.heap.size, 5, none⟩ = some (.int .i64 apg) ∧
        v.cell? ⟨w.heap.size + 1, 0, none⟩ = some (.int .i64 at') ∧ v.cell? ⟨w.heap.size + 1, 1, none⟩ = some (.int .i64 bt) ∧ v.cell? ⟨w.heap.size + 1, 2, none⟩ = some (.int .i64 ap) ∧ v.cell? ⟨w.heap.size + 1, 3, none⟩ = some (.int .i64 ak) ∧ v.cell? ⟨w.heap.size + 1, 4, none⟩ = some (.int .i64 afl) ∧ v.cell? ⟨w.heap.size + 1, 5, none⟩ = some (.int .i64 z) ∧ Hid (Below w.heap.size w v))
      (first | exact HS.out _ ((Below.refl _ _)) | exact HS.out _ ((Below.refl _ _).drew) | exact ⟨a0, a1, a2, a3, a4, a5, b0, b1, b2, b3, b4, b5, HB⟩)
      (first
      | (go_at_call 33; with_reducible refine (HP.out _).mono ?_; rintro e x ⟨rfl, hb⟩; have hx := HS.out x (HD.out x hb); clear a0 a1 a2 a3 a4 a5 b0 b1 b2 b3 b4 b5 HB; obtain ⟨a0, a1, a2, a3, a4, a5, b0, b1, b2, b3, b4, b5, HB⟩ := hx; clear hb))
    go_wp2
    go_ret
    exact ⟨by simp , HB.out⟩
  · go_enter Try.func38, Try.ntmps38
    go_upto_region 1 with fail
    rw [HW.out]
    have hS0 := HS.out W (Below.refl _ _)
    obtain ⟨a0, a1, a2, a3, a4, a5, b0, b1, b2, b3, b4, b5, HB⟩ := hS0
    go_region_held3 (fun v => v.cell? ⟨w.heap.size, 0, none⟩ = some (.int .i64 af) ∧ v.cell? ⟨w.heap.size, 1, none⟩ = some (.int .i64 at') ∧ v.cell? ⟨w.heap.size, 2, none⟩ = some (.int .i64 ap) ∧ v.cell? ⟨w.heap.size, 3, none⟩ = some (.int .i64 ak) ∧ v.cell? ⟨w.heap.size, 4, none⟩ = some (.int .i64 afl) ∧ v.cell? ⟨w.heap.size, 5, none⟩ = some (.int .i64 apg) ∧
        v.cell? ⟨w.heap.size + 1, 0, none⟩ = some (.int .i64 bf) ∧ v.cell? ⟨w.heap.size + 1, 1, none⟩ = some (.int .i64 bt) ∧ v.cell? ⟨w.heap.size + 1, 2, none⟩ = some (.int .i64 bp) ∧ v.cell? ⟨w.heap.size + 1, 3, none⟩ = some (.int .i64 bk) ∧ v.cell? ⟨w.heap.size + 1, 4, none⟩ = some (.int .i64 bfl) ∧ v.cell? ⟨w.heap.size + 1, 5, none⟩ = some (.int .i64 bpg) ∧ Hid (Below w.heap.size w v))
      (first | exact HS.out _ ((Below.refl _ _)) | exact HS.out _ ((Below.refl _ _).drew) | exact ⟨a0, a1, a2, a3, a4, a5, b0, b1, b2, b3, b4, b5, HB⟩)
      (first
      | (go_at_call 33; with_reducible refine (HP.out _).mono ?_; rintro e x ⟨rfl, hb⟩; have hx := HS.out x (HD.out x hb); clear a0 a1 a2 a3 a4 a5 b0 b1 b2 b3 b4 b5 HB; obtain ⟨a0, a1, a2, a3, a4, a5, b0, b1, b2, b3, b4, b5, HB⟩ := hx; clear hb))
    go_wp2
    go_ret
    exact ⟨by simp [h], HB.out⟩
  · go_enter Try.func38, Try.ntmps38
    go_upto_region 1 with fail
    rw [HW.out]
    have hS0 := HS.out W (Below.refl _ _)
    obtain ⟨a0, a1, a2, a3, a4, a5, b0, b1, b2, b3, b4, b5, HB⟩ := hS0
    go_region_held3 (fun v => v.cell? ⟨w.heap.size, 0, none⟩ = some (.int .i64 af) ∧ v.cell? ⟨w.heap.size, 1, none⟩ = some (.int .i64 at') ∧ v.cell? ⟨w.heap.size, 2, none⟩ = some (.int .i64 ap) ∧ v.cell? ⟨w.heap.size, 3, none⟩ = some (.int .i64 ak) ∧ v.cell? ⟨w.heap.size, 4, none⟩ = some (.int .i64 afl) ∧ v.cell? ⟨w.heap.size, 5, none⟩ = some (.int .i64 apg) ∧
        v.cell? ⟨w.heap.size + 1, 0, none⟩ = some (.int .i64 at') ∧ v.cell? ⟨w.heap.size + 1, 1, none⟩ = some (.int .i64 bt) ∧ v.cell? ⟨w.heap.size + 1, 2, none⟩ = some (.int .i64 bp) ∧ v.cell? ⟨w.heap.size + 1, 3, none⟩ = some (.int .i64 bk) ∧ v.cell? ⟨w.heap.size + 1, 4, none⟩ = some (.int .i64 bfl) ∧ v.cell? ⟨w.heap.size + 1, 5, none⟩ = some (.int .i64 bpg) ∧ Hid (Below w.heap.size w v))
      (first | exact HS.out _ ((Below.refl _ _)) | exact HS.out _ ((Below.refl _ _).drew) | exact ⟨a0, a1, a2, a3, a4, a5, b0, b1, b2, b3, b4, b5, HB⟩)
      (first
      | (go_at_call 33; with_reducible refine (HP.out _).mono ?_; rintro e x ⟨rfl, hb⟩; have hx := HS.out x (HD.out x hb); clear a0 a1 a2 a3 a4 a5 b0 b1 b2 b3 b4 b5 HB; obtain ⟨a0, a1, a2, a3, a4, a5, b0, b1, b2, b3, b4, b5, HB⟩ := hx; clear hb))
    go_wp2
    go_ret
    exact ⟨by simp [h], HB.out⟩
  · go_enter Try.func38, Try.ntmps38
    go_upto_region 1 with fail
    rw [HW.out]
    have hS0 := HS.out W (Below.refl _ _)
    obtain ⟨a0, a1, a2, a3, a4, a5, b0, b1, b2, b3, b4, b5, HB⟩ := hS0
    go_region_held3 (fun v => v.cell? ⟨w.heap.size, 0, none⟩ = some (.int .i64 af) ∧ v.cell? ⟨w.heap.size, 1, none⟩ = some (.int .i64 at') ∧ v.cell? ⟨w.heap.size, 2, none⟩ = some (.int .i64 ap) ∧ v.cell? ⟨w.heap.size, 3, none⟩ = some (.int .i64 ak) ∧ v.cell? ⟨w.heap.size, 4, none⟩ = some (.int .i64 afl) ∧ v.cell? ⟨w.heap.size, 5, none⟩ = some (.int .i64 apg) ∧
        v.cell? ⟨w.heap.size + 1, 0, none⟩ = some (.int .i64 at') ∧ v.cell? ⟨w.heap.size + 1, 1, none⟩ = some (.int .i64 bt) ∧ v.cell? ⟨w.heap.size + 1, 2, none⟩ = some (.int .i64 ap) ∧ v.cell? ⟨w.heap.size + 1, 3, none⟩ = some (.int .i64 bk) ∧ v.cell? ⟨w.heap.size + 1, 4, none⟩ = some (.int .i64 bfl) ∧ v.cell? ⟨w.heap.size + 1, 5, none⟩ = some (.int .i64 bpg) ∧ Hid (Below w.heap.size w v))
      (first | exact HS.out _ ((Below.refl _ _)) | exact HS.out _ ((Below.refl _ _).drew) | exact ⟨a0, a1, a2, a3, a4, a5, b0, b1, b2, b3, b4, b5, HB⟩)
      (first
      | (go_at_call 33; with_reducible refine (HP.out _).mono ?_; rintro e x ⟨rfl, hb⟩; have hx := HS.out x (HD.out x hb); clear a0 a1 a2 a3 a4 a5 b0 b1 b2 b3 b4 b5 HB; obtain ⟨a0, a1, a2, a3, a4, a5, b0, b1, b2, b3, b4, b5, HB⟩ := hx; clear hb))
    go_wp2
    go_ret
    exact ⟨by simp [h], HB.out⟩
  · go_enter Try.func38, Try.ntmps38
    go_upto_region 1 with fail
    rw [HW.out]
    have hS0 := HS.out W (Below.refl _ _)
    obtain ⟨a0, a1, a2, a3, a4, a5, b0, b1, b2, b3, b4, b5, HB⟩ := hS0
    go_region_held3 (fun v => v.cell? ⟨w.heap.size, 0, none⟩ = some (.int .i64 af) ∧ v.cell? ⟨w.heap.size, 1, none⟩ = some (.int .i64 at') ∧ v.cell? ⟨w.heap.size, 2, none⟩ = some (.int .i64 ap) ∧ v.cell? ⟨w.heap.size, 3, none⟩ = some (.int .i64 ak) ∧ v.cell? ⟨w.heap.size, 4, none⟩ = some (.int .i64 afl) ∧ v.cell? ⟨w.heap.size, 5, none⟩ = some (.int .i64 apg) ∧
        v.cell? ⟨w.heap.size + 1, 0, none⟩ = some (.int .i64 at') ∧ v.cell? ⟨w.heap.size + 1, 1, none⟩ = some (.int .i64 bt) ∧ v.cell? ⟨w.heap.size + 1, 2, none⟩ = some (.int .i64 ap) ∧ v.cell? ⟨w.heap.size + 1, 3, none⟩ = some (.int .i64 ak) ∧ v.cell? ⟨w.heap.size + 1, 4, none⟩ = some (.int .i64 bfl) ∧ v.cell? ⟨w.heap.size + 1, 5, none⟩ = some (.int .i64 bpg) ∧ Hid (Below w.heap.size w v))
      (first | exact HS.out _ ((Below.refl _ _)) | exact HS.out _ ((Below.refl _ _).drew) | exact ⟨a0, a1, a2, a3, a4, a5, b0, b1, b2, b3, b4, b5, HB⟩)
      (first
      | (go_at_call 33; with_reducible refine (HP.out _).mono ?_; rintro e x ⟨rfl, hb⟩; have hx := HS.out x (HD.out x hb); clear a0 a1 a2 a3 a4 a5 b0 b1 b2 b3 b4 b5 HB; obtain ⟨a0, a1, a2, a3, a4, a5, b0, b1, b2, b3, b4, b5, HB⟩ := hx; clear hb))
    go_wp2
    go_ret
    exact ⟨by simp [h], HB.out⟩
  · go_enter Try.func38, Try.ntmps38
    go_upto_region 1 with fail
    rw [HW.out]
    have hS0 := HS.out W (Below.refl _ _)
    obtain ⟨a0, a1, a2, a3, a4, a5, b0, b1, b2, b3, b4, b5, HB⟩ := hS0
    go_region_held3 (fun v => v.cell? ⟨w.heap.size, 0, none⟩ = some (.int .i64 af) ∧ v.cell? ⟨w.heap.size, 1, none⟩ = some (.int .i64 at') ∧ v.cell? ⟨w.heap.size, 2, none⟩ = some (.int .i64 ap) ∧ v.cell? ⟨w.heap.size, 3, none⟩ = some (.int .i64 ak) ∧ v.cell? ⟨w.heap.size, 4, none⟩ = some (.int .i64 afl) ∧ v.cell? ⟨w.heap.size, 5, none⟩ = some (.int .i64 apg) ∧
        v.cell? ⟨w.heap.size + 1, 0, none⟩ = some (.int .i64 at') ∧ v.cell? ⟨w.heap.size + 1, 1, none⟩ = some (.int .i64 bt) ∧ v.cell? ⟨w.heap.size + 1, 2, none⟩ = some (.int .i64 ap) ∧ v.cell? ⟨w.heap.size + 1, 3, none⟩ = some (.int .i64 ak) ∧ v.cell? ⟨w.heap.size + 1, 4, none⟩ = some (.int .i64 afl) ∧ v.cell? ⟨w.heap.size + 1, 5, none⟩ = some (.int .i64 bpg) ∧ Hid (Below w.heap.size w v))
      (first | exact HS.out _ ((Below.refl _ _)) | exact HS.out _ ((Below.refl _ _).drew) | exact ⟨a0, a1, a2, a3, a4, a5, b0, b1, b2, b3, b4, b5, HB⟩)
      (first
      | (go_at_call 33; with_reducible refine (HP.out _).mono ?_; rintro e x ⟨rfl, hb⟩; have hx := HS.out x (HD.out x hb); clear a0 a1 a2 a3 a4 a5 b0 b1 b2 b3 b4 b5 HB; obtain ⟨a0, a1, a2, a3, a4, a5, b0, b1, b2, b3, b4, b5, HB⟩ := hx; clear hb))
    go_wp2
    go_ret
    exact ⟨by simp [h], HB.out⟩
end Go.Proofs.Ytmknkdfdkanijaa
