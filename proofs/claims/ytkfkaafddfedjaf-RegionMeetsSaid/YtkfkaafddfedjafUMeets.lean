/- RegionMeets: for any two regions, their places cut to 64 pages: two that may be and have a page in common are told ErrState, in whichever order they come; others make the same row, in whichever order, with as many pages as both have. -/
import Derived.Test.YtkfkaafddfedjafUS
namespace Go.Proofs.Ytkfkaafddfedjaf.lawMeets
open Go.ChangeShapes Go.WideShapes Go.ChangeAt Go.RowKit Go.Deep
set_option linter.unusedVariables false
set_option linter.unusedSimpArgs false


theorem meets_same {r s : Rg} (hr : r.May) (hs : s.May) {k q : Nat} (h1 : AddAt [r] s k) (h2 : AddAt [s] r q) : addL [r] s k = addL [s] r q := by
  obtain ⟨a1, a2, a3⟩ := addL_ok (one_row hr).asc hs h1
  obtain ⟨b1, b2, b3⟩ := addL_ok (one_row hs).asc hr h2
  refine a1.uniq b1 fun x => ?_
  rw [a2, b2]
  show ((r.at_ x).or none).or (s.at_ x) = ((s.at_ x).or none).or (r.at_ x)
  rw [Option.or_none, Option.or_none]
  by_cases c : s.f ≤ x ∧ x < s.t
  · have h3 : (r.at_ x).or none = none := a3 x c.1 c.2
    rw [Option.or_none] at h3
    rw [h3]; simp
  · rw [Rg.at_none (r := s) (by omega)]; simp
theorem meets_pages {r s : Rg} (hr : r.May) (hs : s.May) {k : Nat} (h1 : AddAt [r] s k) : pagesL (addL [r] s k) = r.t - r.f + s.t - s.f := by
  rw [pages_add (one_row hr).asc hs h1]
  simp [pagesL]
  omega
def sm (a : Rg) : Rg := ⟨a.f % 64, a.t % 64, a.p, a.k, a.fl, a.pg⟩
theorem sm_wf {a : Rg} (h : a.Wf) : (sm a).Wf := by
  obtain ⟨h0, h1, h2, h3, h4, h5⟩ := h
  exact ⟨wf64 (by show _ ≤ a.f % 64; omega) (by show a.f % 64 ≤ _; omega), wf64 (by show _ ≤ a.t % 64; omega) (by show a.t % 64 ≤ _; omega), h2, h3, h4, h5⟩
theorem small_in (a : Rg) (v : World) : Calls Try.prog 5 #[.agg #[.int .i64 0, .int .i64 0, .int .i64 0, .int .i64 0, .bool true, .int .i64 a.f, .int .i64 a.t, .int .i64 a.p, .int .i64 a.k, .int .i64 a.fl, .int .i64 a.pg]] v fun e w' =>
    e = .returned (.agg #[.int .i64 0, .int .i64 0, .int .i64 0, .int .i64 0, .bool true, .int .i64 (sm a).f, .int .i64 (sm a).t, .int .i64 a.p, .int .i64 a.k, .int .i64 a.fl, .int .i64 a.pg]) ∧ Below v.heap.size v w' :=
  (small_any ⟨0, 0, 0, 0, true, a⟩ v).mono fun e w' h => ⟨h.1, h.2⟩

set_option maxRecDepth 100000 in
set_option maxHeartbeats 6400000 in
theorem walk (a b : Rg) (w : World) (wa : a.Wf) (wb : b.Wf) :
    Calls Try.prog 3 #[.agg a.cs, .agg b.cs] w fun e w' => e = .returned (.bool true) ∧ Below w.heap.size w w' := by
  obtain ⟨W, hW⟩ : ∃ W, (w.alloc (.cells a.cs 23)).alloc (.cells b.cs 23) = W := ⟨_, rfl⟩
  have b0 : Blk W w.heap.size 23 a.cs := by rw [← hW]; exact (Blk.new _ _ _).alloc _
  have b1 : Blk W (w.heap.size + 1) 23 b.cs := by rw [← hW]; exact blk_twoU _ _ _ _
  have hbw : Below w.heap.size w W := by rw [← hW]; exact ((Below.refl _ _).alloc (Nat.le_refl _) _).alloc (by simp) _
  have HC := Lib.hid (fun x (hx : Below W.heap.size W x) => show SixAt x w.heap.size a ∧ SixAt x (w.heap.size + 1) b ∧ Below w.heap.size w x from ⟨(b0.below hx b0.lt).six, (b1.below hx b1.lt).six, hbw.trans (hx.mono hbw.size)⟩)
  have HAW := Lib.hid (fun v => awake_anyU v)
  have hs1 := fun v => small_in a v
  have hs2 := fun v => small_in b v
  have hwr := sm_wf wa
  have hws := sm_wf wb
  obtain ⟨r, hr⟩ : ∃ r, sm a = r := ⟨_, rfl⟩
  obtain ⟨s, hs⟩ : ∃ s, sm b = s := ⟨_, rfl⟩
  have hre : r = ⟨r.f, r.t, a.p, a.k, a.fl, a.pg⟩ := by rw [← hr]; rfl
  have hse : s = ⟨s.f, s.t, b.p, b.k, b.fl, b.pg⟩ := by rw [← hs]; rfl
  rw [hr] at hs1 hwr
  rw [hs] at hs2 hws
  have HX := Lib.hid (fun v => add_none r v hwr)
  have HY := Lib.hid (fun v => add_none s v hws)
  have HRS := Lib.hid (And.intro hwr hws)
  obtain ⟨rf, rt, rp, rk, rfl', rpg⟩ := r
  obtain ⟨sf, st, sp, sk, sfl, spg⟩ := s
  injection hre with _ _ h1 h2 h3 h4
  injection hse with _ _ h5 h6 h7 h8
  obtain ⟨af, at', ap, ak, afl, apg⟩ := a
  obtain ⟨bf, bt, bp, bk, bfl, bpg⟩ := b
  simp only at h1 h2 h3 h4 h5 h6 h7 h8 hs1 hs2
  subst h1 h2 h3 h4 h5 h6 h7 h8
  have hx9 := HX.out
  have hy9 := HY.out
  clear HX HY
  unfold Rg.cs at hW hx9 hy9 ⊢
  simp only at hW hx9 hy9 ⊢
  have HW := Lib.hid hW
  have HS1 := Lib.hid hs1
  have HS2 := Lib.hid hs2
  have HX := Lib.hid hx9
  have HY := Lib.hid hy9
  clear hW hs1 hs2 hx9 hy9 hr hs hwr hws wa wb b0 b1 hbw
  have hfld : ∀ (a b c d e f : Int) (w : World), (Instr.field 26 (.agg #[.int .i64 0, .int .i64 0, .int .i64 0, .int .i64 0, .bool true, .int .i64 a, .int .i64 b, .int .i64 c, .int .i64 d, .int .i64 e, .int .i64 f]) 5).run Try.prog w = .ok (.agg #[.int .i64 a, .int .i64 b, .int .i64 c, .int .i64 d, .int .i64 e, .int .i64 f]) w := fun a b c d e f w => by kernel_rfl
  have HX1 := Lib.hid (fun (hm : (⟨rf, rt, rp, rk, rfl', rpg⟩ : Rg).May) v => show Calls Try.prog 6 #[.slice none 0 0, .agg #[.int .i64 rf, .int .i64 rt, .int .i64 rp, .int .i64 rk, .int .i64 rfl', .int .i64 rpg]] v (fun e w' => ∃ A, e = .returned (.tuple #[.slice A 1 1, .int .i64 0]) ∧ Hid (RS w' A 1 1 [⟨rf, rt, rp, rk, rfl', rpg⟩] ∧ Below v.heap.size v w')) from (HX.out v).mono fun e w' h => by
    obtain ⟨hb, ⟨h1, _⟩ | ⟨_, A, e1, h1⟩⟩ := h
    · exact absurd hm h1
    · exact ⟨A, e1, Lib.hid ⟨h1, hb⟩⟩)
  have HX0 := Lib.hid (fun (hm : ¬ (⟨rf, rt, rp, rk, rfl', rpg⟩ : Rg).May) v => show Calls Try.prog 6 #[.slice none 0 0, .agg #[.int .i64 rf, .int .i64 rt, .int .i64 rp, .int .i64 rk, .int .i64 rfl', .int .i64 rpg]] v (fun e w' => e = .returned (.tuple #[.slice none 0 0, .int .i64 1]) ∧ Hid (Below v.heap.size v w')) from (HX.out v).mono fun e w' h => by
    obtain ⟨hb, ⟨_, e1⟩ | ⟨h1, _⟩⟩ := h
    · exact ⟨e1, Lib.hid hb⟩
    · exact absurd h1 hm)
  have HY1 := Lib.hid (fun (hm : (⟨sf, st, sp, sk, sfl, spg⟩ : Rg).May) v => show Calls Try.prog 6 #[.slice none 0 0, .agg #[.int .i64 sf, .int .i64 st, .int .i64 sp, .int .i64 sk, .int .i64 sfl, .int .i64 spg]] v (fun e w' => ∃ A, e = .returned (.tuple #[.slice A 1 1, .int .i64 0]) ∧ Hid (RS w' A 1 1 [⟨sf, st, sp, sk, sfl, spg⟩] ∧ Below v.heap.size v w')) from (HY.out v).mono fun e w' h => by
    obtain ⟨hb, ⟨h1, _⟩ | ⟨_, A, e1, h1⟩⟩ := h
    · exact absurd hm h1
    · exact ⟨A, e1, Lib.hid ⟨h1, hb⟩⟩)
  have HY0 := Lib.hid (fun (hm : ¬ (⟨sf, st, sp, sk, sfl, spg⟩ : Rg).May) v => show Calls Try.prog 6 #[.slice none 0 0, .agg #[.int .i64 sf, .int .i64 st, .int .i64 sp, .int .i64 sk, .int .i64 sfl, .int .i64 spg]] v (fun e w' => e = .returned (.tuple #[.slice none 0 0, .int .i64 1]) ∧ Hid (Below v.heap.size v w')) from (HY.out v).mono fun e w' h => by
    obtain ⟨hb, ⟨_, e1⟩ | ⟨h1, _⟩⟩ := h
    · exact ⟨e1, Lib.hid hb⟩
    · exact absurd h1 hm)
  have HU0 := Lib.hid (fun (mr : (⟨rf, rt, rp, rk, rfl', rpg⟩ : Rg).May) (ms : (⟨sf, st, sp, sk, sfl, spg⟩ : Rg).May) (h1 : rf < st) (h2 : sf < rt) v A (h : RS v A 1 1 [⟨rf, rt, rp, rk, rfl', rpg⟩]) => show Calls Try.prog 6 #[.slice A 1 1, .agg #[.int .i64 sf, .int .i64 st, .int .i64 sp, .int .i64 sk, .int .i64 sfl, .int .i64 spg]] v (fun e w' => e = .returned (.tuple #[.slice none 0 0, .int .i64 13]) ∧ Hid (Below v.heap.size v w')) from
    (add_hit [⟨rf, rt, rp, rk, rfl', rpg⟩] ⟨sf, st, sp, sk, sfl, spg⟩ A 1 1 v h (one_row mr).asc ms (x := ⟨rf, rt, rp, rk, rfl', rpg⟩) (by simp) h1 h2).mono fun e w' h => ⟨h.1, Lib.hid h.2⟩)
  have HV0 := Lib.hid (fun (mr : (⟨rf, rt, rp, rk, rfl', rpg⟩ : Rg).May) (ms : (⟨sf, st, sp, sk, sfl, spg⟩ : Rg).May) (h1 : rf < st) (h2 : sf < rt) v A (h : RS v A 1 1 [⟨sf, st, sp, sk, sfl, spg⟩]) => show Calls Try.prog 6 #[.slice A 1 1, .agg #[.int .i64 rf, .int .i64 rt, .int .i64 rp, .int .i64 rk, .int .i64 rfl', .int .i64 rpg]] v (fun e w' => e = .returned (.tuple #[.slice none 0 0, .int .i64 13]) ∧ Hid (Below v.heap.size v w')) from
    (add_hit [⟨sf, st, sp, sk, sfl, spg⟩] ⟨rf, rt, rp, rk, rfl', rpg⟩ A 1 1 v h (one_row ms).asc mr (x := ⟨sf, st, sp, sk, sfl, spg⟩) (by simp) h2 h1).mono fun e w' h => ⟨h.1, Lib.hid h.2⟩)
  have HU1 := Lib.hid (fun (mr : (⟨rf, rt, rp, rk, rfl', rpg⟩ : Rg).May) (ms : (⟨sf, st, sp, sk, sfl, spg⟩ : Rg).May) (hno : ¬ (rf < st ∧ sf < rt)) v A (h : RS v A 1 1 [⟨rf, rt, rp, rk, rfl', rpg⟩]) => show Calls Try.prog 6 #[.slice A 1 1, .agg #[.int .i64 sf, .int .i64 st, .int .i64 sp, .int .i64 sk, .int .i64 sfl, .int .i64 spg]] v (fun e w' => ∃ (n : Nat) (U : List Rg), ∃ B, e = .returned (.tuple #[.slice B n n, .int .i64 0]) ∧ Hid ((∃ k, AddAt [⟨rf, rt, rp, rk, rfl', rpg⟩] ⟨sf, st, sp, sk, sfl, spg⟩ k ∧ U = addL [⟨rf, rt, rp, rk, rfl', rpg⟩] ⟨sf, st, sp, sk, sfl, spg⟩ k) ∧ RS w' B n n U ∧ Below v.heap.size v w')) from by
    refine (add_yes [⟨rf, rt, rp, rk, rfl', rpg⟩] ⟨sf, st, sp, sk, sfl, spg⟩ A 1 1 v h (one_row mr).asc ms (fun x hx => by simp at hx; subst hx; exact hno)).mono fun e w' h => ?_
    obtain ⟨k, hk, B, e1, h1, h2⟩ := h
    exact ⟨_, _, B, e1, Lib.hid ⟨⟨k, hk, rfl⟩, h1, h2⟩⟩)
  have HV1 := Lib.hid (fun (mr : (⟨rf, rt, rp, rk, rfl', rpg⟩ : Rg).May) (ms : (⟨sf, st, sp, sk, sfl, spg⟩ : Rg).May) (hno : ¬ (rf < st ∧ sf < rt)) (k : Nat) (hk : AddAt [⟨rf, rt, rp, rk, rfl', rpg⟩] ⟨sf, st, sp, sk, sfl, spg⟩ k) v A (h : RS v A 1 1 [⟨sf, st, sp, sk, sfl, spg⟩]) => show Calls Try.prog 6 #[.slice A 1 1, .agg #[.int .i64 rf, .int .i64 rt, .int .i64 rp, .int .i64 rk, .int .i64 rfl', .int .i64 rpg]] v (fun e w' => ∃ B, e = .returned (.tuple #[.slice B (addL [⟨rf, rt, rp, rk, rfl', rpg⟩] ⟨sf, st, sp, sk, sfl, spg⟩ k).length (addL [⟨rf, rt, rp, rk, rfl', rpg⟩] ⟨sf, st, sp, sk, sfl, spg⟩ k).length, .int .i64 0]) ∧ Hid (RS w' B (addL [⟨rf, rt, rp, rk, rfl', rpg⟩] ⟨sf, st, sp, sk, sfl, spg⟩ k).length (addL [⟨rf, rt, rp, rk, rfl', rpg⟩] ⟨sf, st, sp, sk, sfl, spg⟩ k).length (addL [⟨rf, rt, rp, rk, rfl', rpg⟩] ⟨sf, st, sp, sk, sfl, spg⟩ k) ∧ Below v.heap.size v w')) from by
    refine (add_yes [⟨sf, st, sp, sk, sfl, spg⟩] ⟨rf, rt, rp, rk, rfl', rpg⟩ A 1 1 v h (one_row ms).asc mr (fun x hx => by simp at hx; subst hx; intro h9; exact hno ⟨h9.2, h9.1⟩)).mono fun e w' h => ?_
    obtain ⟨q, hq, B, e1, h1, h2⟩ := h
    rw [← meets_same mr ms hk hq] at e1 h1
    exact ⟨B, e1, Lib.hid ⟨h1, h2⟩⟩)
  clear HX HY
  go_enter Try.func3, Try.ntmps3
  go_upto_region 1 with fail
  rw [HW.out]
  go_upto_region 2 with (go_at_call 4; refine (HAW.out _).mono ?_; rintro e v1 ⟨rfl, hb1⟩)
  obtain ⟨⟨x0, x1, x2, x3, x4, x5⟩, -, -⟩ := HC.out v1 hb1
  simp only at x0 x1 x2 x3 x4 x5
  have k1 := Blk.new v1 26 #[.int .i64 0, .int .i64 0, .int .i64 0, .int .i64 0, .bool true, .int .i64 af, .int .i64 at', .int .i64 rp, .int .i64 rk, .int .i64 rfl', .int .i64 rpg]
  have hb2 := hb1.alloc hb1.size (.cells #[.int .i64 0, .int .i64 0, .int .i64 0, .int .i64 0, .bool true, .int .i64 af, .int .i64 at', .int .i64 rp, .int .i64 rk, .int .i64 rfl', .int .i64 rpg] 26)
  go_upto_region 3 with fail
  generalize v1.alloc (.cells #[.int .i64 0, .int .i64 0, .int .i64 0, .int .i64 0, .bool true, .int .i64 af, .int .i64 at', .int .i64 rp, .int .i64 rk, .int .i64 rfl', .int .i64 rpg] 26) = X1 at *
  generalize v1.heap.size = G1 at *
  clear x0 x1 x2 x3 x4 x5 hb1
  obtain ⟨-, ⟨x0, x1, x2, x3, x4, x5⟩, -⟩ := HC.out X1 hb2
  simp only at x0 x1 x2 x3 x4 x5
  have k2 := Blk.new X1 26 #[.int .i64 0, .int .i64 0, .int .i64 0, .int .i64 0, .bool true, .int .i64 bf, .int .i64 bt, .int .i64 sp, .int .i64 sk, .int .i64 sfl, .int .i64 spg]
  have k3 := k1.alloc (.cells #[.int .i64 0, .int .i64 0, .int .i64 0, .int .i64 0, .bool true, .int .i64 bf, .int .i64 bt, .int .i64 sp, .int .i64 sk, .int .i64 sfl, .int .i64 spg] 26)
  have hb3 := hb2.alloc hb2.size (.cells #[.int .i64 0, .int .i64 0, .int .i64 0, .int .i64 0, .bool true, .int .i64 bf, .int .i64 bt, .int .i64 sp, .int .i64 sk, .int .i64 sfl, .int .i64 spg] 26)
  go_upto_region 4 with fail
  generalize X1.alloc (.cells #[.int .i64 0, .int .i64 0, .int .i64 0, .int .i64 0, .bool true, .int .i64 bf, .int .i64 bt, .int .i64 sp, .int .i64 sk, .int .i64 sfl, .int .i64 spg] 26) = X2 at *
  generalize X1.heap.size = G2 at *
  clear x0 x1 x2 x3 x4 x5 hb2 k1
  have c0 := k3.at_ 0 _ rfl
  have c1 := k3.at_ 1 _ rfl
  have c2 := k3.at_ 2 _ rfl
  have c3 := k3.at_ 3 _ rfl
  have c4 := k3.at_ 4 _ rfl
  have c5 := k3.at_ 5 _ rfl
  have c6 := k3.at_ 6 _ rfl
  have c7 := k3.at_ 7 _ rfl
  have c8 := k3.at_ 8 _ rfl
  have c9 := k3.at_ 9 _ rfl
  have c10 := k3.at_ 10 _ rfl
  go_upto_region 5 with (go_at_call 5; refine (HS1.out _).mono ?_; rintro e v2 ⟨rfl, hb4⟩)
  clear c0 c1 c2 c3 c4 c5 c6 c7 c8 c9 c10 k3
  have k4 := ((k2.below hb4 k2.lt).alloc (.cells #[.int .i64 rf, .int .i64 rt, .int .i64 rp, .int .i64 rk, .int .i64 rfl', .int .i64 rpg] 23))
  have k5 := Blk.new v2 23 #[.int .i64 rf, .int .i64 rt, .int .i64 rp, .int .i64 rk, .int .i64 rfl', .int .i64 rpg]
  have hb5 := (hb3.trans (hb4.mono hb3.size)).alloc (Nat.le_trans hb3.size hb4.size) (.cells #[.int .i64 rf, .int .i64 rt, .int .i64 rp, .int .i64 rk, .int .i64 rfl', .int .i64 rpg] 23)
  generalize v2.alloc (.cells #[.int .i64 rf, .int .i64 rt, .int .i64 rp, .int .i64 rk, .int .i64 rfl', .int .i64 rpg] 23) = Y1 at *
  generalize v2.heap.size = G3 at *
  clear k2 hb3 hb4
  have c0 := k4.at_ 0 _ rfl
  have c1 := k4.at_ 1 _ rfl
  have c2 := k4.at_ 2 _ rfl
  have c3 := k4.at_ 3 _ rfl
  have c4 := k4.at_ 4 _ rfl
  have c5 := k4.at_ 5 _ rfl
  have c6 := k4.at_ 6 _ rfl
  have c7 := k4.at_ 7 _ rfl
  have c8 := k4.at_ 8 _ rfl
  have c9 := k4.at_ 9 _ rfl
  have c10 := k4.at_ 10 _ rfl
  go_upto_region 6 with (go_at_call 5; refine (HS2.out _).mono ?_; rintro e v3 ⟨rfl, hb6⟩)
  clear c0 c1 c2 c3 c4 c5 c6 c7 c8 c9 c10 k4
  have k6 := ((k5.below hb6 k5.lt).alloc (.cells #[.int .i64 sf, .int .i64 st, .int .i64 sp, .int .i64 sk, .int .i64 sfl, .int .i64 spg] 23))
  have k7 := Blk.new v3 23 #[.int .i64 sf, .int .i64 st, .int .i64 sp, .int .i64 sk, .int .i64 sfl, .int .i64 spg]
  have hb7 := (hb5.trans (hb6.mono hb5.size)).alloc (Nat.le_trans hb5.size hb6.size) (.cells #[.int .i64 sf, .int .i64 st, .int .i64 sp, .int .i64 sk, .int .i64 sfl, .int .i64 spg] 23)
  generalize v3.alloc (.cells #[.int .i64 sf, .int .i64 st, .int .i64 sp, .int .i64 sk, .int .i64 sfl, .int .i64 spg] 23) = Y at *
  generalize v3.heap.size = G4 at *
  clear k5 hb5 hb6
  have hwY := (HC.out Y hb7).2.2
  have HK := Lib.hid (fun (x : World) (hx : Below Y.heap.size Y x) => show (x.cell? ⟨G3, 0, none⟩ = some (.int .i64 rf) ∧ x.cell? ⟨G3, 1, none⟩ = some (.int .i64 rt) ∧ x.cell? ⟨G3, 2, none⟩ = some (.int .i64 rp) ∧ x.cell? ⟨G3, 3, none⟩ = some (.int .i64 rk) ∧ x.cell? ⟨G3, 4, none⟩ = some (.int .i64 rfl') ∧ x.cell? ⟨G3, 5, none⟩ = some (.int .i64 rpg)) ∧ (x.cell? ⟨G4, 0, none⟩ = some (.int .i64 sf) ∧ x.cell? ⟨G4, 1, none⟩ = some (.int .i64 st) ∧ x.cell? ⟨G4, 2, none⟩ = some (.int .i64 sp) ∧ x.cell? ⟨G4, 3, none⟩ = some (.int .i64 sk) ∧ x.cell? ⟨G4, 4, none⟩ = some (.int .i64 sfl) ∧ x.cell? ⟨G4, 5, none⟩ = some (.int .i64 spg)) ∧ Hid (Below w.heap.size w x) from
    ⟨(k6.below hx k6.lt).six (r := ⟨rf, rt, rp, rk, rfl', rpg⟩), (k7.below hx k7.lt).six (r := ⟨sf, st, sp, sk, sfl, spg⟩), Lib.hid (hwY.trans (hx.mono hwY.size))⟩)
  clear k6 k7 hb7 hwY HC HS1 HS2 HW HAW
  obtain ⟨⟨r0, r1, r2, r3, r4, r5⟩, -, -⟩ := HK.out Y (Below.refl _ _)
  by_cases mr : (⟨rf, rt, rp, rk, rfl', rpg⟩ : Rg).May
  · by_cases ms : (⟨sf, st, sp, sk, sfl, spg⟩ : Rg).May
    · go_upto_region 7 with (go_at_call 6; refine (HX1.out mr _).mono ?_; rintro e v4 ⟨A1, rfl, h1⟩)
      clear r0 r1 r2 r3 r4 r5
      obtain ⟨-, ⟨s0, s1, s2, s3, s4, s5⟩, -⟩ := HK.out v4 h1.out.2
      go_upto_region 8 with (go_at_call 6; refine (HY1.out ms _).mono ?_; rintro e v5 ⟨A2, rfl, h2⟩)
      clear s0 s1 s2 s3 s4 s5
      have hb5 := Lib.hid (h1.out.2.trans (h2.out.2.mono h1.out.2.size))
      have q1 := Lib.hid (h1.out.1.below h2.out.2)
      obtain ⟨⟨r0, r1, r2, r3, r4, r5⟩, ⟨s0, s1, s2, s3, s4, s5⟩, -⟩ := HK.out v5 hb5.out
      by_cases hov : rf < st ∧ sf < rt
      · obtain ⟨o1, o2⟩ := hov
        have o1' : decide (rf < st) = true := decide_eq_true o1
        have o2' : decide (sf < rt) = true := decide_eq_true o2
        go_upto_region 11 with (go_at_call 6; refine (HU0.out mr ms o1 o2 _ _ q1.out).mono ?_; rintro e v6 ⟨rfl, h3⟩)
        clear r0 r1 r2 r3 r4 r5 s0 s1 s2 s3 s4 s5
        have hb6 := Lib.hid (hb5.out.trans (h3.out.mono hb5.out.size))
        have q2 := Lib.hid (h2.out.1.below h3.out)
        obtain ⟨⟨r0, r1, r2, r3, r4, r5⟩, ⟨s0, s1, s2, s3, s4, s5⟩, -⟩ := HK.out v6 hb6.out
        go_upto_region 12 with (go_at_call 6; refine (HV0.out mr ms o1 o2 _ _ q2.out).mono ?_; rintro e v7 ⟨rfl, h4⟩)
        clear r0 r1 r2 r3 r4 r5 s0 s1 s2 s3 s4 s5
        have hb7 := Lib.hid (hb6.out.trans (h4.out.mono hb6.out.size))
        obtain ⟨⟨r0, r1, r2, r3, r4, r5⟩, ⟨s0, s1, s2, s3, s4, s5⟩, HBF⟩ := HK.out v7 hb7.out
        go_wp2
        go_ret
        exact ⟨rfl, HBF.out⟩
      · go_upto_region 11 with (go_at_call 6; refine (HU1.out mr ms hov _ _ q1.out).mono ?_; rintro e v6 ⟨n, U, B1, rfl, h3⟩)
        clear r0 r1 r2 r3 r4 r5 s0 s1 s2 s3 s4 s5
        obtain ⟨⟨k, hk, hU⟩, hu1, hu2⟩ := h3.out
        have hlen := hu1.len
        have HP := Lib.hid (meets_pages mr ms hk)
        have hrow : RowP (addL [⟨rf, rt, rp, rk, rfl', rpg⟩] ⟨sf, st, sp, sk, sfl, spg⟩ k) := addL_pos (one_row mr).asc ms hk
        have HV2 := HV1.out mr ms hov k hk
        rw [← hU] at HV2 HP hrow
        rw [hlen] at HV2
        have HV3 := Lib.hid HV2
        have HROW := Lib.hid hrow
        have HU2 := Lib.hid hu1
        have hb6 := Lib.hid (hb5.out.trans (hu2.mono hb5.out.size))
        have q2 := Lib.hid (h2.out.1.below hu2)
        clear HV2 hrow hu1 hu2 hU hlen h3 hk
        obtain ⟨⟨r0, r1, r2, r3, r4, r5⟩, ⟨s0, s1, s2, s3, s4, s5⟩, -⟩ := HK.out v6 hb6.out
        go_upto_region 12 with (go_at_call 6; refine (HV3.out _ _ q2.out).mono ?_; rintro e v7 ⟨B2, rfl, h4⟩)
        clear r0 r1 r2 r3 r4 r5 s0 s1 s2 s3 s4 s5
        have hb7 := Lib.hid (hb6.out.trans (h4.out.2.mono hb6.out.size))
        have q3 := Lib.hid (HU2.out.below h4.out.2)
        obtain ⟨⟨r0, r1, r2, r3, r4, r5⟩, ⟨s0, s1, s2, s3, s4, s5⟩, -⟩ := HK.out v7 hb7.out
        have b1 := mr.f
        have b2 := mr.ft
        have b3 := mr.t
        have b4 := ms.f
        have b5 := ms.ft
        have b6 := ms.t
        simp only at b1 b2 b3 b4 b5 b6
        obtain ⟨PG, hPG⟩ : ∃ PG, rt - rf + st - sf = PG := ⟨_, rfl⟩
        have w1 : wrap64 (rt - rf) = rt - rf := IntWalk.wrap64_in _ (by omega)
        have w2 : wrap64 (rt - rf + st) = rt - rf + st := IntWalk.wrap64_in _ (by omega)
        have w3 : wrap64 (rt - rf + st - sf) = PG := by rw [IntWalk.wrap64_in _ (by omega)]; exact hPG
        have w4 : IntKind.i64.wrap (rt - rf) = rt - rf := IntWalk.i64_in _ (by omega)
        have w5 : IntKind.i64.wrap (rt - rf + st) = rt - rf + st := IntWalk.i64_in _ (by omega)
        have w6 : IntKind.i64.wrap (rt - rf + st - sf) = PG := by rw [IntWalk.i64_in _ (by omega)]; exact hPG
        have HPA := Lib.hid (fun v (hv : Below v7.heap.size v7 v) => show Calls Try.prog 8 #[.slice B1 n n] v (fun e w' => e = .returned (.int .i64 PG) ∧ Below v.heap.size v w') from by
          have hp := HP.out
          rw [show (⟨rf, rt, rp, rk, rfl', rpg⟩ : Rg).t - (⟨rf, rt, rp, rk, rfl', rpg⟩ : Rg).f + (⟨sf, st, sp, sk, sfl, spg⟩ : Rg).t - (⟨sf, st, sp, sk, sfl, spg⟩ : Rg).f = PG from hPG] at hp
          rw [← hp]
          exact pages_any U B1 n n v (q3.out.below hv) HROW.out.asc)
        have HKK := Lib.hid (fun x (hx : Below Y.heap.size Y x) => show x.cell? ⟨G3, 0, none⟩ = some (.int .i64 rf) ∧ x.cell? ⟨G3, 1, none⟩ = some (.int .i64 rt) ∧ x.cell? ⟨G4, 0, none⟩ = some (.int .i64 sf) ∧ x.cell? ⟨G4, 1, none⟩ = some (.int .i64 st) from by
          obtain ⟨⟨-, -, -, -, -, -⟩, -, -⟩ := HK.out x hx
          obtain ⟨⟨a0, a1, -⟩, ⟨c0, c1, -⟩, -⟩ := HK.out x hx
          exact ⟨a0, a1, c0, c1⟩)
        clear hPG b1 b2 b3 b4 b5 b6
        have hdn : decide (rf < st ∧ sf < rt) = false := decide_eq_false hov
        by_cases o1 : rf < st
        · have o1' : decide (rf < st) = true := decide_eq_true o1
          have o2 : ¬ sf < rt := fun h => hov ⟨o1, h⟩
          have o2' : decide (sf < rt) = false := decide_eq_false o2
          clear hdn
          go_upto_region 15 with (go_at_call 7; refine (same_yesU U U rfl B1 B2 n n n _ q3.out h4.out.1).mono ?_; rintro e v8 ⟨rfl, h5⟩)
          clear r0 r1 r2 r3 r4 r5 s0 s1 s2 s3 s4 s5
          have hb8 := Lib.hid (hb7.out.trans (h5.mono hb7.out.size))
          obtain ⟨r0, r1, s0, s1⟩ := HKK.out v8 hb8.out
          have H5 := Lib.hid h5
          clear h5
          have HD1 := Lib.hid (show ∀ (Z u x : World), Below Z.heap.size Z u → Below u.heap.size u x → Below Z.heap.size Z x from fun Z u x h1 h2 => h1.trans (h2.mono h1.size))
          have HPB := Lib.hid (fun (v : World) (hv : Below v8.heap.size v8 v) => HPA.out v (H5.out.trans (hv.mono H5.out.size)))
          have HX9 := Lib.hid (Below.refl v8.heap.size v8)
          have HC9 := Lib.hid (fun (x : World) (hx : Below v8.heap.size v8 x) => HKK.out x (hb8.out.trans (hx.mono hb8.out.size)))
          go_region_held3 (fun x => x.cell? ⟨G3, 0, none⟩ = some (.int .i64 rf) ∧ x.cell? ⟨G3, 1, none⟩ = some (.int .i64 rt) ∧ x.cell? ⟨G4, 0, none⟩ = some (.int .i64 sf) ∧ x.cell? ⟨G4, 1, none⟩ = some (.int .i64 st))
            (first | exact ⟨r0, r1, s0, s1⟩ | exact HC9.out _ HX9.out | exact HC9.out _ HX9.out.drew)
            (first
            | (go_at_call 8; (first | refine (HPB.out _ HX9.out).mono ?_ | refine (HPB.out _ HX9.out.drew).mono ?_); rintro e v9 ⟨rfl, hb⟩; have hx := (show Below v8.heap.size v8 v9 from by first | exact HD1.out _ _ _ HX9.out hb | exact HD1.out _ _ _ HX9.out.drew hb); clear r0 r1 s0 s1 HX9; have HX9 := Lib.hid hx; obtain ⟨r0, r1, s0, s1⟩ := HC9.out v9 hx; clear hb hx))
          go_wp2
          go_ret
          exact ⟨by simp, (HK.out _ (hb8.out.trans (HX9.out.mono hb8.out.size))).2.2.out⟩
        · have o1' : decide (rf < st) = false := decide_eq_false o1
          clear hdn
          go_upto_region 15 with (go_at_call 7; refine (same_yesU U U rfl B1 B2 n n n _ q3.out h4.out.1).mono ?_; rintro e v8 ⟨rfl, h5⟩)
          clear r0 r1 r2 r3 r4 r5 s0 s1 s2 s3 s4 s5
          have hb8 := Lib.hid (hb7.out.trans (h5.mono hb7.out.size))
          obtain ⟨r0, r1, s0, s1⟩ := HKK.out v8 hb8.out
          have H5 := Lib.hid h5
          clear h5
          have HD1 := Lib.hid (show ∀ (Z u x : World), Below Z.heap.size Z u → Below u.heap.size u x → Below Z.heap.size Z x from fun Z u x h1 h2 => h1.trans (h2.mono h1.size))
          have HPB := Lib.hid (fun (v : World) (hv : Below v8.heap.size v8 v) => HPA.out v (H5.out.trans (hv.mono H5.out.size)))
          have HX9 := Lib.hid (Below.refl v8.heap.size v8)
          have HC9 := Lib.hid (fun (x : World) (hx : Below v8.heap.size v8 x) => HKK.out x (hb8.out.trans (hx.mono hb8.out.size)))
          go_region_held3 (fun x => x.cell? ⟨G3, 0, none⟩ = some (.int .i64 rf) ∧ x.cell? ⟨G3, 1, none⟩ = some (.int .i64 rt) ∧ x.cell? ⟨G4, 0, none⟩ = some (.int .i64 sf) ∧ x.cell? ⟨G4, 1, none⟩ = some (.int .i64 st))
            (first | exact ⟨r0, r1, s0, s1⟩ | exact HC9.out _ HX9.out | exact HC9.out _ HX9.out.drew)
            (first
            | (go_at_call 8; (first | refine (HPB.out _ HX9.out).mono ?_ | refine (HPB.out _ HX9.out.drew).mono ?_); rintro e v9 ⟨rfl, hb⟩; have hx := (show Below v8.heap.size v8 v9 from by first | exact HD1.out _ _ _ HX9.out hb | exact HD1.out _ _ _ HX9.out.drew hb); clear r0 r1 s0 s1 HX9; have HX9 := Lib.hid hx; obtain ⟨r0, r1, s0, s1⟩ := HC9.out v9 hx; clear hb hx))
          go_wp2
          go_ret
          exact ⟨by simp, (HK.out _ (hb8.out.trans (HX9.out.mono hb8.out.size))).2.2.out⟩
    · go_upto_region 7 with (go_at_call 6; refine (HX1.out mr _).mono ?_; rintro e v4 ⟨A1, rfl, h1⟩)
      clear r0 r1 r2 r3 r4 r5
      obtain ⟨-, ⟨s0, s1, s2, s3, s4, s5⟩, -⟩ := HK.out v4 h1.out.2
      go_upto_region 8 with (go_at_call 6; refine (HY0.out ms _).mono ?_; rintro e v5 ⟨rfl, h2⟩)
      clear s0 s1 s2 s3 s4 s5
      go_wp2
      go_ret
      exact ⟨rfl, (HK.out v5 (h1.out.2.trans (h2.out.mono h1.out.2.size))).2.2.out⟩
  · go_upto_region 7 with (go_at_call 6; refine (HX0.out mr _).mono ?_; rintro e v4 ⟨rfl, h1⟩)
    clear r0 r1 r2 r3 r4 r5
    obtain ⟨-, ⟨s0, s1, s2, s3, s4, s5⟩, -⟩ := HK.out v4 h1.out
    by_cases ms : (⟨sf, st, sp, sk, sfl, spg⟩ : Rg).May
    · go_upto_region 8 with (go_at_call 6; refine (HY1.out ms _).mono ?_; rintro e v5 ⟨A2, rfl, h2⟩)
      clear s0 s1 s2 s3 s4 s5
      go_wp2
      go_ret
      exact ⟨rfl, (HK.out v5 (h1.out.trans (h2.out.2.mono h1.out.size))).2.2.out⟩
    · go_upto_region 8 with (go_at_call 6; refine (HY0.out ms _).mono ?_; rintro e v5 ⟨rfl, h2⟩)
      clear s0 s1 s2 s3 s4 s5
      go_wp2
      go_ret
      exact ⟨rfl, (HK.out v5 (h1.out.trans (h2.out.mono h1.out.size))).2.2.out⟩

set_option maxRecDepth 100000 in
theorem lifted (os : Os) (started : os.Started) (H : Type) (enc : TypeId × Value → H) :
    ReturnsInHanded {} Try.checked os 3 .any (Rows.regionMeetsSpec.pre6 enc Try.prog Try.f3 Rows.regionMeetsRow.domain false) (Rows.regionMeetsSpec.post enc Try.prog Try.f3 false true false false) := by
  refine returnsInHanded_of_change (C := Try.checked) own started (by kernel_rfl) Try.func3
    (ChangeSpec.witness6 (enc := enc) (C := Try.checked) false ⟨#[], #[zregV, zregV], []⟩ 8 (by kernel_rfl) (by kernel_rfl) (by kernel_rfl) (by kernel_rfl)) ?_
  intro W base args ds gs before hval0 hW hcnd _
  have hval : ∀ (j : Nat) t v, Try.f3.params[j]? = some t → args[j]? = some v → Value.okWide Try.prog W .any base t v := hval0
  have hW' := hW
  obtain ⟨p, q, hA0, hV, rfl, hfz, hnd⟩ := hW
  have hA : DataW.TrodAll enc Try.prog W 0 (fun _ => true) true Try.f3.params.toList args.toList ds p := hA0
  rw [Try.params3] at hA hval
  obtain ⟨v0, vs0, d0, ds0, p0, q0, hargs, rfl, rfl, h0, r0⟩ := trodAll_cons hA
  obtain ⟨v1, vs1, d1, ds1, p1, q1, rfl, rfl, rfl, h1, r1⟩ := trodAll_cons r0
  obtain ⟨rfl, rfl, rfl⟩ := trodAll_nil r1
  obtain rfl : args = #[v0, v1] := by cases args; simp_all
  obtain ⟨rfl, rfl⟩ := trodVars_none hV
  have k0 := h0
  have lt0 : ∀ x ∈ p0, x.block < W.heap.size := by obtain ⟨m, hm⟩ := k0; exact DataW.trod_lt m _ _ _ hm
  obtain ⟨a0, rfl, w0⟩ := open_regionU (hval 0 23 v0 rfl rfl) h0
  have k1 := h1
  have lt1 : ∀ x ∈ p1, x.block < W.heap.size := by obtain ⟨m, hm⟩ := k1; exact DataW.trod_lt m _ _ _ hm
  obtain ⟨a1, rfl, w1⟩ := open_regionU (hval 1 23 v1 rfl rfl) h1
  clear hA0 hval0
  refine (walk a0 a1 W w0 w1).mono fun e W' ⟨he, bel⟩ => ?_
  subst he
  exact ⟨_, rfl, _, _, _, [], _, [], hW', trodAll_mk1 (shut_bool Try.underlying4 _), (trodAll_cons_mk (Below.trod laidOut (by kernel_rfl) (of_decide_eq_true (by kernel_rfl)) k0 bel lt0) (trodAll_cons_mk (Below.trod laidOut (by kernel_rfl) (of_decide_eq_true (by kernel_rfl)) k1 bel lt1) trodAll_mk0)), rfl, bel.frame _, fun h => by cases h⟩
theorem over : Rows.regionMeetsRow.holds Try.pinned (OpenSpec.ofChange Rows.regionMeetsSpec) :=
  OpenClaim.holds_of_wide 3 Try.f3 rfl rfl rfl rfl rfl rfl rfl ⟨rfl, rfl, rfl, rfl, rfl⟩ rfl rfl rfl rfl rfl (by kernel_rfl) Try.func3 (by kernel_rfl)
    (of_decide_eq_true (by kernel_rfl)) (by unfold Func.isWrapper; first | (rw [if_pos (by decide +kernel)]; kernel_rfl) | (rw [if_neg (by decide +kernel)]; exact ⟨rfl, rfl⟩))
    (fun os started H enc _ => lifted os started H enc)
/-- The statement. -/
theorem proved : Rows.RegionMeetsSaid := over
end Go.Proofs.Ytkfkaafddfedjaf.lawMeets
