/- RegionBack: for any changes, to 10, of an empty row and any region, its place cut to 64 pages: what is added and cut again leaves the row as it was; what is protected and protected back does; it has as many pages more as the region. -/
import Derived.Test.YtkfkaafddfedjacVH
namespace Go.Proofs.Ytkfkaafddfedjac.lawBack
open Go.ChangeShapes Go.WideShapes Go.ChangeAt Go.RowKit Go.Deep
set_option linter.unusedVariables false
set_option linter.unusedSimpArgs false

def zregB : Value := .agg #[.int .i64 0, .int .i64 0, .int .i64 0, .int .i64 0, .int .i64 0, .int .i64 0]
def sm (a : Rg) : Rg := ⟨a.f % 64, a.t % 64, a.p, a.k, a.fl, a.pg⟩
theorem sm_wf {a : Rg} (h : a.Wf) : (sm a).Wf := by
  obtain ⟨h0, h1, h2, h3, h4, h5⟩ := h
  exact ⟨wf64 (by show _ ≤ a.f % 64; omega) (by show a.f % 64 ≤ _; omega), wf64 (by show _ ≤ a.t % 64; omega) (by show a.t % 64 ≤ _; omega), h2, h3, h4, h5⟩
theorem small_in (a : Rg) (v : World) : Calls Try.prog 5 #[.agg #[.int .i64 0, .int .i64 0, .int .i64 0, .int .i64 0, .bool true, .int .i64 a.f, .int .i64 a.t, .int .i64 a.p, .int .i64 a.k, .int .i64 a.fl, .int .i64 a.pg]] v fun e w' =>
    e = .returned (.agg #[.int .i64 0, .int .i64 0, .int .i64 0, .int .i64 0, .bool true, .int .i64 (sm a).f, .int .i64 (sm a).t, .int .i64 a.p, .int .i64 a.k, .int .i64 a.fl, .int .i64 a.pg]) ∧ Below v.heap.size v w' :=
  (small_any ⟨0, 0, 0, 0, true, a⟩ v).mono fun e w' h => ⟨h.1, h.2⟩
theorem RS.but {S : Nat → Prop} {w w' : World} {A : Option Addr} {n c : Nat} {l : List Rg} (h : RS w A n c l) (hb : But S w w') (hS : ∀ ad, A = some ad → ¬ S ad.block) : RS w' A n c l :=
  ⟨h.row.but hb hS, h.len, h.cap, h.max, fun ad e => Nat.lt_of_lt_of_le (h.lt ad e) hb.size⟩
theorem xor7 {p : Int} (h : 0 ≤ p ∧ p ≤ 7) : ∃ c, bits .xor .i64 p 7 = c ∧ 0 ≤ c ∧ c ≤ 7 := by
  have : p = 0 ∨ p = 1 ∨ p = 2 ∨ p = 3 ∨ p = 4 ∨ p = 5 ∨ p = 6 ∨ p = 7 := by omega
  rcases this with rfl | rfl | rfl | rfl | rfl | rfl | rfl | rfl
  · exact ⟨7, by decide, by decide, by decide⟩
  · exact ⟨6, by decide, by decide, by decide⟩
  · exact ⟨5, by decide, by decide, by decide⟩
  · exact ⟨4, by decide, by decide, by decide⟩
  · exact ⟨3, by decide, by decide, by decide⟩
  · exact ⟨2, by decide, by decide, by decide⟩
  · exact ⟨1, by decide, by decide, by decide⟩
  · exact ⟨0, by decide, by decide, by decide⟩
theorem back_in {L : List Rg} {r : Rg} {k : Nat} (hL : RowP L) (hr : r.May) (hk : AddAt L r k) {x : Int} (h0 : r.f ≤ x) (h1 : x < r.t) : atL (addL L r k) x = some (r.inf x) := by
  obtain ⟨-, h2, h3⟩ := addL_ok hL.asc hr hk
  rw [h2, h3 x h0 h1, Rg.at_some h0 h1]; rfl
theorem back_cut {L : List Rg} {r : Rg} {k : Nat} (hL : RowP L) (hr : r.May) (hk : AddAt L r k) : cutL (addL L r k) r.f (max r.f r.t) = L := by
  obtain ⟨h1, h2, h3⟩ := addL_ok hL.asc hr hk
  have hft := hr.ft
  obtain ⟨h4, h5⟩ := cutL_ok h1.asc (a := r.f) (b := max r.f r.t) (by omega)
  refine h4.uniq hL fun x => ?_
  rw [h5]
  by_cases c : r.f ≤ x ∧ x < max r.f r.t
  · rw [if_pos c, h3 x c.1 (by omega)]
  · rw [if_neg c, h2, Rg.at_none (by omega), Option.or_none]
theorem back_pro {L : List Rg} {r : Rg} {k : Nat} (hL : RowP L) (hr : r.May) (hk : AddAt L r k) {c : Int} (hc : 0 ≤ c ∧ c ≤ 7) :
    r.t ≤ covF (addL L r k) r.f ∧ RowP (proL (addL L r k) r.f r.t c) ∧ r.t ≤ covF (proL (addL L r k) r.f r.t c) r.f ∧ proL (proL (addL L r k) r.f r.t c) r.f r.t r.p = addL L r k := by
  obtain ⟨h1, h2, h3⟩ := addL_ok hL.asc hr hk
  obtain ⟨h4, h5⟩ := proL_ok h1.asc (a := r.f) (b := r.t) hr.ft hc
  obtain ⟨h6, h7⟩ := proL_ok h4.asc (a := r.f) (b := r.t) (c := r.p) hr.ft ⟨hr.p0, hr.p7⟩
  refine ⟨(covF_ok h1.asc _ _).2 fun x x1 x2 => by rw [back_in hL hr hk x1 x2]; rfl, h4, (covF_ok h4.asc _ _).2 fun x x1 x2 => by rw [h5, if_pos ⟨x1, x2⟩, back_in hL hr hk x1 x2]; rfl, h6.uniq h1 fun x => ?_⟩
  rw [h7, h5]
  by_cases c : r.f ≤ x ∧ x < r.t
  · rw [if_pos c, if_pos c, back_in hL hr hk c.1 c.2]; rfl
  · rw [if_neg c, if_neg c]

set_option maxRecDepth 100000 in
set_option maxHeartbeats 12800000 in
theorem walk (A : Option Addr) (ops : List OpU) (c : Nat) (a : Rg) (w : World) (hmax : ops.length ≤ maxLen) (hrow : OpRow w A ops) (wa : a.Wf) :
    Calls Try.prog 3 #[.slice A ops.length c, .agg a.cs] w fun e w' => e = .returned (.bool true) ∧ Below w.heap.size w w' := by
  have HAW := Lib.hid (fun v => awake_anyU v)
  have hs1 := fun v => small_in a v
  have hwr := sm_wf wa
  have hfd : 0 ≤ (sm a).f ∧ (sm a).f ≤ 63 ∧ 0 ≤ (sm a).t ∧ (sm a).t ≤ 63 := by show 0 ≤ a.f % 64 ∧ a.f % 64 ≤ 63 ∧ 0 ≤ a.t % 64 ∧ a.t % 64 ≤ 63; omega
  obtain ⟨r, hr⟩ : ∃ r, sm a = r := ⟨_, rfl⟩
  have hre : r = ⟨r.f, r.t, a.p, a.k, a.fl, a.pg⟩ := by rw [← hr]; rfl
  rw [hr] at hs1 hwr hfd
  obtain ⟨rf, rt, rp, rk, rfl', rpg⟩ := r
  injection hre with _ _ h1 h2 h3 h4
  obtain ⟨af, at', ap, ak, afl, apg⟩ := a
  simp only at h1 h2 h3 h4 hs1 hfd
  subst h1 h2 h3 h4
  have HFD := Lib.hid hfd
  have HS9 := Lib.hid hs1
  have HWF := Lib.hid hwr
  clear hr hs1 hwr wa hfd
  obtain ⟨n, hn⟩ : ∃ n, ops.length = n := ⟨_, rfl⟩
  have hn2 : n ≤ 9223372036854775807 := by unfold maxLen at hmax; omega
  have HN := Lib.hid hn
  rw [hn]
  unfold Rg.cs
  simp only
  obtain ⟨W, hW⟩ : ∃ W, w.alloc (.cells #[.int .i64 af, .int .i64 at', .int .i64 rp, .int .i64 rk, .int .i64 rfl', .int .i64 rpg] 24) = W := ⟨_, rfl⟩
  have b0 : Blk W w.heap.size 24 #[.int .i64 af, .int .i64 at', .int .i64 rp, .int .i64 rk, .int .i64 rfl', .int .i64 rpg] := by rw [← hW]; exact Blk.new _ _ _
  have hbw : Below w.heap.size w W := by rw [← hW]; exact (Below.refl _ _).alloc (Nat.le_refl _) _
  have HWS := Lib.hid (show W.heap.size = w.heap.size + 1 from by rw [← hW]; simp)
  have HQ := Lib.hid (fun (x : World) (hx : Below W.heap.size W x) => show Blk x w.heap.size 24 #[.int .i64 af, .int .i64 at', .int .i64 rp, .int .i64 rk, .int .i64 rfl', .int .i64 rpg] ∧ Hid (Below w.heap.size w x) from ⟨b0.below hx b0.lt, Lib.hid (hbw.trans (hx.mono hbw.size))⟩)
  have HOP := Lib.hid (fun (x : World) (hx : Below W.heap.size W x) => hrow.below rfl (hbw.trans (hx.mono hbw.size)))
  have HW := Lib.hid hW
  have hfld : ∀ (a b c d e f : Int) (w : World), (Instr.field 30 (.agg #[.int .i64 0, .int .i64 0, .int .i64 0, .int .i64 0, .bool true, .int .i64 a, .int .i64 b, .int .i64 c, .int .i64 d, .int .i64 e, .int .i64 f]) 5).run Try.prog w = .ok (.agg #[.int .i64 a, .int .i64 b, .int .i64 c, .int .i64 d, .int .i64 e, .int .i64 f]) w := fun a b c d e f w => by kernel_rfl
  clear hmax hrow hn hW b0 hbw
  go_enter Try.func3, Try.ntmps3
  go_upto_region 1 with fail
  rw [HW.out]
  go_upto_region 2 with (go_at_call 4; refine (HAW.out _).mono ?_; rintro e v1 ⟨rfl, hb1⟩)
  have HB1 := Lib.hid hb1
  clear hb1
  go_wp2
  go_loopw [6, 7] (fun lv iv wr => ∃ (i : Nat) (A' : Option Addr) (m c' : Nat), i ≤ 10 ∧ i ≤ n ∧ iv = .int .i64 i ∧ lv = .slice A' m c' ∧ Hid (∃ L, RS wr A' m c' L ∧ RowP L ∧ Below W.heap.size W wr ∧ NewAt W A')) (fun _ iv _ => n - (intOf iv).toNat)
  case atStart => exact ⟨0, none, 0, 0, by omega, Nat.zero_le _, rfl, rfl, Lib.hid ⟨[], RS.nil _, RowP.nil, HB1.out, fun ad e => by cases e⟩⟩
  case round =>
    clear HB1
    obtain ⟨i, A', m, c', hi10, hin, rfl, rfl, HI⟩ := hrel
    by_cases hlt : i < n ∧ i < 10
    · obtain ⟨h1, h2⟩ := hlt
      obtain ⟨L, hrs, hrow, hbl, hnew⟩ := HI.out
      have hil : i < ops.length := by rw [HN.out]; exact h1
      obtain ⟨ad, rfl, hwf, x0, x1, x2, x3, x4, x5, x6, x7, x8, x9, x10⟩ := (HOP.out wr hbl).at_ hil
      obtain ⟨o, ho⟩ : ∃ o, ops[i] = o := ⟨_, rfl⟩
      rw [ho] at hwf x0 x1 x2 x3 x4 x5 x6 x7 x8 x9 x10
      have hsm := fun v => small_any o v
      have HOF := Lib.hid (fun (v : World) (hv : Below wr.heap.size wr v) => of_any o.small L A' m c' v (hrs.below hv) hrow.asc hwf.small)
      have HST := Lib.hid (And.intro hrs (And.intro hrow (And.intro hbl hnew)))
      obtain ⟨kd, f, t, p, inn, ⟨rf, rt, rp, rk, rfl', rpg⟩⟩ := o
      unfold OpU.cs at hsm
      simp only at x0 x1 x2 x3 x4 x5 x6 x7 x8 x9 x10 hsm
      have hof := HOF.out
      unfold OpU.cs at hof
      have HSM := Lib.hid hsm
      have HOG := Lib.hid hof
      have i0 : (0 : Int) ≤ (i : Int) := by omega
      have i1 : (i : Int) < (n : Int) := by omega
      have i2 : (i : Int) < 10 := by omega
      have i3 : decide ((i : Int) < (n : Int)) = true := decide_eq_true i1
      have i4 : decide ((i : Int) < 10) = true := decide_eq_true i2
      clear hsm hof HOF hrs hrow hbl hnew hil ho hwf
      go_upto_region 7 with (first
        | (go_at_call 5; refine (HSM.out _).mono ?_; rintro e u1 ⟨rfl, hu1⟩)
        | (go_at_call 6; refine (HOG.out _ hu1).mono ?_; rintro e u2 ⟨A2, n2, c2, en, rfl, hen, hu2⟩))
      have hbu := hu1.trans (hu2.mono hu1.size)
      have HEN := Lib.hid hen
      have HU1 := Lib.hid hu1.size
      have HBU := Lib.hid hbu
      clear x0 x1 x2 x3 x4 x5 x6 x7 x8 x9 x10 hu1 hu2 hen hbu
      by_cases hz : en = 0
      · subst hz
        go_wp2
        go_roundw
        case rel =>
          obtain ⟨L2, h3, h4, h5⟩ := HEN.out rfl
          obtain ⟨hrs, hrow, hbl, hnew⟩ := HST.out
          exact ⟨i + 1, A2, n2, c2, by omega, by omega, by go_num, rfl, Lib.hid ⟨L2, h3, h4, hbl.trans (HBU.out.mono hbl.size), h5.from (Nat.le_trans hbl.size HU1.out)⟩⟩
        case measure => simp [intOf]; omega
      · have hz2 : (en == 0) = false := by simpa using hz
        go_wp2
        go_roundw
        case rel =>
          obtain ⟨hrs, hrow, hbl, hnew⟩ := HST.out
          exact ⟨i + 1, A', m, c', by omega, by omega, by go_num, rfl, Lib.hid ⟨L, hrs.below HBU.out, hrow, hbl.trans (HBU.out.mono hbl.size), hnew⟩⟩
        case measure => simp [intOf]; omega
    · have hnn : ((i : Int) < (n : Int) → ¬ (i : Int) < 10) := fun h1 h2 => hlt ⟨by omega, by omega⟩
      obtain ⟨L, hrs, hrow, hbl, hnew⟩ := HI.out
      have HST := Lib.hid (And.intro hrs (And.intro hrow (And.intro hbl hnew)))
      have hdd : (((i : Int) < (n : Int) ∧ i < n) ∧ (¬ (i : Int) < 10 ∧ ¬ i < 10)) ∨ (¬ (i : Int) < (n : Int) ∧ ¬ i < n) := by
        by_cases h1 : (i : Int) < (n : Int)
        · have := hnn h1; exact .inl ⟨⟨h1, by omega⟩, this, by omega⟩
        · exact .inr ⟨h1, by omega⟩
      clear hrs hrow hbl hnew hnn hlt
      rcases hdd with hdd | hdd
      · obtain ⟨⟨ha1, ha2⟩, ha3, ha4⟩ := hdd
        have ha5 : decide ((i : Int) < (n : Int)) = true := decide_eq_true ha1
        have ha6 : decide (i < n) = true := decide_eq_true ha2
        have ha7 : decide ((i : Int) < 10) = false := decide_eq_false ha3
        have ha8 : decide (i < 10) = false := decide_eq_false ha4
        obtain ⟨HS1, HS2, HS3, HS4⟩ := HST.out
        obtain ⟨kx, -⟩ := HQ.out wr HS3
        have x0 := kx.at_ 0 _ rfl
        have x1 := kx.at_ 1 _ rfl
        have x2 := kx.at_ 2 _ rfl
        have x3 := kx.at_ 3 _ rfl
        have x4 := kx.at_ 4 _ rfl
        have x5 := kx.at_ 5 _ rfl
        have HROW := Lib.hid HS2
        go_upto_region 10 with fail
        have k1 := kx.alloc (.cells #[.int .i64 0, .int .i64 0, .int .i64 0, .int .i64 0, .bool true, .int .i64 af, .int .i64 at', .int .i64 rp, .int .i64 rk, .int .i64 rfl', .int .i64 rpg] 30)
        have k2 := Blk.new wr 30 #[.int .i64 0, .int .i64 0, .int .i64 0, .int .i64 0, .bool true, .int .i64 af, .int .i64 at', .int .i64 rp, .int .i64 rk, .int .i64 rfl', .int .i64 rpg]
        have r1 := HS1.below ((Below.refl wr.heap.size wr).alloc (Nat.le_refl _) (.cells #[.int .i64 0, .int .i64 0, .int .i64 0, .int .i64 0, .bool true, .int .i64 af, .int .i64 at', .int .i64 rp, .int .i64 rk, .int .i64 rfl', .int .i64 rpg] 30))
        have hb1 := HS3.alloc HS3.size (.cells #[.int .i64 0, .int .i64 0, .int .i64 0, .int .i64 0, .bool true, .int .i64 af, .int .i64 at', .int .i64 rp, .int .i64 rk, .int .i64 rfl', .int .i64 rpg] 30)
        generalize wr.alloc (.cells #[.int .i64 0, .int .i64 0, .int .i64 0, .int .i64 0, .bool true, .int .i64 af, .int .i64 at', .int .i64 rp, .int .i64 rk, .int .i64 rfl', .int .i64 rpg] 30) = X1 at *
        generalize wr.heap.size = G1 at *
        clear x0 x1 x2 x3 x4 x5 kx HS1 HS2 HS3
        have c0 := k2.at_ 0 _ rfl
        have c1 := k2.at_ 1 _ rfl
        have c2 := k2.at_ 2 _ rfl
        have c3 := k2.at_ 3 _ rfl
        have c4 := k2.at_ 4 _ rfl
        have c5 := k2.at_ 5 _ rfl
        have c6 := k2.at_ 6 _ rfl
        have c7 := k2.at_ 7 _ rfl
        have c8 := k2.at_ 8 _ rfl
        have c9 := k2.at_ 9 _ rfl
        have c10 := k2.at_ 10 _ rfl
        go_upto_region 11 with (go_at_call 5; refine (HS9.out _).mono ?_; rintro e v2 ⟨rfl, hv2⟩; have kq := k1.below hv2 k1.lt; have y0 := kq.at_ 0 _ rfl; have y1 := kq.at_ 1 _ rfl; have y2 := kq.at_ 2 _ rfl; have y3 := kq.at_ 3 _ rfl; have y4 := kq.at_ 4 _ rfl; have y5 := kq.at_ 5 _ rfl; have f0 := kq.frozen 0; have f1 := kq.frozen 1; have f2 := kq.frozen 2; have f3 := kq.frozen 3; have f4 := kq.frozen 4; have f5 := kq.frozen 5)
        have ky : Blk ((((((v2.setCell ⟨w.heap.size, 0, none⟩ (.int .i64 rf)).setCell ⟨w.heap.size, 1, none⟩ (.int .i64 rt)).setCell ⟨w.heap.size, 2, none⟩ (.int .i64 rp)).setCell ⟨w.heap.size, 3, none⟩ (.int .i64 rk)).setCell ⟨w.heap.size, 4, none⟩ (.int .i64 rfl')).setCell ⟨w.heap.size, 5, none⟩ (.int .i64 rpg)) w.heap.size 24 #[.int .i64 rf, .int .i64 rt, .int .i64 rp, .int .i64 rk, .int .i64 rfl', .int .i64 rpg] := by
          have := (((((kq.set_ 0 (.int .i64 rf)).set_ 1 (.int .i64 rt)).set_ 2 (.int .i64 rp)).set_ 3 (.int .i64 rk)).set_ 4 (.int .i64 rfl')).set_ 5 (.int .i64 rpg)
          simpa using this
        have hbt : But (fun k => k = w.heap.size) v2 ((((((v2.setCell ⟨w.heap.size, 0, none⟩ (.int .i64 rf)).setCell ⟨w.heap.size, 1, none⟩ (.int .i64 rt)).setCell ⟨w.heap.size, 2, none⟩ (.int .i64 rp)).setCell ⟨w.heap.size, 3, none⟩ (.int .i64 rk)).setCell ⟨w.heap.size, 4, none⟩ (.int .i64 rfl')).setCell ⟨w.heap.size, 5, none⟩ (.int .i64 rpg)) := ((((((But.refl (fun k => k = w.heap.size) v2).setCell (p := ⟨w.heap.size, 0, none⟩) (.inl rfl) _).setCell (p := ⟨w.heap.size, 1, none⟩) (.inl rfl) _).setCell (p := ⟨w.heap.size, 2, none⟩) (.inl rfl) _).setCell (p := ⟨w.heap.size, 3, none⟩) (.inl rfl) _).setCell (p := ⟨w.heap.size, 4, none⟩) (.inl rfl) _).setCell (p := ⟨w.heap.size, 5, none⟩) (.inl rfl) _
        obtain ⟨-, hb2⟩ := HQ.out v2 (hb1.trans (hv2.mono hb1.size))
        have hby := hb2.out.trans (hbt.below (B := w.heap.size) hb2.out.size (fun k hk => Nat.le_of_eq hk.symm))
        have hry := RS.but (r1.below hv2) hbt (fun ad e h => by have := HS4 ad e; have h2 : ad.block = w.heap.size := h; have h3 := HWS.out; omega)
        clear c0 c1 c2 c3 c4 c5 c6 c7 c8 c9 c10 y0 y1 y2 y3 y4 y5 f0 f1 f2 f3 f4 f5 k1 k2 kq hb1 hb2 r1 HS4 hbt
        generalize ((((((v2.setCell ⟨w.heap.size, 0, none⟩ (.int .i64 rf)).setCell ⟨w.heap.size, 1, none⟩ (.int .i64 rt)).setCell ⟨w.heap.size, 2, none⟩ (.int .i64 rp)).setCell ⟨w.heap.size, 3, none⟩ (.int .i64 rk)).setCell ⟨w.heap.size, 4, none⟩ (.int .i64 rfl')).setCell ⟨w.heap.size, 5, none⟩ (.int .i64 rpg)) = Y at *
        clear hv2
        have HRY := Lib.hid hry
        have HK := Lib.hid (fun (x : World) (hx : Below Y.heap.size Y x) => show SixAt x w.heap.size (⟨rf, rt, rp, rk, rfl', rpg⟩ : Rg) ∧ Hid (Below w.heap.size w x) from ⟨(ky.below hx ky.lt).six (r := (⟨rf, rt, rp, rk, rfl', rpg⟩ : Rg)), Lib.hid (hby.trans (hx.mono hby.size))⟩)
        clear ky hby hry
        obtain ⟨K0, -⟩ := HK.out Y (Below.refl _ _)
        obtain ⟨r0, r1, r2, r3, r4, r5⟩ := K0
        simp only at r0 r1 r2 r3 r4 r5
        by_cases hm : (⟨rf, rt, rp, rk, rfl', rpg⟩ : Rg).May
        · by_cases hhit : ∃ x ∈ L, x.f < rt ∧ rf < x.t
          · have HAD := Lib.hid (show Calls Try.prog 7 #[.slice A' m c', .agg #[.int .i64 rf, .int .i64 rt, .int .i64 rp, .int .i64 rk, .int .i64 rfl', .int .i64 rpg]] Y (fun e w' => e = .returned (.tuple #[.slice none 0 0, .int .i64 13]) ∧ Below Y.heap.size Y w') from by
              obtain ⟨x, hx, h1, h2⟩ := hhit
              exact (add_hit L (⟨rf, rt, rp, rk, rfl', rpg⟩ : Rg) A' m c' Y HRY.out HROW.out.asc hm hx h1 h2).mono fun e w' h => h)
            go_upto_region 12 with (go_at_call 7; refine HAD.out.mono ?_; rintro e Z ⟨rfl, hZ⟩)
            obtain ⟨-, hbz⟩ := HK.out Z hZ
            go_wp2
            go_ret
            exact ⟨rfl, hbz.out⟩
          · have HAD := Lib.hid (show Calls Try.prog 7 #[.slice A' m c', .agg #[.int .i64 rf, .int .i64 rt, .int .i64 rp, .int .i64 rk, .int .i64 rfl', .int .i64 rpg]] Y (fun e w' => ∃ (n : Nat) (U : List Rg), ∃ B, e = .returned (.tuple #[.slice B n n, .int .i64 0]) ∧ Hid ((∃ k, AddAt L (⟨rf, rt, rp, rk, rfl', rpg⟩ : Rg) k ∧ U = addL L (⟨rf, rt, rp, rk, rfl', rpg⟩ : Rg) k) ∧ RS w' B n n U ∧ Below Y.heap.size Y w')) from by
              refine (add_yes L (⟨rf, rt, rp, rk, rfl', rpg⟩ : Rg) A' m c' Y HRY.out HROW.out.asc hm (fun x hx h => hhit ⟨x, hx, h⟩)).mono fun e w' h => ?_
              obtain ⟨k, hk, B, e1, h1, h2⟩ := h
              exact ⟨_, _, B, e1, Lib.hid ⟨⟨k, hk, rfl⟩, h1, h2⟩⟩)
            clear hhit
            go_upto_region 12 with (go_at_call 7; refine HAD.out.mono ?_; rintro e Z ⟨nM, M, B, rfl, hZ⟩)
            clear r0 r1 r2 r3 r4 r5 HAD
            obtain ⟨⟨k, hk, hM⟩, hRM, hZ2⟩ := hZ.out
            obtain ⟨cx, hcx, hcx2⟩ := xor7 (p := rp) ⟨hm.p0, hm.p7⟩
            have q1 := (addL_ok HROW.out.asc hm hk).1
            have q2 := back_cut HROW.out hm hk
            obtain ⟨q3, q4, q5, q6⟩ := back_pro HROW.out hm hk hcx2
            have q7 := pages_add HROW.out.asc hm hk
            simp only at q2 q3 q4 q5 q6 q7
            rw [← hM] at q1 q2 q3 q4 q5 q6 q7
            obtain ⟨P, hP⟩ : ∃ P, proL M rf rt cx = P := ⟨_, rfl⟩
            rw [hP] at q4 q5 q6
            obtain ⟨nP, hnP⟩ : ∃ n, P.length = n := ⟨_, rfl⟩
            have hnL := HRY.out.len
            have hnM := hRM.len
            have hft : rf < rt := hm.ft
            have hfd := HFD.out
            have hcut := fun (v : World) (hv : RS v B nM nM M) => cut_any M rf rt B nM nM v hv q1.asc ⟨by omega, by omega⟩ ⟨by omega, by omega⟩
            rw [q2] at hcut
            have HCU := Lib.hid (fun (v : World) (hv : Below Z.heap.size Z v) => show Calls Try.prog 8 #[.slice B nM nM, .int .i64 rf, .int .i64 rt] v (fun e w' => ∃ A3, e = .returned (.slice A3 m m) ∧ RS w' A3 m m L ∧ Below v.heap.size v w') from (hcut v (hRM.below hv)).mono fun e w' h => by
              obtain ⟨A3, h1, h2, h3⟩ := h
              rw [hnL] at h1 h2
              exact ⟨A3, h1, h2, h3⟩)
            have HP1 := Lib.hid (fun (v : World) (hv : Below Z.heap.size Z v) => show Calls Try.prog 10 #[.slice B nM nM, .int .i64 rf, .int .i64 rt, .int .i64 cx] v (fun e w' => ∃ A4, e = .returned (.tuple #[.slice A4 nP nP, .int .i64 0]) ∧ RS w' A4 nP nP P ∧ Below v.heap.size v w') from (protect_any M rf rt cx B nM nM v (hRM.below hv) q1.asc ⟨by omega, by omega⟩ ⟨by omega, by omega⟩ hcx2).mono fun e w' h => by
              rcases h with ⟨h1, -⟩ | ⟨-, h1, -⟩ | ⟨-, -, A2, h1, h2, h3⟩
              · exact absurd h1 (by omega)
              · exact absurd q3 h1
              · rw [hP, hnP] at h1 h2
                exact ⟨A2, h1, h2, h3⟩)
            have HP2 := Lib.hid (fun (v : World) (A4 : Option Addr) (hv : RS v A4 nP nP P) => show Calls Try.prog 10 #[.slice A4 nP nP, .int .i64 rf, .int .i64 rt, .int .i64 rp] v (fun e w' => ∃ A5, e = .returned (.tuple #[.slice A5 nM nM, .int .i64 0]) ∧ RS w' A5 nM nM M ∧ Below v.heap.size v w') from (protect_any P rf rt rp A4 nP nP v hv q4.asc ⟨by omega, by omega⟩ ⟨by omega, by omega⟩ ⟨hm.p0, hm.p7⟩).mono fun e w' h => by
              rcases h with ⟨h1, -⟩ | ⟨-, h1, -⟩ | ⟨-, -, A2, h1, h2, h3⟩
              · exact absurd h1 (by omega)
              · exact absurd q5 h1
              · rw [q6, hnM] at h1 h2
                exact ⟨A2, h1, h2, h3⟩)
            have HRL := Lib.hid (fun (v : World) (hv : Below Z.heap.size Z v) => (HRY.out.below hZ2).below hv)
            have HRM := Lib.hid (fun (v : World) (hv : Below Z.heap.size Z v) => hRM.below hv)
            obtain ⟨PL, hPL⟩ : ∃ x, pagesL L = x := ⟨_, rfl⟩
            obtain ⟨PM, hPM⟩ : ∃ x, pagesL M = x := ⟨_, rfl⟩
            have hpb := pages_bd HROW.out.asc
            rw [hPL] at hpb q7
            rw [hPM] at q7
            have HPL := Lib.hid (fun (v : World) (hv : Below Z.heap.size Z v) => show Calls Try.prog 11 #[.slice A' m c'] v (fun e w' => e = .returned (.int .i64 PL) ∧ Below v.heap.size v w') from by
              rw [← hPL]; exact pages_any L A' m c' v (HRL.out v hv) HROW.out.asc)
            have HPM := Lib.hid (fun (v : World) (hv : Below Z.heap.size Z v) => show Calls Try.prog 11 #[.slice B nM nM] v (fun e w' => e = .returned (.int .i64 PM) ∧ Below v.heap.size v w') from by
              rw [← hPM]; exact pages_any M B nM nM v (HRM.out v hv) q1.asc)
            have HKZ := Lib.hid (fun (x : World) (hx : Below Z.heap.size Z x) => HK.out x (hZ2.trans (hx.mono hZ2.size)))
            have w1 : wrap64 (PL + rt) = PL + rt := IntWalk.wrap64_in _ (by omega)
            have w2 : wrap64 (PL + rt - rf) = PM := by rw [IntWalk.wrap64_in _ (by omega)]; omega
            have w4 : IntKind.i64.wrap (PL + rt) = PL + rt := IntWalk.i64_in _ (by omega)
            have w5 : IntKind.i64.wrap (PL + rt - rf) = PM := by rw [IntWalk.i64_in _ (by omega)]; omega
            have HV := Lib.hid (And.intro w1 (And.intro w2 (And.intro w4 (And.intro w5 hcx))))
            clear w1 w2 w4 w5 hcx hcx2 q1 q2 q3 q4 q5 q6 q7 hpb hPL hPM hfd hft hnM hnL hcut hRM hZ2 hk hM hP hnP hZ
            have HZ0 := Lib.hid (Below.refl Z.heap.size Z)
            obtain ⟨⟨r0, r1, r2, r3, r4, r5⟩, -⟩ := HKZ.out Z HZ0.out
            simp only at r0 r1 r2 r3 r4 r5
            go_upto_region 15 with (go_at_call 8; refine (HCU.out _ HZ0.out).mono ?_; rintro e z1 ⟨A3, rfl, h1, h2⟩)
            clear r0 r1 r2 r3 r4 r5
            have HZ1 := Lib.hid h2
            go_upto_region 16 with (go_at_call 9; refine (same_yesU L L rfl A3 A' m m c' _ h1 (HRL.out _ HZ1.out)).mono ?_; rintro e z2 ⟨rfl, h3⟩)
            have HZ2 := Lib.hid (HZ1.out.trans (h3.mono HZ1.out.size))
            clear h1 h2 h3 HZ1 HCU
            obtain ⟨⟨r0, r1, r2, r3, r4, r5⟩, -⟩ := HKZ.out z2 HZ2.out
            simp only at r0 r1 r2 r3 r4 r5
            obtain ⟨-, -, -, -, ex⟩ := HV.out
            go_upto_region 17 with (go_at_call 10; refine (HP1.out _ HZ2.out).mono ?_; rintro e z3 ⟨A4, rfl, h1, h2⟩)
            clear r0 r1 r2 r3 r4 r5 ex
            have HZ3 := Lib.hid (HZ2.out.trans (h2.mono HZ2.out.size))
            obtain ⟨⟨r0, r1, r2, r3, r4, r5⟩, -⟩ := HKZ.out z3 HZ3.out
            simp only at r0 r1 r2 r3 r4 r5
            go_upto_region 18 with (go_at_call 10; refine (HP2.out _ _ h1).mono ?_; rintro e z4 ⟨A5, rfl, h3, h4⟩)
            clear r0 r1 r2 r3 r4 r5 h1 h2 HZ2
            have HZ4 := Lib.hid (HZ3.out.trans (h4.mono HZ3.out.size))
            go_upto_region 19 with (go_at_call 9; refine (same_yesU M M rfl A5 B nM nM nM _ h3 (HRM.out _ HZ4.out)).mono ?_; rintro e z5 ⟨rfl, h5⟩)
            have HZ5 := Lib.hid (HZ4.out.trans (h5.mono HZ4.out.size))
            clear h3 h4 h5 HZ3 HZ4 HP1 HP2 HRL HRM
            obtain ⟨⟨r0, r1, -⟩, -⟩ := HKZ.out z5 HZ5.out
            simp only at r0 r1
            obtain ⟨w1, w2, w4, w5, -⟩ := HV.out
            have HD1 := Lib.hid (show ∀ (Z u x : World), Below Z.heap.size Z u → Below u.heap.size u x → Below Z.heap.size Z x from fun Z u x h1 h2 => h1.trans (h2.mono h1.size))
            have HPB := Lib.hid (fun (v : World) (hv : Below z5.heap.size z5 v) => HPL.out v (HZ5.out.trans (hv.mono HZ5.out.size)))
            have HPC := Lib.hid (fun (v : World) (hv : Below z5.heap.size z5 v) => HPM.out v (HZ5.out.trans (hv.mono HZ5.out.size)))
            have HX9 := Lib.hid (Below.refl z5.heap.size z5)
            have HC9 := Lib.hid (fun (x : World) (hx : Below z5.heap.size z5 x) => show x.cell? ⟨w.heap.size, 0, none⟩ = some (.int .i64 rf) ∧ x.cell? ⟨w.heap.size, 1, none⟩ = some (.int .i64 rt) from by
              obtain ⟨⟨a0, a1, -⟩, -⟩ := HKZ.out x (HZ5.out.trans (hx.mono HZ5.out.size))
              exact ⟨a0, a1⟩)
            clear HPL HPM
            go_region_held3 (fun x => x.cell? ⟨w.heap.size, 0, none⟩ = some (.int .i64 rf) ∧ x.cell? ⟨w.heap.size, 1, none⟩ = some (.int .i64 rt))
                (first | exact ⟨r0, r1⟩ | exact HC9.out _ HX9.out | exact HC9.out _ HX9.out.drew)
                (first
                | (go_at_call 11; (first | with_reducible refine (HPB.out _ HX9.out).mono ?_ | with_reducible refine (HPC.out _ HX9.out).mono ?_ | with_reducible refine (HPB.out _ HX9.out.drew).mono ?_ | with_reducible refine (HPC.out _ HX9.out.drew).mono ?_); rintro e v9 ⟨rfl, hb⟩; have hx := (show Below z5.heap.size z5 v9 from by first | exact HD1.out _ _ _ HX9.out hb | exact HD1.out _ _ _ HX9.out.drew hb); clear r0 r1 HX9; have HX9 := Lib.hid hx; obtain ⟨r0, r1⟩ := HC9.out v9 hx; clear hb hx))
            go_wp2
            go_ret
            exact ⟨by simp, (HKZ.out _ (HZ5.out.trans (HX9.out.mono HZ5.out.size))).2.out⟩
        · have HAD := Lib.hid (show Calls Try.prog 7 #[.slice A' m c', .agg #[.int .i64 rf, .int .i64 rt, .int .i64 rp, .int .i64 rk, .int .i64 rfl', .int .i64 rpg]] Y (fun e w' => e = .returned (.tuple #[.slice none 0 0, .int .i64 1]) ∧ Below Y.heap.size Y w') from (add_any L (⟨rf, rt, rp, rk, rfl', rpg⟩ : Rg) A' m c' Y HRY.out HROW.out.asc HWF.out).mono fun e w' h => by
            obtain ⟨hb, ⟨_, e1⟩ | ⟨h1, _⟩ | ⟨h1, _⟩⟩ := h
            · exact ⟨e1, hb⟩
            · exact absurd h1 hm
            · exact absurd h1 hm)
          go_upto_region 12 with (go_at_call 7; refine HAD.out.mono ?_; rintro e Z ⟨rfl, hZ⟩)
          obtain ⟨-, hbz⟩ := HK.out Z hZ
          go_wp2
          go_ret
          exact ⟨rfl, hbz.out⟩
      · obtain ⟨ha1, ha2⟩ := hdd
        have ha5 : decide ((i : Int) < (n : Int)) = false := decide_eq_false ha1
        have ha6 : decide (i < n) = false := decide_eq_false ha2
        obtain ⟨HS1, HS2, HS3, HS4⟩ := HST.out
        obtain ⟨kx, -⟩ := HQ.out wr HS3
        have x0 := kx.at_ 0 _ rfl
        have x1 := kx.at_ 1 _ rfl
        have x2 := kx.at_ 2 _ rfl
        have x3 := kx.at_ 3 _ rfl
        have x4 := kx.at_ 4 _ rfl
        have x5 := kx.at_ 5 _ rfl
        have HROW := Lib.hid HS2
        go_upto_region 10 with fail
        have k1 := kx.alloc (.cells #[.int .i64 0, .int .i64 0, .int .i64 0, .int .i64 0, .bool true, .int .i64 af, .int .i64 at', .int .i64 rp, .int .i64 rk, .int .i64 rfl', .int .i64 rpg] 30)
        have k2 := Blk.new wr 30 #[.int .i64 0, .int .i64 0, .int .i64 0, .int .i64 0, .bool true, .int .i64 af, .int .i64 at', .int .i64 rp, .int .i64 rk, .int .i64 rfl', .int .i64 rpg]
        have r1 := HS1.below ((Below.refl wr.heap.size wr).alloc (Nat.le_refl _) (.cells #[.int .i64 0, .int .i64 0, .int .i64 0, .int .i64 0, .bool true, .int .i64 af, .int .i64 at', .int .i64 rp, .int .i64 rk, .int .i64 rfl', .int .i64 rpg] 30))
        have hb1 := HS3.alloc HS3.size (.cells #[.int .i64 0, .int .i64 0, .int .i64 0, .int .i64 0, .bool true, .int .i64 af, .int .i64 at', .int .i64 rp, .int .i64 rk, .int .i64 rfl', .int .i64 rpg] 30)
        generalize wr.alloc (.cells #[.int .i64 0, .int .i64 0, .int .i64 0, .int .i64 0, .bool true, .int .i64 af, .int .i64 at', .int .i64 rp, .int .i64 rk, .int .i64 rfl', .int .i64 rpg] 30) = X1 at *
        generalize wr.heap.size = G1 at *
        clear x0 x1 x2 x3 x4 x5 kx HS1 HS2 HS3
        have c0 := k2.at_ 0 _ rfl
        have c1 := k2.at_ 1 _ rfl
        have c2 := k2.at_ 2 _ rfl
        have c3 := k2.at_ 3 _ rfl
        have c4 := k2.at_ 4 _ rfl
        have c5 := k2.at_ 5 _ rfl
        have c6 := k2.at_ 6 _ rfl
        have c7 := k2.at_ 7 _ rfl
        have c8 := k2.at_ 8 _ rfl
        have c9 := k2.at_ 9 _ rfl
        have c10 := k2.at_ 10 _ rfl
        go_upto_region 11 with (go_at_call 5; refine (HS9.out _).mono ?_; rintro e v2 ⟨rfl, hv2⟩; have kq := k1.below hv2 k1.lt; have y0 := kq.at_ 0 _ rfl; have y1 := kq.at_ 1 _ rfl; have y2 := kq.at_ 2 _ rfl; have y3 := kq.at_ 3 _ rfl; have y4 := kq.at_ 4 _ rfl; have y5 := kq.at_ 5 _ rfl; have f0 := kq.frozen 0; have f1 := kq.frozen 1; have f2 := kq.frozen 2; have f3 := kq.frozen 3; have f4 := kq.frozen 4; have f5 := kq.frozen 5)
        have ky : Blk ((((((v2.setCell ⟨w.heap.size, 0, none⟩ (.int .i64 rf)).setCell ⟨w.heap.size, 1, none⟩ (.int .i64 rt)).setCell ⟨w.heap.size, 2, none⟩ (.int .i64 rp)).setCell ⟨w.heap.size, 3, none⟩ (.int .i64 rk)).setCell ⟨w.heap.size, 4, none⟩ (.int .i64 rfl')).setCell ⟨w.heap.size, 5, none⟩ (.int .i64 rpg)) w.heap.size 24 #[.int .i64 rf, .int .i64 rt, .int .i64 rp, .int .i64 rk, .int .i64 rfl', .int .i64 rpg] := by
          have := (((((kq.set_ 0 (.int .i64 rf)).set_ 1 (.int .i64 rt)).set_ 2 (.int .i64 rp)).set_ 3 (.int .i64 rk)).set_ 4 (.int .i64 rfl')).set_ 5 (.int .i64 rpg)
          simpa using this
        have hbt : But (fun k => k = w.heap.size) v2 ((((((v2.setCell ⟨w.heap.size, 0, none⟩ (.int .i64 rf)).setCell ⟨w.heap.size, 1, none⟩ (.int .i64 rt)).setCell ⟨w.heap.size, 2, none⟩ (.int .i64 rp)).setCell ⟨w.heap.size, 3, none⟩ (.int .i64 rk)).setCell ⟨w.heap.size, 4, none⟩ (.int .i64 rfl')).setCell ⟨w.heap.size, 5, none⟩ (.int .i64 rpg)) := ((((((But.refl (fun k => k = w.heap.size) v2).setCell (p := ⟨w.heap.size, 0, none⟩) (.inl rfl) _).setCell (p := ⟨w.heap.size, 1, none⟩) (.inl rfl) _).setCell (p := ⟨w.heap.size, 2, none⟩) (.inl rfl) _).setCell (p := ⟨w.heap.size, 3, none⟩) (.inl rfl) _).setCell (p := ⟨w.heap.size, 4, none⟩) (.inl rfl) _).setCell (p := ⟨w.heap.size, 5, none⟩) (.inl rfl) _
        obtain ⟨-, hb2⟩ := HQ.out v2 (hb1.trans (hv2.mono hb1.size))
        have hby := hb2.out.trans (hbt.below (B := w.heap.size) hb2.out.size (fun k hk => Nat.le_of_eq hk.symm))
        have hry := RS.but (r1.below hv2) hbt (fun ad e h => by have := HS4 ad e; have h2 : ad.block = w.heap.size := h; have h3 := HWS.out; omega)
        clear c0 c1 c2 c3 c4 c5 c6 c7 c8 c9 c10 y0 y1 y2 y3 y4 y5 f0 f1 f2 f3 f4 f5 k1 k2 kq hb1 hb2 r1 HS4 hbt
        generalize ((((((v2.setCell ⟨w.heap.size, 0, none⟩ (.int .i64 rf)).setCell ⟨w.heap.size, 1, none⟩ (.int .i64 rt)).setCell ⟨w.heap.size, 2, none⟩ (.int .i64 rp)).setCell ⟨w.heap.size, 3, none⟩ (.int .i64 rk)).setCell ⟨w.heap.size, 4, none⟩ (.int .i64 rfl')).setCell ⟨w.heap.size, 5, none⟩ (.int .i64 rpg)) = Y at *
        clear hv2
        have HRY := Lib.hid hry
        have HK := Lib.hid (fun (x : World) (hx : Below Y.heap.size Y x) => show SixAt x w.heap.size (⟨rf, rt, rp, rk, rfl', rpg⟩ : Rg) ∧ Hid (Below w.heap.size w x) from ⟨(ky.below hx ky.lt).six (r := (⟨rf, rt, rp, rk, rfl', rpg⟩ : Rg)), Lib.hid (hby.trans (hx.mono hby.size))⟩)
        clear ky hby hry
        obtain ⟨K0, -⟩ := HK.out Y (Below.refl _ _)
        obtain ⟨r0, r1, r2, r3, r4, r5⟩ := K0
        simp only at r0 r1 r2 r3 r4 r5
        by_cases hm : (⟨rf, rt, rp, rk, rfl', rpg⟩ : Rg).May
        · by_cases hhit : ∃ x ∈ L, x.f < rt ∧ rf < x.t
          · have HAD := Lib.hid (show Calls Try.prog 7 #[.slice A' m c', .agg #[.int .i64 rf, .int .i64 rt, .int .i64 rp, .int .i64 rk, .int .i64 rfl', .int .i64 rpg]] Y (fun e w' => e = .returned (.tuple #[.slice none 0 0, .int .i64 13]) ∧ Below Y.heap.size Y w') from by
              obtain ⟨x, hx, h1, h2⟩ := hhit
              exact (add_hit L (⟨rf, rt, rp, rk, rfl', rpg⟩ : Rg) A' m c' Y HRY.out HROW.out.asc hm hx h1 h2).mono fun e w' h => h)
            go_upto_region 12 with (go_at_call 7; refine HAD.out.mono ?_; rintro e Z ⟨rfl, hZ⟩)
            obtain ⟨-, hbz⟩ := HK.out Z hZ
            go_wp2
            go_ret
            exact ⟨rfl, hbz.out⟩
          · have HAD := Lib.hid (show Calls Try.prog 7 #[.slice A' m c', .agg #[.int .i64 rf, .int .i64 rt, .int .i64 rp, .int .i64 rk, .int .i64 rfl', .int .i64 rpg]] Y (fun e w' => ∃ (n : Nat) (U : List Rg), ∃ B, e = .returned (.tuple #[.slice B n n, .int .i64 0]) ∧ Hid ((∃ k, AddAt L (⟨rf, rt, rp, rk, rfl', rpg⟩ : Rg) k ∧ U = addL L (⟨rf, rt, rp, rk, rfl', rpg⟩ : Rg) k) ∧ RS w' B n n U ∧ Below Y.heap.size Y w')) from by
              refine (add_yes L (⟨rf, rt, rp, rk, rfl', rpg⟩ : Rg) A' m c' Y HRY.out HROW.out.asc hm (fun x hx h => hhit ⟨x, hx, h⟩)).mono fun e w' h => ?_
              obtain ⟨k, hk, B, e1, h1, h2⟩ := h
              exact ⟨_, _, B, e1, Lib.hid ⟨⟨k, hk, rfl⟩, h1, h2⟩⟩)
            clear hhit
            go_upto_region 12 with (go_at_call 7; refine HAD.out.mono ?_; rintro e Z ⟨nM, M, B, rfl, hZ⟩)
            clear r0 r1 r2 r3 r4 r5 HAD
            obtain ⟨⟨k, hk, hM⟩, hRM, hZ2⟩ := hZ.out
            obtain ⟨cx, hcx, hcx2⟩ := xor7 (p := rp) ⟨hm.p0, hm.p7⟩
            have q1 := (addL_ok HROW.out.asc hm hk).1
            have q2 := back_cut HROW.out hm hk
            obtain ⟨q3, q4, q5, q6⟩ := back_pro HROW.out hm hk hcx2
            have q7 := pages_add HROW.out.asc hm hk
            simp only at q2 q3 q4 q5 q6 q7
            rw [← hM] at q1 q2 q3 q4 q5 q6 q7
            obtain ⟨P, hP⟩ : ∃ P, proL M rf rt cx = P := ⟨_, rfl⟩
            rw [hP] at q4 q5 q6
            obtain ⟨nP, hnP⟩ : ∃ n, P.length = n := ⟨_, rfl⟩
            have hnL := HRY.out.len
            have hnM := hRM.len
            have hft : rf < rt := hm.ft
            have hfd := HFD.out
            have hcut := fun (v : World) (hv : RS v B nM nM M) => cut_any M rf rt B nM nM v hv q1.asc ⟨by omega, by omega⟩ ⟨by omega, by omega⟩
            rw [q2] at hcut
            have HCU := Lib.hid (fun (v : World) (hv : Below Z.heap.size Z v) => show Calls Try.prog 8 #[.slice B nM nM, .int .i64 rf, .int .i64 rt] v (fun e w' => ∃ A3, e = .returned (.slice A3 m m) ∧ RS w' A3 m m L ∧ Below v.heap.size v w') from (hcut v (hRM.below hv)).mono fun e w' h => by
              obtain ⟨A3, h1, h2, h3⟩ := h
              rw [hnL] at h1 h2
              exact ⟨A3, h1, h2, h3⟩)
            have HP1 := Lib.hid (fun (v : World) (hv : Below Z.heap.size Z v) => show Calls Try.prog 10 #[.slice B nM nM, .int .i64 rf, .int .i64 rt, .int .i64 cx] v (fun e w' => ∃ A4, e = .returned (.tuple #[.slice A4 nP nP, .int .i64 0]) ∧ RS w' A4 nP nP P ∧ Below v.heap.size v w') from (protect_any M rf rt cx B nM nM v (hRM.below hv) q1.asc ⟨by omega, by omega⟩ ⟨by omega, by omega⟩ hcx2).mono fun e w' h => by
              rcases h with ⟨h1, -⟩ | ⟨-, h1, -⟩ | ⟨-, -, A2, h1, h2, h3⟩
              · exact absurd h1 (by omega)
              · exact absurd q3 h1
              · rw [hP, hnP] at h1 h2
                exact ⟨A2, h1, h2, h3⟩)
            have HP2 := Lib.hid (fun (v : World) (A4 : Option Addr) (hv : RS v A4 nP nP P) => show Calls Try.prog 10 #[.slice A4 nP nP, .int .i64 rf, .int .i64 rt, .int .i64 rp] v (fun e w' => ∃ A5, e = .returned (.tuple #[.slice A5 nM nM, .int .i64 0]) ∧ RS w' A5 nM nM M ∧ Below v.heap.size v w') from (protect_any P rf rt rp A4 nP nP v hv q4.asc ⟨by omega, by omega⟩ ⟨by omega, by omega⟩ ⟨hm.p0, hm.p7⟩).mono fun e w' h => by
              rcases h with ⟨h1, -⟩ | ⟨-, h1, -⟩ | ⟨-, -, A2, h1, h2, h3⟩
              · exact absurd h1 (by omega)
              · exact absurd q5 h1
              · rw [q6, hnM] at h1 h2
                exact ⟨A2, h1, h2, h3⟩)
            have HRL := Lib.hid (fun (v : World) (hv : Below Z.heap.size Z v) => (HRY.out.below hZ2).below hv)
            have HRM := Lib.hid (fun (v : World) (hv : Below Z.heap.size Z v) => hRM.below hv)
            obtain ⟨PL, hPL⟩ : ∃ x, pagesL L = x := ⟨_, rfl⟩
            obtain ⟨PM, hPM⟩ : ∃ x, pagesL M = x := ⟨_, rfl⟩
            have hpb := pages_bd HROW.out.asc
            rw [hPL] at hpb q7
            rw [hPM] at q7
            have HPL := Lib.hid (fun (v : World) (hv : Below Z.heap.size Z v) => show Calls Try.prog 11 #[.slice A' m c'] v (fun e w' => e = .returned (.int .i64 PL) ∧ Below v.heap.size v w') from by
              rw [← hPL]; exact pages_any L A' m c' v (HRL.out v hv) HROW.out.asc)
            have HPM := Lib.hid (fun (v : World) (hv : Below Z.heap.size Z v) => show Calls Try.prog 11 #[.slice B nM nM] v (fun e w' => e = .returned (.int .i64 PM) ∧ Below v.heap.size v w') from by
              rw [← hPM]; exact pages_any M B nM nM v (HRM.out v hv) q1.asc)
            have HKZ := Lib.hid (fun (x : World) (hx : Below Z.heap.size Z x) => HK.out x (hZ2.trans (hx.mono hZ2.size)))
            have w1 : wrap64 (PL + rt) = PL + rt := IntWalk.wrap64_in _ (by omega)
            have w2 : wrap64 (PL + rt - rf) = PM := by rw [IntWalk.wrap64_in _ (by omega)]; omega
            have w4 : IntKind.i64.wrap (PL + rt) = PL + rt := IntWalk.i64_in _ (by omega)
            have w5 : IntKind.i64.wrap (PL + rt - rf) = PM := by rw [IntWalk.i64_in _ (by omega)]; omega
            have HV := Lib.hid (And.intro w1 (And.intro w2 (And.intro w4 (And.intro w5 hcx))))
            clear w1 w2 w4 w5 hcx hcx2 q1 q2 q3 q4 q5 q6 q7 hpb hPL hPM hfd hft hnM hnL hcut hRM hZ2 hk hM hP hnP hZ
            have HZ0 := Lib.hid (Below.refl Z.heap.size Z)
            obtain ⟨⟨r0, r1, r2, r3, r4, r5⟩, -⟩ := HKZ.out Z HZ0.out
            simp only at r0 r1 r2 r3 r4 r5
            go_upto_region 15 with (go_at_call 8; refine (HCU.out _ HZ0.out).mono ?_; rintro e z1 ⟨A3, rfl, h1, h2⟩)
            clear r0 r1 r2 r3 r4 r5
            have HZ1 := Lib.hid h2
            go_upto_region 16 with (go_at_call 9; refine (same_yesU L L rfl A3 A' m m c' _ h1 (HRL.out _ HZ1.out)).mono ?_; rintro e z2 ⟨rfl, h3⟩)
            have HZ2 := Lib.hid (HZ1.out.trans (h3.mono HZ1.out.size))
            clear h1 h2 h3 HZ1 HCU
            obtain ⟨⟨r0, r1, r2, r3, r4, r5⟩, -⟩ := HKZ.out z2 HZ2.out
            simp only at r0 r1 r2 r3 r4 r5
            obtain ⟨-, -, -, -, ex⟩ := HV.out
            go_upto_region 17 with (go_at_call 10; refine (HP1.out _ HZ2.out).mono ?_; rintro e z3 ⟨A4, rfl, h1, h2⟩)
            clear r0 r1 r2 r3 r4 r5 ex
            have HZ3 := Lib.hid (HZ2.out.trans (h2.mono HZ2.out.size))
            obtain ⟨⟨r0, r1, r2, r3, r4, r5⟩, -⟩ := HKZ.out z3 HZ3.out
            simp only at r0 r1 r2 r3 r4 r5
            go_upto_region 18 with (go_at_call 10; refine (HP2.out _ _ h1).mono ?_; rintro e z4 ⟨A5, rfl, h3, h4⟩)
            clear r0 r1 r2 r3 r4 r5 h1 h2 HZ2
            have HZ4 := Lib.hid (HZ3.out.trans (h4.mono HZ3.out.size))
            go_upto_region 19 with (go_at_call 9; refine (same_yesU M M rfl A5 B nM nM nM _ h3 (HRM.out _ HZ4.out)).mono ?_; rintro e z5 ⟨rfl, h5⟩)
            have HZ5 := Lib.hid (HZ4.out.trans (h5.mono HZ4.out.size))
            clear h3 h4 h5 HZ3 HZ4 HP1 HP2 HRL HRM
            obtain ⟨⟨r0, r1, -⟩, -⟩ := HKZ.out z5 HZ5.out
            simp only at r0 r1
            obtain ⟨w1, w2, w4, w5, -⟩ := HV.out
            have HD1 := Lib.hid (show ∀ (Z u x : World), Below Z.heap.size Z u → Below u.heap.size u x → Below Z.heap.size Z x from fun Z u x h1 h2 => h1.trans (h2.mono h1.size))
            have HPB := Lib.hid (fun (v : World) (hv : Below z5.heap.size z5 v) => HPL.out v (HZ5.out.trans (hv.mono HZ5.out.size)))
            have HPC := Lib.hid (fun (v : World) (hv : Below z5.heap.size z5 v) => HPM.out v (HZ5.out.trans (hv.mono HZ5.out.size)))
            have HX9 := Lib.hid (Below.refl z5.heap.size z5)
            have HC9 := Lib.hid (fun (x : World) (hx : Below z5.heap.size z5 x) => show x.cell? ⟨w.heap.size, 0, none⟩ = some (.int .i64 rf) ∧ x.cell? ⟨w.heap.size, 1, none⟩ = some (.int .i64 rt) from by
              obtain ⟨⟨a0, a1, -⟩, -⟩ := HKZ.out x (HZ5.out.trans (hx.mono HZ5.out.size))
              exact ⟨a0, a1⟩)
            clear HPL HPM
            go_region_held3 (fun x => x.cell? ⟨w.heap.size, 0, none⟩ = some (.int .i64 rf) ∧ x.cell? ⟨w.heap.size, 1, none⟩ = some (.int .i64 rt))
                (first | exact ⟨r0, r1⟩ | exact HC9.out _ HX9.out | exact HC9.out _ HX9.out.drew)
                (first
                | (go_at_call 11; (first | with_reducible refine (HPB.out _ HX9.out).mono ?_ | with_reducible refine (HPC.out _ HX9.out).mono ?_ | with_reducible refine (HPB.out _ HX9.out.drew).mono ?_ | with_reducible refine (HPC.out _ HX9.out.drew).mono ?_); rintro e v9 ⟨rfl, hb⟩; have hx := (show Below z5.heap.size z5 v9 from by first | exact HD1.out _ _ _ HX9.out hb | exact HD1.out _ _ _ HX9.out.drew hb); clear r0 r1 HX9; have HX9 := Lib.hid hx; obtain ⟨r0, r1⟩ := HC9.out v9 hx; clear hb hx))
            go_wp2
            go_ret
            exact ⟨by simp, (HKZ.out _ (HZ5.out.trans (HX9.out.mono HZ5.out.size))).2.out⟩
        · have HAD := Lib.hid (show Calls Try.prog 7 #[.slice A' m c', .agg #[.int .i64 rf, .int .i64 rt, .int .i64 rp, .int .i64 rk, .int .i64 rfl', .int .i64 rpg]] Y (fun e w' => e = .returned (.tuple #[.slice none 0 0, .int .i64 1]) ∧ Below Y.heap.size Y w') from (add_any L (⟨rf, rt, rp, rk, rfl', rpg⟩ : Rg) A' m c' Y HRY.out HROW.out.asc HWF.out).mono fun e w' h => by
            obtain ⟨hb, ⟨_, e1⟩ | ⟨h1, _⟩ | ⟨h1, _⟩⟩ := h
            · exact ⟨e1, hb⟩
            · exact absurd h1 hm
            · exact absurd h1 hm)
          go_upto_region 12 with (go_at_call 7; refine HAD.out.mono ?_; rintro e Z ⟨rfl, hZ⟩)
          obtain ⟨-, hbz⟩ := HK.out Z hZ
          go_wp2
          go_ret
          exact ⟨rfl, hbz.out⟩

set_option maxRecDepth 100000 in
theorem lifted (os : Os) (started : os.Started) (H : Type) (enc : TypeId × Value → H) :
    ReturnsInHanded {} Try.checked os 3 .any (Rows.regionBackSpec.pre6 enc Try.prog Try.f3 Rows.regionBackRow.domain false) (Rows.regionBackSpec.post enc Try.prog Try.f3 false true false false) := by
  refine returnsInHanded_of_change (C := Try.checked) own started (by kernel_rfl) Try.func3
    (ChangeSpec.witness6 (enc := enc) (C := Try.checked) false ⟨#[], #[.slice none 0 0, zregB], []⟩ 8 (by kernel_rfl) (by kernel_rfl) (by kernel_rfl) (by kernel_rfl)) ?_
  intro W base args ds gs before hval0 hW hcnd _
  have hval : ∀ (j : Nat) t v, Try.f3.params[j]? = some t → args[j]? = some v → Value.okWide Try.prog W .any base t v := hval0
  have hW' := hW
  obtain ⟨p, q, hA0, hV, rfl, hfz, hnd⟩ := hW
  have hA : DataW.TrodAll enc Try.prog W 0 (fun _ => true) true Try.f3.params.toList args.toList ds p := hA0
  rw [Try.params3] at hA hval
  obtain ⟨v0, vs0, d0, ds0, p0, q0, hargs, rfl, rfl, h0, r0⟩ := trodAll_cons hA
  obtain ⟨v1, vs1, d1, ds1, p1, q1, rfl, rfl, rfl, h1, r1⟩ := trodAll_cons r0
  obtain ⟨rfl, rfl, rfl⟩ := trodAll_nil r1
  obtain rfl : args = #[v0, v1] := by cases args; simp_all
  obtain ⟨rfl, rfl⟩ := trodVars_none hV
  have k0 := h0
  have lt0 : ∀ x ∈ p0, x.block < W.heap.size := by obtain ⟨m, hm⟩ := k0; exact DataW.trod_lt m _ _ _ hm
  obtain ⟨LA0, Ll0, Lc0, rfl, Lm0, Lr0⟩ := open_opsU (hval 0 22 v0 rfl rfl) h0
  have k1 := h1
  have lt1 : ∀ x ∈ p1, x.block < W.heap.size := by obtain ⟨m, hm⟩ := k1; exact DataW.trod_lt m _ _ _ hm
  obtain ⟨a1, rfl, w1⟩ := open_regionU (hval 1 24 v1 rfl rfl) h1
  clear hA0 hval0
  refine (walk LA0 Ll0 Lc0 a1 W Lm0 Lr0 w1).mono fun e W' ⟨he, bel⟩ => ?_
  subst he
  exact ⟨_, rfl, _, _, _, [], _, [], hW', trodAll_mk1 (shut_bool Try.underlying4 _), (trodAll_cons_mk (Below.trod laidOut (by kernel_rfl) (of_decide_eq_true (by kernel_rfl)) k0 bel lt0) (trodAll_cons_mk (Below.trod laidOut (by kernel_rfl) (of_decide_eq_true (by kernel_rfl)) k1 bel lt1) trodAll_mk0)), rfl, bel.frame _, fun h => by cases h⟩
theorem over : Rows.regionBackRow.holds Try.pinned (OpenSpec.ofChange Rows.regionBackSpec) :=
  OpenClaim.holds_of_wide 3 Try.f3 rfl rfl rfl rfl rfl rfl rfl ⟨rfl, rfl, rfl, rfl, rfl⟩ rfl rfl rfl rfl rfl (by kernel_rfl) Try.func3 (by kernel_rfl)
    (of_decide_eq_true (by kernel_rfl)) (by unfold Func.isWrapper; first | (rw [if_pos (by decide +kernel)]; kernel_rfl) | (rw [if_neg (by decide +kernel)]; exact ⟨rfl, rfl⟩))
    (fun os started H enc _ => lifted os started H enc)
/-- The statement. -/
theorem proved : Rows.RegionBackSaid := over
end Go.Proofs.Ytkfkaafddfedjac.lawBack
