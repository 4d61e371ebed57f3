/- Package region: Add. -/
import Derived.Test.YtmknkdfdkanijaaUP
namespace Go.Proofs.Ytmknkdfdkanijaa
open Go.RowKit Go.ChangeShapes Go.WideShapes Go.Deep
set_option linter.unusedVariables false
set_option linter.unusedSimpArgs false

/-- What Add tells. -/
def AddR (w : World) (l : List Rg) (r : Rg) (e : Ending) (w' : World) : Prop :=
  Below w.heap.size w w' ∧ ((¬ r.May ∧ e = .returned (.tuple #[.slice none 0 0, .int .i64 1])) ∨
  (r.May ∧ (∃ x ∈ l, x.f < r.t ∧ r.f < x.t) ∧ e = .returned (.tuple #[.slice none 0 0, .int .i64 13])) ∨
  (r.May ∧ ∃ k, AddAt l r k ∧ ∃ A, e = .returned (.tuple #[.slice A (addL l r k).length (addL l r k).length, .int .i64 0]) ∧ RS w' A (addL l r k).length (addL l r k).length (addL l r k)))

set_option maxRecDepth 100000 in
set_option maxHeartbeats 6400000 in
theorem add_any (l : List Rg) (r : Rg) (A : Option Addr) (n c : Nat) (w : World) (h : RS w A n c l) (hasc : Asc l) (hr : r.Wf) :
    Calls Try.prog 24 #[.slice A n c, .agg r.cs] w (AddR w l r) := by
  obtain ⟨W, hW⟩ : ∃ W, (w.alloc (.cells #[.slice A n c] 25)).alloc (.cells r.cs 29) = W := ⟨_, rfl⟩
  have b0 : Blk W w.heap.size 25 #[.slice A n c] := by rw [← hW]; exact (Blk.new _ _ _).alloc _
  have b1 : Blk W (w.heap.size + 1) 29 r.cs := by rw [← hW]; exact blk_twoU _ _ _ _
  have hbw : Below w.heap.size w W := by rw [← hW]; exact ((Below.refl _ _).alloc (Nat.le_refl _) _).alloc (by simp) _
  have hRW := h.below hbw
  have hn2 : n ≤ 4096 := by have := hasc.len; have := h.len; omega
  have HMB := Lib.hid (fun v => mayBe_any r v hr)
  have HC := Lib.hid (fun (x : World) (hx : Below W.heap.size W x) => show x.cell? ⟨w.heap.size, 0, none⟩ = some (.slice A n c) ∧ SixAt x (w.heap.size + 1) r ∧ Below w.heap.size w x from ⟨(b0.below hx b0.lt).at_ 0 _ rfl, (b1.below hx b1.lt).six, hbw.trans (hx.mono hbw.size)⟩)
  have HASC := Lib.hid hasc
  have HRS := Lib.hid (fun (x : World) (hx : Below W.heap.size W x) => hRW.below hx)
  have HN := Lib.hid h.len
  have HR := Lib.hid (fun (k g : Nat) (x y : World) (hx : Below W.heap.size W x) (hg : Blk y g 3 #[.int .i64 (k : Int)]) (hy : Below W.heap.size W y) (hk : AddAt l r k) (hm : r.May) => show Calls Try.prog 31 #[.func (.func 37) #[] #[.pointer (some ⟨w.heap.size, 0, none⟩), .pointer (some ⟨g, 0, none⟩), .pointer (some ⟨w.heap.size + 1, 0, none⟩)]] y (RowR w (addL l r k)) from by
    have hkn : k ≤ n := by have := hk.le; have := h.len; omega
    have hln := hasc.len
    have hll := h.len
    refine (row_add y w.heap.size g (w.heap.size + 1) (l.take k ++ r :: l.drop k) (by rw [List.length_append, List.length_cons, List.length_take, List.length_drop]; omega) fun v tb A' c' hT hv => ?_).mono fun e w' h => h.from (hbw.trans (hy.mono hbw.size))
    have hRX := hRW.below hy
    have c0 := b0.below hy b0.lt
    have c1 := b1.below hy b1.lt
    exact addFill_any l A n c k r v y.heap.size tb A' c' _ _ _ h.len h.cap hkn h.max hT (hRX.row.below rfl hv) (fun ad e => hRX.lt ad e) hasc hm (c0.below hv c0.lt) (hg.below hv hg.lt) (c1.below hv c1.lt) ⟨c0.lt, hg.lt, c1.lt⟩)
  obtain ⟨mb, hmb⟩ : ∃ m, r.mayB = m := ⟨_, rfl⟩
  have HMY := Lib.hid (show (mb = true → r.May) ∧ (mb = false → ¬ r.May) from ⟨fun e => (mayB_iff hr).1 (hmb.trans e), fun e => (mayB_false hr).1 (hmb.trans e)⟩)
  rw [hmb] at HMB
  obtain ⟨RR, hRR⟩ : ∃ RR, AddR w l r = RR := ⟨_, rfl⟩
  rw [hRR]
  have HRR := Lib.hid (fun (e : Ending) (x : World) => show AddR w l r e x → RR e x from fun h => by rw [← hRR]; exact h)
  obtain ⟨rf, rt, rp, rk, rfl', rpg⟩ := r
  have hmb9 := HMB.out
  unfold Rg.cs at hW hmb9 ⊢
  simp only at hW hmb9 ⊢
  have HW := Lib.hid hW
  have HMC := Lib.hid hmb9
  have HD := HDw W
  obtain ⟨y0, ⟨s0, s1, s2, s3, s4, s5⟩, hb0⟩ := HC.out W (Below.refl _ _)
  simp only at s0 s1 s2 s3 s4 s5
  clear h hasc hr b0 b1 hW hRW hmb hmb9 HMB hbw hRR
  cases mb with
  | false =>
    go_enter Try.func24, Try.ntmps24
    go_upto_region 1 with fail
    rw [HW.out]
    go_step3
    go_wp2_with (go_at_call 36; refine (HMC.out _).mono ?_; rintro e x ⟨rfl, hb⟩)
    exact HRR.out _ _ ⟨(HC.out x hb).2.2, .inl ⟨HMY.out.2 trivial, rfl⟩⟩
  | true =>
    clear hb0
    go_enter Try.func24, Try.ntmps24
    go_upto_region 1 with fail
    rw [HW.out]
    go_step3
    go_upto_region 3 with (go_at_call 36; refine (HMC.out _).mono ?_; rintro e x ⟨rfl, hb⟩)
    clear y0 s0 s1 s2 s3 s4 s5
    obtain ⟨y0, -, -⟩ := HC.out x hb
    obtain ⟨W2, hW2⟩ : ∃ W2, x.alloc (.cells #[.int .i64 (n : Int)] 3) = W2 := ⟨_, rfl⟩
    obtain ⟨G, hG⟩ : ∃ G, x.heap.size = G := ⟨_, rfl⟩
    have hbg : Blk W2 G 3 #[.int .i64 (n : Int)] := by rw [← hW2, ← hG]; exact Blk.new _ _ _
    have hbx : Below W.heap.size W W2 := by rw [← hW2]; exact hb.alloc hb.size _
    have hgs : W.heap.size ≤ G := by rw [← hG]; exact hb.size
    have HBG := Lib.hid (And.intro hbg (And.intro hbx hgs))
    have HW2 := Lib.hid hW2
    clear hbg hbx hb hgs hW2
    go_upto_region 4 with fail
    rw [HW2.out]
    clear y0
    obtain ⟨y0, ⟨s0, s1, s2, s3, s4, s5⟩, -⟩ := HC.out W2 HBG.out.2.1
    simp only at s0 s1 s2 s3 s4 s5
    go_wp2
    go_step3
    go_wp2
    clear y0 s0 s1 s2 s3 s4 s5
    go_loopw [16] (fun i wr => ∃ k : Nat, k ≤ n ∧ i = .int .i64 k ∧ Hid (Below W2.heap.size W2 wr ∧ ∀ q (hq : q < l.length), q < k → l[q].t ≤ rf)) (fun i _ => n - (intOf i).toNat)
    case atStart => exact ⟨0, Nat.zero_le _, rfl, Lib.hid ⟨Below.refl _ _, fun q hq h => absurd h (by omega)⟩⟩
    case round =>
      obtain ⟨k, hk, rfl, HB⟩ := hrel
      have hBW : Below W.heap.size W wr := HBG.out.2.1.trans (HB.out.1.mono HBG.out.2.1.size)
      have hbg := HBG.out.1.below HB.out.1 HBG.out.1.lt
      obtain ⟨y0, ⟨s0, s1, s2, s3, s4, s5⟩, hbw⟩ := HC.out wr hBW
      simp only at s0 s1 s2 s3 s4 s5
      by_cases hlt : k < n
      · have hkl : k < l.length := by rw [HN.out]; exact hlt
        obtain ⟨ad, rfl, hblt, hwf, x0, x1, x2, x3, x4, x5⟩ := (HRS.out wr hBW).row.at_ hkl
        obtain ⟨q, hq⟩ : ∃ q, l[k] = q := ⟨_, rfl⟩
        rw [hq] at x0 x1 x2 x3 x4 x5
        have HBW := Lib.hid (show Below W.heap.size W (wr.alloc (.cells q.cs 29)) ∧ Below W2.heap.size W2 (wr.alloc (.cells q.cs 29)) ∧ Blk (wr.alloc (.cells q.cs 29)) G 3 #[.int .i64 (n : Int)] from ⟨hBW.alloc hBW.size _, HB.out.1.alloc HB.out.1.size _, hbg.alloc _⟩)
        have HX := Lib.hid (show (q.t ≤ rf → ∀ p (hp : p < l.length), p < k + 1 → l[p].t ≤ rf) ∧ (rt ≤ q.f → AddAt l ⟨rf, rt, rp, rk, rfl', rpg⟩ k) ∧ (¬ q.t ≤ rf → ¬ rt ≤ q.f → ∃ x ∈ l, x.f < rt ∧ rf < x.t) from by
          refine ⟨fun h p hp hpk => ?_, fun h => ⟨by omega, fun x hx => ?_, fun x hx => ?_⟩, fun h1 h2 => ⟨q, by rw [← hq]; exact List.getElem_mem hkl, by omega, by omega⟩⟩
          · by_cases e : p = k
            · subst e; rw [hq]; exact h
            · exact HB.out.2 p hp (by omega)
          · obtain ⟨p, hp, rfl⟩ := List.getElem_of_mem hx
            rw [List.length_take] at hp
            rw [List.getElem_take]
            exact HB.out.2 p (by omega) (by omega)
          · rw [List.drop_eq_getElem_cons hkl, hq] at hx
            have hsp : Asc (l.take k ++ l.drop k) := by rw [List.take_append_drop]; exact HASC.out
            have hd := hsp.right
            rw [List.drop_eq_getElem_cons hkl, hq] at hd
            rcases List.mem_cons.1 hx with rfl | hx
            · exact h
            · have h1 := hd.ahead x hx
              have h2 := hd.head.ft
              show rt ≤ x.f
              omega)
        have hk0 : (0 : Int) ≤ (k : Int) := by omega
        have hk1 : (k : Int) < (n : Int) := by omega
        obtain ⟨qf, qt, qp, qk, qfl, qpg⟩ := q
        simp only at x0 x1 x2 x3 x4 x5 HX
        unfold Rg.cs at HBW
        simp only at HBW
        obtain ⟨W3, hW3⟩ : ∃ W3, wr.alloc (.cells #[.int .i64 qf, .int .i64 qt, .int .i64 qp, .int .i64 qk, .int .i64 qfl, .int .i64 qpg] 29) = W3 := ⟨_, rfl⟩
        have hq9 := (Blk.new wr 29 #[.int .i64 qf, .int .i64 qt, .int .i64 qp, .int .i64 qk, .int .i64 qfl, .int .i64 qpg])
        rw [hW3] at HBW hq9
        have HW3 := Lib.hid hW3
        have t0 := hq9.at_ 0 _ rfl
        have t1 := hq9.at_ 1 _ rfl
        clear hq hkl hwf hblt hBW hbg hbw y0 s0 s1 s2 s3 s4 s5 hW3 hq9
        obtain ⟨y0, ⟨s0, s1, s2, s3, s4, s5⟩, -⟩ := HC.out W3 HBW.out.1
        simp only at s0 s1 s2 s3 s4 s5
        by_cases d1 : qt ≤ rf
        · have d1' : decide (qt ≤ rf) = true := decide_eq_true d1
          have HNX := Lib.hid (HX.out.1 d1)
          go_upto_region 8 with fail
          rw [HW3.out]
          go_wp2
          go_roundw
          case rel => exact ⟨k + 1, by omega, by go_num, Lib.hid ⟨HBW.out.2.1, HNX.out⟩⟩
          case measure => simp [intOf]; omega
        · have d1' : decide (qt ≤ rf) = false := decide_eq_false d1
          by_cases d2 : rt ≤ qf
          · have d2' : decide (rt ≤ qf) = true := decide_eq_true d2
            have HAT := Lib.hid (HX.out.2.1 d2)
            have g0 := HBW.out.2.2.at_ 0 _ rfl
            have g1 := HBW.out.2.2.frozen 0
            have HFN := Lib.hid (show Blk (W3.setCell ⟨G, 0, none⟩ (.int .i64 (k : Int))) G 3 #[.int .i64 (k : Int)] ∧ Below W.heap.size W (W3.setCell ⟨G, 0, none⟩ (.int .i64 (k : Int))) from ⟨by simpa using HBW.out.2.2.set_ 0 (.int .i64 (k : Int)), HBW.out.1.setCell (p := ⟨G, 0, none⟩) HBG.out.2.2 _⟩)
            go_upto_region 8 with fail
            rw [HW3.out]
            go_upto_region 12 with fail
            generalize World.setCell _ _ _ = W4 at *
            go_wp2_with (go_at_call 31; refine (HR.out k G _ _ (Below.refl _ _) HFN.out.1 HFN.out.2 HAT.out (HMY.out.1 trivial)).mono ?_; rintro e y ⟨A1, rfl, h1, h2⟩)
            exact HRR.out _ _ ⟨h2, .inr (.inr ⟨HMY.out.1 trivial, k, HAT.out, A1, rfl, h1⟩)⟩
          · have d2' : decide (rt ≤ qf) = false := decide_eq_false d2
            have HEX := Lib.hid (HX.out.2.2 d1 d2)
            go_upto_region 8 with fail
            rw [HW3.out]
            go_wp2
            exact HRR.out _ _ ⟨(HC.out _ HBW.out.1).2.2, .inr (.inl ⟨HMY.out.1 trivial, HEX.out, rfl⟩)⟩
      · obtain rfl : k = n := by omega
        have HAT := Lib.hid (show AddAt l ⟨rf, rt, rp, rk, rfl', rpg⟩ k from ⟨by rw [HN.out]; exact Nat.le_refl _, fun x hx => by
          obtain ⟨p, hp, rfl⟩ := List.getElem_of_mem (List.mem_of_mem_take hx)
          exact HB.out.2 p hp (by rw [← HN.out]; exact hp), fun x hx => by
          rw [List.drop_eq_nil_iff.2 (by rw [HN.out]; exact Nat.le_refl _)] at hx; simp at hx⟩)
        have HFN := Lib.hid (And.intro hbg hBW)
        clear hbg hBW hbw
        go_upto_region 12 with fail
        go_wp2_with (go_at_call 31; refine (HR.out k G _ _ (Below.refl _ _) HFN.out.1 HFN.out.2 HAT.out (HMY.out.1 trivial)).mono ?_; rintro e y ⟨A1, rfl, h1, h2⟩)
        exact HRR.out _ _ ⟨h2, .inr (.inr ⟨HMY.out.1 trivial, k, HAT.out, A1, rfl, h1⟩)⟩
end Go.Proofs.Ytmknkdfdkanijaa
