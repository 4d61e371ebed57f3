/- Package elf: may. -/
import Derived.Test.YtakmmphjdkapeaaDoorED
namespace Go.Proofs.YtakmmphjdkapeaaDoor
open Go.RowKit
set_option linter.unusedVariables false
set_option linter.unusedSimpArgs false

/-- The first q numbers are as they must be. -/
def okN (s : Seg) (q : Nat) : Bool := (List.range q).all fun i => upto (greatL.getD i 0) (s.nums.getD i 0)
theorem okN_succ (s : Seg) (q : Nat) : okN s (q + 1) = (okN s q && upto (greatL.getD q 0) (s.nums.getD q 0)) := by
  unfold okN
  rw [List.range_succ, List.all_append]
  simp
theorem okN_may (s : Seg) (size : Int) : s.may size = (okN s 8 && (!(s.ty == 1) || (decide (0 < s.mem) && s.al == 64 && s.ad.tmod 64 == s.off.tmod 64)) && (!(s.ty == 1 || s.ty == 2) || (inn s.off s.sz size && decide (s.sz ≤ s.mem) && inn s.ad s.mem 262144))) := by
  have e : okN s 8 = (upto 1073741824 s.ty && upto 7 s.fl && upto 1099511627776 s.off && upto 1099511627776 s.ad && upto 1099511627776 s.sz && upto 1099511627776 s.mem && upto 1099511627776 s.al) := by
    unfold okN
    simp only [List.range_succ, List.range_zero, List.nil_append, List.all_append, List.all_cons, List.all_nil, Bool.and_true, greatL, Seg.nums, List.getD_cons_zero, List.getD_cons_succ]
    cases upto 1099511627776 s.ad <;> simp
  rw [e]
  rfl

theorem okN_may1 (s : Seg) (size : Int) (h : s.ty = 1) : s.may size = (okN s 8 && decide (0 < s.mem) && s.al == 64 && s.ad.tmod 64 == s.off.tmod 64 && inn s.off s.sz size && decide (s.sz ≤ s.mem) && inn s.ad s.mem 262144) := by
  rw [okN_may, h]
  simp [Bool.and_assoc]
theorem okN_may2 (s : Seg) (size : Int) (h : s.ty = 2) : s.may size = (okN s 8 && inn s.off s.sz size && decide (s.sz ≤ s.mem) && inn s.ad s.mem 262144) := by
  rw [okN_may, h]
  simp [Bool.and_assoc]
theorem okN_may0 (s : Seg) (size : Int) (h : ¬ s.ty = 1) (h2 : ¬ s.ty = 2) : s.may size = okN s 8 := by
  have e1 : (s.ty == 1) = false := by simpa using h
  have e2 : (s.ty == 2) = false := by simpa using h2
  rw [okN_may, e1, e2]
  simp

set_option maxHeartbeats 400000 in
theorem must_any (b : Nat) (ok c : Bool) (v : World) (hk : Blk v b 4 #[.bool ok]) :
    Calls Tryd.prog 58 #[.bool c, .pointer (some ⟨b, 0, none⟩)] v fun e v' => e = .returned (.tuple #[]) ∧ Blk v' b 4 #[.bool (ok && c)] ∧ Below b v v' := by
  have k0 : v.cell? ⟨b, 0, none⟩ = some (.bool ok) := hk.at_ 0 _ rfl
  have k1 := hk.frozen 0
  have hs := hk.set_ 0 (.bool (ok && c))
  have hB := (Below.refl b v).setCell (p := ⟨b, 0, none⟩) (Nat.le_refl _) (.bool (ok && c))
  have HS := Lib.hid (And.intro hs hB)
  clear hs hB hk
  cases ok
  · go_enter Tryd.func58, Tryd.ntmps58
    go_wp2
    go_end0
    exact ⟨rfl, HS.out⟩
  · go_enter Tryd.func58, Tryd.ntmps58
    go_wp2
    go_end0
    exact ⟨rfl, HS.out⟩

set_option maxRecDepth 100000 in
set_option maxHeartbeats 3200000 in
theorem emay_any (s : Seg) (size : Int) (w : World) (hT : ETab w) (hs : s.wf) (hz : (Lit.int .i64 size).wf = true) :
    Calls Tryd.prog 45 #[s.v, .int .i64 size] w fun e w' => e = .returned (.bool (s.may size)) ∧ Below w.heap.size w w' := by
  have hmf : ∀ (fn : Fn) (first cap : Array Value) (w : World), (Instr.makeFunc fn first cap).run Tryd.prog w = .ok (.func fn first cap) w := fun _ _ _ _ => rfl
  obtain ⟨_, hz2⟩ := bounds_i64 hz
  have hm1 := okN_may1 s size
  have hm2 := okN_may2 s size
  have hm0 := okN_may0 s size
  obtain ⟨r, hr⟩ : ∃ r, s.may size = r := ⟨_, rfl⟩
  rw [hr] at hm0 hm1 hm2 ⊢
  have HR := Lib.hid (And.intro hm1 (And.intro hm2 hm0))
  have hNA : ∀ j, j < 8 → s.numA[j]? = some (.int .i64 (s.nums.getD j 0)) := fun j hj => s.numA_at hj
  have hNU := fun w => numbersOf_any s w
  unfold Seg.v Seg.cs at hNU ⊢
  generalize s.numA = NA at *
  have HNU := Lib.hid hNU
  have HNA := Lib.hid hNA
  have HWF := Lib.hid hs
  have HI1 := Lib.hid (fun w => within_any s.off s.sz size w hs.off hs.sz hz2)
  have HI2 := Lib.hid (fun w => within_any s.ad s.mem 262144 w hs.ad hs.mem (by omega))
  have HOK := Lib.hid (okN_succ s)
  obtain ⟨ty, fl, off, ad, sz, mem, al⟩ := s
  simp only at *
  obtain ⟨B, hBdef⟩ : ∃ B, w.heap.size + 1 = B := ⟨_, rfl⟩
  have HS := Lib.hid (fun (W0 : World) (hW0 : (w.alloc (.cells #[.int .i64 ty, .int .i64 fl, .int .i64 off, .int .i64 ad, .int .i64 sz, .int .i64 mem, .int .i64 al] 47)).alloc (.cells #[.bool true] 4) = W0) =>
    show Blk W0 B 4 #[.bool true] ∧ Below w.heap.size w W0 ∧ Blk W0 w.heap.size 47 #[.int .i64 ty, .int .i64 fl, .int .i64 off, .int .i64 ad, .int .i64 sz, .int .i64 mem, .int .i64 al] ∧ B ≤ W0.heap.size from by
    subst hBdef
    subst hW0
    refine ⟨?_, ((Below.refl _ _).alloc (Nat.le_refl _) _).alloc (by simp) _, (Blk.new w _ _).alloc _, by simp⟩
    have := Blk.new (w.alloc (.cells #[.int .i64 ty, .int .i64 fl, .int .i64 off, .int .i64 ad, .int .i64 sz, .int .i64 mem, .int .i64 al] 47)) 4 #[.bool true]
    simpa using this)
  have HBD := Lib.hid hBdef
  have hBlt : w.heap.size < B := by omega
  have hpos : 1 < B := by have := hT.pos; omega
  clear hBdef hNU hNA hs hr hm0 hm1 hm2 hz
  go_enter Tryd.func45, Tryd.ntmps45
  go_wp2_with fail
  rw [HBD.out]
  generalize hW : (w.alloc (.cells #[.int .i64 ty, .int .i64 fl, .int .i64 off, .int .i64 ad, .int .i64 sz, .int .i64 mem, .int .i64 al] 47)).alloc (.cells #[.bool true] 4) = W0
  obtain ⟨hK, hBW, hP, hB0⟩ := HS.out W0 hW
  clear hW HS
  have hBe : Below B W0 W0 := Below.refl _ _
  have HC := Lib.hid (fun v (hv : Below B W0 v) => show ETab v ∧ v.cell? ⟨w.heap.size, 0, none⟩ = some (.int .i64 ty) ∧ v.cell? ⟨w.heap.size, 2, none⟩ = some (.int .i64 off) ∧ v.cell? ⟨w.heap.size, 3, none⟩ = some (.int .i64 ad) ∧ v.cell? ⟨w.heap.size, 4, none⟩ = some (.int .i64 sz) ∧ v.cell? ⟨w.heap.size, 5, none⟩ = some (.int .i64 mem) ∧ v.cell? ⟨w.heap.size, 6, none⟩ = some (.int .i64 al) from
    ⟨(hT.on hBW).below hv hpos, (hv.cell hBlt).trans (hP.at_ 0 _ rfl), (hv.cell hBlt).trans (hP.at_ 2 _ rfl), (hv.cell hBlt).trans (hP.at_ 3 _ rfl), (hv.cell hBlt).trans (hP.at_ 4 _ rfl), (hv.cell hBlt).trans (hP.at_ 5 _ rfl), (hv.cell hBlt).trans (hP.at_ 6 _ rfl)⟩)
  clear hT hP
  go_wp2_with (go_at_call 37; with_reducible refine (HNU.out _).mono ?_; rintro e v2 ⟨rfl, hb2⟩)
  replace hK := hK.below hb2 hK.lt
  replace hBe := hBe.trans (hb2.mono hB0)
  clear hb2
  generalize v2 = v0 at *
  have hcs : okN ⟨ty, fl, off, ad, sz, mem, al⟩ 0 = true := rfl
  rw [← hcs] at hK
  clear hcs
  go_loopw [12] (fun i wr => ∃ q : Nat, q ≤ 8 ∧ i = .int .i64 q ∧ Blk wr B 4 #[.bool (okN ⟨ty, fl, off, ad, sz, mem, al⟩ q)] ∧ Below B W0 wr) (fun i _ => 8 - (intOf i).toNat)
  case atStart => exact ⟨0, Nat.zero_le _, rfl, hK, hBe⟩
  case round =>
    clear hK hBe
    obtain ⟨q, hq, rfl, hK, hBe⟩ := hrel
    by_cases hq8 : q < 8
    · have x1 := HNA.out q hq8
      have x2 := (HC.out _ hBe).1.great q hq8
      have hnx := HOK.out q
      obtain ⟨z, hz⟩ : ∃ z, (Seg.nums ⟨ty, fl, off, ad, sz, mem, al⟩).getD q 0 = z := ⟨_, rfl⟩
      obtain ⟨g, hg⟩ : ∃ g, greatL.getD q 0 = g := ⟨_, rfl⟩
      rw [hz] at x1 hnx
      rw [hg] at x2 hnx
      have hix := run_index8 NA q _ hq8 x1
      obtain ⟨ok, hok⟩ : ∃ ok, okN ⟨ty, fl, off, ad, sz, mem, al⟩ q = ok := ⟨_, rfl⟩
      rw [hok] at hK hnx
      have HNX := Lib.hid hnx
      clear hz hg x1 hnx hok
      by_cases h0 : 0 ≤ z
      · have hd : decide (0 ≤ z) = true := decide_eq_true h0
        go_wp2_with (go_at_call 58; with_reducible refine (must_any B ok _ _ hK).mono ?_; rintro e v4 ⟨rfl, hK4, hB4⟩)
        go_roundw
        case rel => exact ⟨q + 1, by omega, by go_num, by rw [HNX.out]; unfold upto; rw [hd, Bool.true_and]; exact hK4, hBe.trans hB4⟩
        case measure => simp [intOf]; omega
      · have hd : decide (0 ≤ z) = false := decide_eq_false h0
        go_wp2_with (go_at_call 58; with_reducible refine (must_any B ok _ _ hK).mono ?_; rintro e v4 ⟨rfl, hK4, hB4⟩)
        go_roundw
        case rel => exact ⟨q + 1, by omega, by go_num, by rw [HNX.out]; unfold upto; rw [hd, Bool.false_and]; exact hK4, hBe.trans hB4⟩
        case measure => simp [intOf]; omega
    · obtain rfl : q = 8 := by omega
      rw [show ((8 : Nat) : Int) = 8 from rfl]
      obtain ⟨ok, hok⟩ : ∃ ok, okN ⟨ty, fl, off, ad, sz, mem, al⟩ 8 = ok := ⟨_, rfl⟩
      have hr := HR.out
      rw [hok] at hK hr
      obtain ⟨hr1, hr2, hr0⟩ := hr
      obtain ⟨-, x0, x2, x3, x4, x5, x6⟩ := HC.out _ hBe
      clear hok HR HOK HNA HNU
      have kB := hK.at_ 0 _ rfl
      have hend : ∀ v, Below B W0 v → Below w.heap.size w v := fun v hv => hBW.trans (hv.mono (by omega))
      have HE := Lib.hid hend
      clear hend
      by_cases h1 : ty = 1
      · have HR1 := Lib.hid (hr1 h1)
        clear hr0 hr1 hr2
        subst h1
        go_wp2_with (first
          | (go_at_call 58; with_reducible refine (must_any B _ _ _ hK).mono ?_; rintro e v4 ⟨rfl, hK4, hB4⟩; clear hK kB; have hK := hK4; have kB := hK4.at_ 0 _ rfl; replace hBe := hBe.trans hB4; clear hK4 hB4 x0 x2 x3 x4 x5 x6; obtain ⟨-, x0, x2, x3, x4, x5, x6⟩ := HC.out _ hBe)
          | (go_at_call 47; with_reducible refine (HI1.out _).mono ?_; rintro e v4 ⟨rfl, rfl⟩)
          | (go_at_call 47; with_reducible refine (HI2.out _).mono ?_; rintro e v4 ⟨rfl, rfl⟩))
        go_ret
        exact ⟨(congrArg (fun r => Ending.returned (.bool r)) HR1.out).symm, HE.out _ hBe⟩
      · have h10 : (ty == 1) = false := by simpa using h1
        by_cases h2 : ty = 2
        · have HR1 := Lib.hid (hr2 h2)
          clear hr0 hr1 hr2
          subst h2
          go_wp2_with (first
          | (go_at_call 58; with_reducible refine (must_any B _ _ _ hK).mono ?_; rintro e v4 ⟨rfl, hK4, hB4⟩; clear hK kB; have hK := hK4; have kB := hK4.at_ 0 _ rfl; replace hBe := hBe.trans hB4; clear hK4 hB4 x0 x2 x3 x4 x5 x6; obtain ⟨-, x0, x2, x3, x4, x5, x6⟩ := HC.out _ hBe)
          | (go_at_call 47; with_reducible refine (HI1.out _).mono ?_; rintro e v4 ⟨rfl, rfl⟩)
          | (go_at_call 47; with_reducible refine (HI2.out _).mono ?_; rintro e v4 ⟨rfl, rfl⟩))
          go_ret
          exact ⟨(congrArg (fun r => Ending.returned (.bool r)) HR1.out).symm, HE.out _ hBe⟩
        · have h20 : (ty == 2) = false := by simpa using h2
          have HR1 := Lib.hid (hr0 h1 h2)
          clear hr0 hr1 hr2
          go_wp2_with (first
          | (go_at_call 58; with_reducible refine (must_any B _ _ _ hK).mono ?_; rintro e v4 ⟨rfl, hK4, hB4⟩; clear hK kB; have hK := hK4; have kB := hK4.at_ 0 _ rfl; replace hBe := hBe.trans hB4; clear hK4 hB4 x0 x2 x3 x4 x5 x6; obtain ⟨-, x0, x2, x3, x4, x5, x6⟩ := HC.out _ hBe)
          | (go_at_call 47; with_reducible refine (HI1.out _).mono ?_; rintro e v4 ⟨rfl, rfl⟩)
          | (go_at_call 47; with_reducible refine (HI2.out _).mono ?_; rintro e v4 ⟨rfl, rfl⟩))
          go_ret
          exact ⟨(congrArg (fun r => Ending.returned (.bool r)) HR1.out).symm, HE.out _ hBe⟩
end Go.Proofs.YtakmmphjdkapeaaDoor
