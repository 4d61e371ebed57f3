/- Package region: Check; the reference's Same; the law's small and awake. -/
import Derived.Test.YtmknkdfdkanijaaUQ
namespace Go.Proofs.Ytmknkdfdkanijaa
open Go.RowKit Go.ChangeShapes Go.WideShapes Go.Deep
set_option linter.unusedVariables false
set_option linter.unusedSimpArgs false

set_option maxRecDepth 100000 in
set_option maxHeartbeats 6400000 in
theorem check_any (l : List Rg) (A : Option Addr) (n c : Nat) (w : World) (h : RS w A n c l) (hrow : RowP l) :
    Calls Try.prog 26 #[.slice A n c] w fun e w' => e = .returned (.int .i64 0) ∧ Below w.heap.size w w' := by
  have hn2 : n ≤ 4096 := by have := hrow.asc.len; have := h.len; omega
  have HR := Lib.hid h
  have HN := Lib.hid h.len
  have HROW := Lib.hid hrow
  clear h hrow
  go_enter Try.func26, Try.ntmps26
  go_wp2
  go_loopw [7] (fun i wr => ∃ k : Nat, k ≤ n ∧ i = .int .i64 k ∧ Hid (Below w.heap.size w wr)) (fun i _ => n - (intOf i).toNat)
  case atStart => exact ⟨0, Nat.zero_le _, rfl, Lib.hid (Below.refl _ _)⟩
  case round =>
    obtain ⟨k, hk, rfl, HB⟩ := hrel
    by_cases hlt : k < n
    · have hkl : k < l.length := by rw [HN.out]; exact hlt
      have hRS := HR.out.below HB.out
      obtain ⟨ad, hA, hblt, hwf, x0, x1, x2, x3, x4, x5⟩ := hRS.row.at_ hkl
      have hmay := HROW.out.asc.may _ (List.getElem_mem hkl)
      obtain ⟨r, hr⟩ : ∃ r, l[k] = r := ⟨_, rfl⟩
      rw [hr] at x0 x1 x2 x3 x4 x5 hmay hwf
      have hbr := Blk.new wr 29 r.cs
      obtain ⟨W1, hW1⟩ : ∃ W1, wr.alloc (.cells r.cs 29) = W1 := ⟨_, rfl⟩
      have HBW := Lib.hid (show Below w.heap.size w W1 ∧ Below wr.heap.size wr W1 from by rw [← hW1]; exact ⟨HB.out.alloc HB.out.size _, (Below.refl _ _).alloc (Nat.le_refl _) _⟩)
      rw [hW1] at hbr
      have hmb : r.mayB = true := (mayB_iff hwf).2 hmay
      have HM := Lib.hid (fun v => mayBe_any r v hwf)
      rw [hmb] at HM
      have HC := Lib.hid (fun x (hx : Below W1.heap.size W1 x) => show SixAt x wr.heap.size r ∧ Hid (Below w.heap.size w x) from ⟨(hbr.below hx hbr.lt).six, Lib.hid (HBW.out.1.trans (hx.mono HBW.out.1.size))⟩)
      by_cases hk0 : k = 0
      · have j0 : decide (0 < k) = false := by simp; omega
        have j1 : decide ((0 : Int) < (k : Int)) = false := by simp; omega
        have j2 : ¬ 0 < k := by omega
        have i0 : (0 : Int) ≤ (k : Int) := by omega
        have i1 : (k : Int) < (n : Int) := by omega
        have HK := Lib.hid hk0
        clear hk0
        obtain ⟨rf, rt, rp, rk, rfl', rpg⟩ := r
        have hm9 := HM.out
        unfold Rg.cs at hm9 hW1
        simp only at hm9 hW1 x0 x1 x2 x3 x4 x5
        have HMM := Lib.hid hm9
        have HW1 := Lib.hid hW1
        obtain ⟨s0, s1, s2, s3, s4, s5⟩ := hbr.six
        simp only at s0 s1 s2 s3 s4 s5
        clear hm9 hW1 hmb HM hmay hwf hr hkl hbr hRS hblt
        subst hA
        go_upto_region 4 with fail
        rw [HW1.out]
        go_upto_region 6 with (go_at_call 36; refine (HMM.out _).mono ?_; rintro e x ⟨rfl, hb⟩)
        obtain ⟨⟨z0, z1, z2, z3, z4, z5⟩, HBX⟩ := HC.out x hb
        clear s0 s1 s2 s3 s4 s5 hb
        go_quiet (fail)
        rename_i nq
        have HBQ := Lib.hid (Below.drewN HBX.out nq)
        go_wp2
        go_roundw
        case rel => exact ⟨k + 1, by omega, by go_num, HBQ⟩
        case measure => simp [intOf]; omega
      · obtain ⟨p, hp⟩ : ∃ p, k = p + 1 := ⟨k - 1, by omega⟩
        have hpl : p < l.length := by omega
        obtain ⟨ad', hA', -, hwfq, u0, u1, u2, u3, u4, u5⟩ := hRS.row.at_ hpl
        have hno := HROW.out.no p (by omega)
        have hqmay := HROW.out.asc.may _ (List.getElem_mem hpl)
        have hasc : l[p].t ≤ r.f := by
          have h9 : Asc (l.take k ++ l.drop k) := by rw [List.take_append_drop]; exact HROW.out.asc
          rw [← hr]
          refine h9.mid _ ?_ _ ?_
          · rw [List.mem_take_iff_getElem]
            exact ⟨p, by omega, rfl⟩
          · have hd := List.drop_eq_getElem_cons hkl
            rw [hd]
            exact List.mem_cons_self
        have e9 : l[p + 1]'(by omega) = r := by rw [← hr]; simp [hp]
        rw [e9] at hno
        obtain ⟨q, hq⟩ : ∃ q, l[p] = q := ⟨_, rfl⟩
        rw [hq] at u0 u1 u2 u3 u4 u5 hno hqmay hasc
        rw [hA] at hA'
        cases hA'
        have haa : (ad.add (p * 6)).block = ad.block := by unfold Addr.add; split <;> rfl
        have HON := Lib.hid (decide_eq_false hno)
        have HAO := Lib.hid (fun v => areOne_any q r v hqmay.bd)
        have HS := Lib.hid (fun x (hx : Below W1.heap.size W1 x) => show x.cell? (ad.add (p * 6)) = some (.int .i64 q.f) ∧ x.cell? ⟨(ad.add (p * 6)).block, (ad.add (p * 6)).off + 1, none⟩ = some (.int .i64 q.t) ∧ x.cell? ⟨(ad.add (p * 6)).block, (ad.add (p * 6)).off + 2, none⟩ = some (.int .i64 q.p) ∧ x.cell? ⟨(ad.add (p * 6)).block, (ad.add (p * 6)).off + 3, none⟩ = some (.int .i64 q.k) ∧ x.cell? ⟨(ad.add (p * 6)).block, (ad.add (p * 6)).off + 4, none⟩ = some (.int .i64 q.fl) ∧ x.cell? ⟨(ad.add (p * 6)).block, (ad.add (p * 6)).off + 5, none⟩ = some (.int .i64 q.pg) ∧
          x.cell? ⟨wr.heap.size, 0, none⟩ = some (.int .i64 r.f) ∧ x.cell? ⟨wr.heap.size, 1, none⟩ = some (.int .i64 r.t) ∧ x.cell? ⟨wr.heap.size, 2, none⟩ = some (.int .i64 r.p) ∧ x.cell? ⟨wr.heap.size, 3, none⟩ = some (.int .i64 r.k) ∧ x.cell? ⟨wr.heap.size, 4, none⟩ = some (.int .i64 r.fl) ∧ x.cell? ⟨wr.heap.size, 5, none⟩ = some (.int .i64 r.pg) from by
          obtain ⟨⟨z0, z1, z2, z3, z4, z5⟩, -⟩ := HC.out x hx
          have hx2 : Below wr.heap.size wr x := HBW.out.2.trans (hx.mono HBW.out.2.size)
          refine ⟨?_, ?_, ?_, ?_, ?_, ?_, z0, z1, z2, z3, z4, z5⟩
          all_goals refine (hx2.cell ?_).trans ?_
          all_goals first | assumption | (rw [haa]; exact hblt))
        obtain ⟨rf, rt, rp, rk, rfl', rpg⟩ := r
        obtain ⟨qf, qt, qp, qk, qfl, qpg⟩ := q
        have hm9 := HM.out
        have ha9 := HAO.out
        unfold Rg.cs at hm9 hW1 ha9
        simp only at hm9 hW1 ha9 x0 x1 x2 x3 x4 x5 HS hasc HON
        have HMM := Lib.hid hm9
        have HAA := Lib.hid ha9
        have HW1 := Lib.hid hW1
        obtain ⟨s0, s1, s2, s3, s4, s5⟩ := hbr.six
        simp only at s0 s1 s2 s3 s4 s5
        clear hm9 ha9 hW1 hmb HM HAO hmay hqmay hwf hwfq hr hkl hpl hq hbr hRS hno e9 haa hblt u0 u1 u2 u3 u4 u5
        subst hA
        have i0 : (0 : Int) ≤ (k : Int) := by omega
        have i1 : (k : Int) < (n : Int) := by omega
        have i2 : (0 : Int) < (k : Int) := by omega
        have i4 : (0 : Int) ≤ (p : Int) := by omega
        have i5 : (p : Int) < (n : Int) := by omega
        have i6 : wrap64 ((k : Int) - 1) = (p : Int) := by rw [IntWalk.wrap64_in _ (by omega)]; omega
        have i7 : IntKind.i64.wrap ((k : Int) - 1) = (p : Int) := by rw [IntWalk.i64_in _ (by omega)]; omega
        have i8 : decide (0 < k) = true := by simp; omega
        have i9 : 0 < k := by omega
        have j1 : decide (rf < qt) = false := decide_eq_false (by omega)
        have HP := Lib.hid hp
        have HD1 := Lib.hid (show ∀ (Y u x : World), Below Y.heap.size Y u → Below u.heap.size u x → Below Y.heap.size Y x from fun Y u x h1 h2 => h1.trans (h2.mono h1.size))
        clear hp
        go_upto_region 4 with fail
        rw [HW1.out]
        go_upto_region 6 with (go_at_call 36; refine (HMM.out _).mono ?_; rintro e x ⟨rfl, hb⟩)
        have HX := Lib.hid hb
        obtain ⟨y0, y1, y2, y3, y4, y5, y6, y7, y8, y9, y10, y11⟩ := HS.out x hb
        clear s0 s1 s2 s3 s4 s5 hb x0 x1 x2 x3 x4 x5
        go_region_held3 (fun x => x.cell? (ad.add (p * 6)) = some (.int .i64 qf) ∧ x.cell? ⟨(ad.add (p * 6)).block, (ad.add (p * 6)).off + 1, none⟩ = some (.int .i64 qt) ∧ x.cell? ⟨(ad.add (p * 6)).block, (ad.add (p * 6)).off + 2, none⟩ = some (.int .i64 qp) ∧ x.cell? ⟨(ad.add (p * 6)).block, (ad.add (p * 6)).off + 3, none⟩ = some (.int .i64 qk) ∧ x.cell? ⟨(ad.add (p * 6)).block, (ad.add (p * 6)).off + 4, none⟩ = some (.int .i64 qfl) ∧ x.cell? ⟨(ad.add (p * 6)).block, (ad.add (p * 6)).off + 5, none⟩ = some (.int .i64 qpg) ∧
          x.cell? ⟨wr.heap.size, 0, none⟩ = some (.int .i64 rf) ∧ x.cell? ⟨wr.heap.size, 1, none⟩ = some (.int .i64 rt) ∧ x.cell? ⟨wr.heap.size, 2, none⟩ = some (.int .i64 rp) ∧ x.cell? ⟨wr.heap.size, 3, none⟩ = some (.int .i64 rk) ∧ x.cell? ⟨wr.heap.size, 4, none⟩ = some (.int .i64 rfl') ∧ x.cell? ⟨wr.heap.size, 5, none⟩ = some (.int .i64 rpg))
          (first | exact ⟨y0, y1, y2, y3, y4, y5, y6, y7, y8, y9, y10, y11⟩ | exact HS.out _ HX.out | exact HS.out _ HX.out.drew)
          (first
          | (go_at_call 38; with_reducible refine (HAA.out _).mono ?_; rintro e v ⟨rfl, hb⟩; rw [HON.out]; have hx := (show Below W1.heap.size W1 v from by first | exact HD1.out _ _ _ HX.out hb | exact HD1.out _ _ _ HX.out.drew hb); clear y0 y1 y2 y3 y4 y5 y6 y7 y8 y9 y10 y11 HX; have HX := Lib.hid hx; obtain ⟨y0, y1, y2, y3, y4, y5, y6, y7, y8, y9, y10, y11⟩ := HS.out v hx; clear hb hx))
        have HBX := (HC.out _ HX.out).2
        go_wp2
        go_roundw
        case rel => exact ⟨k + 1, by omega, by go_num, HBX⟩
        case measure => simp [intOf]; omega
    · obtain rfl : k = n := by omega
      go_wp2
      go_ret
      exact ⟨rfl, HB.out⟩

set_option maxHeartbeats 1600000 in
/-- Two rows that are the same. -/
theorem same_yesU (l m : List Rg) (hlm : l = m) (A B : Option Addr) (n c c' : Nat) (w : World) (hr : RS w A n c l) (hr' : RS w B n c' m) :
    Calls Try.prog 25 #[.slice A n c, .slice B n c'] w fun e w' => e = .returned (.bool true) ∧ Below w.heap.size w w' := by
  subst hlm
  have hl : n ≤ 9223372036854775807 := by have := hr.cap; have h2 := hr.max; unfold maxLen at h2; omega
  have HR := Lib.hid hr.row
  have HR' := Lib.hid hr'.row
  have HN := Lib.hid hr.len
  clear hr hr'
  go_enter Try.func25, Try.ntmps25
  go_wp2
  go_loopw [5] (fun i wr => ∃ k : Nat, k ≤ n ∧ i = .int .i64 k ∧ Hid (∃ q, wr = w.drewN q)) (fun i _ => n - (intOf i).toNat)
  case atStart => exact ⟨0, Nat.zero_le _, rfl, Lib.hid ⟨0, (World.drewN_zero w).symm⟩⟩
  case round =>
    obtain ⟨k, hk, rfl, hq⟩ := hrel
    obtain ⟨q, rfl⟩ := hq.out
    by_cases hlt : k < n
    · have hkl : k < l.length := by rw [HN.out]; exact hlt
      obtain ⟨ad, rfl, hblt, hwf, d0, d1, d2, d3, d4, d5⟩ := (HR.out.drewN q).at_ hkl
      obtain ⟨ad', rfl, hblt', -, e0, e1, e2, e3, e4, e5⟩ := (HR'.out.drewN q).at_ hkl
      obtain ⟨s, hs⟩ : ∃ s, l[k] = s := ⟨_, rfl⟩
      rw [hs] at d0 d1 d2 d3 d4 d5 e0 e1 e2 e3 e4 e5
      obtain ⟨f, t, p, kk, fl, pg⟩ := s
      simp only at d0 d1 d2 d3 d4 d5 e0 e1 e2 e3 e4 e5
      clear hs hwf hblt hblt' hkl
      generalize hW : w.drewN q = W at *
      go_wp2
      go_quiet (fail)
      go_wp2
      go_roundw
      case rel => exact ⟨k + 1, by omega, by go_num, Lib.hid ⟨_, by rw [← hW, World.drewN_drewN]⟩⟩
      case measure => simp [intOf]; omega
    · obtain rfl : k = n := by omega
      go_wp2
      go_ret
      exact ⟨rfl, Below.drewN (Below.refl _ _) _⟩

/-- A change: Kind, From, To, Perm, In, Region. -/
structure OpU where
  kd : Int
  f : Int
  t : Int
  p : Int
  inn : Bool
  r : Rg
def OpU.cs (o : OpU) : Array Value := #[.int .i64 o.kd, .int .i64 o.f, .int .i64 o.t, .int .i64 o.p, .bool o.inn, .int .i64 o.r.f, .int .i64 o.r.t, .int .i64 o.r.p, .int .i64 o.r.k, .int .i64 o.r.fl, .int .i64 o.r.pg]
structure OpU.Wf (o : OpU) : Prop where
  kd : (Lit.int .i64 o.kd).wf = true
  f : (Lit.int .i64 o.f).wf = true
  t : (Lit.int .i64 o.t).wf = true
  p : (Lit.int .i64 o.p).wf = true
  r : o.r.Wf
def OpU.small (o : OpU) : OpU := if o.inn then ⟨o.kd, o.f % 64, o.t % 64, o.p % 8, true, { o.r with f := o.r.f % 64, t := o.r.t % 64 }⟩ else o
theorem i64_and63U (n : Int) : bits .and .i64 n 63 = n % 64 := i64_and_mask n 6 63 (by omega) (by decide)
theorem i64_and7U (n : Int) : bits .and .i64 n 7 = n % 8 := i64_and_mask n 3 7 (by omega) (by decide)
theorem OpU.Wf.small {o : OpU} (h : o.Wf) : o.small.Wf := by
  unfold OpU.small
  split
  · obtain ⟨h1, h2, h3, h4, ⟨r0, r1, r2, r3, r4, r5⟩⟩ := h
    refine ⟨h1, ?_, ?_, ?_, ⟨?_, ?_, r2, r3, r4, r5⟩⟩
    · exact wf64 (by show _ ≤ o.f % 64; omega) (by show o.f % 64 ≤ _; omega)
    · exact wf64 (by show _ ≤ o.t % 64; omega) (by show o.t % 64 ≤ _; omega)
    · exact wf64 (by show _ ≤ o.p % 8; omega) (by show o.p % 8 ≤ _; omega)
    · exact wf64 (by show _ ≤ o.r.f % 64; omega) (by show o.r.f % 64 ≤ _; omega)
    · exact wf64 (by show _ ≤ o.r.t % 64; omega) (by show o.r.t % 64 ≤ _; omega)
  · exact h
set_option maxRecDepth 100000 in
set_option maxHeartbeats 3200000 in
theorem small_any (o : OpU) (w : World) : Calls Try.prog 10 #[.agg o.cs] w fun e w' => e = .returned (.agg o.small.cs) ∧ Below w.heap.size w w' := by
  obtain ⟨kd, f, t, p, inn, ⟨rf, rt, rp, rk, rfl', rpg⟩⟩ := o
  cases inn with
  | false =>
    have e : (OpU.small ⟨kd, f, t, p, false, ⟨rf, rt, rp, rk, rfl', rpg⟩⟩).cs = #[.int .i64 kd, .int .i64 f, .int .i64 t, .int .i64 p, .bool false, .int .i64 rf, .int .i64 rt, .int .i64 rp, .int .i64 rk, .int .i64 rfl', .int .i64 rpg] := rfl
    rw [e]
    unfold OpU.cs
    simp only
    have HB := Lib.hid (((Below.refl w.heap.size w).alloc (Nat.le_refl _) (.cells #[.int .i64 kd, .int .i64 f, .int .i64 t, .int .i64 p, .bool false, .int .i64 rf, .int .i64 rt, .int .i64 rp, .int .i64 rk, .int .i64 rfl', .int .i64 rpg] 31)).alloc (by simp) (.cells #[.int .i64 kd, .int .i64 f, .int .i64 t, .int .i64 p, .bool false, .int .i64 rf, .int .i64 rt, .int .i64 rp, .int .i64 rk, .int .i64 rfl', .int .i64 rpg] 31))
    clear e
    go_enter Try.func10, Try.ntmps10
    go_wp2
    exact bodyPost_ret (results_cell_row rfl _ _ (w.heap.size + 1) 31 _ (0, 0) _ rfl (by have := heap_alloc_new (w.alloc (.cells #[.int .i64 kd, .int .i64 f, .int .i64 t, .int .i64 p, .bool false, .int .i64 rf, .int .i64 rt, .int .i64 rp, .int .i64 rk, .int .i64 rfl', .int .i64 rpg] 31)) (.cells #[.int .i64 kd, .int .i64 f, .int .i64 t, .int .i64 p, .bool false, .int .i64 rf, .int .i64 rt, .int .i64 rp, .int .i64 rk, .int .i64 rfl', .int .i64 rpg] 31); simpa using this) Try.underlying31 rfl (by kernel_rfl)) rfl ⟨rfl, HB.out⟩
  | true =>
    have e : (OpU.small ⟨kd, f, t, p, true, ⟨rf, rt, rp, rk, rfl', rpg⟩⟩).cs = #[.int .i64 kd, .int .i64 (f % 64), .int .i64 (t % 64), .int .i64 (p % 8), .bool true, .int .i64 (rf % 64), .int .i64 (rt % 64), .int .i64 rp, .int .i64 rk, .int .i64 rfl', .int .i64 rpg] := rfl
    rw [e]
    unfold OpU.cs
    simp only
    have a1 := i64_and63U f
    have a2 := i64_and63U t
    have a3 := i64_and7U p
    have a4 := i64_and63U rf
    have a5 := i64_and63U rt
    clear e
    generalize f % 64 = f9 at *
    generalize t % 64 = t9 at *
    generalize p % 8 = p9 at *
    generalize rf % 64 = rf9 at *
    generalize rt % 64 = rt9 at *
    have HB := Lib.hid (((Below.refl w.heap.size w).alloc (Nat.le_refl _) (.cells #[.int .i64 kd, .int .i64 f9, .int .i64 t9, .int .i64 p9, .bool true, .int .i64 rf9, .int .i64 rt9, .int .i64 rp, .int .i64 rk, .int .i64 rfl', .int .i64 rpg] 31)).alloc (by simp) (.cells #[.int .i64 kd, .int .i64 f9, .int .i64 t9, .int .i64 p9, .bool true, .int .i64 rf9, .int .i64 rt9, .int .i64 rp, .int .i64 rk, .int .i64 rfl', .int .i64 rpg] 31))
    go_enter Try.func10, Try.ntmps10
    go_wp2
    exact bodyPost_ret (results_cell_row rfl _ _ (w.heap.size + 1) 31 _ (0, 0) _ rfl (by have := heap_alloc_new (w.alloc (.cells #[.int .i64 kd, .int .i64 f9, .int .i64 t9, .int .i64 p9, .bool true, .int .i64 rf9, .int .i64 rt9, .int .i64 rp, .int .i64 rk, .int .i64 rfl', .int .i64 rpg] 31)) (.cells #[.int .i64 kd, .int .i64 f9, .int .i64 t9, .int .i64 p9, .bool true, .int .i64 rf9, .int .i64 rt9, .int .i64 rp, .int .i64 rk, .int .i64 rfl', .int .i64 rpg] 31); simpa using this) Try.underlying31 rfl (by kernel_rfl)) rfl ⟨rfl, HB.out⟩
end Go.Proofs.Ytmknkdfdkanijaa
