/- Package elf: some, carried, begins, Check. -/
import Derived.Test.YtakmmphjdkapeaaDoorEG
import Derived.Test.YtakmmphjdkapeaaDoorBits
namespace Go.Proofs.YtakmmphjdkapeaaDoor
open Go.RowKit
set_option linter.unusedVariables false
set_option linter.unusedSimpArgs false

theorem i64_and1 (n : Int) : bits .and .i64 n 1 = n % 2 := i64_and_mask n 1 1 (by omega) (by decide)

set_option maxHeartbeats 800000 in
theorem within_clo (s t : Seg) (b : Nat) (z1 z2 : Int) (w : World) (hs : s.May z1) (ht : t.May z2) (hk : Blk w b 47 s.cs) :
    Calls Tryd.prog 46 #[t.v, .pointer (some ⟨b, 0, none⟩)] w fun e w' => e = .returned (.bool (s.within t)) ∧ Below w.heap.size w w' := by
  have hsc := seg_cells (hk.below ((Below.refl w.heap.size w).alloc (Nat.le_refl _) (.cells t.cs 47)) hk.lt)
  have htc := seg_cells (Blk.new w 47 t.cs)
  have HB := Lib.hid ((Below.refl w.heap.size w).alloc (Nat.le_refl _) (.cells t.cs 47))
  have p1 := hs.ad
  have p2 := ht.ad
  have p3 := hs.mem
  have p4 := ht.mem
  have p5 := hs.off
  have p6 := ht.off
  clear hs ht
  obtain ⟨ty, fl, off, ad, sz, mem, al⟩ := s
  obtain ⟨ty', fl', off', ad', sz', mem', al'⟩ := t
  unfold Seg.within Seg.v
  unfold Seg.cs at *
  simp only at *
  obtain ⟨-, -, x2, x3, -, x5, -⟩ := hsc
  obtain ⟨-, -, y2, y3, -, y5, -⟩ := htc
  have i63 : ∀ z : Int, -9223372036854775808 ≤ z ∧ z ≤ 9223372036854775807 → (Lit.int .i64 z).wf = true := fun z h => by
    have e1 : IntKind.i64.min = -9223372036854775808 := rfl
    have e2 : IntKind.i64.max = 9223372036854775807 := by decide
    simp [Lit.wf, e1, e2]; omega
  obtain ⟨D, hD⟩ : ∃ D, ad - ad' = D := ⟨_, rfl⟩
  have HI := Lib.hid (fun w => within_any D mem mem' w (i63 _ (by omega)) (i63 _ (by omega)) (by omega))
  rw [hD]
  have hw1 : IntKind.i64.wrap (ad - ad') = D := by rw [IntWalk.i64_in _ (by omega), hD]
  have hw2 : IntKind.i64.wrap (off - off') = off - off' := IntWalk.i64_in _ (by omega)
  clear i63 hk
  have hde : ((off - off') == D) = decide (off - off' = D) := rfl
  obtain ⟨q, hq⟩ : ∃ q, decide (off - off' = D) = q := ⟨_, rfl⟩
  rw [hq] at hde ⊢
  obtain ⟨j, hj⟩ : ∃ j, inn D mem mem' = j := ⟨_, rfl⟩
  rw [hj] at HI ⊢
  clear hq hj
  cases j
  · go_enter Tryd.func46, Tryd.ntmps46
    go_wp2_with (go_at_call 47; with_reducible refine (HI.out _).mono ?_; rintro e v4 ⟨rfl, rfl⟩)
    go_ret
    exact ⟨rfl, HB.out⟩
  · go_enter Tryd.func46, Tryd.ntmps46
    go_wp2_with (go_at_call 47; with_reducible refine (HI.out _).mono ?_; rintro e v4 ⟨rfl, rfl⟩)
    go_ret
    exact ⟨rfl, HB.out⟩

set_option maxHeartbeats 800000 in
theorem has_clo (t : Seg) (b : Nat) (z2 en : Int) (w : World) (ht : t.May z2) (hlt : b < w.heap.size) (hk : w.cell? ⟨b, 1, none⟩ = some (.int .i64 en)) :
    Calls Tryd.prog 49 #[t.v, .pointer (some ⟨b, 0, none⟩)] w fun e w' => e = .returned (.bool (t.has en)) ∧ Below w.heap.size w w' := by
  have htc := seg_cells (Blk.new w 47 t.cs)
  have HB := Lib.hid ((Below.refl w.heap.size w).alloc (Nat.le_refl _) (.cells t.cs 47))
  have hk2 : (w.alloc (.cells t.cs 47)).cell? ⟨b, 1, none⟩ = some (.int .i64 en) := (HB.out.cell (by exact hlt)).trans hk
  have p2 := ht.ad
  have p4 := ht.mem
  clear ht hk
  obtain ⟨ty', fl', off', ad', sz', mem', al'⟩ := t
  unfold Seg.has Seg.v
  unfold Seg.cs at *
  simp only at *
  obtain ⟨-, y1, -, y3, -, y5, -⟩ := htc
  have hb : (bits .and .i64 fl' 1 != 0) = (fl' % 2 == 1) := by
    rw [i64_and1]
    have h1 := Int.emod_nonneg fl' (show (2 : Int) ≠ 0 by omega)
    have h2 := Int.emod_lt_of_pos fl' (show (0 : Int) < 2 by omega)
    rcases (show fl' % 2 = 0 ∨ fl' % 2 = 1 by omega) with h | h <;> rw [h] <;> rfl
  obtain ⟨q, hq⟩ : ∃ q, (fl' % 2 == 1) = q := ⟨_, rfl⟩
  rw [hq] at hb ⊢
  have hw1 : IntKind.i64.wrap (ad' + mem') = ad' + mem' := IntWalk.i64_in _ (by omega)
  clear hq
  cases q
  · go_enter Tryd.func49, Tryd.ntmps49
    go_wp2_with fail
    go_ret
    exact ⟨rfl, HB.out⟩
  · by_cases h1 : ad' ≤ en
    · have e1 : decide (ad' ≤ en) = true := decide_eq_true h1
      go_enter Tryd.func49, Tryd.ntmps49
      go_wp2_with fail
      go_ret
      exact ⟨by simp [h1], HB.out⟩
    · have e1 : decide (ad' ≤ en) = false := decide_eq_false h1
      go_enter Tryd.func49, Tryd.ntmps49
      go_wp2_with fail
      go_ret
      exact ⟨by simp [h1], HB.out⟩

set_option maxRecDepth 100000 in
set_option maxHeartbeats 1600000 in
/-- some of a closure that tells f of each of these. -/
theorem some_within (segs : List Seg) (A : Option Addr) (c b : Nat) (f : Seg → Bool) (w : World) (hr : SegRow w A segs) (hl : segs.length ≤ 1000)
    (hc : ∀ v t, t ∈ segs → Below w.heap.size w v → Calls Tryd.prog 46 #[t.v, .pointer (some ⟨b, 0, none⟩)] v fun e v' => e = .returned (.bool (f t)) ∧ Below v.heap.size v v') :
    Calls Tryd.prog 48 #[.slice A segs.length c, .func (.func 46) #[] #[.pointer (some ⟨b, 0, none⟩)]] w fun e w' => e = .returned (.bool (segs.any fun t => t.ty == 1 && f t)) ∧ Below w.heap.size w w' := by
  obtain ⟨n, hn⟩ : ∃ n, segs.length = n := ⟨_, rfl⟩
  obtain ⟨r, hr0⟩ : ∃ r, (segs.any fun t => t.ty == 1 && f t) = r := ⟨_, rfl⟩
  have HR := Lib.hid hr0
  rw [hr0, hn]
  have HN := Lib.hid hn
  have HTR := Lib.hid (fun v (hv : Below w.heap.size w v) => show SegRow v A segs from hr.below hv)
  have HCL := Lib.hid hc
  clear hr0 hr hn hc
  go_enter Tryd.func48, Tryd.ntmps48
  go_wp2_with fail
  go_step3
  go_wp2
  go_step3
  go_wp2
  go_loopw [5, 10] (fun fd i wr => ∃ k : Nat, k ≤ n ∧ i = .int .i64 k ∧ fd = .bool false ∧ Hid (r = (segs.drop k).any fun t => t.ty == 1 && f t) ∧ Below w.heap.size w wr) (fun _ i _ => n - (intOf i).toNat)
  case atStart => exact ⟨0, Nat.zero_le _, rfl, rfl, Lib.hid HR.out.symm, Below.refl _ _⟩
  case round =>
    obtain ⟨k, hk, rfl, rfl, hrs, hbe⟩ := hrel
    by_cases hlt : k < n
    · have hr := HTR.out _ hbe
      have hkl : k < segs.length := by rw [HN.out]; exact hlt
      obtain ⟨ad, rfl, hblt, hwf, d0, d1, d2, d3, d4, d5, d6⟩ := hr.at_ hkl
      have hst := hrs.out
      rw [List.drop_eq_getElem_cons hkl, List.any_cons] at hst
      have hc := fun v hv => HCL.out v segs[k] (List.getElem_mem hkl) hv
      obtain ⟨s, hs⟩ : ∃ s, segs[k] = s := ⟨_, rfl⟩
      rw [hs] at hwf d0 d1 d2 d3 d4 d5 d6 hst hc
      have HB1 := Lib.hid (And.intro (Blk.new wr 47 s.cs) (hbe.alloc hbe.size (.cells s.cs 47)))
      obtain ⟨fs, hfs⟩ : ∃ fs, f s = fs := ⟨_, rfl⟩
      rw [hfs] at hst hc
      obtain ⟨ty, fl, off, ad', sz, mem, al⟩ := s
      unfold Seg.v Seg.cs at hc
      unfold Seg.cs at HB1
      simp only at *
      have HC := Lib.hid hc
      clear hc hwf hs hr hfs
      obtain ⟨x0, x1, x2, x3, x4, x5, x6⟩ := seg_cells (s := ⟨ty, fl, off, ad', sz, mem, al⟩) HB1.out.1
      simp only at x0 x1 x2 x3 x4 x5 x6
      have hw0 : w.heap.size ≤ wr.heap.size := hbe.size
      by_cases h1 : ty = 1
      · subst h1
        cases fs
        case true =>
          have HV := Lib.hid (show true = r from by rw [hst]; simp)
          clear hst
          go_wp2_with (go_at_call 46; with_reducible refine (HC.out _ HB1.out.2).mono ?_; rintro e v2 ⟨rfl, hb2⟩)
          try rw [Exit.noGoto_ret]
          go_ret
          exact ⟨congrArg (fun r => Ending.returned (.bool r)) HV.out, HB1.out.2.trans (hb2.mono HB1.out.2.size)⟩
        case false =>
          have HV := Lib.hid (show r = (segs.drop (k + 1)).any fun t => t.ty == 1 && f t from by rw [hst]; simp)
          clear hst
          go_wp2_with (go_at_call 46; with_reducible refine (HC.out _ HB1.out.2).mono ?_; rintro e v2 ⟨rfl, hb2⟩)
          go_roundw
          case rel => exact ⟨k + 1, by omega, by go_num, rfl, Lib.hid HV.out, HB1.out.2.trans (hb2.mono HB1.out.2.size)⟩
          case measure => simp [intOf]; omega
      · have h10 : (ty == 1) = false := by simpa using h1
        have HV := Lib.hid (show r = (segs.drop (k + 1)).any fun t => t.ty == 1 && f t from by rw [hst, h10]; simp)
        clear hst
        go_wp2_with fail
        go_roundw
        case rel => exact ⟨k + 1, by omega, by go_num, rfl, Lib.hid HV.out, HB1.out.2⟩
        case measure => simp [intOf]; omega
    · obtain rfl : k = n := by omega
      have HV := Lib.hid (show false = r from by rw [hrs.out, List.drop_of_length_le (by rw [HN.out]; exact Nat.le_refl _)]; rfl)
      go_wp2_with fail
      try rw [Exit.noGoto_ret]
      go_ret
      exact ⟨congrArg (fun r => Ending.returned (.bool r)) HV.out, hbe⟩

set_option maxRecDepth 100000 in
set_option maxHeartbeats 1600000 in
/-- some of a closure that tells f of each of these. -/
theorem some_has (segs : List Seg) (A : Option Addr) (c b : Nat) (f : Seg → Bool) (w : World) (hr : SegRow w A segs) (hl : segs.length ≤ 1000)
    (hc : ∀ v t, t ∈ segs → Below w.heap.size w v → Calls Tryd.prog 49 #[t.v, .pointer (some ⟨b, 0, none⟩)] v fun e v' => e = .returned (.bool (f t)) ∧ Below v.heap.size v v') :
    Calls Tryd.prog 48 #[.slice A segs.length c, .func (.func 49) #[] #[.pointer (some ⟨b, 0, none⟩)]] w fun e w' => e = .returned (.bool (segs.any fun t => t.ty == 1 && f t)) ∧ Below w.heap.size w w' := by
  obtain ⟨n, hn⟩ : ∃ n, segs.length = n := ⟨_, rfl⟩
  obtain ⟨r, hr0⟩ : ∃ r, (segs.any fun t => t.ty == 1 && f t) = r := ⟨_, rfl⟩
  have HR := Lib.hid hr0
  rw [hr0, hn]
  have HN := Lib.hid hn
  have HTR := Lib.hid (fun v (hv : Below w.heap.size w v) => show SegRow v A segs from hr.below hv)
  have HCL := Lib.hid hc
  clear hr0 hr hn hc
  go_enter Tryd.func48, Tryd.ntmps48
  go_wp2_with fail
  go_step3
  go_wp2
  go_step3
  go_wp2
  go_loopw [5, 10] (fun fd i wr => ∃ k : Nat, k ≤ n ∧ i = .int .i64 k ∧ fd = .bool false ∧ Hid (r = (segs.drop k).any fun t => t.ty == 1 && f t) ∧ Below w.heap.size w wr) (fun _ i _ => n - (intOf i).toNat)
  case atStart => exact ⟨0, Nat.zero_le _, rfl, rfl, Lib.hid HR.out.symm, Below.refl _ _⟩
  case round =>
    obtain ⟨k, hk, rfl, rfl, hrs, hbe⟩ := hrel
    by_cases hlt : k < n
    · have hr := HTR.out _ hbe
      have hkl : k < segs.length := by rw [HN.out]; exact hlt
      obtain ⟨ad, rfl, hblt, hwf, d0, d1, d2, d3, d4, d5, d6⟩ := hr.at_ hkl
      have hst := hrs.out
      rw [List.drop_eq_getElem_cons hkl, List.any_cons] at hst
      have hc := fun v hv => HCL.out v segs[k] (List.getElem_mem hkl) hv
      obtain ⟨s, hs⟩ : ∃ s, segs[k] = s := ⟨_, rfl⟩
      rw [hs] at hwf d0 d1 d2 d3 d4 d5 d6 hst hc
      have HB1 := Lib.hid (And.intro (Blk.new wr 47 s.cs) (hbe.alloc hbe.size (.cells s.cs 47)))
      obtain ⟨fs, hfs⟩ : ∃ fs, f s = fs := ⟨_, rfl⟩
      rw [hfs] at hst hc
      obtain ⟨ty, fl, off, ad', sz, mem, al⟩ := s
      unfold Seg.v Seg.cs at hc
      unfold Seg.cs at HB1
      simp only at *
      have HC := Lib.hid hc
      clear hc hwf hs hr hfs
      obtain ⟨x0, x1, x2, x3, x4, x5, x6⟩ := seg_cells (s := ⟨ty, fl, off, ad', sz, mem, al⟩) HB1.out.1
      simp only at x0 x1 x2 x3 x4 x5 x6
      have hw0 : w.heap.size ≤ wr.heap.size := hbe.size
      by_cases h1 : ty = 1
      · subst h1
        cases fs
        case true =>
          have HV := Lib.hid (show true = r from by rw [hst]; simp)
          clear hst
          go_wp2_with (go_at_call 49; with_reducible refine (HC.out _ HB1.out.2).mono ?_; rintro e v2 ⟨rfl, hb2⟩)
          try rw [Exit.noGoto_ret]
          go_ret
          exact ⟨congrArg (fun r => Ending.returned (.bool r)) HV.out, HB1.out.2.trans (hb2.mono HB1.out.2.size)⟩
        case false =>
          have HV := Lib.hid (show r = (segs.drop (k + 1)).any fun t => t.ty == 1 && f t from by rw [hst]; simp)
          clear hst
          go_wp2_with (go_at_call 49; with_reducible refine (HC.out _ HB1.out.2).mono ?_; rintro e v2 ⟨rfl, hb2⟩)
          go_roundw
          case rel => exact ⟨k + 1, by omega, by go_num, rfl, Lib.hid HV.out, HB1.out.2.trans (hb2.mono HB1.out.2.size)⟩
          case measure => simp [intOf]; omega
      · have h10 : (ty == 1) = false := by simpa using h1
        have HV := Lib.hid (show r = (segs.drop (k + 1)).any fun t => t.ty == 1 && f t from by rw [hst, h10]; simp)
        clear hst
        go_wp2_with fail
        go_roundw
        case rel => exact ⟨k + 1, by omega, by go_num, rfl, Lib.hid HV.out, HB1.out.2⟩
        case measure => simp [intOf]; omega
    · obtain rfl : k = n := by omega
      have HV := Lib.hid (show false = r from by rw [hrs.out, List.drop_of_length_le (by rw [HN.out]; exact Nat.le_refl _)]; rfl)
      go_wp2_with fail
      try rw [Exit.noGoto_ret]
      go_ret
      exact ⟨congrArg (fun r => Ending.returned (.bool r)) HV.out, hbe⟩
end Go.Proofs.YtakmmphjdkapeaaDoor
