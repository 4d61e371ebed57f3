/- The reference of layer 8: segment. -/
import Derived.Test.YtakmmphjdkapeaaDoorER
namespace Go.Proofs.YtakmmphjdkapeaaDoor
open Go.RowKit
set_option linter.unusedVariables false
set_option linter.unusedSimpArgs false

set_option maxRecDepth 100000 in
set_option maxHeartbeats 3200000 in
theorem rsegment_any (s : Seg) (size : Int) (w : World) (hs : s.wf) (hz : (Lit.int .i64 size).wf = true) :
    Calls Tryd.prog 30 #[s.v, .int .i64 size] w fun e w' => e = .returned (.bool (s.may size)) ∧ Below w.heap.size w w' := by
  have HIN := Lib.hid (fun n w => rin_any n w)
  have hmay := Seg.may_iff (s := s) (size := size)
  obtain ⟨r, hr⟩ : ∃ r, s.may size = r := ⟨_, rfl⟩
  rw [hr] at hmay ⊢
  have htm1 := Int.tmod_eq_emod_of_nonneg (a := s.ad) (b := 64)
  have htm2 := Int.tmod_eq_emod_of_nonneg (a := s.off) (b := 64)
  obtain ⟨ty, fl, off, ad, sz, mem, al⟩ := s
  unfold Seg.v Seg.cs
  simp only at *
  obtain ⟨z1, z2⟩ := bounds_i64 hz
  have HB := Lib.hid ((Below.refl w.heap.size w).alloc (Nat.le_refl _) (.cells #[.int .i64 ty, .int .i64 fl, .int .i64 off, .int .i64 ad, .int .i64 sz, .int .i64 mem, .int .i64 al] 47))
  have hno : ¬ Seg.May ⟨ty, fl, off, ad, sz, mem, al⟩ size → false = r := fun h => by
    cases r
    · rfl
    · exact absurd (hmay.1 rfl) h
  have hyes : Seg.May ⟨ty, fl, off, ad, sz, mem, al⟩ size → true = r := fun h => (hmay.2 h).symm
  have HNO := Lib.hid hno
  have HYES := Lib.hid hyes
  clear hno hyes hmay hr hs hz
  by_cases f1 : 0 ≤ fl
  case neg =>
    have HV := Lib.hid (HNO.out (fun h => f1 h.fl.1))
    go_enter Tryd.func30, Tryd.ntmps30
    go_wp2_with (go_at_call 29; refine (HIN.out _ _).mono ?_; rintro e w' ⟨rfl, rfl⟩)
    go_ret
    exact ⟨congrArg (fun r => Ending.returned (.bool r)) HV.out, HB.out⟩
  by_cases f2 : fl ≤ 7
  case neg =>
    have HV := Lib.hid (HNO.out (fun h => f2 h.fl.2))
    go_enter Tryd.func30, Tryd.ntmps30
    go_wp2_with (go_at_call 29; refine (HIN.out _ _).mono ?_; rintro e w' ⟨rfl, rfl⟩)
    go_ret
    exact ⟨congrArg (fun r => Ending.returned (.bool r)) HV.out, HB.out⟩
  by_cases t1 : 0 ≤ ty
  case neg =>
    have HV := Lib.hid (HNO.out (fun h => t1 h.ty.1))
    go_enter Tryd.func30, Tryd.ntmps30
    go_wp2_with (go_at_call 29; refine (HIN.out _ _).mono ?_; rintro e w' ⟨rfl, rfl⟩)
    go_ret
    exact ⟨congrArg (fun r => Ending.returned (.bool r)) HV.out, HB.out⟩
  by_cases t2 : ty ≤ 1073741824
  case neg =>
    have HV := Lib.hid (HNO.out (fun h => t2 h.ty.2))
    go_enter Tryd.func30, Tryd.ntmps30
    go_wp2_with (go_at_call 29; refine (HIN.out _ _).mono ?_; rintro e w' ⟨rfl, rfl⟩)
    go_ret
    exact ⟨congrArg (fun r => Ending.returned (.bool r)) HV.out, HB.out⟩
  by_cases uoff : 0 ≤ off ∧ off ≤ 1099511627776
  case neg =>
    have hu : upto 1099511627776 off = false := by unfold upto; simp; omega
    have HV := Lib.hid (HNO.out (fun h => uoff h.off))
    go_enter Tryd.func30, Tryd.ntmps30
    go_wp2_with (go_at_call 29; refine (HIN.out _ _).mono ?_; rintro e w' ⟨rfl, rfl⟩)
    go_ret
    exact ⟨congrArg (fun r => Ending.returned (.bool r)) HV.out, HB.out⟩
  have hoff : upto 1099511627776 off = true := upto_iff.2 uoff
  by_cases uad : 0 ≤ ad ∧ ad ≤ 1099511627776
  case neg =>
    have hu : upto 1099511627776 ad = false := by unfold upto; simp; omega
    have HV := Lib.hid (HNO.out (fun h => uad h.ad))
    go_enter Tryd.func30, Tryd.ntmps30
    go_wp2_with (go_at_call 29; refine (HIN.out _ _).mono ?_; rintro e w' ⟨rfl, rfl⟩)
    go_ret
    exact ⟨congrArg (fun r => Ending.returned (.bool r)) HV.out, HB.out⟩
  have had : upto 1099511627776 ad = true := upto_iff.2 uad
  by_cases usz : 0 ≤ sz ∧ sz ≤ 1099511627776
  case neg =>
    have hu : upto 1099511627776 sz = false := by unfold upto; simp; omega
    have HV := Lib.hid (HNO.out (fun h => usz h.sz))
    go_enter Tryd.func30, Tryd.ntmps30
    go_wp2_with (go_at_call 29; refine (HIN.out _ _).mono ?_; rintro e w' ⟨rfl, rfl⟩)
    go_ret
    exact ⟨congrArg (fun r => Ending.returned (.bool r)) HV.out, HB.out⟩
  have hsz : upto 1099511627776 sz = true := upto_iff.2 usz
  by_cases umem : 0 ≤ mem ∧ mem ≤ 1099511627776
  case neg =>
    have hu : upto 1099511627776 mem = false := by unfold upto; simp; omega
    have HV := Lib.hid (HNO.out (fun h => umem h.mem))
    go_enter Tryd.func30, Tryd.ntmps30
    go_wp2_with (go_at_call 29; refine (HIN.out _ _).mono ?_; rintro e w' ⟨rfl, rfl⟩)
    go_ret
    exact ⟨congrArg (fun r => Ending.returned (.bool r)) HV.out, HB.out⟩
  have hmem : upto 1099511627776 mem = true := upto_iff.2 umem
  by_cases ual : 0 ≤ al ∧ al ≤ 1099511627776
  case neg =>
    have hu : upto 1099511627776 al = false := by unfold upto; simp; omega
    have HV := Lib.hid (HNO.out (fun h => ual h.al))
    go_enter Tryd.func30, Tryd.ntmps30
    go_wp2_with (go_at_call 29; refine (HIN.out _ _).mono ?_; rintro e w' ⟨rfl, rfl⟩)
    go_ret
    exact ⟨congrArg (fun r => Ending.returned (.bool r)) HV.out, HB.out⟩
  have hal : upto 1099511627776 al = true := upto_iff.2 ual
  have hw1 : IntKind.i64.wrap (off + sz) = off + sz := IntWalk.i64_in _ (by omega)
  have hw2 : IntKind.i64.wrap (ad + mem) = ad + mem := IntWalk.i64_in _ (by omega)
  have hm1 := htm1 uad.1
  have hm2 := htm2 uoff.1
  clear htm1 htm2
  by_cases h12 : ty = 1 ∨ ty = 2
  case neg =>
    have HV := Lib.hid (HYES.out ⟨⟨t1, t2⟩, ⟨f1, f2⟩, uoff, uad, usz, umem, ual, fun h => absurd (.inl h) h12, fun h => absurd h h12⟩)
    have n1 : ¬ ty = 1 := fun h => h12 (.inl h)
    have n2 : ¬ ty = 2 := fun h => h12 (.inr h)
    have n10 : (ty == 1) = false := by simpa using n1
    have n20 : (ty == 2) = false := by simpa using n2
    have n11 : (ty != 1) = true := by simpa using n1
    have n21 : (ty != 2) = true := by simpa using n2
    clear h12
    go_enter Tryd.func30, Tryd.ntmps30
    go_wp2_with (go_at_call 29; refine (HIN.out _ _).mono ?_; rintro e w' ⟨rfl, rfl⟩)
    go_ret
    exact ⟨congrArg (fun r => Ending.returned (.bool r)) HV.out, HB.out⟩
  by_cases b1 : off + sz ≤ size
  case neg =>
    have HV := Lib.hid (HNO.out (fun h => b1 (h.both h12).1))
    rcases h12 with rfl | rfl
    all_goals
      go_enter Tryd.func30, Tryd.ntmps30
      go_wp2_with (go_at_call 29; refine (HIN.out _ _).mono ?_; rintro e w' ⟨rfl, rfl⟩)
      go_ret
      exact ⟨congrArg (fun r => Ending.returned (.bool r)) HV.out, HB.out⟩
  by_cases b2 : sz ≤ mem
  case neg =>
    have HV := Lib.hid (HNO.out (fun h => b2 (h.both h12).2.1))
    rcases h12 with rfl | rfl
    all_goals
      go_enter Tryd.func30, Tryd.ntmps30
      go_wp2_with (go_at_call 29; refine (HIN.out _ _).mono ?_; rintro e w' ⟨rfl, rfl⟩)
      go_ret
      exact ⟨congrArg (fun r => Ending.returned (.bool r)) HV.out, HB.out⟩
  by_cases b3 : ad + mem ≤ 262144
  case neg =>
    have HV := Lib.hid (HNO.out (fun h => b3 (h.both h12).2.2))
    rcases h12 with rfl | rfl
    all_goals
      go_enter Tryd.func30, Tryd.ntmps30
      go_wp2_with (go_at_call 29; refine (HIN.out _ _).mono ?_; rintro e w' ⟨rfl, rfl⟩)
      go_ret
      exact ⟨congrArg (fun r => Ending.returned (.bool r)) HV.out, HB.out⟩
  rcases h12 with rfl | rfl
  case inr =>
    have HV := Lib.hid (HYES.out ⟨⟨t1, t2⟩, ⟨f1, f2⟩, uoff, uad, usz, umem, ual, fun h => absurd (show (2 : Int) = 1 from h) (by decide), fun _ => ⟨b1, b2, b3⟩⟩)
    go_enter Tryd.func30, Tryd.ntmps30
    go_wp2_with (go_at_call 29; refine (HIN.out _ _).mono ?_; rintro e w' ⟨rfl, rfl⟩)
    go_ret
    exact ⟨congrArg (fun r => Ending.returned (.bool r)) HV.out, HB.out⟩
  by_cases b4 : 0 < mem
  case neg =>
    have HV := Lib.hid (HNO.out (fun h => b4 (h.load rfl).1))
    go_enter Tryd.func30, Tryd.ntmps30
    go_wp2_with (go_at_call 29; refine (HIN.out _ _).mono ?_; rintro e w' ⟨rfl, rfl⟩)
    go_ret
    exact ⟨congrArg (fun r => Ending.returned (.bool r)) HV.out, HB.out⟩
  by_cases b5 : al = 64
  case neg =>
    have HV := Lib.hid (HNO.out (fun h => b5 (h.load rfl).2.1))
    have b50 : (al == 64) = false := by simpa using b5
    go_enter Tryd.func30, Tryd.ntmps30
    go_wp2_with (go_at_call 29; refine (HIN.out _ _).mono ?_; rintro e w' ⟨rfl, rfl⟩)
    go_ret
    exact ⟨congrArg (fun r => Ending.returned (.bool r)) HV.out, HB.out⟩
  subst b5
  by_cases b6 : ad % 64 = off % 64
  case neg =>
    have HV := Lib.hid (HNO.out (fun h => b6 (h.load rfl).2.2))
    have b60 : (ad % 64 == off % 64) = false := by simpa using b6
    clear hm1 hm2 b6
    go_enter Tryd.func30, Tryd.ntmps30
    go_wp2_with (go_at_call 29; refine (HIN.out _ _).mono ?_; rintro e w' ⟨rfl, rfl⟩)
    go_ret
    exact ⟨congrArg (fun r => Ending.returned (.bool r)) HV.out, HB.out⟩
  have HV := Lib.hid (HYES.out ⟨⟨t1, t2⟩, ⟨f1, f2⟩, uoff, uad, usz, umem, ual, fun _ => ⟨b4, rfl, b6⟩, fun _ => ⟨b1, b2, b3⟩⟩)
  have b60 : (ad % 64 == off % 64) = true := by simpa using b6
  clear hm1 hm2 b6
  go_enter Tryd.func30, Tryd.ntmps30
  go_wp2_with (go_at_call 29; refine (HIN.out _ _).mono ?_; rintro e w' ⟨rfl, rfl⟩)
  go_ret
  exact ⟨congrArg (fun r => Ending.returned (.bool r)) HV.out, HB.out⟩
end Go.Proofs.YtakmmphjdkapeaaDoor
