/- The reference's one. -/
import Derived.Test.YtmknkdfdkanijaaVA
namespace Go.Proofs.Ytmknkdfdkanijaa
open Go.RowKit Go.ChangeShapes Go.WideShapes Go.Deep
set_option linter.unusedVariables false
set_option linter.unusedSimpArgs false

theorem oneR_iff {a b : Rg} : oneR a b ↔ a.t = b.f ∧ a.p = b.p ∧ a.k = b.k ∧ a.fl = b.fl ∧ b.pg = a.pgAt a.t := by
  unfold oneR Rg.part
  refine ⟨fun h => ?_, fun ⟨h0, h1, h2, h3, h4⟩ => Rg.ext h0.symm rfl h1.symm h2.symm h3.symm h4⟩
  have h0 := congrArg Rg.f h
  have h1 := congrArg Rg.p h
  have h2 := congrArg Rg.k h
  have h3 := congrArg Rg.fl h
  have h4 := congrArg Rg.pg h
  exact ⟨h0.symm, h1.symm, h2.symm, h3.symm, h4⟩
set_option maxRecDepth 100000 in
set_option maxHeartbeats 6400000 in
theorem rone_any (a b : Rg) (w : World) (ha : a.May) (hb : b.May) : Calls Try.prog 42 #[.agg a.cs, .agg b.cs] w fun e w' => e = .returned (.bool (decide (oneR a b))) ∧ Below w.heap.size w w' := by
  have h1 := ha.kind
  have h2 := hb.kind
  have h3 := ha.f
  have h4 := ha.ft
  have h5 := ha.t
  have hi := oneR_iff (a := a) (b := b)
  obtain ⟨X, hX⟩ : ∃ X, decide (oneR a b) = X := ⟨_, rfl⟩
  rw [hX]
  have HI := Lib.hid (show ∀ Y : Bool, (Y = true → a.t = b.f ∧ a.p = b.p ∧ a.k = b.k ∧ a.fl = b.fl ∧ b.pg = a.pgAt a.t) → (Y = false → ¬ (a.t = b.f ∧ a.p = b.p ∧ a.k = b.k ∧ a.fl = b.fl ∧ b.pg = a.pgAt a.t)) → Y = X from fun Y y1 y2 => by
    rw [← hX]
    cases Y with
    | true => exact (decide_eq_true (hi.2 (y1 rfl))).symm
    | false => exact (decide_eq_false fun h => y2 rfl (hi.1 h)).symm)
  obtain ⟨af, at', ap, ak, afl, apg⟩ := a
  obtain ⟨bf, bt, bp, bk, bfl, bpg⟩ := b
  unfold Rg.pgAt at HI
  unfold Rg.cs
  simp only at h1 h2 h3 h4 h5 HI ⊢
  have HB := Lib.hid (((Below.refl w.heap.size w).alloc (Nat.le_refl _) (.cells #[.int .i64 af, .int .i64 at', .int .i64 ap, .int .i64 ak, .int .i64 afl, .int .i64 apg] 29)).alloc (by simp) (.cells #[.int .i64 bf, .int .i64 bt, .int .i64 bp, .int .i64 bk, .int .i64 bfl, .int .i64 bpg] 29))
  clear hX hi ha hb
  by_cases c1 : at' = bf
  · by_cases c2 : ap = bp
    · by_cases c3 : ak = bk
      · by_cases c4 : afl = bfl
        · by_cases c5 : ak = 1
          · subst c1 c2 c3 c4 c5
            have hbd : (-9223372036854775808 ≤ apg + at' ∧ apg + at' ≤ 9223372036854775807) ∧ (-9223372036854775808 ≤ apg + at' - af ∧ apg + at' - af ≤ 9223372036854775807) := by omega
            have hpe : apg + at' - af = apg + (at' - af) := by omega
            by_cases c6 : bpg = apg + at' - af
            · have HV := Lib.hid (HI.out true (fun _ => ⟨rfl, rfl, rfl, rfl, by rw [if_pos rfl]; omega⟩) (fun h => by cases h))
              have v1 : wrap64 (apg + at') = apg + at' := IntWalk.wrap64_in _ hbd.1
              have v2 : wrap64 (apg + at' - af) = apg + at' - af := IntWalk.wrap64_in _ hbd.2
              have v3 : IntKind.i64.wrap (apg + at') = apg + at' := IntWalk.i64_in _ hbd.1
              have v4 : IntKind.i64.wrap (apg + at' - af) = apg + at' - af := IntWalk.i64_in _ hbd.2
              have c6' : (bpg == apg + at' - af) = true := by simpa using c6
              clear h1 h2 h3 h4 h5 hbd HI hpe
              go_enter Try.func42, Try.ntmps42
              go_wp2
              go_ret
              exact ⟨by rw [← HV.out]; simp [c6], (Below.refl _ _).alloc (Nat.le_refl _) _ |>.alloc (by simp) _⟩
            · have HV := Lib.hid (HI.out false (fun h => by cases h) (fun _ h => c6 (by have := h.2.2.2.2; rw [if_pos rfl] at this; omega)))
              have v1 : wrap64 (apg + at') = apg + at' := IntWalk.wrap64_in _ hbd.1
              have v2 : wrap64 (apg + at' - af) = apg + at' - af := IntWalk.wrap64_in _ hbd.2
              have v3 : IntKind.i64.wrap (apg + at') = apg + at' := IntWalk.i64_in _ hbd.1
              have v4 : IntKind.i64.wrap (apg + at' - af) = apg + at' - af := IntWalk.i64_in _ hbd.2
              have c6' : (bpg == apg + at' - af) = false := by simpa using c6
              clear h1 h2 h3 h4 h5 hbd HI hpe
              go_enter Try.func42, Try.ntmps42
              go_wp2
              go_ret
              exact ⟨by rw [← HV.out]; simp [c6], (Below.refl _ _).alloc (Nat.le_refl _) _ |>.alloc (by simp) _⟩
          · subst c1 c2 c3 c4
            have HV := Lib.hid (HI.out true (fun _ => ⟨rfl, rfl, rfl, rfl, by rw [if_neg c5]; omega⟩) (fun h => by cases h))
            have c5' : (ak == 1) = false := by simpa using c5
            clear h1 h2 h3 h4 h5 HI
            go_enter Try.func42, Try.ntmps42
            go_wp2
            go_ret
            exact ⟨by rw [← HV.out]; rfl, (Below.refl _ _).alloc (Nat.le_refl _) _ |>.alloc (by simp) _⟩
        · have HV := Lib.hid (HI.out false (fun h => by cases h) (fun _ h => c4 h.2.2.2.1))
          subst c1 c2 c3
          have c4' : (afl == bfl) = false := by simpa using c4
          clear h1 h2 h3 h4 h5 HI
          go_enter Try.func42, Try.ntmps42
          go_wp2
          go_ret
          exact ⟨by rw [← HV.out]; rfl, (Below.refl _ _).alloc (Nat.le_refl _) _ |>.alloc (by simp) _⟩
      · have HV := Lib.hid (HI.out false (fun h => by cases h) (fun _ h => c3 h.2.2.1))
        subst c1 c2
        have c3' : (ak == bk) = false := by simpa using c3
        clear h1 h2 h3 h4 h5 HI
        go_enter Try.func42, Try.ntmps42
        go_wp2
        go_ret
        exact ⟨by rw [← HV.out]; rfl, (Below.refl _ _).alloc (Nat.le_refl _) _ |>.alloc (by simp) _⟩
    · have HV := Lib.hid (HI.out false (fun h => by cases h) (fun _ h => c2 h.2.1))
      subst c1
      have c2' : (ap == bp) = false := by simpa using c2
      clear h1 h2 h3 h4 h5 HI
      go_enter Try.func42, Try.ntmps42
      go_wp2
      go_ret
      exact ⟨by rw [← HV.out]; rfl, (Below.refl _ _).alloc (Nat.le_refl _) _ |>.alloc (by simp) _⟩
  · have HV := Lib.hid (HI.out false (fun h => by cases h) (fun _ h => c1 h.1))
    have c1' : (at' == bf) = false := by simpa using c1
    clear h1 h2 h3 h4 h5 HI
    go_enter Try.func42, Try.ntmps42
    go_wp2
    go_ret
    exact ⟨by rw [← HV.out]; rfl, (Below.refl _ _).alloc (Nat.le_refl _) _ |>.alloc (by simp) _⟩
end Go.Proofs.Ytmknkdfdkanijaa
