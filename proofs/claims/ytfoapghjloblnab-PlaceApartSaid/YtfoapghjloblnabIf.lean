/- Package place: liked. -/
import Derived.Test.YtfoapghjloblnabIe
namespace Go.Proofs.Ytfoapghjloblnab
open Go.RowKit Go.ChangeShapes Go.WideShapes Go.Deep
set_option linter.unusedVariables false
set_option linter.unusedSimpArgs false

theorem belowD {n : Nat} {w w' : World} (h : Below n w w') (q : Nat) : Below n w (w'.drewN q) := by
  induction q with
  | zero => rw [World.drewN_zero]; exact h
  | succ q ih => exact ih.drew
/-- A room that may be. -/
def BndI (low high : Int) : Prop := 0 ≤ low ∧ low ≤ high ∧ high ≤ 1099511627776 ∧ low % 64 = 0 ∧ high % 64 = 0
/-- A place that is liked, and may be in the room. -/
def likeR (low high : Int) (x : Int × Int) : Bool := decide (x.2 ≠ 0) && decide (x.2 % 64 = 0) && inn (x.2 - low) (rndP x.1) (high - low)
theorem thing_bounds {x : Int × Int} (h : thingP x = true) : 1 ≤ x.1 ∧ x.1 ≤ 1099511627776 ∧ 0 ≤ x.2 ∧ x.2 ≤ 1099511627776 := by
  unfold thingP at h
  simp only [Bool.and_eq_true, decide_eq_true_eq, and_assoc] at h
  exact h
theorem wf_I {n : Int} (h0 : -4611686018427387904 ≤ n) (h1 : n ≤ 4611686018427387904) : (Lit.int .i64 n).wf = true := WalkArith.wf_i64 (by omega)

set_option maxRecDepth 100000 in
set_option maxHeartbeats 3200000 in
theorem liked_any (rb : Nat) (low high : Int) (cs : Array Value) (x : Int × Int) (w : World) (h : Blk w rb 42 cs) (hc0 : cs[0]? = some (.int .i64 low)) (hc1 : cs[1]? = some (.int .i64 high)) (hb : BndI low high) (hx : thingP x = true) :
    Calls Try.prog 14 #[.pointer (some ⟨rb, 0, none⟩), .agg #[.int .i64 x.1, .int .i64 x.2]] w fun e w' => e = .returned (.bool (likeR low high x)) ∧ Below w.heap.size w w' := by
  obtain ⟨b1, b2, b3, b4, b5⟩ := hb
  obtain ⟨x1, x2⟩ := x
  obtain ⟨t1, t2, t3, t4⟩ := thing_bounds hx
  replace t1 : 1 ≤ x1 := t1
  replace t2 : x1 ≤ 1099511627776 := t2
  replace t3 : 0 ≤ x2 := t3
  replace t4 : x2 ≤ 1099511627776 := t4
  have hr := rndP_pos t1 t2
  have HB := Lib.hid (show Below w.heap.size w (w.alloc (.cells #[.int .i64 x1, .int .i64 x2] 27)) from (Below.refl _ w).alloc (Nat.le_refl _) _)
  have hN := Blk.new w 27 #[.int .i64 x1, .int .i64 x2]
  have hh := h.below HB.out h.lt
  obtain ⟨W, hW⟩ : ∃ W, w.alloc (.cells #[.int .i64 x1, .int .i64 x2] 27) = W := ⟨_, rfl⟩
  have c0 := hN.cell 0
  have c1 := hN.cell 1
  have x3 := (hh.cell 0).trans hc0
  have x4 := (hh.cell 1).trans hc1
  rw [hW] at HB c0 c1 x3 x4
  have HW := Lib.hid hW
  have HL := Lib.hid (show likeR low high (x1, x2) = (decide (x2 ≠ 0) && decide (x2 % 64 = 0) && inn (x2 - low) (rndP x1) (high - low)) from rfl)
  have HRO := Lib.hid (fun v => pround_any x1 v (wf_I (by omega) (by omega)))
  have HWI := Lib.hid (fun v => within_any (x2 - low) (rndP x1) (high - low) v (wf_I (by omega) (by omega)) (wf_I (by omega) (by omega)) (by omega))
  obtain ⟨rv, hrv⟩ : ∃ rv, likeR low high (x1, x2) = rv := ⟨_, rfl⟩
  show Calls Try.prog 14 #[.pointer (some ⟨rb, 0, none⟩), .agg #[.int .i64 x1, .int .i64 x2]] w fun e w' => e = .returned (.bool (likeR low high (x1, x2))) ∧ Below w.heap.size w w'
  rw [hrv] at HL ⊢
  clear hN hh h hW hrv hc0 hc1
  have e3 : Int.tmod x2 64 = x2 % 64 := Int.tmod_eq_emod_of_nonneg t3
  by_cases h0 : x2 = 0
  · obtain rfl : rv = false := by rw [HL.out, h0]; rfl
    subst h0
    go_enter Try.func14, Try.ntmps14
    go_upto_region 1 with fail
    rw [HW.out]
    go_quiet (fail)
    go_wp2_with fail
    go_ret
    exact ⟨rfl, belowD HB.out _⟩
  · have h0b : (x2 == 0) = false := by simpa using h0
    have h0c : (x2 != 0) = true := by simpa using h0
    by_cases h1 : x2 % 64 = 0
    · have hsub1 : IntKind.i64.wrap (x2 - low) = x2 - low := IntWalk.i64_in _ (by omega)
      have hsub2 : IntKind.i64.wrap (high - low) = high - low := IntWalk.i64_in _ (by omega)
      obtain rfl : rv = inn (x2 - low) (rndP x1) (high - low) := by rw [HL.out]; simp [h0, h1]
      have h1b : (x2 % 64 == 0) = true := by simpa using h1
      clear t1 t2 t3 t4 b1 b2 b3 b4 b5 hr
      go_enter Try.func14, Try.ntmps14
      go_upto_region 1 with fail
      rw [HW.out]
      go_quiet (first
        | (go_at_call 13; exact Calls.quiet_of_same (HRO.out _))
        | (go_at_call 23; exact Calls.quiet_of_same ((HWI.out _).mono fun _ _ ⟨a, b⟩ => ⟨a, b.symm⟩)))
      go_wp2_with fail
      go_ret
      exact ⟨rfl, belowD HB.out _⟩
    · obtain rfl : rv = false := by rw [HL.out]; simp [h1]
      have h1b : (x2 % 64 == 0) = false := by simpa using h1
      obtain ⟨y, hy⟩ : ∃ y, x2 % 64 = y := ⟨_, rfl⟩
      rw [hy] at e3 h1b
      clear t1 t2 t3 t4 b1 b2 b3 b4 b5 hr h1 hy
      go_enter Try.func14, Try.ntmps14
      go_upto_region 1 with fail
      rw [HW.out]
      go_quiet (fail)
      go_wp2_with fail
      go_ret
      exact ⟨rfl, belowD HB.out _⟩
end Go.Proofs.Ytfoapghjloblnab
