/- Package region: Check; the reference's Same; the law's small and awake. -/
import Derived.Test.YtkfkaafddfedjaaUQ
namespace Go.Proofs.Ytkfkaafddfedjaa
open Go.RowKit Go.ChangeShapes Go.WideShapes Go.Deep
set_option linter.unusedVariables false
set_option linter.unusedSimpArgs false



/-- A change: Kind, From, To, Perm, In, Region. -/
structure OpU where
  kd : Int
  f : Int
  t : Int
  p : Int
  inn : Bool
  r : Rg
def OpU.cs (o : OpU) : Array Value := #[.int .i64 o.kd, .int .i64 o.f, .int .i64 o.t, .int .i64 o.p, .bool o.inn, .int .i64 o.r.f, .int .i64 o.r.t, .int .i64 o.r.p, .int .i64 o.r.k, .int .i64 o.r.fl, .int .i64 o.r.pg]
structure OpU.Wf (o : OpU) : Prop where
  kd : (Lit.int .i64 o.kd).wf = true
  f : (Lit.int .i64 o.f).wf = true
  t : (Lit.int .i64 o.t).wf = true
  p : (Lit.int .i64 o.p).wf = true
  r : o.r.Wf
def OpU.small (o : OpU) : OpU := if o.inn then ⟨o.kd, o.f % 64, o.t % 64, o.p % 8, true, { o.r with f := o.r.f % 64, t := o.r.t % 64 }⟩ else o
theorem i64_and63U (n : Int) : bits .and .i64 n 63 = n % 64 := i64_and_mask n 6 63 (by omega) (by decide)
theorem i64_and7U (n : Int) : bits .and .i64 n 7 = n % 8 := i64_and_mask n 3 7 (by omega) (by decide)
theorem OpU.Wf.small {o : OpU} (h : o.Wf) : o.small.Wf := by
  unfold OpU.small
  split
  · obtain ⟨h1, h2, h3, h4, ⟨r0, r1, r2, r3, r4, r5⟩⟩ := h
    refine ⟨h1, ?_, ?_, ?_, ⟨?_, ?_, r2, r3, r4, r5⟩⟩
    · exact wf64 (by show _ ≤ o.f % 64; omega) (by show o.f % 64 ≤ _; omega)
    · exact wf64 (by show _ ≤ o.t % 64; omega) (by show o.t % 64 ≤ _; omega)
    · exact wf64 (by show _ ≤ o.p % 8; omega) (by show o.p % 8 ≤ _; omega)
    · exact wf64 (by show _ ≤ o.r.f % 64; omega) (by show o.r.f % 64 ≤ _; omega)
    · exact wf64 (by show _ ≤ o.r.t % 64; omega) (by show o.r.t % 64 ≤ _; omega)
  · exact h
set_option maxRecDepth 100000 in
set_option maxHeartbeats 3200000 in
theorem small_any (o : OpU) (w : World) : Calls Try.prog 5 #[.agg o.cs] w fun e w' => e = .returned (.agg o.small.cs) ∧ Below w.heap.size w w' := by
  obtain ⟨kd, f, t, p, inn, ⟨rf, rt, rp, rk, rfl', rpg⟩⟩ := o
  cases inn with
  | false =>
    have e : (OpU.small ⟨kd, f, t, p, false, ⟨rf, rt, rp, rk, rfl', rpg⟩⟩).cs = #[.int .i64 kd, .int .i64 f, .int .i64 t, .int .i64 p, .bool false, .int .i64 rf, .int .i64 rt, .int .i64 rp, .int .i64 rk, .int .i64 rfl', .int .i64 rpg] := rfl
    rw [e]
    unfold OpU.cs
    simp only
    have HB := Lib.hid (((Below.refl w.heap.size w).alloc (Nat.le_refl _) (.cells #[.int .i64 kd, .int .i64 f, .int .i64 t, .int .i64 p, .bool false, .int .i64 rf, .int .i64 rt, .int .i64 rp, .int .i64 rk, .int .i64 rfl', .int .i64 rpg] 31)).alloc (by simp) (.cells #[.int .i64 kd, .int .i64 f, .int .i64 t, .int .i64 p, .bool false, .int .i64 rf, .int .i64 rt, .int .i64 rp, .int .i64 rk, .int .i64 rfl', .int .i64 rpg] 31))
    clear e
    go_enter Try.func5, Try.ntmps5
    go_wp2
    exact bodyPost_ret (results_cell_row rfl _ _ (w.heap.size + 1) 31 _ (0, 0) _ rfl (by have := heap_alloc_new (w.alloc (.cells #[.int .i64 kd, .int .i64 f, .int .i64 t, .int .i64 p, .bool false, .int .i64 rf, .int .i64 rt, .int .i64 rp, .int .i64 rk, .int .i64 rfl', .int .i64 rpg] 31)) (.cells #[.int .i64 kd, .int .i64 f, .int .i64 t, .int .i64 p, .bool false, .int .i64 rf, .int .i64 rt, .int .i64 rp, .int .i64 rk, .int .i64 rfl', .int .i64 rpg] 31); simpa using this) Try.underlying31 rfl (by kernel_rfl)) rfl ⟨rfl, HB.out⟩
  | true =>
    have e : (OpU.small ⟨kd, f, t, p, true, ⟨rf, rt, rp, rk, rfl', rpg⟩⟩).cs = #[.int .i64 kd, .int .i64 (f % 64), .int .i64 (t % 64), .int .i64 (p % 8), .bool true, .int .i64 (rf % 64), .int .i64 (rt % 64), .int .i64 rp, .int .i64 rk, .int .i64 rfl', .int .i64 rpg] := rfl
    rw [e]
    unfold OpU.cs
    simp only
    have a1 := i64_and63U f
    have a2 := i64_and63U t
    have a3 := i64_and7U p
    have a4 := i64_and63U rf
    have a5 := i64_and63U rt
    clear e
    generalize f % 64 = f9 at *
    generalize t % 64 = t9 at *
    generalize p % 8 = p9 at *
    generalize rf % 64 = rf9 at *
    generalize rt % 64 = rt9 at *
    have HB := Lib.hid (((Below.refl w.heap.size w).alloc (Nat.le_refl _) (.cells #[.int .i64 kd, .int .i64 f9, .int .i64 t9, .int .i64 p9, .bool true, .int .i64 rf9, .int .i64 rt9, .int .i64 rp, .int .i64 rk, .int .i64 rfl', .int .i64 rpg] 31)).alloc (by simp) (.cells #[.int .i64 kd, .int .i64 f9, .int .i64 t9, .int .i64 p9, .bool true, .int .i64 rf9, .int .i64 rt9, .int .i64 rp, .int .i64 rk, .int .i64 rfl', .int .i64 rpg] 31))
    go_enter Try.func5, Try.ntmps5
    go_wp2
    exact bodyPost_ret (results_cell_row rfl _ _ (w.heap.size + 1) 31 _ (0, 0) _ rfl (by have := heap_alloc_new (w.alloc (.cells #[.int .i64 kd, .int .i64 f9, .int .i64 t9, .int .i64 p9, .bool true, .int .i64 rf9, .int .i64 rt9, .int .i64 rp, .int .i64 rk, .int .i64 rfl', .int .i64 rpg] 31)) (.cells #[.int .i64 kd, .int .i64 f9, .int .i64 t9, .int .i64 p9, .bool true, .int .i64 rf9, .int .i64 rt9, .int .i64 rp, .int .i64 rk, .int .i64 rfl', .int .i64 rpg] 31); simpa using this) Try.underlying31 rfl (by kernel_rfl)) rfl ⟨rfl, HB.out⟩
end Go.Proofs.Ytkfkaafddfedjaa
