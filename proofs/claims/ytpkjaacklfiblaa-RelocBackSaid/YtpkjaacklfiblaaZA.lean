/- Package reloc: a relocation; what is put at its place, whether it asks, how it goes up; of the program and of the reference. -/
import Derived.Test.YtpkjaacklfiblaaOctE
import Derived.Test.YtpkjaacklfiblaaOpen
import Derived.Deep.RegionHeld3
import Derived.BigRegion
import Derived.Deep.CutRange
import Derived.Deep.CutBlock
import Derived.RegionTactic
import Derived.Deep.RegionLaw
namespace Go.Proofs.Ytpkjaacklfiblaa
open Go.RowKit
set_option linter.unusedVariables false
set_option linter.unusedSimpArgs false

/-- A relocation. -/
structure Rl where
  (p k s a : Int)
deriving DecidableEq
def Rl.cs (r : Rl) : Array Value := #[.int .i64 r.p, .int .i64 r.k, .int .i64 r.s, .int .i64 r.a]
/-- Its numbers are ints. -/
structure Rl.wf (r : Rl) : Prop where
  p : (Lit.int .i64 r.p).wf = true
  k : (Lit.int .i64 r.k).wf = true
  s : (Lit.int .i64 r.s).wf = true
  a : (Lit.int .i64 r.a).wf = true
/-- Does it ask for a symbol? -/
def Rl.asks (r : Rl) : Bool := r.k == 1 || r.k == 6 || r.k == 7
/-- Is there such a kind? -/
def Rl.known (r : Rl) : Bool := r.asks || r.k == 8
/-- What is put at its place. -/
def Rl.val (r : Rl) (b s : Int) : Int :=
  if r.k = 1 then IntKind.u64.wrap (IntKind.u64.wrap s + IntKind.u64.wrap r.a) else if r.k = 6 then IntKind.u64.wrap s else if r.k = 7 then IntKind.u64.wrap s else if r.k = 8 then IntKind.u64.wrap (IntKind.u64.wrap b + IntKind.u64.wrap r.a) else 0

set_option maxHeartbeats 800000 in
theorem value_any (r : Rl) (b s : Int) (w : World) :
    Calls Try.prog 10 #[.agg r.cs, .int .i64 b, .int .i64 s] w fun e w' => e = .returned (.tuple #[.int .u64 (r.val b s), .bool r.known]) ∧ Below w.heap.size w w' := by
  obtain ⟨p, k, y, a⟩ := r
  unfold Rl.cs
  simp only
  have hB := (Below.refl w.heap.size w).alloc (Nat.le_refl _) (.cells #[.int .i64 p, .int .i64 k, .int .i64 y, .int .i64 a] 23)
  have HB := Lib.hid hB
  clear hB
  by_cases h1 : k = 1
  · subst h1
    go_enter Try.func10, Try.ntmps10
    go_wp2
    go_ret2
    exact ⟨rfl, HB.out⟩
  · by_cases h6 : k = 6
    · subst h6
      go_enter Try.func10, Try.ntmps10
      go_wp2
      go_ret2
      exact ⟨rfl, HB.out⟩
    · by_cases h7 : k = 7
      · subst h7
        go_enter Try.func10, Try.ntmps10
        go_wp2
        go_ret2
        exact ⟨rfl, HB.out⟩
      · by_cases h8 : k = 8
        · subst h8
          go_enter Try.func10, Try.ntmps10
          go_wp2
          go_ret2
          exact ⟨rfl, HB.out⟩
        · have e : (⟨p, k, y, a⟩ : Rl).val b s = 0 ∧ (⟨p, k, y, a⟩ : Rl).known = false := by unfold Rl.val Rl.known Rl.asks; simp [h1, h6, h7, h8]
          rw [e.1, e.2]
          clear e
          go_enter Try.func10, Try.ntmps10
          go_wp2
          go_ret2
          exact ⟨rfl, HB.out⟩
set_option maxHeartbeats 800000 in
theorem rvalue_any (r : Rl) (b s : Int) (w : World) :
    Calls Try.prog 11 #[.agg r.cs, .int .i64 b, .int .i64 s] w fun e w' => e = .returned (.tuple #[.int .u64 (r.val b s), .bool r.known]) ∧ Below w.heap.size w w' := by
  obtain ⟨p, k, y, a⟩ := r
  unfold Rl.cs
  simp only
  have hB := (Below.refl w.heap.size w).alloc (Nat.le_refl _) (.cells #[.int .i64 p, .int .i64 k, .int .i64 y, .int .i64 a] 23)
  have HB := Lib.hid hB
  clear hB
  by_cases h1 : k = 1
  · subst h1
    go_enter Try.func11, Try.ntmps11
    go_wp2
    go_ret2
    exact ⟨rfl, HB.out⟩
  · by_cases h6 : k = 6
    · subst h6
      go_enter Try.func11, Try.ntmps11
      go_wp2
      go_ret2
      exact ⟨rfl, HB.out⟩
    · by_cases h7 : k = 7
      · subst h7
        go_enter Try.func11, Try.ntmps11
        go_wp2
        go_ret2
        exact ⟨rfl, HB.out⟩
      · by_cases h8 : k = 8
        · subst h8
          go_enter Try.func11, Try.ntmps11
          go_wp2
          go_ret2
          exact ⟨rfl, HB.out⟩
        · have e : (⟨p, k, y, a⟩ : Rl).val b s = 0 ∧ (⟨p, k, y, a⟩ : Rl).known = false := by unfold Rl.val Rl.known Rl.asks; simp [h1, h6, h7, h8]
          rw [e.1, e.2]
          clear e
          go_enter Try.func11, Try.ntmps11
          go_wp2
          go_ret2
          exact ⟨rfl, HB.out⟩

set_option maxHeartbeats 800000 in
theorem asks_any (r : Rl) (w : World) :
    Calls Try.prog 14 #[.agg r.cs] w fun e w' => e = .returned (.bool r.asks) ∧ Below w.heap.size w w' := by
  obtain ⟨p, k, y, a⟩ := r
  unfold Rl.cs
  simp only
  have HB := Lib.hid ((Below.refl w.heap.size w).alloc (Nat.le_refl _) (.cells #[.int .i64 p, .int .i64 k, .int .i64 y, .int .i64 a] 23))
  by_cases h1 : k = 1
  · subst h1
    go_enter Try.func14, Try.ntmps14
    go_wp2
    go_ret
    exact ⟨rfl, HB.out⟩
  · by_cases h6 : k = 6
    · subst h6
      go_enter Try.func14, Try.ntmps14
      go_wp2
      go_ret
      exact ⟨rfl, HB.out⟩
    · by_cases h7 : k = 7
      · subst h7
        go_enter Try.func14, Try.ntmps14
        go_wp2
        go_ret
        exact ⟨rfl, HB.out⟩
      · have e : (⟨p, k, y, a⟩ : Rl).asks = false := by unfold Rl.asks; simp [h1, h6, h7]
        rw [e]
        clear e
        go_enter Try.func14, Try.ntmps14
        go_wp2
        go_ret
        exact ⟨rfl, HB.out⟩
set_option maxHeartbeats 800000 in
theorem rasks_any (r : Rl) (w : World) :
    Calls Try.prog 15 #[.agg r.cs] w fun e w' => e = .returned (.bool r.asks) ∧ Below w.heap.size w w' := by
  obtain ⟨p, k, y, a⟩ := r
  unfold Rl.cs
  simp only
  have HB := Lib.hid ((Below.refl w.heap.size w).alloc (Nat.le_refl _) (.cells #[.int .i64 p, .int .i64 k, .int .i64 y, .int .i64 a] 23))
  by_cases h1 : k = 1
  · subst h1
    go_enter Try.func15, Try.ntmps15
    go_wp2
    go_ret
    exact ⟨rfl, HB.out⟩
  · by_cases h6 : k = 6
    · subst h6
      go_enter Try.func15, Try.ntmps15
      go_wp2
      go_ret
      exact ⟨rfl, HB.out⟩
    · by_cases h7 : k = 7
      · subst h7
        go_enter Try.func15, Try.ntmps15
        go_wp2
        go_ret
        exact ⟨rfl, HB.out⟩
      · go_enter Try.func15, Try.ntmps15
        go_wp2
        go_ret
        exact ⟨rfl, HB.out⟩
set_option maxHeartbeats 800000 in
theorem shift_any (r : Rl) (w : World) :
    Calls Try.prog 16 #[.agg r.cs] w fun e w' => e = .returned (.int .i64 (if r.known then 1 else 0)) ∧ Below w.heap.size w w' := by
  have HA := Lib.hid (fun v => asks_any r v)
  obtain ⟨p, k, y, a⟩ := r
  have hk : (⟨p, k, y, a⟩ : Rl).known = ((⟨p, k, y, a⟩ : Rl).asks || k == 8) := rfl
  rw [hk]
  clear hk
  obtain ⟨q, hq⟩ : ∃ q, (⟨p, k, y, a⟩ : Rl).asks = q := ⟨_, rfl⟩
  rw [hq] at HA ⊢
  clear hq
  unfold Rl.cs at HA ⊢
  simp only at HA ⊢
  obtain ⟨W, hW⟩ : ∃ W, w.alloc (.cells #[.int .i64 p, .int .i64 k, .int .i64 y, .int .i64 a] 23) = W := ⟨_, rfl⟩
  have hB : Below w.heap.size w W := by rw [← hW]; exact (Below.refl _ _).alloc (Nat.le_refl _) _
  have hK : Blk W w.heap.size 23 #[.int .i64 p, .int .i64 k, .int .i64 y, .int .i64 a] := by rw [← hW]; exact Blk.new _ _ _
  have c0 : W.cell? ⟨w.heap.size, 0, none⟩ = some (.int .i64 p) := hK.at_ 0 _ rfl
  have c1 : W.cell? ⟨w.heap.size, 1, none⟩ = some (.int .i64 k) := hK.at_ 1 _ rfl
  have c2 : W.cell? ⟨w.heap.size, 2, none⟩ = some (.int .i64 y) := hK.at_ 2 _ rfl
  have c3 : W.cell? ⟨w.heap.size, 3, none⟩ = some (.int .i64 a) := hK.at_ 3 _ rfl
  have HW := Lib.hid hW
  have HBK := Lib.hid (And.intro hB hK)
  clear hW hB hK
  cases q
  · by_cases h8 : k = 8
    · subst h8
      go_enter Try.func16, Try.ntmps16
      go_upto_region 1 with fail
      rw [HW.out]
      go_wp2_with (go_at_call 14; refine (HA.out _).mono ?_; rintro e v1 ⟨rfl, hb⟩; obtain ⟨hB, hK⟩ := HBK.out; have hB1 := hB.trans (hb.mono (Nat.le_of_lt hK.lt)); have d1 : v1.cell? ⟨w.heap.size, 1, none⟩ = some (.int .i64 8) := (hK.below hb hK.lt).at_ 1 _ rfl)
      go_ret
      exact ⟨rfl, hB1⟩
    · have e : (k == 8) = false := by simpa using h8
      rw [e]
      clear e
      go_enter Try.func16, Try.ntmps16
      go_upto_region 1 with fail
      rw [HW.out]
      go_wp2_with (go_at_call 14; refine (HA.out _).mono ?_; rintro e v1 ⟨rfl, hb⟩; obtain ⟨hB, hK⟩ := HBK.out; have hB1 := hB.trans (hb.mono (Nat.le_of_lt hK.lt)); have d1 : v1.cell? ⟨w.heap.size, 1, none⟩ = some (.int .i64 k) := (hK.below hb hK.lt).at_ 1 _ rfl)
      go_ret
      exact ⟨rfl, hB1⟩
  · go_enter Try.func16, Try.ntmps16
    go_upto_region 1 with fail
    rw [HW.out]
    go_wp2_with (go_at_call 14; refine (HA.out _).mono ?_; rintro e v1 ⟨rfl, hb⟩; obtain ⟨hB, hK⟩ := HBK.out; have hB1 := hB.trans (hb.mono (Nat.le_of_lt hK.lt)))
    go_ret
    exact ⟨rfl, hB1⟩

set_option maxHeartbeats 800000 in
theorem awakeZ_any (w : World) : Calls Try.prog 9 #[] w fun e w' => e = .returned (.bool true) ∧ Below w.heap.size w w' := by
  have H1 := Lib.hid (fun v => value_any ⟨0, 8, 0, 16⟩ 4096 0 v)
  have H2 := Lib.hid (fun v => value_any ⟨0, 1, 0, -1⟩ 0 70 v)
  rw [show (⟨0, 8, 0, 16⟩ : Rl).val 4096 0 = 4112 by decide +kernel, show (⟨0, 8, 0, 16⟩ : Rl).known = true from rfl] at H1
  rw [show (⟨0, 1, 0, -1⟩ : Rl).val 0 70 = 69 by decide +kernel, show (⟨0, 1, 0, -1⟩ : Rl).known = true from rfl] at H2
  unfold Rl.cs at H1 H2
  simp only at H1 H2
  have hbd1 : ∀ (w : World), (Instr.build 23 #[(1, .int .i64 8), (3, .int .i64 16)]).run Try.prog w = .ok (.agg #[.int .i64 0, .int .i64 8, .int .i64 0, .int .i64 16]) w := fun w => run_build w 23 _ _ (by kernel_rfl)
  have hbd2 : ∀ (w : World), (Instr.build 23 #[(1, .int .i64 1), (3, .int .i64 (-1))]).run Try.prog w = .ok (.agg #[.int .i64 0, .int .i64 1, .int .i64 0, .int .i64 (-1)]) w := fun w => run_build w 23 _ _ (by kernel_rfl)
  go_enter Try.func9, Try.ntmps9
  go_wp2_with (first
    | (go_at_call 10; with_reducible refine (H1.out _).mono ?_; rintro e w1 ⟨rfl, hb1⟩)
    | (go_at_call 10; with_reducible refine (H2.out _).mono ?_; rintro e w2 ⟨rfl, hb2⟩))
  go_ret
  exact ⟨rfl, hb1.trans (hb2.mono hb1.size)⟩
end Go.Proofs.Ytpkjaacklfiblaa
