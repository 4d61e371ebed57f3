/- Contracts of what the laws of layer 1 share: awake, short. -/
import Derived.Test.YtbojahbagfhpfaaOctG
import Derived.Test.YtbojahbagfhpfaaLaw
namespace Go.Proofs.Ytbojahbagfhpfaa
open Go.RowKit
set_option linter.unusedVariables false

set_option maxHeartbeats 400000 in
theorem awake_any (w : World) : Calls Try.prog 10 #[] w fun e w' => e = .returned (.bool true) ∧ Below w.heap.size w w' := by
  have p1 : mkb (putL (258 : Int).toNat (wide 2)) = ⟨#[2, 1]⟩ := rfl
  have hp := fun w => put_any 258 2 w (by decide) (by decide)
  rw [p1] at hp
  have g1 : getN ⟨#[2, 1]⟩ 0 2 = 258 := by decide +kernel
  have g2 : hol (ByteArray.size ⟨#[2, 1]⟩) 0 2 = true := by decide +kernel
  have hg := fun w => get_any ⟨#[2, 1]⟩ 0 2 w (by decide) (by decide) (by decide)
  rw [g1, g2] at hg
  have r1 : rndTo 65 64 = 128 := by decide +kernel
  have r2 : rndOk 65 64 = true := by decide +kernel
  have hr := fun w => round_any 65 64 w (by decide) (by decide)
  rw [r1, r2] at hr
  have HP := Lib.hid hp
  have HG := Lib.hid hg
  have HR := Lib.hid hr
  clear p1 g1 g2 r1 r2 hp hg hr
  have hB := Below.refl w.heap.size w
  go_enter Try.func10, Try.ntmps10
  go_wp2_with (first
    | (go_at_call 16; refine (HP.out _).mono ?_; rintro e wp ⟨rfl, hb⟩; replace hB := hB.trans (hb.mono hB.size); clear hb)
    | (go_at_call 12; refine (HG.out _).mono ?_; rintro e wg ⟨rfl, rfl⟩)
    | (go_at_call 22; refine (HR.out _).mono ?_; rintro e wr ⟨rfl, rfl⟩))
  go_ret
  exact ⟨rfl, hB⟩

/-- A text of at most so many bytes. -/
def shortS (s : ByteArray) (n : Nat) : ByteArray := if n < s.size then s.extract 0 n else s
theorem shortS_size (s : ByteArray) (n : Nat) : (shortS s n).size ≤ n := by
  unfold shortS
  split
  · rw [extract_mkb, mkb_size, List.length_take]; omega
  · omega

set_option maxHeartbeats 400000 in
theorem short_any (s : ByteArray) (n : Nat) (w : World) (hs : s.size ≤ maxLen) (hn : n ≤ 1000) :
    Calls Try.prog 11 #[.string s, .int .i64 n] w fun e w' => e = .returned (.string (shortS s n)) ∧ w = w' := by
  unfold maxLen at hs
  by_cases h : n < s.size
  · have e : shortS s n = s.extract 0 n := by unfold shortS; simp [h]
    rw [e]; clear e
    go_enter Try.func11, Try.ntmps11
    go_wp2
    go_ret
    exact ⟨rfl, rfl⟩
  · have e : shortS s n = s := by unfold shortS; simp [h]
    rw [e]; clear e
    go_enter Try.func11, Try.ntmps11
    go_wp2
    go_ret
    exact ⟨rfl, rfl⟩
end Go.Proofs.Ytbojahbagfhpfaa
