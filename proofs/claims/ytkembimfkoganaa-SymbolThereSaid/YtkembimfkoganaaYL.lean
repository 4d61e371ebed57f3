/- Layer 10: what the laws share: awake, short. -/
import Derived.Test.YtkembimfkoganaaYA
import Derived.Test.YtkembimfkoganaaLaw
import Derived.Test.YtkembimfkoganaaBits
namespace Go.Proofs.Ytkembimfkoganaa
open Go.RowKit
set_option linter.unusedVariables false
set_option linter.unusedSimpArgs false

/-- A text of at most so many bytes. -/
def shortSY (s : ByteArray) (n : Nat) : ByteArray := if n < s.size then s.extract 0 n else s
theorem shortSY_size (s : ByteArray) (n : Nat) : (shortSY s n).size ≤ n := by
  unfold shortSY
  split
  · rw [extract_mkb, mkb_size, List.length_take]; omega
  · omega
theorem printf_hash : hashL (⟨#[112, 114, 105, 110, 116, 102]⟩ : ByteArray).data.toList = 125371814 := by decide +kernel

set_option maxHeartbeats 400000 in
theorem awakeY_any (w : World) : Calls Try.prog 7 #[] w fun e w' => e = .returned (.bool true) ∧ Below w.heap.size w w' := by
  have H := Lib.hid (fun v => hash_any ⟨#[112, 114, 105, 110, 116, 102]⟩ v (by decide))
  rw [printf_hash] at H
  go_enter Try.func7, Try.ntmps7
  go_wp2_with (go_at_call 11; refine (H.out _).mono ?_; rintro e w' ⟨rfl, hb⟩)
  go_ret
  exact ⟨rfl, hb⟩
set_option maxHeartbeats 400000 in
theorem shortY_any (s : ByteArray) (n : Nat) (w : World) (hs : s.size ≤ maxLen) (hn : n ≤ 1000) :
    Calls Try.prog 8 #[.string s, .int .i64 n] w fun e w' => e = .returned (.string (shortSY s n)) ∧ w = w' := by
  unfold maxLen at hs
  by_cases h : n < s.size
  · have e : shortSY s n = s.extract 0 n := by unfold shortSY; simp [h]
    rw [e]; clear e
    go_enter Try.func8, Try.ntmps8
    go_wp2
    go_ret
    exact ⟨rfl, rfl⟩
  · have e : shortSY s n = s := by unfold shortSY; simp [h]
    rw [e]; clear e
    go_enter Try.func8, Try.ntmps8
    go_wp2
    go_ret
    exact ⟨rfl, rfl⟩
end Go.Proofs.Ytkembimfkoganaa
