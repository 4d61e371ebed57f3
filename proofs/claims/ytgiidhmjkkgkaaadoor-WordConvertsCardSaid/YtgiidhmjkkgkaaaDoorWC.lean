/- Package word: bits of numbers with a point, ends of kinds, withPoint. -/
import Derived.Test.YtgiidhmjkkgkaaaDoorWB
import Derived.Test.YtgiidhmjkkgkaaaDoorWG
import Derived.Laws.Externs
import GoSem.Extern.MathFloatBits
namespace Go.Proofs.YtgiidhmjkkgkaaaDoor
open Go.RowKit
set_option linter.unusedVariables false
set_option linter.unusedSimpArgs false

@[go_sem] theorem call_frombits (n : Int) (w : World) : (callFunc 35 #[.int .u64 n]).run Tryd.prog w = .ok (.value (.float .f64 n.toNat)) w := by
  rw [run_callFunc_extern (e := Extern.MathFloatBits.float64frombits) Tryd.func35 (by kernel_rfl) (by kernel_rfl) (by kernel_rfl) (by kernel_rfl)]
  rfl
@[go_sem] theorem call_bits (n : Nat) (w : World) : (callFunc 32 #[.float .f64 n]).run Tryd.prog w = .ok (.value (.int .u64 n)) w := by
  rw [run_callFunc_extern (e := Extern.MathFloatBits.float64bits) Tryd.func32 (by kernel_rfl) (by kernel_rfl) (by kernel_rfl) (by kernel_rfl)]
  rfl

/-- The number of a word of a kind without a point. -/
def valZ (k n : Int) : Int := if 5 ≤ k ∧ k ≤ 8 ∧ 9223372036854775808 ≤ n then n - 18446744073709551616 else n
/-- The least and the greatest number of a kind without a point. -/
def loZ (k : Int) : Int := if k = 5 then -128 else if k = 6 then -32768 else if k = 7 then -2147483648 else if k = 8 then -9223372036854775808 else 0
def hiZ (k : Int) : Int := if k = 1 then 255 else if k = 2 then 65535 else if k = 3 then 4294967295 else if k = 4 then 18446744073709551615 else if k = 5 then 127 else if k = 6 then 32767 else if k = 7 then 2147483647 else if k = 8 then 9223372036854775807 else 0
/-- The number of the kind that is nearest. -/
def inZ (k v : Int) : Int := if v < loZ k then loZ k else if hiZ k < v then hiZ k else v
/-- A number as 64 bits. -/
def wordZ (v : Int) : Int := v % 18446744073709551616

theorem isnan_any (b : Nat) (w : World) (hb : b < 18446744073709551616) :
    Calls Tryd.prog 42 #[.float .f64 b] w fun e w' => e = .returned (.bool (Flt.nanB b)) ∧ w = w' := by
  have e : (Ieee.double.order b b != some .eq) = Flt.nanB b := by
    rw [Flt.order_eq hb hb]
    cases Flt.nanB b <;> simp [compare, compareOfLessAndEq]
  rw [← e]; clear e
  go_enter Tryd.func42, Tryd.ntmps42
  go_wp2
  go_ret
  exact ⟨rfl, rfl⟩

set_option maxHeartbeats 800000 in
theorem withpt_any (k n : Int) (w : World) (hk : (Lit.int .i64 k).wf = true) (hn : (Lit.int .u64 n).wf = true) :
    Calls Tryd.prog 33 #[.int .i64 k, .int .u64 n] w fun e w' => e = .returned (.float .f64 (Flt.fl (valZ k n))) ∧ w = w' := by
  have hs := signed_any k w hk
  obtain ⟨n0, n1⟩ := u64_range hn
  by_cases hsg : 5 ≤ k ∧ k ≤ 8
  · have e : sgn k = true := by unfold sgn; simp [hsg]
    rw [e] at hs
    have HS := Lib.hid hs
    clear hs e
    have ev : wrap64 n = valZ k n := by unfold wrap64 valZ; split <;> omega
    have hv : floatOfInt .f64 (valZ k n) = Flt.fl (valZ k n) := Flt.floatOfInt_eq (by unfold valZ; split <;> omega) (by unfold valZ; split <;> omega)
    generalize valZ k n = v at *
    generalize Flt.fl v = f at *
    go_enter Tryd.func33, Tryd.ntmps33
    go_wp2_with (go_at_call 16; refine HS.out.mono ?_; rintro e w' ⟨rfl, rfl⟩)
    go_ret
    exact ⟨rfl, rfl⟩
  · have e : sgn k = false := by unfold sgn; simp; omega
    rw [e] at hs
    have HS := Lib.hid hs
    clear hs e
    have ev : valZ k n = n := by unfold valZ; rw [if_neg (by omega)]
    rw [ev]; clear ev
    have hv : floatOfInt .f64 n = Flt.fl n := Flt.floatOfInt_eq (by omega) (by omega)
    generalize Flt.fl n = f at *
    go_enter Tryd.func33, Tryd.ntmps33
    go_wp2_with (go_at_call 16; refine HS.out.mono ?_; rintro e w' ⟨rfl, rfl⟩)
    go_ret
    exact ⟨rfl, rfl⟩

set_option maxHeartbeats 800000 in
theorem ends_any (k : Int) (w : World) (hk : (Lit.int .i64 k).wf = true) (hT : Tab w) (hk1 : 1 ≤ k) (hk8 : k ≤ 8) :
    Calls Tryd.prog 48 #[.int .i64 k] w fun e w' => e = .returned (.tuple #[.int .u64 (wordZ (loZ k)), .int .u64 (wordZ (hiZ k))]) ∧ w = w' := by
  have HW := Lib.hid (width_any k w hk hT)
  have HS := Lib.hid (signed_any k w hk)
  have HC := Lib.hid (clip_any k 18446744073709551615 w hk (by decide) hT)
  clear hT
  rcases kinds k with rfl | rfl | rfl | rfl | rfl | rfl | rfl | rfl | rfl | hout
  case inr.inr.inr.inr.inr.inr.inr.inr.inl => omega
  case inr.inr.inr.inr.inr.inr.inr.inr.inr => omega
  all_goals
    simp [wid] at HW
    simp [sgn] at HS
    simp [clipS] at HC
    simp [wordZ, loZ, hiZ]
    go_enter Tryd.func48, Tryd.ntmps48
    go_wp2_with (first
      | (go_at_call 14; refine HW.out.mono ?_; rintro e w' ⟨rfl, rfl⟩)
      | (go_at_call 16; refine HS.out.mono ?_; rintro e w' ⟨rfl, rfl⟩)
      | (go_at_call 18; refine HC.out.mono ?_; rintro e w' ⟨rfl, rfl⟩))
    go_ret2
    exact ⟨rfl, rfl⟩
end Go.Proofs.YtgiidhmjkkgkaaaDoor
