/- Package word: Width, Signed, Clip. -/
import Derived.Test.YtbidlabhekiijaaDoorRows
import Derived.WalkKit
import Derived.BigQuiet
import Derived.Deep.QuietTactic
import Derived.WalkLawsBesides
import Derived.WalkSpells
import Derived.OpenShut
import Derived.Lib.Hide
import Derived.Below
import Derived.ChangeAt
namespace Go.Proofs.YtbidlabhekiijaaDoor
open Go.RowKit
set_option linter.unusedVariables false

/-- How many bytes words of a kind have. -/
def wid (k : Int) : Int := if k = 1 ∨ k = 5 then 1 else if k = 2 ∨ k = 6 then 2 else if k = 3 ∨ k = 7 then 4 else if k = 4 ∨ k = 8 ∨ k = 9 then 8 else 0
/-- Is the kind one with a sign, without a point? -/
def sgn (k : Int) : Bool := decide (5 ≤ k) && decide (k ≤ 8)
/-- The word of a kind that has the same lowest bytes. -/
def clipS (k n : Int) : Int :=
  if k = 1 then n % 256 else if k = 2 then n % 65536 else if k = 3 then n % 4294967296
  else if k = 4 ∨ k = 8 ∨ k = 9 then n
  else if k = 5 then (if n % 256 < 128 then n % 256 else n % 256 + 18446744073709551360)
  else if k = 6 then (if n % 65536 < 32768 then n % 65536 else n % 65536 + 18446744073709486080)
  else if k = 7 then (if n % 4294967296 < 2147483648 then n % 4294967296 else n % 4294967296 + 18446744069414584320)
  else 0

theorem kinds (k : Int) : k = 1 ∨ k = 2 ∨ k = 3 ∨ k = 4 ∨ k = 5 ∨ k = 6 ∨ k = 7 ∨ k = 8 ∨ k = 9 ∨ (k < 1 ∨ 9 < k) := by omega

/-- The table of widths lies where it should. -/
def Tab (w : World) : Prop := ∀ i : Nat, i < 10 → w.cell? ⟨0, i, none⟩ = some (.int .i64 ([0, 1, 2, 4, 8, 1, 2, 4, 8, 8].getD i 0))

theorem cell_ltW {w : World} {a : Addr} {v : Value} (h : w.cell? a = some v) : a.block < w.heap.size := by
  rcases Nat.lt_or_ge a.block w.heap.size with h' | h'
  · exact h'
  · simp [World.cell?, Array.getElem?_eq_none h'] at h
theorem Tab.pos {w : World} (h : Tab w) : 0 < w.heap.size := cell_ltW (h 0 (by omega))
theorem Tab.below {w w' : World} (h : Tab w) {n : Nat} (hb : Below n w w') (hn : 0 < n) : Tab w' := by
  intro i hi
  rw [← h i hi]
  exact hb.cell hn

set_option maxHeartbeats 400000 in
theorem width_any (k : Int) (w : World) (hk : (Lit.int .i64 k).wf = true) (hT : Tab w) :
    Calls Tryd.prog 75 #[.int .i64 k] w fun e w' => e = .returned (.int .i64 (wid k)) ∧ w = w' := by
  rcases kinds k with rfl | rfl | rfl | rfl | rfl | rfl | rfl | rfl | rfl | hout
  case inr.inr.inr.inr.inr.inr.inr.inr.inr =>
    by_cases h0 : k = 0
    · subst h0
      have c := hT 0 (by decide)
      simp at c
      go_enter Tryd.func75, Tryd.ntmps75
      go_wp2
      go_ret
      exact ⟨rfl, rfl⟩
    · have e : wid k = 0 := by unfold wid; (repeat rw [if_neg (by omega)])
      rw [e]; clear e
      by_cases h1 : k < 0
      · go_enter Tryd.func75, Tryd.ntmps75
        go_wp2
        go_ret
        exact ⟨rfl, rfl⟩
      · have h2 : 10 ≤ k := by omega
        go_enter Tryd.func75, Tryd.ntmps75
        go_wp2
        go_ret
        exact ⟨rfl, rfl⟩
  all_goals
    have c1 := hT 1 (by decide)
    have c2 := hT 2 (by decide)
    have c3 := hT 3 (by decide)
    have c4 := hT 4 (by decide)
    have c5 := hT 5 (by decide)
    have c6 := hT 6 (by decide)
    have c7 := hT 7 (by decide)
    have c8 := hT 8 (by decide)
    have c9 := hT 9 (by decide)
    simp at c1 c2 c3 c4 c5 c6 c7 c8 c9
    go_enter Tryd.func75, Tryd.ntmps75
    go_wp2
    go_ret
    exact ⟨rfl, rfl⟩

theorem signed_any (k : Int) (w : World) (hk : (Lit.int .i64 k).wf = true) :
    Calls Tryd.prog 79 #[.int .i64 k] w fun e w' => e = .returned (.bool (sgn k)) ∧ w = w' := by
  by_cases h1 : 5 ≤ k
  · have e : sgn k = decide (k ≤ 8) := by unfold sgn; simp [h1]
    rw [e]; clear e
    go_enter Tryd.func79, Tryd.ntmps79
    go_wp2
    go_ret
    exact ⟨rfl, rfl⟩
  · have e : sgn k = false := by unfold sgn; simp [h1]
    rw [e]; clear e
    go_enter Tryd.func79, Tryd.ntmps79
    go_wp2
    go_ret
    exact ⟨rfl, rfl⟩
end Go.Proofs.YtbidlabhekiijaaDoor
