/- Package swap: with, its closures; Put, Get, Hold, Free. -/
import Derived.Test.YtibhebfkgjklpaaSA
import Derived.StillTailTactics
import Derived.Deep.RegionHeld3
namespace Go.Proofs.Ytibhebfkgjklpaa
open Go.RowKit
set_option linter.unusedVariables false

/-- What a slot that is asked for tells. -/
def askE (H : List Int) (s : Int) : Int := if 0 ≤ s ∧ s < H.length then (if H.getD s.toNat 0 = 0 then 13 else 0) else 14
theorem askE_zero {H : List Int} {s : Int} (h : askE H s = 0) : ∃ k : Nat, s = k ∧ ∃ hk : k < H.length, H[k] ≠ 0 := by
  unfold askE at h
  split at h
  · rename_i h1
    obtain ⟨k, rfl⟩ : ∃ k : Nat, s = k := ⟨s.toNat, by omega⟩
    have hk : k < H.length := by omega
    refine ⟨k, rfl, hk, fun h0 => ?_⟩
    simp [hk, h0] at h
  · cases h
theorem askE_in {H : List Int} {k : Nat} (hk : k < H.length) : askE H k = if H[k] = 0 then 13 else 0 := by
  unfold askE
  rw [if_pos ⟨by omega, by omega⟩]
  simp [hk]

set_option maxHeartbeats 400000 in
theorem with_nil (s : Int) (f : Value) (w : World) : Calls Try.prog 32 #[.pointer none, .int .i64 s, f] w fun e w' => e = .returned (.int .i64 1) ∧ w = w' := by
  go_enter Try.func32, Try.ntmps32
  go_wp2
  go_ret
  exact ⟨rfl, rfl⟩

set_option maxHeartbeats 400000 in
theorem with_far (q : Nat) (A : Option Addr) (n c : Nat) (w : World) (hc : w.cell? ⟨q, 2, none⟩ = some (.slice A n c)) (s : Int) (hs : s < 0 ∨ (n : Int) ≤ s) (f : Value) :
    Calls Try.prog 32 #[.pointer (some ⟨q, 0, none⟩), .int .i64 s, f] w fun e w' => e = .returned (.int .i64 14) ∧ w = w' := by
  by_cases h0 : s < 0
  · go_enter Try.func32, Try.ntmps32
    go_wp2
    go_ret
    exact ⟨rfl, rfl⟩
  · have h1 : (n : Int) ≤ s := by omega
    clear hs
    go_enter Try.func32, Try.ntmps32
    go_wp2
    go_ret
    exact ⟨rfl, rfl⟩

set_option maxHeartbeats 400000 in
theorem with_no {w : World} {p g q h : Nat} {X : Swp} (a : Ar w p g q h X) (s : Int) (f : Value) (r : Int) (hr : r = askE X.H s) (h0 : r ≠ 0) :
    Calls Try.prog 32 #[.pointer (some ⟨q, 0, none⟩), .int .i64 s, f] w fun e w' => e = .returned (.int .i64 r) ∧ w = w' := by
  have hc := a.head.at_ 2 _ rfl
  by_cases hin : 0 ≤ s ∧ s < X.H.length
  · obtain ⟨h1, h2⟩ := hin
    obtain ⟨k, rfl⟩ : ∃ k : Nat, s = k := ⟨s.toNat, by omega⟩
    have hk : k < X.H.length := by omega
    have c1 := a.row.at_ k _ (icells_at hk)
    rw [askE_in hk] at hr
    have hz : X.H[k] = 0 := by
      by_cases hz : X.H[k] = 0
      · exact hz
      · rw [if_neg hz] at hr; exact absurd hr h0
    rw [if_pos hz] at hr
    rw [hz] at c1
    subst hr
    have d2 : ¬ ((X.H.length : Int) ≤ (k : Int)) := by omega
    clear a hz h0 h2
    go_enter Try.func32, Try.ntmps32
    go_wp2
    go_ret
    exact ⟨rfl, rfl⟩
  · have e : askE X.H s = 14 := by unfold askE; rw [if_neg hin]
    rw [e] at hr
    subst hr
    exact with_far q _ _ _ w hc s (by omega) f

set_option maxHeartbeats 400000 in
theorem with_get {w : World} {p g q h : Nat} {X : Swp} (a : Ar w p g q h X) (k : Nat) (hk : k < X.H.length) (hx : X.H[k] ≠ 0) (b c d : Nat) (r : Int) (R : World → Prop)
    (hK : Hid (Calls Try.prog 33 #[.pointer (some ⟨b, 0, none⟩), .pointer (some ⟨c, 0, none⟩), .pointer (some ⟨d, 0, none⟩)] w fun e w' => e = .returned (.int .i64 r) ∧ R w')) :
    Calls Try.prog 32 #[.pointer (some ⟨q, 0, none⟩), .int .i64 k, .func (.func 33) #[] #[.pointer (some ⟨b, 0, none⟩), .pointer (some ⟨c, 0, none⟩), .pointer (some ⟨d, 0, none⟩)]] w fun e w' => e = .returned (.int .i64 r) ∧ R w' := by
  have hc := a.head.at_ 2 _ rfl
  have c1 := a.row.at_ k _ (icells_at hk)
  have hne : (X.H[k] == 0) = false := by simpa using hx
  generalize X.H[k] = x at *
  clear a hx
  go_enter Try.func32, Try.ntmps32
  go_wp2_with (go_at_call 33; refine hK.out.mono ?_; rintro e w' ⟨rfl, hR⟩)
  go_ret
  exact ⟨rfl, hR⟩
set_option maxHeartbeats 400000 in
theorem with_hold {w : World} {p g q h : Nat} {X : Swp} (a : Ar w p g q h X) (k : Nat) (hk : k < X.H.length) (hx : X.H[k] ≠ 0) (b c : Nat) (r : Int) (R : World → Prop)
    (hK : Hid (Calls Try.prog 35 #[.pointer (some ⟨b, 0, none⟩), .pointer (some ⟨c, 0, none⟩)] w fun e w' => e = .returned (.int .i64 r) ∧ R w')) :
    Calls Try.prog 32 #[.pointer (some ⟨q, 0, none⟩), .int .i64 k, .func (.func 35) #[] #[.pointer (some ⟨b, 0, none⟩), .pointer (some ⟨c, 0, none⟩)]] w fun e w' => e = .returned (.int .i64 r) ∧ R w' := by
  have hc := a.head.at_ 2 _ rfl
  have c1 := a.row.at_ k _ (icells_at hk)
  have hne : (X.H[k] == 0) = false := by simpa using hx
  generalize X.H[k] = x at *
  clear a hx
  go_enter Try.func32, Try.ntmps32
  go_wp2_with (go_at_call 35; refine hK.out.mono ?_; rintro e w' ⟨rfl, hR⟩)
  go_ret
  exact ⟨rfl, hR⟩

set_option maxHeartbeats 800000 in
theorem clo_hold {w : World} {p g q h : Nat} {X : Swp} (a : Ar w p g q h X) (k : Nat) (hk : k < X.H.length) (b c : Nat) (hb : w.cell? ⟨b, 0, none⟩ = some (.pointer (some ⟨q, 0, none⟩))) (hd : w.cell? ⟨c, 0, none⟩ = some (.int .i64 k)) :
    Calls Try.prog 35 #[.pointer (some ⟨b, 0, none⟩), .pointer (some ⟨c, 0, none⟩)] w fun e w' => e = .returned (.int .i64 0) ∧ ∃ n, w' = (w.drewN n).setCell ⟨h, k, none⟩ (.int .i64 (wrap64 (X.H[k] + 1))) := by
  have hc := a.head.at_ 2 _ rfl
  have c1 := a.row.at_ k _ (icells_at hk)
  have f1 := a.row.frozen k
  generalize X.H[k] = x at *
  clear a
  go_enter Try.func35, Try.ntmps35
  go_wp2
  go_region
  all_goals
    go_wp2
    go_ret
    exact ⟨rfl, 1, rfl⟩
set_option maxHeartbeats 400000 in
theorem with_free {w : World} {p g q h : Nat} {X : Swp} (a : Ar w p g q h X) (k : Nat) (hk : k < X.H.length) (hx : X.H[k] ≠ 0) (b c : Nat) (r : Int) (R : World → Prop)
    (hK : Hid (Calls Try.prog 36 #[.pointer (some ⟨b, 0, none⟩), .pointer (some ⟨c, 0, none⟩)] w fun e w' => e = .returned (.int .i64 r) ∧ R w')) :
    Calls Try.prog 32 #[.pointer (some ⟨q, 0, none⟩), .int .i64 k, .func (.func 36) #[] #[.pointer (some ⟨b, 0, none⟩), .pointer (some ⟨c, 0, none⟩)]] w fun e w' => e = .returned (.int .i64 r) ∧ R w' := by
  have hc := a.head.at_ 2 _ rfl
  have c1 := a.row.at_ k _ (icells_at hk)
  have hne : (X.H[k] == 0) = false := by simpa using hx
  generalize X.H[k] = x at *
  clear a hx
  go_enter Try.func32, Try.ntmps32
  go_wp2_with (go_at_call 36; refine hK.out.mono ?_; rintro e w' ⟨rfl, hR⟩)
  go_ret
  exact ⟨rfl, hR⟩

set_option maxHeartbeats 800000 in
theorem clo_free {w : World} {p g q h : Nat} {X : Swp} (a : Ar w p g q h X) (k : Nat) (hk : k < X.H.length) (b c : Nat) (hb : w.cell? ⟨b, 0, none⟩ = some (.pointer (some ⟨q, 0, none⟩))) (hd : w.cell? ⟨c, 0, none⟩ = some (.int .i64 k)) :
    Calls Try.prog 36 #[.pointer (some ⟨b, 0, none⟩), .pointer (some ⟨c, 0, none⟩)] w fun e w' => e = .returned (.int .i64 0) ∧ ∃ n, w' = (w.drewN n).setCell ⟨h, k, none⟩ (.int .i64 (wrap64 (X.H[k] - 1))) := by
  have hc := a.head.at_ 2 _ rfl
  have c1 := a.row.at_ k _ (icells_at hk)
  have f1 := a.row.frozen k
  generalize X.H[k] = x at *
  clear a
  go_enter Try.func36, Try.ntmps36
  go_wp2
  go_region
  all_goals
    go_wp2
    go_ret
    exact ⟨rfl, 1, rfl⟩
end Go.Proofs.Ytibhebfkgjklpaa
