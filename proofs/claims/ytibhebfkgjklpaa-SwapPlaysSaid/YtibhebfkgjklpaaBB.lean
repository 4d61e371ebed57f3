/- Package block: use, Read, Write. -/
import Derived.Test.YtibhebfkgjklpaaBA
namespace Go.Proofs.Ytibhebfkgjklpaa
open Go.RowKit
set_option linter.unusedVariables false

theorem Dk.drewN {w : World} {p g : Nat} {D : Dsk} (h : Dk w p g D) (n : Nat) : Dk (w.drewN n) p g D := ⟨h.ne, h.head.drewN n, h.row.drewN n, h.all, h.len⟩

set_option maxHeartbeats 400000 in
theorem use_far (p : Nat) (A : Option Addr) (n c : Nat) (w : World) (h : w.cell? ⟨p, 0, none⟩ = some (.slice A (64 * n) c)) (hn : n ≤ 16384) (at_ : Int) (ho : at_ < 0 ∨ (n : Int) ≤ at_) (f : Value) :
    Calls Try.prog 37 #[.pointer (some ⟨p, 0, none⟩), .int .i64 at_, f] w fun e w' => e = .returned (.tuple #[.slice none 0 0, .int .i64 14]) ∧ w = w' := by
  have hs := sectors_of p A n c w h hn
  have HS := Lib.hid hs
  clear hs h
  by_cases h0 : at_ < 0
  · go_enter Try.func37, Try.ntmps37
    go_wp2
    go_ret2
    exact ⟨rfl, rfl⟩
  · have h1 : (n : Int) ≤ at_ := by omega
    clear ho
    go_enter Try.func37, Try.ntmps37
    go_wp2_with (go_at_call 25; refine HS.out.mono ?_; rintro e w' ⟨rfl, rfl⟩)
    go_ret2
    exact ⟨rfl, rfl⟩

set_option maxHeartbeats 400000 in
theorem use_nil (w : World) (at_ : Int) (f : Value) :
    Calls Try.prog 37 #[.pointer none, .int .i64 at_, f] w fun e w' => e = .returned (.tuple #[.slice none 0 0, .int .i64 1]) ∧ w = w' := by
  go_enter Try.func37, Try.ntmps37
  go_wp2
  go_ret2
  exact ⟨rfl, rfl⟩


set_option maxHeartbeats 400000 in
theorem use_read {p g : Nat} {D : Dsk} {w : World} (h : Dk w p g D) (k : Nat) (hk : k < D.S.length)
    (hK : Hid (Calls Try.prog 38 #[] w fun e w' => e = .returned (.int .i64 0) ∧ w = w')) :
    Calls Try.prog 37 #[.pointer (some ⟨p, 0, none⟩), .int .i64 k, .func (.func 38) #[] #[]] w fun e w' => e = .returned (.tuple #[.slice (some ⟨g, 64 * k, none⟩) 64 64, .int .i64 0]) ∧ w = w' := by
  have hs := sectors_any h
  have HS := Lib.hid hs
  have hc := sector_any h k hk
  have HC := Lib.hid hc
  have d1 : decide ((k : Int) < 0) = false := by simp
  have d2 : decide (D.S.length ≤ k) = false := by simpa using hk
  clear hs h hc
  go_enter Try.func37, Try.ntmps37
  go_wp2_with (first | (go_at_call 25; refine HS.out.mono ?_; rintro e w' ⟨rfl, rfl⟩) | (go_at_call 38; refine hK.out.mono ?_; rintro e w' ⟨rfl, rfl⟩) | (go_at_call 40; refine HC.out.mono ?_; rintro e w' ⟨rfl, rfl⟩))
  go_ret2
  exact ⟨rfl, rfl⟩


set_option maxHeartbeats 400000 in
theorem use_write {p g : Nat} {D : Dsk} {w : World} (h : Dk w p g D) (k : Nat) (hk : k < D.S.length) (a b c : Nat)
    (hK : Hid (Calls Try.prog 39 #[.pointer (some ⟨a, 0, none⟩), .pointer (some ⟨b, 0, none⟩), .pointer (some ⟨c, 0, none⟩)] w fun e w' => e = .returned (.int .i64 0) ∧ Drawn w w')) :
    Calls Try.prog 37 #[.pointer (some ⟨p, 0, none⟩), .int .i64 k, .func (.func 39) #[] #[.pointer (some ⟨a, 0, none⟩), .pointer (some ⟨b, 0, none⟩), .pointer (some ⟨c, 0, none⟩)]] w fun e w' => e = .returned (.tuple #[.slice (some ⟨g, 64 * k, none⟩) 64 64, .int .i64 0]) ∧ Drawn w w' := by
  have hs := sectors_any h
  have HS := Lib.hid hs
  have hc := fun n => sector_any (h.drewN n) k hk
  have HC := Lib.hid hc
  have d1 : decide ((k : Int) < 0) = false := by simp
  have d2 : decide (D.S.length ≤ k) = false := by simpa using hk
  clear hs h hc
  go_enter Try.func37, Try.ntmps37
  go_wp2_with (first | (go_at_call 25; refine HS.out.mono ?_; rintro e w' ⟨rfl, rfl⟩) | (go_at_call 39; refine hK.out.mono ?_; rintro e w' ⟨rfl, n, rfl⟩) | (go_at_call 40; refine (HC.out n).mono ?_; rintro e w' ⟨rfl, rfl⟩))
  go_ret2
  exact ⟨rfl, _, rfl⟩

set_option maxHeartbeats 400000 in
theorem use_not {p g : Nat} {D : Dsk} {w : World} (h : Dk w p g D) (k : Nat) (hk : k < D.S.length) (a b c : Nat) (r : Int) (hr : (r == 0) = false)
    (hK : Hid (Calls Try.prog 39 #[.pointer (some ⟨a, 0, none⟩), .pointer (some ⟨b, 0, none⟩), .pointer (some ⟨c, 0, none⟩)] w fun e w' => e = .returned (.int .i64 r) ∧ Drawn w w')) :
    Calls Try.prog 37 #[.pointer (some ⟨p, 0, none⟩), .int .i64 k, .func (.func 39) #[] #[.pointer (some ⟨a, 0, none⟩), .pointer (some ⟨b, 0, none⟩), .pointer (some ⟨c, 0, none⟩)]] w fun e w' => e = .returned (.tuple #[.slice none 0 0, .int .i64 r]) ∧ Drawn w w' := by
  have hs := sectors_any h
  have HS := Lib.hid hs
  have hc := fun n => sector_any (h.drewN n) k hk
  have HC := Lib.hid hc
  have d1 : decide ((k : Int) < 0) = false := by simp
  have d2 : decide (D.S.length ≤ k) = false := by simpa using hk
  clear hs h hc
  go_enter Try.func37, Try.ntmps37
  go_wp2_with (first | (go_at_call 25; refine HS.out.mono ?_; rintro e w' ⟨rfl, rfl⟩) | (go_at_call 39; refine hK.out.mono ?_; rintro e w' ⟨rfl, n, rfl⟩) | (go_at_call 40; refine (HC.out n).mono ?_; rintro e w' ⟨rfl, rfl⟩))
  go_ret2
  exact ⟨rfl, _, rfl⟩

end Go.Proofs.Ytibhebfkgjklpaa
