/- Package elf: Pages, numbers. -/
import Derived.Test.YtakmmphjdkapeaaDoorEA
namespace Go.Proofs.YtakmmphjdkapeaaDoor
open Go.RowKit
set_option linter.unusedVariables false
set_option linter.unusedSimpArgs false

theorem tdiv64 {a : Int} (h1 : -9223372036854775808 ≤ a) (h2 : a ≤ 9223372036854775807) : -144115188075855872 ≤ a.tdiv 64 ∧ a.tdiv 64 ≤ 144115188075855872 ∧ -64 < a.tmod 64 ∧ a.tmod 64 < 64 := by
  have e := Int.tmod_add_mul_tdiv a 64
  have h3 := Int.tmod_lt_of_pos a (show (0 : Int) < 64 by omega)
  have h4 := Int.lt_tmod_of_pos a (show (0 : Int) < 64 by omega)
  omega

set_option maxHeartbeats 800000 in
theorem epages_any (s : Seg) (w : World) (hs : s.wf) : Calls Tryd.prog 23 #[s.v] w fun e w' => e = .returned (.tuple #[.int .i64 s.from_, .int .i64 s.to_]) ∧ Below w.heap.size w w' := by
  obtain ⟨ty, fl, off, ad, sz, mem, al⟩ := s
  obtain ⟨-, -, -, h1, -, h2, -⟩ := hs
  obtain ⟨p1, p2⟩ := bounds_i64 h1
  obtain ⟨p3, p4⟩ := bounds_i64 h2
  unfold Seg.v Seg.cs Seg.from_ Seg.to_
  simp only at *
  obtain ⟨q1, q2, q3, q4⟩ := tdiv64 p1 p2
  obtain ⟨q5, q6, q7, q8⟩ := tdiv64 p3 p4
  have e1 : ad.tmod 64 + mem.tmod 64 + 63 = ad.tmod 64 + mem.tmod 64 + 64 - 1 := by omega
  rw [e1]
  clear e1
  obtain ⟨a0, ha0⟩ : ∃ x, ad.tdiv 64 = x := ⟨_, rfl⟩
  obtain ⟨a1, ha1⟩ : ∃ x, ad.tmod 64 = x := ⟨_, rfl⟩
  obtain ⟨m0, hm0⟩ : ∃ x, mem.tdiv 64 = x := ⟨_, rfl⟩
  obtain ⟨m1, hm1⟩ : ∃ x, mem.tmod 64 = x := ⟨_, rfl⟩
  rw [ha0] at q1 q2 ⊢
  rw [ha1] at q3 q4 ⊢
  rw [hm0] at q5 q6 ⊢
  rw [hm1] at q7 q8 ⊢
  have q9 := tdiv64 (a := a1 + m1 + 64 - 1) (by omega) (by omega)
  obtain ⟨r, hr⟩ : ∃ x, (a1 + m1 + 64 - 1).tdiv 64 = x := ⟨_, rfl⟩
  rw [hr] at q9 ⊢
  have HB := Lib.hid (fun q => Go.Proofs.YtakmmphjdkapeaaDoor.Below.drewN ((Below.refl w.heap.size w).alloc (Nat.le_refl _) (.cells #[.int .i64 ty, .int .i64 fl, .int .i64 off, .int .i64 ad, .int .i64 sz, .int .i64 mem, .int .i64 al] 47)) q)
  go_enter Tryd.func23, Tryd.ntmps23
  go_wp2
  go_quiet (fail)
  go_wp2
  go_ret2
  exact ⟨rfl, HB.out _⟩
end Go.Proofs.YtakmmphjdkapeaaDoor
