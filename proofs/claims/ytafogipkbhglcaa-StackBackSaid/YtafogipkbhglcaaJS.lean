/- Layer 17: the references' Same and SameTexts, of two rows that are the same. -/
import Derived.Test.YtafogipkbhglcaaJA
import Derived.BigRegion
import Derived.RegionTactic
import Derived.Laws.StructEq
import Derived.Laws.Tables
namespace Go.Proofs.Ytafogipkbhglcaa
open Go.RowKit Go.Deep
set_option linter.unusedVariables false
set_option linter.unusedSimpArgs false

@[go_sem] theorem eq_pa (p k p' k' : Int) (w : World) : (Op.equalIn 10000 40 (.agg #[.int .i64 p, .int .i64 k]) (.agg #[.int .i64 p', .int .i64 k'])).run Try.prog w = .ok (p == p' && k == k') w := by
  have u2 := Try.underlying3
  have hS : Try.prog.underlying 40 = some (.struct (Try.prog.fieldsOf 40)) := by kernel_rfl
  rw [show (10000 : Nat) = 9999 + 1 from rfl, run_equalIn_agg w 9999 40 _ _ hS (by kernel_rfl)]
  simp only [Program.fieldsOf, Try.underlying40]
  go_simp
  by_cases h1 : p = p' <;> by_cases h2 : k = k' <;> simp [h1, h2]

set_option maxHeartbeats 1600000 in
theorem same_yes17 (l : List Pa) (A B : Option Addr) (c c' : Nat) (w : World) (hr : PaRow w A l) (hr' : PaRow w B l) (hl : l.length ≤ 100000000) :
    Calls Try.prog 17 #[.slice A l.length c, .slice B l.length c'] w fun e w' => e = .returned (.bool true) ∧ Below w.heap.size w w' := by
  have HR := Lib.hid (fun q => show PaRow (w.drewN q) A l from hr)
  have HR' := Lib.hid (fun q => show PaRow (w.drewN q) B l from hr')
  obtain ⟨n, hn⟩ : ∃ n, l.length = n := ⟨_, rfl⟩
  rw [hn] at hl ⊢
  have HN := Lib.hid hn
  clear hr hr' hn
  go_enter Try.func17, Try.ntmps17
  go_wp2
  go_loopw [5] (fun i wr => ∃ k : Nat, k ≤ n ∧ i = .int .i64 k ∧ Hid (∃ q, wr = w.drewN q)) (fun i _ => n - (intOf i).toNat)
  case atStart => exact ⟨0, Nat.zero_le _, rfl, Lib.hid ⟨0, (World.drewN_zero w).symm⟩⟩
  case round =>
    obtain ⟨k, hk, rfl, hq⟩ := hrel
    obtain ⟨q, rfl⟩ := hq.out
    by_cases hlt : k < n
    · have hkl : k < l.length := by rw [HN.out]; exact hlt
      obtain ⟨ad, rfl, hblt, hwf, d0, d1⟩ := (HR.out q).at_ hkl
      obtain ⟨ad', rfl, hblt', -, d0', d1'⟩ := (HR'.out q).at_ hkl
      obtain ⟨s, hs⟩ : ∃ s, l[k] = s := ⟨_, rfl⟩
      rw [hs] at d0 d1 d0' d1'
      obtain ⟨p, kk⟩ := s
      simp only at d0 d1 d0' d1'
      clear hs hwf hblt hblt' hkl
      generalize hW : w.drewN q = W at *
      go_wp2
      go_quiet (fail)
      go_wp2
      go_roundw
      case rel => exact ⟨k + 1, by omega, by go_num, Lib.hid ⟨_, by rw [← hW, World.drewN_drewN]⟩⟩
      case measure => simp [intOf]; omega
    · obtain rfl : k = n := by omega
      go_wp2
      go_ret
      exact ⟨rfl, Go.Proofs.Ytafogipkbhglcaa.Below.drewN (Below.refl _ _) _⟩

set_option maxHeartbeats 1600000 in
theorem texts_yes17 (l : List ByteArray) (A D : Option Addr) (c d : Nat) (w : World) (h1 : StrRow w A l) (h2 : StrRow w D l) (hl : l.length ≤ 100000000) :
    Calls Try.prog 16 #[.slice A l.length c, .slice D l.length d] w fun e w' => e = .returned (.bool true) ∧ Below w.heap.size w w' := by
  have HR := Lib.hid (fun q => show StrRow (w.drewN q) A l from h1)
  have HR' := Lib.hid (fun q => show StrRow (w.drewN q) D l from h2)
  obtain ⟨n, hn⟩ : ∃ n, l.length = n := ⟨_, rfl⟩
  rw [hn] at hl ⊢
  have HN := Lib.hid hn
  clear h1 h2 hn
  go_enter Try.func16, Try.ntmps16
  go_wp2
  go_loopw [5] (fun i wr => ∃ k : Nat, k ≤ n ∧ i = .int .i64 k ∧ Hid (∃ q, wr = w.drewN q)) (fun i _ => n - (intOf i).toNat)
  case atStart => exact ⟨0, Nat.zero_le _, rfl, Lib.hid ⟨0, (World.drewN_zero w).symm⟩⟩
  case round =>
    obtain ⟨k, hk, rfl, hq⟩ := hrel
    obtain ⟨q, rfl⟩ := hq.out
    by_cases hlt : k < n
    · have hkl : k < l.length := by rw [HN.out]; exact hlt
      obtain ⟨ad, rfl, hblt, d0, hwf⟩ := HR.out q k hkl
      obtain ⟨ad', rfl, hblt', d0', -⟩ := HR'.out q k hkl
      obtain ⟨s, hs⟩ : ∃ s, l[k] = s := ⟨_, rfl⟩
      rw [hs] at d0 d0'
      have k0 : (0 : Int) ≤ (k : Int) := by omega
      have k1 : (k : Int) < (n : Int) := by omega
      clear hs hwf hblt hblt' hkl
      generalize hW : w.drewN q = W at *
      go_wp2
      go_quiet (fail)
      go_wp2
      go_roundw
      case rel => exact ⟨k + 1, by omega, by go_num, Lib.hid ⟨_, by rw [← hW, World.drewN_drewN]⟩⟩
      case measure => simp [intOf]; omega
    · obtain rfl : k = n := by omega
      go_wp2
      go_ret
      exact ⟨rfl, Go.Proofs.Ytafogipkbhglcaa.Below.drewN (Below.refl _ _) _⟩
end Go.Proofs.Ytafogipkbhglcaa
