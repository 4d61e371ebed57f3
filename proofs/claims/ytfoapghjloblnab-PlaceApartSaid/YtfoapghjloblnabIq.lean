/- The reference's Same; the law's awake. -/
import Derived.Test.YtfoapghjloblnabIp
namespace Go.Proofs.Ytfoapghjloblnab
open Go.RowKit Go.ChangeShapes Go.WideShapes Go.Deep
set_option linter.unusedVariables false
set_option linter.unusedSimpArgs false

theorem IntRow.belowI {w w' : World} {A : Option Addr} {L : List Int} (h : IntRow w A L) {n : Nat} (hn : n = w.heap.size) (hb : Below n w w') : IntRow w' A L := fun i hi => by
  obtain ⟨ad, h1, h2, h3, h4⟩ := h i hi
  refine ⟨ad, h1, Nat.lt_of_lt_of_le h2 hb.size, (hb.cell ?_).trans h3, h4⟩
  rw [addr_blockI]; omega
set_option maxRecDepth 100000 in
set_option maxHeartbeats 1600000 in
/-- Two rows that are the same. -/
theorem rsameI (L : List Int) (A B : Option Addr) (c c' : Nat) (w : World) (hA : IntRow w A L) (hB : IntRow w B L) (hl : L.length ≤ 100000) :
    Calls Try.prog 6 #[.slice A L.length c, .slice B L.length c'] w fun e w' => e = .returned (.bool true) ∧ Below w.heap.size w w' := by
  obtain ⟨n, hn⟩ : ∃ n, L.length = n := ⟨_, rfl⟩
  rw [hn] at hl ⊢
  have HA := Lib.hid hA
  have HB := Lib.hid hB
  have HN := Lib.hid hn
  clear hA hB hn
  go_enter Try.func6, Try.ntmps6
  go_wp2_with fail
  go_loopw [5] (fun z wr => ∃ k : Nat, k ≤ n ∧ z = .int .i64 k ∧ ∃ q, wr = w.drewN q) (fun z _ => n - (intOf z).toNat)
  case atStart => exact ⟨0, Nat.zero_le _, rfl, 0, rfl⟩
  case round =>
    obtain ⟨k, hk, rfl, q, rfl⟩ := hrel
    by_cases hlt : k < n
    · have hk1 : k < L.length := by rw [HN.out]; exact hlt
      obtain ⟨ad, rfl, -, c0, -⟩ := HA.out k hk1
      obtain ⟨bd, rfl, -, d0, -⟩ := HB.out k hk1
      have hk0 : (0 : Int) ≤ (k : Int) := by omega
      have hk2 : (k : Int) < (n : Int) := by omega
      generalize L[k] = z at c0 d0
      clear hk1
      go_wp2_with fail
      go_region
      all_goals go_wp2_with fail
      all_goals go_roundw
      case rel => exact ⟨k + 1, by omega, by go_num, q + 1, rfl⟩
      case measure => simp [intOf]; omega
    · have hkn : k = n := by omega
      subst hkn
      go_wp2_with fail
      go_ret
      exact ⟨rfl, belowD (Below.refl _ _) q⟩
theorem awakeP : allP [(100, 128), (64, 128), (64, 0)] 0 4096 = ([128, 0, 64], 0) := by decide +kernel
set_option maxRecDepth 100000 in
set_option maxHeartbeats 1600000 in
theorem awakeI (w : World) : Calls Try.prog 4 #[] w fun e w' => e = .returned (.bool true) ∧ Below w.heap.size w w' := by
  have hN := Blk.new w 27 #[.int .i64 100, .int .i64 128, .int .i64 64, .int .i64 128, .int .i64 64, .int .i64 0]
  have hB0 : Below w.heap.size w (w.alloc (.cells #[.int .i64 100, .int .i64 128, .int .i64 64, .int .i64 128, .int .i64 64, .int .i64 0] 27)) := (Below.refl _ w).alloc (Nat.le_refl _) _
  have hrow : WRow (w.alloc (.cells #[.int .i64 100, .int .i64 128, .int .i64 64, .int .i64 128, .int .i64 64, .int .i64 0] 27)) (some ⟨w.heap.size, 0, none⟩) [(100, 128), (64, 128), (64, 0)] := fun i hi => by
    have e : ∀ j, (⟨w.heap.size, 0, none⟩ : Addr).add j = ⟨w.heap.size, j, none⟩ := fun j => by unfold Addr.add; split <;> simp_all
    refine ⟨⟨w.heap.size, 0, none⟩, rfl, hN.lt, ?_⟩
    rw [e, e, hN.cell, hN.cell]
    match i, hi with
    | 0, _ => exact ⟨rfl, rfl, (by decide : (Lit.int .i64 100).wf = true), (by decide : (Lit.int .i64 128).wf = true)⟩
    | 1, _ => exact ⟨rfl, rfl, (by decide : (Lit.int .i64 64).wf = true), (by decide : (Lit.int .i64 128).wf = true)⟩
    | 2, _ => exact ⟨rfl, rfl, (by decide : (Lit.int .i64 64).wf = true), (by decide : (Lit.int .i64 0).wf = true)⟩
  have hall := all_anyI [(100, 128), (64, 128), (64, 0)] (some ⟨w.heap.size, 0, none⟩) 3 0 4096 _ hrow (by decide) (by decide) (by decide)
  have HALL := Lib.hid (hall.mono fun e w' hh => show ∃ A c, e = .returned (.tuple #[.slice A 3 c, .int .i64 0]) ∧ IntRow w' A [128, 0, 64] ∧ Below (w.alloc (.cells #[.int .i64 100, .int .i64 128, .int .i64 64, .int .i64 128, .int .i64 64, .int .i64 0] 27)).heap.size (w.alloc (.cells #[.int .i64 100, .int .i64 128, .int .i64 64, .int .i64 128, .int .i64 64, .int .i64 0] 27)) w' from by
    unfold AllR at hh
    rw [awakeP] at hh
    exact hh)
  have HB0 := Lib.hid hB0
  clear hN hrow hall hB0
  go_enter Try.func4, Try.ntmps4
  go_upto_region 2 with (go_at_call 5; refine HALL.out.mono ?_; rintro e v ⟨A, c, rfl, hr, hb⟩)
  have hb2 := HB0.out.trans (hb.mono HB0.out.size)
  have hN2 := Blk.new v 3 #[.int .i64 128, .int .i64 0, .int .i64 64]
  have hB2 : Below v.heap.size v (v.alloc (.cells #[.int .i64 128, .int .i64 0, .int .i64 64] 3)) := (Below.refl _ v).alloc (Nat.le_refl _) _
  have hrow2 : IntRow (v.alloc (.cells #[.int .i64 128, .int .i64 0, .int .i64 64] 3)) (some ⟨v.heap.size, 0, none⟩) [128, 0, 64] := fun i hi => by
    have e : ∀ j, (⟨v.heap.size, 0, none⟩ : Addr).add j = ⟨v.heap.size, j, none⟩ := fun j => by unfold Addr.add; split <;> simp_all
    refine ⟨⟨v.heap.size, 0, none⟩, rfl, hN2.lt, ?_⟩
    rw [e, hN2.cell]
    match i, hi with
    | 0, _ => exact ⟨rfl, (by decide : (Lit.int .i64 128).wf = true)⟩
    | 1, _ => exact ⟨rfl, (by decide : (Lit.int .i64 0).wf = true)⟩
    | 2, _ => exact ⟨rfl, (by decide : (Lit.int .i64 64).wf = true)⟩
  have HSM := Lib.hid (rsameI [128, 0, 64] A (some ⟨v.heap.size, 0, none⟩) c 3 _ (hr.belowI rfl hB2) hrow2 (by decide))
  have HB2 := Lib.hid (hb2.trans (hB2.mono hb2.size))
  clear hb hb2 hr hN2 hrow2 hB2
  go_wp2_with (go_at_call 6; refine HSM.out.mono ?_; rintro e v5 ⟨rfl, hb5⟩)
  go_ret
  exact ⟨rfl, HB2.out.trans (hb5.mono HB2.out.size)⟩
end Go.Proofs.Ytfoapghjloblnab
