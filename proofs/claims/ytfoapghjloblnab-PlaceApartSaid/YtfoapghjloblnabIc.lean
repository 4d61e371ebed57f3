/- Things that come in, and as they lie; package place: Round, isRoom, areThings. -/
import Derived.Test.YtfoapghjloblnabIa
import Derived.Test.YtfoapghjloblnabOctA
import Derived.Test.YtfoapghjloblnabBut
import Derived.Test.YtfoapghjloblnabRowI
import Derived.Test.YtfoapghjloblnabLaw
import Derived.Test.YtfoapghjloblnabOpen
import Derived.Deep.Fields
import Derived.Laws.Tables
namespace Go.Proofs.Ytfoapghjloblnab
open Go.RowKit Go.ChangeShapes Go.WideShapes Go.Deep
set_option linter.unusedVariables false
set_option linter.unusedSimpArgs false

/-- The slice at A has these things. -/
def WRow (w : World) (A : Option Addr) (l : List (Int × Int)) : Prop := ∀ i (hi : i < l.length), ∃ ad, A = some ad ∧ ad.block < w.heap.size ∧ w.cell? (ad.add (i * 2)) = some (.int .i64 l[i].1) ∧ w.cell? (ad.add (i * 2 + 1)) = some (.int .i64 l[i].2) ∧ (Lit.int .i64 l[i].1).wf = true ∧ (Lit.int .i64 l[i].2).wf = true
theorem addr_blockI (ad : Addr) (i : Nat) : (ad.add i).block = ad.block := by unfold Addr.add; split <;> rfl
theorem WRow.below {w w' : World} {A : Option Addr} {l : List (Int × Int)} (h : WRow w A l) {n : Nat} (hn : n = w.heap.size) (hb : Below n w w') : WRow w' A l := fun i hi => by
  obtain ⟨ad, h1, h2, h3, h4, h5⟩ := h i hi
  refine ⟨ad, h1, Nat.lt_of_lt_of_le h2 hb.size, (hb.cell ?_).trans h3, (hb.cell ?_).trans h4, h5⟩
  all_goals rw [addr_blockI]; omega
theorem WRow.at_ {w : World} {A : Option Addr} {l : List (Int × Int)} (h : WRow w A l) {i : Nat} (hi : i < l.length) : ∃ ad, A = some ad ∧ ad.block < w.heap.size ∧ (Lit.int .i64 l[i].1).wf = true ∧ (Lit.int .i64 l[i].2).wf = true ∧
    w.cell? (ad.add (i * 2)) = some (.int .i64 l[i].1) ∧ w.cell? ⟨(ad.add (i * 2)).block, (ad.add (i * 2)).off + 1, none⟩ = some (.int .i64 l[i].2) := by
  obtain ⟨ad, e, hlt, h0, h1, w0, w1⟩ := h i hi
  refine ⟨ad, e, hlt, w0, w1, h0, ?_⟩
  have hs : (⟨(ad.add (i * 2)).block, (ad.add (i * 2)).off + 1, none⟩ : Addr) = ad.add (i * 2 + 1) := by
    rw [← Go.Deep.add_add]
    generalize ad.add (i * 2) = q
    unfold Addr.add
    split <;> simp_all
  rw [hs]
  exact h1
theorem WRow.take {w : World} {A : Option Addr} {l : List (Int × Int)} (h : WRow w A l) (n : Nat) : WRow w A (l.take n) := fun i hi => by
  have h1 := h i (by rw [List.length_take] at hi; omega)
  simpa using h1

section
variable {H : Type} {enc : TypeId × Value → H} {w : World} {base : Nat} {spare : Nat → Bool} {held : Bool} {r : Reach} {b0 : Nat} {v : Value} {d : DataW H} {ps : List MemPlace}
/-- A slice of things that comes in. -/
theorem open_wants (hv : Value.okWide Try.prog w r b0 25 v) (h : DataW.Trod enc Try.prog w base spare held 25 v d ps) : ∃ A l c, v = .slice A (List.length l) c ∧ l.length ≤ maxLen ∧ WRow w A l := by
  obtain ⟨A, n, c, rfl, hn, hi⟩ := open_fields_row Try.underlying25 Try.underlying27 (by kernel_rfl) (by kernel_rfl) (by decide) hv h
  obtain ⟨zs, hl, hz⟩ := list_of (Q := fun i (z : Int × Int) => ∃ ad, A = some ad ∧ ad.block < w.heap.size ∧ w.cell? (ad.add (i * 2)) = some (.int .i64 z.1) ∧ w.cell? (ad.add (i * 2 + 1)) = some (.int .i64 z.2) ∧ (Lit.int .i64 z.1).wf = true ∧ (Lit.int .i64 z.2).wf = true) n (fun i h => by
    obtain ⟨ad, rfl, hb, hf⟩ := hi i h
    obtain ⟨u0, y0, m0, c0, t0⟩ := hf 0 _ rfl
    obtain ⟨u1, y1, m1, c1, t1⟩ := hf 1 _ rfl
    obtain ⟨p, h0, _, w0⟩ := DataW.trod_int Try.underlying3 t0
    obtain ⟨k, h1, _, w1⟩ := DataW.trod_int Try.underlying3 t1
    injection h0 with h0
    injection h1 with h1
    subst h0 h1
    refine ⟨(p, k), ad, rfl, hb, ?_, ?_, w0, w1⟩
    · simpa using c0
    · simpa using c1)
  subst hl
  exact ⟨A, zs, c, rfl, hn, hz⟩
end

theorem rndTo_64 {q : Int} (h0 : 0 ≤ q) (h1 : q ≤ 1099511627776) : rndTo q 64 = (q + 63) / 64 * 64 := by
  by_cases hz : q % 64 = 0
  · rw [(rnd_zero (by omega) hz).2]; omega
  · rw [(rnd_yes (by omega) hz (by omega)).2]; omega
theorem rndP_rnd {s : Int} (h : 0 ≤ s) : rndP s = rndTo (min s 1099511627776) 64 := by
  unfold rndP
  by_cases h1 : 1099511627776 < s
  · rw [if_neg (by omega), if_pos h1, rndTo_64 (by omega) (by omega)]
    omega
  · rw [if_neg (by omega), if_neg h1, rndTo_64 (by omega) (by omega)]
    omega
set_option maxHeartbeats 400000 in
theorem pround_any (s : Int) (w : World) (hs : (Lit.int .i64 s).wf = true) : Calls Try.prog 13 #[.int .i64 s] w fun e w' => e = .returned (.int .i64 (rndP s)) ∧ w' = w := by
  have hk := bounds_i64 hs
  have hqw : (Lit.int .i64 (min s 1099511627776)).wf = true := WalkArith.wf_i64 (by omega)
  have hr : rndTo (min s 1099511627776) 64 = rndP s := by
    by_cases h0 : 0 ≤ s
    · rw [rndP_rnd h0]
    · unfold rndP rndTo
      rw [rnd_no (by omega), if_pos (show s < 0 by omega)]
      rfl
  have HR := Lib.hid (fun v => round_any (min s 1099511627776) 64 v hqw (by decide))
  rw [hr] at HR
  clear hr hqw hk hs
  go_enter Try.func13, Try.ntmps13
  go_wp2_with (go_at_call 22; refine (HR.out _).mono ?_; rintro e v ⟨rfl, rfl⟩)
  go_ret
  exact ⟨rfl, rfl⟩

set_option maxHeartbeats 800000 in
theorem isRoom_any (low high : Int) (w : World) (hl : (Lit.int .i64 low).wf = true) (hh : (Lit.int .i64 high).wf = true) : Calls Try.prog 7 #[.int .i64 low, .int .i64 high] w fun e w' => e = .returned (.bool (roomP low high)) ∧ w' = w := by
  have hk := bounds_i64 hl
  have hk2 := bounds_i64 hh
  by_cases h1 : 0 ≤ low
  · by_cases h2 : low ≤ high
    · by_cases h3 : high ≤ 1099511627776
      · have e1 : Int.tmod low 64 = low % 64 := Int.tmod_eq_emod_of_nonneg h1
        have e2 : Int.tmod high 64 = high % 64 := Int.tmod_eq_emod_of_nonneg (by omega)
        by_cases h4 : low % 64 = 0
        · have hr : roomP low high = decide (high % 64 = 0) := by unfold roomP; simp [h1, h2, h3, h4]
          rw [hr]
          clear hr
          go_enter Try.func7, Try.ntmps7
          go_wp2
          go_ret
          exact ⟨rfl, rfl⟩
        · have hr : roomP low high = false := by unfold roomP; simp [h4]
          rw [hr]
          clear hr
          go_enter Try.func7, Try.ntmps7
          go_wp2
          go_ret
          exact ⟨rfl, rfl⟩
      · have hr : roomP low high = false := by unfold roomP; simp [h3]
        rw [hr]
        clear hr
        go_enter Try.func7, Try.ntmps7
        go_wp2
        go_ret
        exact ⟨rfl, rfl⟩
    · have hr : roomP low high = false := by unfold roomP; simp [h2]
      rw [hr]
      clear hr
      go_enter Try.func7, Try.ntmps7
      go_wp2
      go_ret
      exact ⟨rfl, rfl⟩
  · have hr : roomP low high = false := by unfold roomP; simp [h1]
    rw [hr]
    clear hr
    go_enter Try.func7, Try.ntmps7
    go_wp2
    go_ret
    exact ⟨rfl, rfl⟩
end Go.Proofs.Ytfoapghjloblnab
