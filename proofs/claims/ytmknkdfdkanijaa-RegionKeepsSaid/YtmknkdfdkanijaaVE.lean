/- The reference's Cut and Covers. -/
import Derived.Test.YtmknkdfdkanijaaVD
namespace Go.Proofs.Ytmknkdfdkanijaa
open Go.RowKit Go.ChangeShapes Go.WideShapes Go.Deep
set_option linter.unusedVariables false
set_option linter.unusedSimpArgs false

theorem OkF.unmark {f : Nat → Rg × Bool} (h : OkF f) (p : Nat) : OkF (updF f p ((f p).1, false)) := fun q hq hb => by
  by_cases e : q = p
  · subst e
    have e1 : updF f q ((f q).1, false) q = ((f q).1, false) := by unfold updF; rw [if_pos rfl]
    rw [e1] at hb
    cases hb
  · have e1 : updF f p ((f p).1, false) q = f q := by unfold updF; rw [if_neg e]
    rw [e1] at hb ⊢
    exact h q hq hb
/-- A row is told. -/
def RowT (w : World) (e : Ending) (w' : World) : Prop := ∃ A n c L, e = .returned (.slice A n c) ∧ RS w' A n c L ∧ (RowP L ∧ NewAt w A) ∧ Below w.heap.size w w'

set_option maxRecDepth 100000 in
set_option maxHeartbeats 6400000 in
theorem rcut_any (l : List Rg) (a b : Int) (A : Option Addr) (n c : Nat) (w : World) (h : RS w A n c l) (hasc : Asc l) :
    Calls Try.prog 27 #[.slice A n c, .int .i64 a, .int .i64 b] w (RowT w) := by
  have HSP := Lib.hid (rspread_any l A n c w h hasc)
  have HRW := Lib.hid (fun (v : World) (g : Nat) (f : Nat → Rg × Bool) (h1 : OwnR v ⟨g, 0, none⟩ f) (h2 : OkF f) => rrow_any f ⟨g, 0, none⟩ v h1 h2)
  unfold RowT
  clear h hasc
  go_enter Try.func27, Try.ntmps27
  go_upto_region 2 with (go_at_call 18; refine HSP.out.mono ?_; rintro e v1 ⟨ad, f0, rfl, ho, hsp, hlo, hb1⟩)
  obtain ⟨g, rfl⟩ : ∃ g, ad = ⟨g, 0, none⟩ := ⟨_, ho.where_⟩
  have hlo : w.heap.size ≤ g := hlo
  have HST := Lib.hid (show ∃ f, OkF f ∧ OwnR v1 ⟨g, 0, none⟩ f ∧ Below w.heap.size w v1 from ⟨f0, hsp.1, ho, hb1⟩)
  have HLO := Lib.hid hlo
  clear ho hsp hlo hb1
  go_wp2
  go_loopw [8] (fun iv wr => ∃ p : Nat, p ≤ 4096 ∧ iv = .int .i64 p ∧ Hid (∃ f, OkF f ∧ OwnR wr ⟨g, 0, none⟩ f ∧ Below w.heap.size w wr)) (fun iv _ => 4096 - (intOf iv).toNat)
  case atStart => exact ⟨0, by omega, rfl, HST⟩
  case round =>
    clear HST
    obtain ⟨p, hp, rfl, HI⟩ := hrel
    by_cases hlt : p < 4096
    · have k0 : (0 : Int) ≤ (p : Int) := by omega
      have k1 : (p : Int) < 4096 := by omega
      by_cases c1 : a ≤ (p : Int)
      · have c1' : decide (a ≤ (p : Int)) = true := decide_eq_true c1
        by_cases c2 : (p : Int) < b
        · have c2' : decide ((p : Int) < b) = true := decide_eq_true c2
          obtain ⟨f, h1, h2, h3⟩ := HI.out
          have hs := h2.sevenL hlt
          have t6 := hs.c6
          have g6 := hs.fj (p * 7 + 6)
          have HNX := Lib.hid (show ∃ f', OkF f' ∧ OwnR (wr.setCell ⟨g, p * 7 + 6, none⟩ (.bool false)) ⟨g, 0, none⟩ f' ∧ Below w.heap.size w (wr.setCell ⟨g, p * 7 + 6, none⟩ (.bool false)) from ⟨_, h1.unmark p, h2.markL hlt false, h3.setCell (p := ⟨g, p * 7 + 6, none⟩) HLO.out _⟩)
          clear hs h1 h2 h3
          go_wp2
          go_roundw
          case rel => exact ⟨p + 1, by omega, by go_num, HNX⟩
          case measure => simp [intOf]; omega
        · have c2' : decide ((p : Int) < b) = false := decide_eq_false c2
          go_wp2
          go_roundw
          case rel => exact ⟨p + 1, by omega, by go_num, HI⟩
          case measure => simp [intOf]; omega
      · have c1' : decide (a ≤ (p : Int)) = false := decide_eq_false c1
        go_wp2
        go_roundw
        case rel => exact ⟨p + 1, by omega, by go_num, HI⟩
        case measure => simp [intOf]; omega
    · obtain rfl : p = 4096 := by omega
      obtain ⟨f, h1, h2, h3⟩ := HI.out
      have HR := Lib.hid (HRW.out wr g f h2 h1)
      have HB := Lib.hid h3
      clear h1 h2 h3
      go_wp2_with (go_at_call 39; refine HR.out.mono ?_; rintro e v2 ⟨A1, n1, c1, L, rfl, h4, h5, h6⟩)
      go_ret
      exact ⟨A1, n1, c1, L, rfl, h4, ⟨h5.1, h5.2.from HB.out.size⟩, HB.out.trans (h6.mono HB.out.size)⟩
set_option maxRecDepth 100000 in
set_option maxHeartbeats 6400000 in
theorem rcovers_any (l : List Rg) (a b : Int) (A : Option Addr) (n c : Nat) (w : World) (h : RS w A n c l) (hasc : Asc l) :
    Calls Try.prog 20 #[.slice A n c, .int .i64 a, .int .i64 b] w fun e w' => e = .returned (.bool (decide (b ≤ covF l a))) ∧ Below w.heap.size w w' := by
  have HSP := Lib.hid (rspread_any l A n c w h hasc)
  have hcv := covF_ok hasc a b
  obtain ⟨X, hX⟩ : ∃ X, decide (b ≤ covF l a) = X := ⟨_, rfl⟩
  rw [hX]
  have HT := Lib.hid (show (∀ x, a ≤ x → x < b → (atL l x).isSome) → true = X from fun h => by rw [← hX]; exact (decide_eq_true (hcv.2 h)).symm)
  have HF := Lib.hid (show ∀ x, a ≤ x → x < b → atL l x = none → false = X from fun x h1 h2 h3 => by
    rw [← hX]
    exact (decide_eq_false fun h => by have := hcv.1 h x h1 h2; rw [h3] at this; cases this).symm)
  have HASC := Lib.hid hasc
  clear h hasc hX hcv
  by_cases c0 : b ≤ a
  · have HV := Lib.hid (HT.out fun x h1 h2 => by omega)
    have c0' : decide (b ≤ a) = true := decide_eq_true c0
    go_enter Try.func20, Try.ntmps20
    go_wp2
    go_ret
    exact ⟨by rw [← HV.out]; rfl, Below.refl _ _⟩
  · have c0' : decide (b ≤ a) = false := decide_eq_false c0
    by_cases c1 : a < 0
    · have HV := Lib.hid (HF.out a (Int.le_refl _) (by omega) (atL_none fun r hr => .inl (by have := (HASC.out.may r hr).f; omega)))
      have c1' : decide (a < 0) = true := decide_eq_true c1
      go_enter Try.func20, Try.ntmps20
      go_wp2
      go_ret
      exact ⟨by rw [← HV.out]; rfl, Below.refl _ _⟩
    · have c1' : decide (a < 0) = false := decide_eq_false c1
      by_cases c2 : 4096 < b
      · have HV := Lib.hid (HF.out (max a 4096) (by omega) (by omega) (atL_none fun r hr => .inr (by have := (HASC.out.may r hr).t; omega)))
        have c2' : decide (4096 < b) = true := decide_eq_true c2
        go_enter Try.func20, Try.ntmps20
        go_wp2
        go_ret
        exact ⟨by rw [← HV.out]; rfl, Below.refl _ _⟩
      · have c2' : decide (4096 < b) = false := decide_eq_false c2
        obtain ⟨a0, rfl⟩ : ∃ a0 : Nat, a = (a0 : Int) := ⟨a.toNat, by omega⟩
        obtain ⟨b0, rfl⟩ : ∃ b0 : Nat, b = (b0 : Int) := ⟨b.toNat, by omega⟩
        have hab : a0 < b0 ∧ b0 ≤ 4096 := by omega
        go_enter Try.func20, Try.ntmps20
        go_upto_region 6 with (go_at_call 18; refine HSP.out.mono ?_; rintro e v1 ⟨ad, f, rfl, ho, hsp, hlo, hb1⟩)
        obtain ⟨g, rfl⟩ : ∃ g, ad = ⟨g, 0, none⟩ := ⟨_, ho.where_⟩
        have HS := Lib.hid (fun (p : Nat) (hp : p < 4096) => show v1.cell? ⟨g, p * 7 + 6, none⟩ = some (.bool (atL l p).isSome) from by rw [← hsp.2 p hp]; exact (ho.sevenL hp).c6)
        have HB := Lib.hid hb1
        clear ho hsp hlo hb1
        go_wp2
        go_loopw [8] (fun iv wr => ∃ p : Nat, a0 ≤ p ∧ p ≤ b0 ∧ iv = .int .i64 p ∧ wr = v1 ∧ Hid (∀ q : Nat, a0 ≤ q → q < p → (atL l q).isSome = true)) (fun iv _ => b0 - (intOf iv).toNat)
        case atStart => exact ⟨a0, Nat.le_refl _, by omega, rfl, rfl, Lib.hid fun q h1 h2 => absurd h1 (by omega)⟩
        case round =>
          obtain ⟨p, hp0, hp1, rfl, rfl, HI⟩ := hrel
          by_cases hpl : p < b0
          · have hs := HS.out p (by omega)
            have k0 : (0 : Int) ≤ (p : Int) := by omega
            have k1 : (p : Int) < 4096 := by omega
            have k2 : (p : Int) < (b0 : Int) := by omega
            obtain ⟨s, hse⟩ : ∃ s, (atL l (p : Int)).isSome = s := ⟨_, rfl⟩
            rw [hse] at hs
            cases s with
            | true =>
              have HNX := Lib.hid (show ∀ q : Nat, a0 ≤ q → q < p + 1 → (atL l q).isSome = true from fun q h1 h2 => by
                by_cases e : q = p
                · rw [e]; exact hse
                · exact HI.out q h1 (by omega))
              clear hse
              go_wp2
              go_roundw
              case rel => exact ⟨p + 1, by omega, by omega, by go_num, by simp, HNX⟩
              case measure => simp [intOf]; omega
            | false =>
              have HV := Lib.hid (HF.out (p : Int) (by omega) (by omega) (by simpa using hse))
              clear hse
              go_wp2
              go_ret
              exact ⟨by rw [← HV.out]; rfl, HB.out⟩
          · obtain rfl : p = b0 := by omega
            have HV := Lib.hid (HT.out fun x h1 h2 => by
              have := HI.out x.toNat (by omega) (by omega)
              rwa [show ((x.toNat : Nat) : Int) = x by omega] at this)
            go_wp2
            go_ret
            exact ⟨by rw [← HV.out]; rfl, HB.out⟩
end Go.Proofs.Ytmknkdfdkanijaa
