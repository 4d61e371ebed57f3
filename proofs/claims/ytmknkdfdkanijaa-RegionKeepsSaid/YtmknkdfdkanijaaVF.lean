/- The reference's Protect and Add; a change done by the document. -/
import Derived.Test.YtmknkdfdkanijaaVE
namespace Go.Proofs.Ytmknkdfdkanijaa
open Go.RowKit Go.ChangeShapes Go.WideShapes Go.Deep
set_option linter.unusedVariables false
set_option linter.unusedSimpArgs false

/-- A row is told, if the Errno is OK. -/
def RowE (w : World) (e : Ending) (w' : World) : Prop := ∃ A n c en, e = .returned (.tuple #[.slice A n c, .int .i64 en]) ∧ (en = 0 → ∃ L, RS w' A n c L ∧ RowP L ∧ NewAt w A) ∧ Below w.heap.size w w'
theorem OkF.perm {f : Nat → Rg × Bool} (h : OkF f) (p : Nat) {c : Int} (hc : 0 ≤ c ∧ c ≤ 7) : OkF (updF f p ({ (f p).1 with p := c }, (f p).2)) := fun q hq hb => by
  by_cases e : q = p
  · subst e
    have e1 : updF f q ({ (f q).1 with p := c }, (f q).2) q = ({ (f q).1 with p := c }, (f q).2) := by unfold updF; rw [if_pos rfl]
    rw [e1] at hb ⊢
    obtain ⟨h1, h2, h3⟩ := h q hq hb
    exact ⟨⟨h1.f, h1.ft, h1.t, hc.1, hc.2, h1.kind⟩, h2, h3⟩
  · have e1 : updF f p ({ (f p).1 with p := c }, (f p).2) q = f q := by unfold updF; rw [if_neg e]
    rw [e1] at hb ⊢
    exact h q hq hb
theorem OkF.set {f : Nat → Rg × Bool} (h : OkF f) (p : Nat) {x : Rg × Bool} (hx : x.2 = true → x.1.May ∧ x.1.f = p ∧ x.1.t = p + 1) : OkF (updF f p x) := fun q hq hb => by
  by_cases e : q = p
  · subst e
    have e1 : updF f q x q = x := by unfold updF; rw [if_pos rfl]
    rw [e1] at hb ⊢
    exact hx hb
  · have e1 : updF f p x q = f q := by unfold updF; rw [if_neg e]
    rw [e1] at hb ⊢
    exact h q hq hb

set_option maxRecDepth 100000 in
set_option maxHeartbeats 6400000 in
theorem rprotect_any (l : List Rg) (a b cp : Int) (A : Option Addr) (n c : Nat) (w : World) (h : RS w A n c l) (hasc : Asc l) :
    Calls Try.prog 28 #[.slice A n c, .int .i64 a, .int .i64 b, .int .i64 cp] w (RowE w) := by
  have HSP := Lib.hid (fun (v : World) (hv : Below w.heap.size w v) => rspread_any l A n c v (h.below hv) hasc)
  have HRW := Lib.hid (fun (v : World) (g : Nat) (f : Nat → Rg × Bool) (h1 : OwnR v ⟨g, 0, none⟩ f) (h2 : OkF f) => rrow_any f ⟨g, 0, none⟩ v h1 h2)
  have HCV := Lib.hid (rcovers_any l a b A n c w h hasc)
  have hcv := covF_ok hasc a b
  have HASC := Lib.hid hasc
  have HCB := Lib.hid (show ∀ x : Nat, a < b → b ≤ covF l a → 0 ≤ a ∧ b ≤ 4096 from fun _ h1 h2 => by
    have h3 := hcv.1 h2
    have h4 := h3 a (Int.le_refl _) h1
    have h5 := h3 (b - 1) (by omega) (by omega)
    obtain ⟨i4, h6⟩ := Option.isSome_iff_exists.1 h4
    obtain ⟨i5, h7⟩ := Option.isSome_iff_exists.1 h5
    have := hasc.le4096 h6
    have := hasc.le4096 h7
    omega)
  unfold RowE
  clear h hasc hcv
  by_cases c1 : cp < 0
  · have c1' : decide (cp < 0) = true := decide_eq_true c1
    go_enter Try.func28, Try.ntmps28
    go_wp2
    go_ret2
    exact ⟨none, 0, 0, 1, rfl, fun h => absurd h (by decide), Below.refl _ _⟩
  · have c1' : decide (cp < 0) = false := decide_eq_false c1
    by_cases c2 : 7 < cp
    · have c2' : decide (7 < cp) = true := decide_eq_true c2
      go_enter Try.func28, Try.ntmps28
      go_wp2
      go_ret2
      exact ⟨none, 0, 0, 1, rfl, fun h => absurd h (by decide), Below.refl _ _⟩
    · have c2' : decide (7 < cp) = false := decide_eq_false c2
      by_cases c3 : b ≤ a
      · have c3' : decide (b ≤ a) = true := decide_eq_true c3
        go_enter Try.func28, Try.ntmps28
        go_wp2
        go_ret2
        exact ⟨none, 0, 0, 1, rfl, fun h => absurd h (by decide), Below.refl _ _⟩
      · have c3' : decide (b ≤ a) = false := decide_eq_false c3
        obtain ⟨X, hX⟩ : ∃ X, decide (b ≤ covF l a) = X := ⟨_, rfl⟩
        rw [hX] at HCV
        cases X with
        | false =>
          clear hX
          go_enter Try.func28, Try.ntmps28
          go_wp2_with (go_at_call 20; refine HCV.out.mono ?_; rintro e v1 ⟨rfl, hb1⟩)
          go_ret2
          exact ⟨none, 0, 0, 12, rfl, fun h => absurd h (by decide), hb1⟩
        | true =>
          have hbd := HCB.out 0 (by omega) (of_decide_eq_true hX)
          obtain ⟨a0, rfl⟩ : ∃ a0 : Nat, a = (a0 : Int) := ⟨a.toNat, by omega⟩
          obtain ⟨b0, rfl⟩ : ∃ b0 : Nat, b = (b0 : Int) := ⟨b.toNat, by omega⟩
          have hab : a0 < b0 ∧ b0 ≤ 4096 := by omega
          have hcp : 0 ≤ cp ∧ cp ≤ 7 := by omega
          clear hX hbd
          go_enter Try.func28, Try.ntmps28
          go_upto_region 6 with (go_at_call 20; refine HCV.out.mono ?_; rintro e v0 ⟨rfl, hb0⟩)
          go_upto_region 7 with (go_at_call 18; refine (HSP.out _ hb0).mono ?_; rintro e v1 ⟨ad, f0, rfl, ho, hsp, hlo, hb1⟩)
          obtain ⟨g, rfl⟩ : ∃ g, ad = ⟨g, 0, none⟩ := ⟨_, ho.where_⟩
          have hlo : v0.heap.size ≤ g := hlo
          have HST := Lib.hid (show ∃ f, OkF f ∧ OwnR v1 ⟨g, 0, none⟩ f ∧ Below w.heap.size w v1 from ⟨f0, hsp.1, ho, hb0.trans (hb1.mono hb0.size)⟩)
          have HLO := Lib.hid (Nat.le_trans hb0.size hlo)
          clear ho hsp hlo hb1 hb0
          go_wp2
          go_loopw [12] (fun iv wr => ∃ p : Nat, a0 ≤ p ∧ p ≤ b0 ∧ iv = .int .i64 p ∧ Hid (∃ f, OkF f ∧ OwnR wr ⟨g, 0, none⟩ f ∧ Below w.heap.size w wr)) (fun iv _ => b0 - (intOf iv).toNat)
          case atStart => exact ⟨a0, Nat.le_refl _, by omega, rfl, HST⟩
          case round =>
            clear HST
            obtain ⟨p, hp0, hp1, rfl, HI⟩ := hrel
            by_cases hpl : p < b0
            · have k0 : (0 : Int) ≤ (p : Int) := by omega
              have k1 : (p : Int) < 4096 := by omega
              have k2 : (p : Int) < (b0 : Int) := by omega
              have hlt : p < 4096 := by omega
              obtain ⟨f, h1, h2, h3⟩ := HI.out
              have hs := h2.sevenL hlt
              have t2 := hs.c2
              have g2 := hs.fj (p * 7 + 2)
              have HNX := Lib.hid (show ∃ f', OkF f' ∧ OwnR (wr.setCell ⟨g, p * 7 + 2, none⟩ (.int .i64 cp)) ⟨g, 0, none⟩ f' ∧ Below w.heap.size w (wr.setCell ⟨g, p * 7 + 2, none⟩ (.int .i64 cp)) from ⟨_, h1.perm p hcp, h2.permL hlt cp, h3.setCell (p := ⟨g, p * 7 + 2, none⟩) HLO.out _⟩)
              clear hs h1 h2 h3
              go_wp2
              go_roundw
              case rel => exact ⟨p + 1, by omega, by omega, by go_num, HNX⟩
              case measure => simp [intOf]; omega
            · obtain rfl : p = b0 := by omega
              obtain ⟨f, h1, h2, h3⟩ := HI.out
              have HR := Lib.hid (HRW.out wr g f h2 h1)
              have HB := Lib.hid h3
              clear h1 h2 h3
              go_wp2_with (go_at_call 39; refine HR.out.mono ?_; rintro e v2 ⟨A1, n1, c1, L, rfl, h4, h5, h6⟩)
              go_ret2
              exact ⟨A1, n1, c1, 0, rfl, fun _ => ⟨L, h4, h5.1, h5.2.from HB.out.size⟩, HB.out.trans (h6.mono HB.out.size)⟩
end Go.Proofs.Ytmknkdfdkanijaa
