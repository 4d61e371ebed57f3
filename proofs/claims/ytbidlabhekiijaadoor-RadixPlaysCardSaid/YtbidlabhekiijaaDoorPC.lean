/- Package frames: Take, Copy. -/
import Derived.Test.YtbidlabhekiijaaDoorPB
namespace Go.Proofs.YtbidlabhekiijaaDoor
open Go.RowKit
set_option linter.unusedVariables false

/-- What Take tells, and what the pool is then. -/
def tkE (H : List Int) : Int := if freeAt H < H.length then 0 else 18
def tkV (H : List Int) : Int := if freeAt H < H.length then freeAt H else 0
def Pol.tkX (X : Pol) : Pol := if freeAt X.H < X.H.length then ⟨X.H.set (freeAt X.H) 1, X.S.set (freeAt X.H) zsec⟩ else X
set_option maxHeartbeats 400000 in
theorem ptake_nil (w : World) : Calls Tryd.prog 35 #[.pointer none] w fun e w' => e = .returned (.tuple #[.int .i64 0, .int .i64 1]) ∧ w = w' := by
  go_enter Tryd.func35, Tryd.ntmps35
  go_wp2
  go_ret2
  exact ⟨rfl, rfl⟩

set_option maxHeartbeats 400000 in
theorem ptake_zero (p c : Nat) (w : World) (hc : w.cell? ⟨p, 0, none⟩ = some (.slice none 0 c)) : Calls Tryd.prog 35 #[.pointer (some ⟨p, 0, none⟩)] w fun e w' => e = .returned (.tuple #[.int .i64 0, .int .i64 18]) ∧ w = w' := by
  have HF := Lib.hid (pfree_zero p c w hc)
  clear hc
  go_enter Tryd.func35, Tryd.ntmps35
  go_wp2_with (go_at_call 49; refine HF.out.mono ?_; rintro e w4 ⟨rfl, rfl⟩)
  go_ret2
  exact ⟨rfl, rfl⟩

set_option maxHeartbeats 800000 in
theorem ptake_any {w : World} {p h g : Nat} {X : Pol} (a : Pl w p h g X) : Calls Tryd.prog 35 #[.pointer (some ⟨p, 0, none⟩)] w fun e w' =>
    e = .returned (.tuple #[.int .i64 (tkV X.H), .int .i64 (tkE X.H)]) ∧ But (fun j => j = h ∨ j = g) w w' ∧ Pl w' p h g X.tkX := by
  have hf := pfree_any a
  by_cases hlt : freeAt X.H < X.H.length
  · have e1 : tkV X.H = freeAt X.H := by unfold tkV; rw [if_pos hlt]
    have e2 : tkE X.H = 0 := by unfold tkE; rw [if_pos hlt]
    have e3 : X.tkX = ⟨X.H.set (freeAt X.H) 1, X.S.set (freeAt X.H) zsec⟩ := by unfold Pol.tkX; rw [if_pos hlt]
    rw [if_pos hlt, show decide (freeAt X.H < X.H.length) = true by simpa using hlt] at hf
    rw [e1, e2, e3]
    have hb := pbytes_any a _ hlt
    have hkS := a.at_S hlt
    have hle := a.len
    generalize freeAt X.H = k at *
    have HF := Lib.hid hf
    have HB := Lib.hid hb
    have HA := Lib.hid a
    clear hf hb a e1 e2 e3
    go_enter Tryd.func35, Tryd.ntmps35
    go_wp2_with (first
      | (go_at_call 49; refine HF.out.mono ?_; rintro e w4 ⟨rfl, rfl⟩)
      | (go_at_call 50; refine HB.out.mono ?_; rintro e w4 ⟨rfl, rfl⟩)
      | (refine wpList_clear_sec rfl (.tmp 17) _ rfl 5 Tryd.underlying69 zeroU8 g k 64 5 X.S rfl HA.out.all hkS HA.out.byt ?_
         intro w5 hb5 hg5
         have a5 := HA.out.setS hb5 hg5 (by simp) (HA.out.all.set_ zsec_size)
         have c5 := a5.head.at_ 0 _ rfl
         have c6 := a5.row.at_ k _ (icells_at hlt)
         have f6 := a5.row.frozen k
         have HA5 := Lib.hid a5
         have HG5 := Lib.hid hg5
         simp only at c5 c6
         clear hb5 hg5 a5))
    go_ret2
    exact ⟨rfl, ((But.refl (fun j => j = h ∨ j = g) w).grown HG5.out (fun j e => by injection e with e; exact .inl (.inr e.symm))).setCell (p := ⟨h, k, none⟩) (.inl (.inl rfl)) _, HA5.out.setH k 1⟩
  · have e1 : tkV X.H = 0 := by unfold tkV; rw [if_neg hlt]
    have e2 : tkE X.H = 18 := by unfold tkE; rw [if_neg hlt]
    have e3 : X.tkX = X := by unfold Pol.tkX; rw [if_neg hlt]
    rw [if_neg hlt, show decide (freeAt X.H < X.H.length) = false by simpa using hlt] at hf
    rw [e1, e2, e3]
    have HF := Lib.hid hf
    have HA := Lib.hid a
    clear hf a e1 e2 e3 hlt
    go_enter Tryd.func35, Tryd.ntmps35
    go_wp2_with (go_at_call 49; refine HF.out.mono ?_; rintro e w4 ⟨rfl, rfl⟩)
    go_ret2
    exact ⟨rfl, But.refl _ _, HA.out⟩

/-- What Copy tells, and what the pool is then. -/
def cpE (H : List Int) (s : Int) : Int := if askE H s = 0 then tkE H else askE H s
def cpV (H : List Int) (s : Int) : Int := if askE H s = 0 then tkV H else 0
def Pol.cpX (X : Pol) (s : Int) : Pol := if cpE X.H s = 0 then ⟨X.H.set (freeAt X.H) 1, X.S.set (freeAt X.H) (X.S.getD s.toNat ⟨#[]⟩)⟩ else X
theorem free_ne {H : List Int} {k : Nat} (hk : k < H.length) (hx : H[k] ≠ 0) (hf : freeAt H < H.length) : freeAt H ≠ k := by
  rintro rfl
  exact hx (freeAt_zero hf)
theorem cpE_zero {H : List Int} {s : Int} (h : cpE H s = 0) : askE H s = 0 ∧ freeAt H < H.length := by
  unfold cpE at h
  split at h
  · refine ⟨by assumption, ?_⟩
    unfold tkE at h
    split at h
    · assumption
    · cases h
  · exact absurd h (by assumption)



end Go.Proofs.YtbidlabhekiijaaDoor
