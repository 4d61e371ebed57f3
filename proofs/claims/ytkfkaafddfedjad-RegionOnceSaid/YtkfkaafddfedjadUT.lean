/- Rows put together of single pages (pure); a box of Booleans. -/
import Derived.Test.YtkfkaafddfedjadUS
namespace Go.Proofs.Ytkfkaafddfedjad
open Go.RowKit Go.ChangeShapes Go.WideShapes Go.Deep
set_option linter.unusedVariables false
set_option linter.unusedSimpArgs false

/-- Some of a region's pages are in a row. -/
structure OnceI (r : Rg) (L : List Rg) (D : List Bool) : Prop where
  row : RowP L
  len : D.length = 16
  at_ : ∀ x, atL L x = if r.f ≤ x ∧ x < r.t ∧ D[(x - r.f).toNat]? = some true then some (r.inf x) else none
theorem OnceI.start (r : Rg) : OnceI r [] (List.replicate 16 false) := ⟨RowP.nil, by simp, fun x => by
  rw [if_neg]
  · rfl
  · rintro ⟨_, _, h⟩
    rw [List.getElem?_replicate] at h
    split at h <;> simp at h⟩
/-- One page of a region. -/
def pageR (r : Rg) (k : Nat) : Rg := r.part (r.f + k) (r.f + k + 1)
theorem pageR_may {r : Rg} (h : r.May) {k : Nat} (hk : r.f + k < r.t) : (pageR r k).May := h.part_may (by omega) (by omega) (by omega)
theorem pageR_at {r : Rg} {k : Nat} (hk : r.f + k < r.t) (x : Int) : (pageR r k).at_ x = if x = r.f + k then some (r.inf x) else none := by
  unfold pageR
  rw [Rg.part_at (by omega) (by omega)]
  by_cases e : x = r.f + k
  · rw [if_pos (by omega), if_pos e, Rg.at_some (by omega) (by omega)]
  · rw [if_neg (by omega), if_neg e]
theorem OnceI.free {r : Rg} {L : List Rg} {D : List Bool} (h : OnceI r L D) {k : Nat} (hk : r.f + k < r.t) (hd : D[k]? = some false) : ∀ y ∈ L, ¬ (y.f < (pageR r k).t ∧ (pageR r k).f < y.t) := fun y hy => by
  show ¬ (y.f < r.f + k + 1 ∧ r.f + k < y.t)
  rintro ⟨h1, h2⟩
  have h3 := h.row.asc.at_ hy (x := r.f + k) (by omega) h2
  rw [h.at_, if_neg] at h3
  · cases h3
  · rintro ⟨_, _, h4⟩
    rw [show (r.f + (k : Int) - r.f).toNat = k by omega, hd] at h4
    cases h4
theorem OnceI.step {r : Rg} {L : List Rg} {D : List Bool} (h : OnceI r L D) (hm : r.May) {k : Nat} (hk : r.f + k < r.t) (hd : D[k]? = some false) {j : Nat} (hj : AddAt L (pageR r k) j) : OnceI r (addL L (pageR r k) j) (D.set k true) := by
  obtain ⟨a1, a2, a3⟩ := addL_ok h.row.asc (pageR_may hm hk) hj
  have hkl : k < D.length := (List.getElem?_eq_some_iff.1 hd).1
  refine ⟨a1, by rw [List.length_set]; exact h.len, fun x => ?_⟩
  rw [a2, h.at_, pageR_at hk]
  by_cases e : x = r.f + k
  · subst e
    have e1 : (r.f + (k : Int) - r.f).toNat = k := by omega
    rw [e1, List.getElem?_set_self hkl, hd, if_neg (by simp), if_pos rfl, if_pos ⟨by omega, by omega, rfl⟩]
    rfl
  · by_cases h1 : r.f ≤ x
    · have e2 : k ≠ (x - r.f).toNat := by omega
      rw [if_neg e, Option.or_none, List.getElem?_set_ne e2]
    · rw [if_neg e, Option.or_none, if_neg (by omega), if_neg (by omega)]
theorem OnceI.done {r : Rg} {L : List Rg} {D : List Bool} (h : OnceI r L D) (hm : r.May) (hd : ∀ k : Nat, r.f + k < r.t → D[k]? = some true) : L = [r] := by
  refine h.row.uniq (one_row hm) fun x => ?_
  rw [h.at_]
  show _ = (r.at_ x).or none
  rw [Option.or_none]
  by_cases c : r.f ≤ x ∧ x < r.t
  · rw [if_pos ⟨c.1, c.2, hd _ (by omega)⟩, Rg.at_some c.1 c.2]
  · rw [if_neg (by omega), Rg.at_none (by omega)]

/-- A box of Booleans. -/
def boolCs (D : List Bool) : Array Value := (D.map Value.bool).toArray
theorem boolCs_at (D : List Bool) (k : Nat) : (boolCs D)[k]? = (D[k]?).map Value.bool := by unfold boolCs; simp
theorem boolCs_set (D : List Bool) (k : Nat) (b : Bool) : (boolCs D).setIfInBounds k (.bool b) = boolCs (D.set k b) := by unfold boolCs; simp
theorem RS.store_bool {w : World} {A : Option Addr} {n c g : Nat} {l : List Rg} {t : TypeId} {D : List Bool} (h : RS w A n c l) (hb : Blk w g t (boolCs D)) (j : Nat) (v : Value) : RS (w.setCell ⟨g, j, none⟩ v) A n c l := by
  refine ⟨?_, h.len, h.cap, h.max, fun ad e => by simpa using h.lt ad e⟩
  cases l with
  | nil => exact RgRow.nil _ _
  | cons r l =>
    refine h.row.same (by simp) fun ad e => Below.heap_setCell _ _ _ _ (show ad.block ≠ g from fun eg => ?_)
    obtain ⟨ad', e2, h1, h2, h3⟩ := h.row 0 (by simp)
    rw [e] at e2
    cases e2
    have h4 := h2 0 (by omega)
    have e3 : (ad.add (0 * 6 + 0)) = ⟨g, ad.off, ad.spot⟩ := by
      rw [← eg]
      show ad.add 0 = _
      unfold Addr.add
      simp
    rw [e3] at h4
    have h5 : w.cell? ⟨g, ad.off, ad.spot⟩ = some (.int .i64 r.f) := h4
    cases hs : ad.spot with
    | none =>
      rw [hs, hb.cell, boolCs_at] at h5
      cases hd : D[ad.off]? with
      | none => rw [hd] at h5; cases h5
      | some b => rw [hd] at h5; cases h5
    | some z =>
      rw [hs] at h5
      have hb' : w.heap[g]? = some (.cells (boolCs D) t (0, 0)) := hb
      simp [World.cell?, hb'] at h5
end Go.Proofs.Ytkfkaafddfedjad
