/- Rows of one's own, block by block. -/
import Derived.Test.YtmbjflcmbenbdaaDoorBut
namespace Go.Proofs.YtmbjflcmbenbdaaDoor
open Go.RowKit
set_option linter.unusedVariables false

theorem own_by {W W' : World} {B e size n : Nat} {v : Value} {xs : List Value} (h : W.ownsRow B e size v n xs) (hk : ∀ g cur, v.ownBlock = some g → B ≤ g → Blk W g e cur → Blk W' g e cur) : W'.ownsRow B e size v n xs := by
  obtain ⟨h1, h2⟩ := h
  refine ⟨h1, ?_⟩
  rcases h2 with h2 | ⟨g, cap, cur, rfl, hB, hg, r⟩
  · exact .inl h2
  · exact .inr ⟨g, cap, cur, rfl, hB, hk g cur rfl hB hg, r⟩
theorem own_blk {W : World} {B e size n g : Nat} {v : Value} {xs : List Value} (h : W.ownsRow B e size v n xs) (hg : v.ownBlock = some g) : B ≤ g ∧ ∃ cur, Blk W g e cur := by
  rcases h.2 with ⟨rfl, _⟩ | ⟨g', cap, cur, rfl, hB, hb, r⟩
  · simp [Value.ownBlock] at hg
  · simp [Value.ownBlock] at hg
    subst hg
    exact ⟨hB, cur, hb⟩
theorem Blk.two {W : World} {g : Nat} {t t' : TypeId} {cs cs' : Array Value} (h : Blk W g t cs) (k : Blk W g t' cs') : t = t' := by
  unfold Blk at h k
  rw [h] at k
  cases k
  rfl
end Go.Proofs.YtmbjflcmbenbdaaDoor
