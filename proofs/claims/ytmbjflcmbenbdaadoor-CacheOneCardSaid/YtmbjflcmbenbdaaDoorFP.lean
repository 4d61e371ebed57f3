/- Package files: fill's closure. -/
import Derived.Test.YtmbjflcmbenbdaaDoorFM
import Derived.StillTailTactics
import Derived.Deep.RegionHeld3
namespace Go.Proofs.YtmbjflcmbenbdaaDoor
open Go.RowKit Go.Shelf
set_option linter.unusedVariables false
set_option linter.unusedSimpArgs false

theorem fillS_64 (s : ByteArray) : fillS s 64 = fill64 s := rfl
theorem strs_set (cs : List ByteArray) (k : Nat) (s : ByteArray) : (strs cs).toArray.setIfInBounds k (.string s) = (strs (cs.set k s)).toArray := by
  unfold strs
  rw [List.map_set]
  simp
/-- The sectors lie at gs, the variable that holds them at bs. -/
structure Secs (W : World) (bs gs : Nat) (cs : List ByteArray) : Prop where
  var : Blk W bs 29 #[.slice (some ⟨gs, 0, none⟩) cs.length cs.length]
  row : Blk W gs 9 (strs cs).toArray
theorem Secs.below {W W' : World} {bs gs : Nat} {cs : List ByteArray} (h : Secs W bs gs cs) (hb : Below W.heap.size W W') : Secs W' bs gs cs := ⟨h.var.below hb h.var.lt, h.row.below hb h.row.lt⟩
theorem Secs.drew {W : World} {bs gs : Nat} {cs : List ByteArray} (h : Secs W bs gs cs) : Secs W.drew bs gs cs := ⟨h.var.drew, h.row.drew⟩
theorem Secs.ne {W : World} {bs gs : Nat} {cs : List ByteArray} (h : Secs W bs gs cs) : bs ≠ gs := by
  rintro rfl
  have h1 := h.var
  have h2 := h.row
  unfold Blk at h1 h2
  rw [h1] at h2
  injection h2 with h2
  injection h2 with _ h3 _
  exact absurd h3 (by decide)

end Go.Proofs.YtmbjflcmbenbdaaDoor
