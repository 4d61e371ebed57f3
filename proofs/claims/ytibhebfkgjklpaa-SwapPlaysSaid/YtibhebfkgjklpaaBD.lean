/- Package block: Of. -/
import Derived.Test.YtibhebfkgjklpaaBC
namespace Go.Proofs.Ytibhebfkgjklpaa
open Go.RowKit
set_option linter.unusedVariables false

/-- A text filled, or cut, to a sector. -/
def fill64 (s : ByteArray) : ByteArray := mkb (fillL s.data.toList 64)
theorem fill64_size (s : ByteArray) : (fill64 s).size = 64 := by unfold fill64; rw [mkb_size, fillL_length]
theorem over_zsec (s : ByteArray) : over zsec s = fill64 s := by
  unfold over fill64 fillL zsec
  rw [mkb_data, List.drop_replicate, len_data]
  congr 3
  omega

/-- The disk behind k rounds of Of. -/
def ofD (l : List ByteArray) (k : Nat) : Dsk := ⟨(l.take k).map fill64 ++ List.replicate (l.length - k) zsec, 0, 0, 0⟩
theorem ofD_zero (l : List ByteArray) : ofD l 0 = newD l.length := by simp [ofD, newD]
theorem ofD_length (l : List ByteArray) {k : Nat} (h : k ≤ l.length) : (ofD l k).S.length = l.length := by simp [ofD]; omega
theorem ofD_at (l : List ByteArray) {k : Nat} (h : k < l.length) (h' : k < (ofD l k).S.length) : (ofD l k).S[k] = zsec := by
  have hl : ((l.take k).map fill64).length = k := by simp; omega
  have e : (ofD l k).S[k]? = some zsec := by
    show ((l.take k).map fill64 ++ List.replicate (l.length - k) zsec)[k]? = _
    rw [List.getElem?_append_right (by omega), hl, Nat.sub_self, List.getElem?_replicate, if_pos (by omega)]
  exact (List.getElem?_eq_some_iff.1 e).2
theorem ofD_set (l : List ByteArray) {k : Nat} (h : k < l.length) : { ofD l k with S := (ofD l k).S.set k (fill64 l[k]) } = ofD l (k + 1) := by
  have hl : ((l.take k).map fill64).length = k := by simp; omega
  show Dsk.mk _ _ _ _ = Dsk.mk _ _ _ _
  congr 1
  show ((l.take k).map fill64 ++ List.replicate (l.length - k) zsec).set k _ = _
  rw [List.set_append_right _ _ (by omega), hl, Nat.sub_self, show l.length - k = (l.length - (k + 1)) + 1 by omega, List.replicate_succ, List.set_cons_zero, List.take_succ_eq_append_getElem h, List.map_append, List.append_assoc]
  rfl
theorem ofD_full (l : List ByteArray) : ofD l l.length = ⟨l.map fill64, 0, 0, 0⟩ := by simp [ofD]


end Go.Proofs.Ytibhebfkgjklpaa
