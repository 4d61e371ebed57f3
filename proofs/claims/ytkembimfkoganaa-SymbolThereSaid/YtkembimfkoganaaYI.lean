/- Rows of strings: that come in; of the call's own, cut texts one behind the other. -/
import Derived.Test.YtkembimfkoganaaYH
import Derived.Test.YtkembimfkoganaaYE
import Derived.Deep.RegionHeld3
import Derived.Deep.RegionLaw
namespace Go.Proofs.Ytkembimfkoganaa
open Go.RowKit Go.ChangeShapes Go.WideShapes Go.Deep
set_option linter.unusedVariables false
set_option linter.unusedSimpArgs false

section
variable {H : Type} {enc : TypeId × Value → H} {w : World} {base : Nat} {spare : Nat → Bool} {held : Bool} {r : Reach} {b0 : Nat} {v : Value} {d : DataW H} {ps : List MemPlace}
theorem openStrsY (hv : Value.okWide Try.prog w r b0 24 v) (h : DataW.Trod enc Try.prog w base spare held 24 v d ps) : ∃ A ss c, v = .slice A (List.length ss) c ∧ ss.length ≤ maxLen ∧ StrRow w A ss :=
  open_str_row Try.underlying24 Try.underlying9 (by kernel_rfl) hv h
end
theorem strRow_ownY {w : World} {lo n : Nat} {v : Value} {l : List ByteArray} (h : w.ownsRow lo 9 1 v n (strs l)) (hw : ∀ z ∈ l, z.size ≤ maxLen) : n = l.length ∧ ∃ A c, v = .slice A l.length c ∧ StrRow w A l := by
  have hl := h.1
  rw [show (strs l).length = l.length by simp [strs]] at hl
  obtain rfl : n = l.length := by omega
  refine ⟨rfl, ?_⟩
  rcases h.2 with ⟨rfl, h0⟩ | ⟨g, cap, cur, rfl, hbg, hg, _, _, _, ht⟩
  · have : l = [] := List.length_eq_zero_iff.1 h0
    subst this
    exact ⟨none, 0, rfl, fun i hi => absurd hi (by simp)⟩
  · refine ⟨_, cap, rfl, fun i hi => ⟨⟨g, 0, none⟩, rfl, (show Blk w g _ cur from hg).lt, ?_, hw _ (List.getElem_mem hi)⟩⟩
    have h1 : (strs l)[i]? = some (.string l[i]) := by simp [strs, hi]
    rw [← ht, List.getElem?_take, if_pos (by omega)] at h1
    have e : (⟨g, 0, none⟩ : Addr).add i = ⟨g, i, none⟩ := by unfold Addr.add; split <;> simp_all
    rw [e, (show Blk w g _ cur from hg).cell]
    simpa using h1
/-- What was put together in k rounds. -/
def mYL (ss : List ByteArray) (k : Nat) : List ByteArray := (ss.take k).map (shortSY · 8)
theorem mYL_succ (ss : List ByteArray) {k : Nat} (h : k < ss.length) : strs (mYL ss (k + 1)) = strs (mYL ss k) ++ [.string (shortSY ss[k] 8)] := by
  unfold mYL strs
  rw [List.take_succ_eq_append_getElem h, List.map_append, List.map_append]
  rfl
theorem mYL_length (ss : List ByteArray) {k : Nat} (h : k ≤ ss.length) : (mYL ss k).length = k := by simp [mYL]; omega
theorem mYL_size (ss : List ByteArray) (k : Nat) : ∀ s ∈ mYL ss k, s.size ≤ 100 := by
  intro s hs
  obtain ⟨t, _, rfl⟩ := List.mem_map.1 hs
  have := shortSY_size t 8
  omega
end Go.Proofs.Ytkembimfkoganaa
