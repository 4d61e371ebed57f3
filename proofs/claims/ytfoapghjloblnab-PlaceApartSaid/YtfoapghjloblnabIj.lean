/- slices.Sort and Compact of a row of the call's own. -/
import Derived.Test.YtfoapghjloblnabIh
namespace Go.Proofs.Ytfoapghjloblnab
open Go.RowKit Go.ChangeShapes Go.WideShapes Go.Deep Go.Sort
set_option linter.unusedVariables false
set_option linter.unusedSimpArgs false

theorem sortedI (L : List Int) (g cap : Nat) (cur : Array Value) (w : World) (hb : Blk w g 3 cur) (h4 : cur.toList.take L.length = L.map (Value.int .i64)) (h3 : cur.size = cap) (h1 : L.length ≤ cap) (hL : L.length ≤ 1000) :
    Calls Try.prog 15 #[.slice (some ⟨g, 0, none⟩) L.length cap] w fun e w' => e = .returned (.tuple #[]) ∧ w.grownBy w' (some g) ∧
      ∃ cur', Blk w' g 3 cur' ∧ cur'.size = cap ∧ cur'.toList.take L.length = (L.mergeSort fun x y => decide (x ≤ y)).map (Value.int .i64) := by
  have hc := Any.slices_Sort_int lays189 g 0 cap L w (holds_of_blockI hb h4) hb.lt (by omega)
  refine Calls.mono hc ?_
  rintro e w' ⟨rfl, n, os, rfl⟩
  have hl : (L.mergeSort fun x y => decide (x ≤ y)).length = L.length := (List.mergeSort_perm L _).length_eq
  refine ⟨rfl, grownBy_sortedI _, _, heap_sortedI _ hb, by simp [putCells, h3], ?_⟩
  rw [← hl]
  exact take_putCellsI cur _ (by rw [hl, h3]; exact h1)
theorem compactedI (S : List Int) (g cap : Nat) (cur : Array Value) (w : World) (hb : Blk w g 3 cur) (h4 : cur.toList.take S.length = S.map (Value.int .i64)) (h3 : cur.size = cap) (h1 : S.length ≤ cap) (hL : S.length ≤ 1000) :
    Calls Try.prog 16 #[.slice (some ⟨g, 0, none⟩) S.length cap] w fun e w' => e = .returned (.slice (some ⟨g, 0, none⟩) (Lib.compact S).length cap) ∧ w.grownBy w' (some g) ∧
      ∃ cur', Blk w' g 3 cur' ∧ ∀ k, k < (Lib.compact S).length → cur'[k]? = some (.int .i64 ((Lib.compact S).getD k 0)) := by
  have hc := Any.slices_Compact_int laysNm220 g 0 cap S w (holds_of_blockI hb h4) (by omega) h1
  have hle : (Lib.compact S).length ≤ S.length := by unfold Lib.compact Lib.compactUpTo; have := List.length_filter_le (Lib.keeps S.toArray) (List.range S.length); simpa using this
  refine Calls.mono hc ?_
  rintro e w' ⟨rfl, q, rfl⟩
  have hg := grownBy_sortedI (w := w) (g := g) (n := q) (os := #[]) (Lib.compact S ++ List.replicate (S.length - (Lib.compact S).length) 0).toArray
  have hh := heap_sortedI (n := q) (os := #[]) (Lib.compact S ++ List.replicate (S.length - (Lib.compact S).length) 0).toArray hb
  have ht := take_putCellsI cur (Lib.compact S ++ List.replicate (S.length - (Lib.compact S).length) 0) (by simp; omega)
  rw [grow_empty] at hg hh
  refine ⟨rfl, hg, _, hh, fun k hk => ?_⟩
  have hk2 := congrArg (fun l : List Value => l[k]?) ht
  simp only [List.length_append, List.length_replicate] at hk2
  rw [List.getElem?_take, if_pos (by omega), List.map_append, List.getElem?_append_left (by simpa using hk), List.getElem?_map, List.getElem?_eq_getElem hk] at hk2
  rw [← Array.getElem?_toList, hk2, List.getD_eq_getElem?_getD, List.getElem?_eq_getElem hk]
  rfl
end Go.Proofs.Ytfoapghjloblnab
