/- Layer 13: things that a law puts together; pairs and numbers that come in. -/
import Derived.Test.YtfoapghjloblnabIq
import Derived.Test.YtfoapghjloblnabIx
import Derived.Test.YtfoapghjloblnabBits
import Derived.Deep.RegionLaw
namespace Go.Proofs.Ytfoapghjloblnab
open Go.RowKit Go.ChangeShapes Go.WideShapes Go.Deep
set_option linter.unusedVariables false
set_option linter.unusedSimpArgs false

theorem infoWant : (Try.prog.info? 27).map (fun i => (i.zero, i.size, i.bytes)) = some (some (.agg #[.int .i64 0, .int .i64 0]), 2, 16) := by kernel_rfl
/-- The cells of things. -/
def wCells (l : List (Int × Int)) : List Value := l.flatMap fun x => [.int .i64 x.1, .int .i64 x.2]
theorem wCells_length : ∀ l, (wCells l).length = l.length * 2
  | [] => rfl
  | e :: l => by
    have h := wCells_length l
    unfold wCells at *
    rw [List.flatMap_cons, List.length_append, h]
    simp; omega
theorem wCells_at : ∀ (l : List (Int × Int)) (k : Nat) (h : k < l.length), (wCells l)[k * 2]? = some (.int .i64 l[k].1) ∧ (wCells l)[k * 2 + 1]? = some (.int .i64 l[k].2)
  | e :: l, 0, _ => ⟨rfl, rfl⟩
  | e :: l, k + 1, h => by
    obtain ⟨h1, h2⟩ := wCells_at l k (by simpa using h)
    unfold wCells at *
    rw [List.flatMap_cons]
    refine ⟨?_, ?_⟩
    · rw [List.getElem?_append_right (by simp; omega), show (k + 1) * 2 - [Value.int .i64 e.1, .int .i64 e.2].length = k * 2 by simp; omega]
      exact h1
    · rw [List.getElem?_append_right (by simp; omega), show (k + 1) * 2 + 1 - [Value.int .i64 e.1, .int .i64 e.2].length = k * 2 + 1 by simp; omega]
      exact h2
theorem wCells_snoc (l : List (Int × Int)) (x : Int × Int) : wCells (l ++ [x]) = wCells l ++ [.int .i64 x.1, .int .i64 x.2] := by simp [wCells]
/-- What a call's own row of things is. -/
theorem WRow.of_own {w : World} {B n : Nat} {A : Option Addr} {c : Nat} {l : List (Int × Int)} (h : w.ownsRow B 27 2 (.slice A n c) n (wCells l)) (hw : ∀ x ∈ l, (Lit.int .i64 x.1).wf = true ∧ (Lit.int .i64 x.2).wf = true) : WRow w A l := fun i hi => by
  have hl := h.1
  rw [wCells_length] at hl
  rcases h.2 with ⟨h0, h1⟩ | ⟨g, cap, cur, hv, hbg, hg, _, _, _, ht⟩
  · omega
  · injection hv with hv1 _ _
    subst hv1
    obtain ⟨h1, h2⟩ := wCells_at l i hi
    rw [← ht, List.getElem?_take, if_pos (by omega)] at h1 h2
    have e : ∀ j, (⟨g, 0, none⟩ : Addr).add j = ⟨g, j, none⟩ := fun j => by unfold Addr.add; split <;> simp_all
    refine ⟨⟨g, 0, none⟩, rfl, Blk.lt (t := 27) (cs := cur) hg, ?_, ?_, (hw _ (List.getElem_mem hi)).1, (hw _ (List.getElem_mem hi)).2⟩
    · rw [e, (show Blk w g 27 cur from hg).cell]
      simpa using h1
    · rw [e, (show Blk w g 27 cur from hg).cell]
      simpa using h2
theorem cell_twoI (w : World) (x y : Value) (t : TypeId) : ∀ j u, [x, y][j]? = some u → (w.alloc (.cells #[x, y] t)).cell? ((⟨w.heap.size, 0, none⟩ : Addr).add j) = some u := fun j u hj => by
  have e : (⟨w.heap.size, 0, none⟩ : Addr).add j = ⟨w.heap.size, j, none⟩ := by unfold Addr.add; split <;> simp_all
  rw [e, (Blk.new w t #[x, y]).cell]
  simpa using hj
/-- Rows of unlike things lie apart. -/
theorem own_apart {w : World} {B1 B2 e1 e2 s1 s2 n1 n2 : Nat} {v1 v2 : Value} {x1 x2 : List Value} (h1 : w.ownsRow B1 e1 s1 v1 n1 x1) (h2 : w.ownsRow B2 e2 s2 v2 n2 x2) (he : e1 ≠ e2) : ∀ g, v1.ownBlock = some g → v2.ownBlock ≠ some g := fun g hg hg2 => by
  obtain ⟨_, _, c1, b1⟩ := own_lo h1 hg
  obtain ⟨_, _, c2, b2⟩ := own_lo h2 hg2
  unfold Blk at b1 b2
  rw [b1] at b2
  injection b2 with b2
  injection b2 with _ b3 _
  exact he b3
theorem own_grown {w w' : World} {B e size n : Nat} {v : Value} {xs : List Value} {row : Option Nat} (h : w.ownsRow B e size v n xs) (hg : w.grownBy w' row) (hr : ∀ g, v.ownBlock = some g → row ≠ some g) : w'.ownsRow B e size v n xs := by
  rcases h with ⟨h0, h1⟩
  refine ⟨h0, ?_⟩
  rcases h1 with h1 | ⟨g, cap, cur, hv, hbg, hh, h2⟩
  · exact .inl h1
  · exact .inr ⟨g, cap, cur, hv, hbg, ((show Blk w g e cur from hh).grown hg (fun e' => hr g (by rw [hv]; rfl) e'.symm)), h2⟩

section
variable {H : Type} {enc : TypeId × Value → H} {w : World} {base : Nat} {spare : Nat → Bool} {held : Bool} {r : Reach} {b0 : Nat} {v : Value} {d : DataW H} {ps : List MemPlace}
theorem openInts13 (hv : Value.okWide Try.prog w r b0 28 v) (h : DataW.Trod enc Try.prog w base spare held 28 v d ps) : ∃ A zs c, v = .slice A (List.length zs) c ∧ zs.length ≤ maxLen ∧ IntRow w A zs :=
  open_int_row Try.underlying28 Try.underlying3 (by kernel_rfl) hv h
/-- A slice of pairs of ints: they lie as things do. -/
theorem openPairs13 (hv : Value.okWide Try.prog w r b0 22 v) (h : DataW.Trod enc Try.prog w base spare held 22 v d ps) : ∃ A l c, v = .slice A (List.length l) c ∧ l.length ≤ maxLen ∧ WRow w A l := by
  have hc2 : Try.prog.cellsOf 23 = 2 := by kernel_rfl
  have hc1 : Try.prog.cellsOf 3 = 1 := by kernel_rfl
  obtain ⟨A, n, c, rfl, hn, hi⟩ := open_row_n Try.underlying22 hv h (by rw [hc2]; omega)
  obtain ⟨zs, hl, hz⟩ := list_of (Q := fun i (z : Int × Int) => ∃ ad, A = some ad ∧ ad.block < w.heap.size ∧ w.cell? (ad.add (i * 2)) = some (.int .i64 z.1) ∧ w.cell? (ad.add (i * 2 + 1)) = some (.int .i64 z.2) ∧ (Lit.int .i64 z.1).wf = true ∧ (Lit.int .i64 z.2).wf = true) n (fun i h => by
    obtain ⟨ad, rfl, hb, fuel, cs, y, hlen, hat, hy⟩ := hi i h
    rw [hc2] at hlen hat
    obtain ⟨xs, m, _, _, _, hxl, hel⟩ := DataW.trod_array Try.underlying23 hy
    match cs, hlen with
    | [c0, c1], _ =>
      have h0 := hel 0 (by omega)
      have h1 := hel 1 (by omega)
      rw [hc1, List.getElem?_eq_getElem (by omega)] at h0 h1
      obtain ⟨z0, e0, _, w0⟩ := DataW.trod_int Try.underlying3 h0
      obtain ⟨z1, e1, _, w1⟩ := DataW.trod_int Try.underlying3 h1
      simp at e0 e1
      subst e0 e1
      exact ⟨(z0, z1), ad, rfl, hb, by simpa using hat 0 (by omega), by simpa using hat 1 (by omega), w0, w1⟩)
  subst hl
  exact ⟨A, zs, c, rfl, hn, hz⟩
end
theorem i64_and255I (n : Int) : bits .and .i64 n 255 = n % 256 := i64_and_mask n 8 255 (by omega) (by decide)
theorem i64_and511I (n : Int) : bits .and .i64 n 511 = n % 512 := i64_and_mask n 9 511 (by omega) (by decide)
theorem i64_and31I (n : Int) : bits .and .i64 n 31 = n % 32 := i64_and_mask n 5 31 (by omega) (by decide)
theorem i64_and63I (n : Int) : bits .and .i64 n 63 = n % 64 := i64_and_mask n 6 63 (by omega) (by decide)
theorem i64_and127I (n : Int) : bits .and .i64 n 127 = n % 128 := i64_and_mask n 7 127 (by omega) (by decide)
end Go.Proofs.Ytfoapghjloblnab
