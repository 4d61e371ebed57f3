/- Layer 17: ints and pairs of ints that come in; letters. -/
import Derived.Test.YtafogipkbhglcaaJH
import Derived.Test.YtafogipkbhglcaaJI
namespace Go.Proofs.Ytafogipkbhglcaa
open Go.ChangeShapes Go.WideShapes Go.ChangeAt Go.RowKit Go.Deep
set_option linter.unusedVariables false
set_option linter.unusedSimpArgs false

theorem intRow_below17 {w w' : World} {A : Option Addr} {zs : List Int} (h : IntRow w A zs) {n : Nat} (hn : n = w.heap.size) (hb : Below n w w') : IntRow w' A zs := fun i hi => by
  obtain ⟨ad, h1, h2, h3, h4⟩ := h i hi
  refine ⟨ad, h1, Nat.lt_of_lt_of_le h2 hb.size, (hb.cell ?_).trans h3, h4⟩
  have : (ad.add i).block = ad.block := by unfold Addr.add; split <;> rfl
  omega
/-- A slice of pairs of ints. -/
def P2Row (w : World) (A : Option Addr) (l : List (Int × Int)) : Prop := ∀ i (hi : i < l.length), ∃ ad, A = some ad ∧ ad.block < w.heap.size ∧ w.cell? (ad.add (i * 2)) = some (.int .i64 l[i].1) ∧ w.cell? (ad.add (i * 2 + 1)) = some (.int .i64 l[i].2) ∧ (Lit.int .i64 l[i].1).wf = true ∧ (Lit.int .i64 l[i].2).wf = true
theorem P2Row.below {w w' : World} {A : Option Addr} {l : List (Int × Int)} (h : P2Row w A l) {n : Nat} (hn : n = w.heap.size) (hb : Below n w w') : P2Row w' A l := fun i hi => by
  obtain ⟨ad, h1, h2, h3, h4, h5⟩ := h i hi
  have e : ∀ j, (ad.add j).block = ad.block := fun j => by unfold Addr.add; split <;> rfl
  refine ⟨ad, h1, Nat.lt_of_lt_of_le h2 hb.size, (hb.cell ?_).trans h3, (hb.cell ?_).trans h4, h5⟩
  · rw [e]; omega
  · rw [e]; omega
section
variable {H : Type} {enc : TypeId × Value → H} {w : World} {base : Nat} {spare : Nat → Bool} {held : Bool} {r : Reach} {b0 : Nat} {v : Value} {d : DataW H} {ps : List MemPlace}
set_option maxRecDepth 100000 in
theorem openInts17 (hv : Value.okWide Try.prog w r b0 49 v) (h : DataW.Trod enc Try.prog w base spare held 49 v d ps) : ∃ A zs c, v = .slice A (List.length zs) c ∧ zs.length ≤ maxLen ∧ IntRow w A zs :=
  open_int_row Try.underlying49 Try.underlying3 (by kernel_rfl) hv h
set_option maxRecDepth 100000 in
theorem openPairs17 (hv : Value.okWide Try.prog w r b0 36 v) (h : DataW.Trod enc Try.prog w base spare held 36 v d ps) : ∃ A l c, v = .slice A (List.length l) c ∧ l.length ≤ maxLen ∧ P2Row w A l := by
  have hc2 : Try.prog.cellsOf 37 = 2 := by kernel_rfl
  have hc1 : Try.prog.cellsOf 3 = 1 := by kernel_rfl
  obtain ⟨A, n, c, rfl, hn, hi⟩ := open_row_n Try.underlying36 hv h (by rw [hc2]; omega)
  obtain ⟨zs, hl, hz⟩ := list_of (Q := fun i (z : Int × Int) => ∃ ad, A = some ad ∧ ad.block < w.heap.size ∧ w.cell? (ad.add (i * 2)) = some (.int .i64 z.1) ∧ w.cell? (ad.add (i * 2 + 1)) = some (.int .i64 z.2) ∧ (Lit.int .i64 z.1).wf = true ∧ (Lit.int .i64 z.2).wf = true) n (fun i h => by
    obtain ⟨ad, rfl, hb, fuel, cs, y, hlen, hat, hy⟩ := hi i h
    rw [hc2] at hlen hat
    obtain ⟨xs, m, _, _, _, hxl, hel⟩ := DataW.trod_array Try.underlying37 hy
    match cs, hlen with
    | [c0, c1], _ =>
      have h0 := hel 0 (by omega)
      have h1 := hel 1 (by omega)
      rw [hc1, List.getElem?_eq_getElem (by omega)] at h0 h1
      obtain ⟨z0, e0, _, w0⟩ := DataW.trod_int Try.underlying3 h0
      obtain ⟨z1, e1, _, w1⟩ := DataW.trod_int Try.underlying3 h1
      simp at e0 e1
      subst e0 e1
      exact ⟨(z0, z1), ad, rfl, hb, by simpa using hat 0 (by omega), by simpa using hat 1 (by omega), w0, w1⟩)
  subst hl
  exact ⟨A, zs, c, rfl, hn, hz⟩
end

/-- A text of one letter, and how it is made. -/
def letterJ (q : Nat) : ByteArray := mkb [UInt8.ofNat q]
theorem letterJ_size (q : Nat) : (letterJ q).size = 1 := rfl
theorem letterJ_run (q : Nat) (h : q < 256) (w : World) (X : Nat) (hX : w.heap.size = X) : (convert 38 9 (.slice (some ⟨X, 0, none⟩) 1 1)).run Try.prog (w.alloc (.cells #[.int .u8 (q : Int)] 5)) = .ok (.string (letterJ q)) (w.alloc (.cells #[.int .u8 (q : Int)] 5)) := by
  subst hX
  refine run_string_blk (P := Try.prog) _ 38 9 5 w.heap.size 1 5 [UInt8.ofNat q] 1 rfl Try.underlying38 Try.underlying5 Try.underlying9 ?_
  have e : Lib.byteCells [UInt8.ofNat q] = [.int .u8 (q : Int)] := by
    simp [Lib.byteCells]
    omega
  rw [e]
  exact Blk.new _ _ _
theorem letterJ_no0 {q : Nat} (h : q < 256) (h0 : q ≠ 0) : (0 : UInt8) ∉ (letterJ q).data.toList := by
  unfold letterJ
  rw [mkb_data]
  intro hm
  have e := List.mem_singleton.1 hm
  have e2 := congrArg UInt8.toNat e
  simp at e2
  omega
/-- Texts that stand on a stack in a law: not long, without bytes 0. -/
def OkT (m : Nat) (s : ByteArray) : Prop := s.size ≤ m ∧ (0 : UInt8) ∉ s.data.toList
theorem OkT.nil (m : Nat) : OkT m ⟨#[]⟩ := ⟨Nat.zero_le _, by simp⟩
theorem no0_append {a b : ByteArray} (ha : (0 : UInt8) ∉ a.data.toList) (hb : (0 : UInt8) ∉ b.data.toList) : (0 : UInt8) ∉ (a ++ b).data.toList := by
  intro h
  rw [ByteArray.data_append, Array.toList_append, List.mem_append] at h
  rcases h with h | h
  · exact ha h
  · exact hb h
theorem plainB_okT {m : Nat} {L : List ByteArray} (h : ∀ s ∈ L, OkT m s) : plainB L = true := plainB_of (fun s hs => (h s hs).2)
theorem tlen_okT {m : Nat} {L : List ByteArray} (h : ∀ s ∈ L, OkT m s) : tlen L ≤ L.length * (m + 1) := tlen_le (fun s hs => (h s hs).1)
theorem okT_snoc {m : Nat} {L : List ByteArray} {s : ByteArray} (h : ∀ s ∈ L, OkT m s) (hs : OkT m s) : ∀ x ∈ L ++ [s], OkT m x := fun x hx => by
  rcases List.mem_append.1 hx with h1 | h1
  · exact h x h1
  · rw [List.mem_singleton.1 h1]; exact hs
end Go.Proofs.Ytafogipkbhglcaa
