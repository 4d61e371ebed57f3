/- Contracts of Set, of package octet and of the reference. -/
import Derived.Test.YtakmmphjdkapeaaDoorOctF
import Derived.Deep.RegionLaw
import Derived.BigRegion
import Derived.IntWalk
import Derived.RegionTactic
import Derived.Lib.LazyBuf
namespace Go.Proofs.YtakmmphjdkapeaaDoor
open Go.RowKit
set_option linter.unusedVariables false

theorem sizeOfU8 (w : World) : (Go.sizeOf 5).run Tryd.prog w = .ok 1 w := by kernel_rfl
/-- What Set tells. -/
def setS (s : ByteArray) (a n : Int) (x : Nat) : ByteArray :=
  if hol s.size a n then mkb (s.data.toList.take a.toNat ++ putL x n.toNat ++ s.data.toList.drop (a.toNat + n.toNat)) else s
theorem wide_of {n : Int} (h1 : 1 ≤ n) (h2 : n ≤ 8) : wide n = n.toNat := by unfold wide; omega


/-- Row g holds the bytes of s, and may be written. -/
def RawB (w : World) (g : Nat) (s : ByteArray) : Prop :=
  g < w.heap.size ∧ ∀ j, j < s.size → w.cell? ⟨g, j, none⟩ = some (.int .u8 (s.data.toList.getD j 0).toNat) ∧ w.frozen? ⟨g, j, none⟩ = false
theorem rawB_new (w : World) (e : TypeId) (s : ByteArray) : RawB (Lib.bytesWorld w e s) w.heap.size s := by
  refine ⟨by rw [Lib.bytesWorld_size]; omega, fun j hj => ⟨Lib.bytesWorld_cell w e s j hj, ?_⟩⟩
  have hsz : s.size ≤ (Lib.bytesCells w e s).size := by
    simp only [Lib.bytesCells, Array.size_append, Array.size_map]
    have : s.data.size = s.size := rfl
    omega
  simp [World.frozen?, Lib.bytesWorld_at_new]
  omega
theorem RawB.below {w w' : World} {g : Nat} {s : ByteArray} (h : RawB w g s) (hb : Below w.heap.size w w') : RawB w' g s :=
  ⟨Nat.lt_of_lt_of_le h.1 hb.size, fun j hj => ⟨(hb.cell (p := ⟨g, j, none⟩) h.1).trans (h.2 j hj).1, (hb.frozen (p := ⟨g, j, none⟩) h.1).trans (h.2 j hj).2⟩⟩
theorem RawB.there {w : World} {g A W : Nat} {s t : ByteArray} (h : RawB w g s) (ht : t.size = W) (hl : A + W ≤ s.size) : ∀ j, j < t.size → (w.cell? ⟨g, A + j, none⟩).isSome = true := fun j hj => by
  rw [(h.2 (A + j) (by omega)).1]; rfl
theorem RawB.free {w : World} {g A W : Nat} {s t : ByteArray} (h : RawB w g s) (ht : t.size = W) (hl : A + W ≤ s.size) : ∀ j, j < t.size → w.frozen? ⟨g, A + j, none⟩ = false := fun j hj => (h.2 (A + j) (by omega)).2
theorem below_bytesWorld (w : World) (e : TypeId) (s : ByteArray) : Below w.heap.size w (Lib.bytesWorld w e s) := by
  refine ⟨?_, ?_, ?_, by rw [Lib.bytesWorld_size]; omega, fun k hk => Lib.bytesWorld_at_old w e s k hk⟩ <;>
    simp [Lib.bytesWorld, World.freeze, World.alloc, World.drew, -World.alloc_eq, -World.drew_eq] <;> split <;> rfl

/-- string(b), behind a copy of some bytes to its middle. -/
theorem run_string_mid {P : Program} (w : World) (src dst e : TypeId) (g cap A : Nat) (s : ByteArray) (l : List UInt8) (hs : P.underlying src = some (.slice e)) (he : P.underlying e = some (.int .u8)) (hd : P.underlying dst = some .string)
    (hr : RawB w g s) (hl : A + l.length ≤ s.size) :
    (convert src dst (.slice (some ⟨g, 0, none⟩) s.size cap)).run P (w.setCells g A (l.map fun x => Value.int .u8 (x.toNat : Int))) =
      .ok (.string (mkb (s.data.toList.take A ++ l ++ s.data.toList.drop (A + l.length)))) (w.setCells g A (l.map fun x => Value.int .u8 (x.toNat : Int))) := by
  have hlen : (s.data.toList.take A ++ l ++ s.data.toList.drop (A + l.length)).length = s.size := by
    simp only [List.length_append, List.length_take, List.length_drop, len_data]; omega
  have h := run_convert_bytes_back (P := P) (w.setCells g A (l.map fun x => Value.int .u8 (x.toNat : Int))) src dst e ⟨g, 0, none⟩ cap (s.data.toList.take A ++ l ++ s.data.toList.drop (A + l.length)) hs he hd (fun j hj => by
    have hadd : (⟨g, 0, none⟩ : Addr).add j = ⟨g, j, none⟩ := by unfold Addr.add; split <;> simp_all
    rw [hadd]
    have hj' : j < s.size := by rw [hlen] at hj; exact hj
    obtain ⟨u, hu⟩ : ∃ u, (s.data.toList.take A ++ l ++ s.data.toList.drop (A + l.length))[j]'hj = u := ⟨_, rfl⟩
    have hq : (s.data.toList.take A ++ l ++ s.data.toList.drop (A + l.length))[j]? = some u := by rw [List.getElem?_eq_getElem hj, hu]
    rw [hu]
    have hta : (s.data.toList.take A).length = A := by rw [List.length_take, len_data]; omega
    by_cases hin : A ≤ j ∧ j < A + l.length
    · obtain ⟨i, rfl⟩ : ∃ i, j = A + i := ⟨j - A, by omega⟩
      rw [World.cell?_setCells_in g _ A w (fun i hi => by rw [(hr.2 _ (by simp at hi; omega)).1]; rfl) i (by simp; omega)]
      rw [List.append_assoc, List.getElem?_append_right (by omega), hta, List.getElem?_append_left (by omega), show A + i - A = i by omega, List.getElem?_eq_getElem (by omega)] at hq
      injection hq with hq
      simp [hq]
    · rw [World.cell?_setCells_out g _ A w _ (fun _ _ => by simp; omega), (hr.2 j hj').1]
      have hs : s.data.toList[j]? = some u := by
        by_cases h1 : j < A
        · rw [List.append_assoc, List.getElem?_append_left (by omega), List.getElem?_take_of_lt h1] at hq
          exact hq
        · rw [List.getElem?_append_right (by rw [List.length_append]; omega), List.length_append, hta, List.getElem?_drop, show A + l.length + (j - (A + l.length)) = j by omega] at hq
          exact hq
      rw [List.getD, hs]; rfl)
  rw [hlen] at h
  exact h

end Go.Proofs.YtakmmphjdkapeaaDoor
