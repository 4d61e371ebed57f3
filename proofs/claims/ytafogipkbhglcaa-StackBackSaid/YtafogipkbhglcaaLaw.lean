/- What the frames of the laws share: arrays of integers by value. -/
import Derived.Test.YtafogipkbhglcaaRows
import Derived.WalkKit
import Derived.ProofKit
import Derived.OpenShut
import Derived.ShutString
import Derived.ChangeOld
import Derived.Below
namespace Go.Proofs.Ytafogipkbhglcaa
open Go.ChangeShapes Go.WideShapes Go.ChangeAt Go.RowKit

theorem own : ownKnob Try.prog.godebug = none := by kernel_rfl
theorem laidOut : laidOutB Try.prog = true := by kernel_rfl

section
variable {H : Type} {enc : TypeId × Value → H} {P : Program} {w : World} {base : Nat} {spare : Nat → Bool} {held : Bool}
theorem okWide_array {r : Reach} {b0 : Nat} {t : TypeId} {v : Value} {n : Nat} {e : TypeId} (ht : P.underlying t = some (.array n e)) (h : Value.okWide P w r b0 t v) : ∃ cs, v = .agg cs ∧ cs.size = P.cellsOf t := by
  simp only [Value.okWide, ht] at h
  obtain ⟨cs, h1, h2, _⟩ := h
  exact ⟨cs, h1, h2⟩

/-- An array of integers, by value. -/
theorem open_ints_array {r : Reach} {b0 : Nat} {t e : TypeId} {v : Value} {n : Nat} {k : IntKind} {d : DataW H} {ps : List MemPlace} (ht : P.underlying t = some (.array n e)) (he : P.underlying e = some (.int k)) (hc : P.cellsOf e = 1) (hC : P.cellsOf t = n)
    (hv : Value.okWide P w r b0 t v) (h : DataW.Trod enc P w base spare held t v d ps) :
    ∃ zs : List Int, v = .agg (zs.map (Value.int k)).toArray ∧ zs.length = n ∧ ∀ z ∈ zs, (Lit.int k z).wf = true := by
  obtain ⟨cs, rfl, hsz⟩ := okWide_array ht hv
  obtain ⟨fuel, hf⟩ := h
  obtain ⟨xs, m, _, _, hl, hx, hel⟩ := DataW.trod_array ht hf
  have hlen : cs.toList.length = n := by rw [Array.length_toList, hsz, hC]
  have hone : ∀ i, i < n → ∃ z, cs.toList[i]? = some (.int k z) ∧ (Lit.int k z).wf = true := by
    intro i hi
    have h1 := hel i hi
    rw [hc, Nat.mul_one, Value.cells, List.getElem?_eq_getElem (show i < xs.length by omega)] at h1
    obtain ⟨z, hz, _, hw⟩ := DataW.trod_int he h1
    refine ⟨z, ?_, hw⟩
    rw [List.drop_eq_getElem_cons (by omega)] at hz
    simp only [List.take_succ_cons, List.take_zero, List.cons.injEq, and_true] at hz
    rw [List.getElem?_eq_getElem (by omega), hz]
  clear hel hf hv hsz
  obtain ⟨l, rfl⟩ : ∃ l : List Value, cs = l.toArray := ⟨cs.toList, by simp⟩
  change l.length = n at hlen
  change ∀ i, i < n → ∃ z, l[i]? = some (.int k z) ∧ _ at hone
  clear hl hx hC ht
  induction l generalizing n with
  | nil => exact ⟨[], rfl, by simpa using hlen, by simp⟩
  | cons v l ih =>
    obtain ⟨z, hz, hw⟩ := hone 0 (by simp at hlen; omega)
    obtain ⟨zs, h1, h2, h3⟩ := ih (n := n - 1) (by simp at hlen; omega) (fun i hi => by have := hone (i + 1) (by omega); simpa using this)
    refine ⟨z :: zs, ?_, by simp at hlen ⊢; omega, by simpa using ⟨hw, h3⟩⟩
    simp at hz
    have h1 : l = zs.map (Value.int k) := by
      simp only [Value.agg.injEq] at h1
      simpa using congrArg Array.toList h1
    rw [hz, h1]
    simp
end
end Go.Proofs.Ytafogipkbhglcaa
