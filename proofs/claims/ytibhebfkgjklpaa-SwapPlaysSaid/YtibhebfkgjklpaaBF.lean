/- Layer 3: words of the laws: what Write tells of a sector that is there; slices that come in. -/
import Derived.Test.YtibhebfkgjklpaaBE
import Derived.Test.YtibhebfkgjklpaaOpen
import Derived.Test.YtibhebfkgjklpaaLaw
namespace Go.Proofs.Ytibhebfkgjklpaa
open Go.RowKit Go.ChangeShapes Go.WideShapes
set_option linter.unusedVariables false

theorem wrD_low (D : Dsk) (k : Int) (s : ByteArray) : (D.wrD k s).low = D.low := by unfold Dsk.wrD; split <;> rfl
theorem wrD_rd (D : Dsk) (k : Int) (s : ByteArray) : (D.wrD k s).rd = D.rd := by unfold Dsk.wrD; split <;> rfl
theorem wrD_len (D : Dsk) (k : Int) (s : ByteArray) : (D.wrD k s).S.length = D.S.length := by unfold Dsk.wrD; split <;> simp
theorem rdD_low (D : Dsk) (k : Int) : (D.rdD k).low = D.low := by unfold Dsk.rdD; split <;> rfl
theorem rdD_wr (D : Dsk) (k : Int) : (D.rdD k).wr = D.wr := by unfold Dsk.rdD; split <;> rfl
theorem rdD_S (D : Dsk) (k : Int) : (D.rdD k).S = D.S := by unfold Dsk.rdD; split <;> rfl
theorem has_of {D : Dsk} {k : Int} (h0 : 0 ≤ k) (h1 : k < D.S.length) : D.has k = true := has_iff.2 ⟨h0, h1⟩
theorem wrE_in {D : Dsk} {k : Int} {s : ByteArray} (h : D.has k = true) (hs : s.size = 64) : D.wrE k s = if k < D.low then 13 else 0 := by unfold Dsk.wrE; rw [if_pos h, if_pos hs]

section
variable {H : Type} {enc : TypeId × Value → H} {w : World} {base : Nat} {spare : Nat → Bool} {held : Bool} {r : Reach} {b0 : Nat} {v : Value} {d : DataW H} {ps : List MemPlace}
theorem openInts (hv : Value.okWide Try.prog w r b0 41 v) (h : DataW.Trod enc Try.prog w base spare held 41 v d ps) : ∃ A zs c, v = .slice A (List.length zs) c ∧ zs.length ≤ maxLen ∧ IntRow w A zs :=
  open_int_row Try.underlying41 Try.underlying3 (by kernel_rfl) hv h
theorem openStrs (hv : Value.okWide Try.prog w r b0 42 v) (h : DataW.Trod enc Try.prog w base spare held 42 v d ps) : ∃ A ss c, v = .slice A (List.length ss) c ∧ ss.length ≤ maxLen ∧ StrRow w A ss :=
  open_str_row Try.underlying42 Try.underlying9 (by kernel_rfl) hv h
end
end Go.Proofs.Ytibhebfkgjklpaa
