/- Fill of the reference, and what it shares. -/
import Derived.Test.YtmknkdfdkanijaaRows
import Derived.Test.YtmknkdfdkanijaaBase
namespace Go.Proofs.Ytmknkdfdkanijaa
open Go.RowKit
set_option linter.unusedVariables false

theorem infoU8 : (Try.prog.info? 5).map (fun i => (i.zero, i.size, i.bytes)) = some (some (.int .u8 0), 1, 1) := by kernel_rfl
theorem sizeU8 : (Try.prog.info? 5).map (·.size) = some 1 := by kernel_rfl

/-- What Fill tells, up to a size. -/
def fillS (s : ByteArray) (n : Int) : ByteArray := if n < 0 then ⟨#[]⟩ else mkb (fillL s.data.toList n.toNat)

theorem mkb_append (a b : List UInt8) : mkb a ++ mkb b = mkb (a ++ b) := by
  apply ByteArray.ext
  simp [mkb]
theorem mkb_nil : (⟨#[]⟩ : ByteArray) = mkb [] := rfl


end Go.Proofs.Ytmknkdfdkanijaa
