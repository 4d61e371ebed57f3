/-
  DERIVED. GIVEN WITH THE SEED: THE CARDS: each row of YtgkhgjihjbjfnaaDoorRows.lean that lists a variable, with what it lists TIED to the program's text (the seventh form; the later family's looks); each row that meets fmt, with fmt's text TOLD by the authors' own Lean function (tested against real Go, not proved from fmt's source: count such statements apart). THE CARD IS WHAT COUNTS. Prove the row's statement (the work); the ties are given (YtgkhgjihjbjfnaaDoorTie.lean); close each card by the builder's one call (the guide's Derived/Test/ToyasCard.lean, 'card_holds'). Laid BY PROGRAM, IN A SANDBOX (cutbox-door.mjs). By AI agents, Wed Nov 11 2026. No macro, syntax, notation, axiom, sorry.
-/
import Derived.Test.YtgkhgjihjbjfnaaDoorRows
import GoSem.ClaimSeven
namespace Go.Proofs.YtgkhgjihjbjfnaaDoor
namespace Rows

/-- THE TIED CARD OF 'flyleaflaw04.FilesBuild'. -/
def filesBuildCard : Claim7 := { stood := { row := filesBuildRow, standIns := [], harness := (true, "02feeb90640b6358cf0986d61c2122e8b49c2d2f4425619ca1fb87a7c86d414e"), looks := false }, kinds := [], alts := [], laidByText := true, laidKinds := [.data, .pinned], laidTests := true, laidLooks := .later }
def FilesBuildCardSaid : Prop := Claim7.holds Tryd.pinned (.plain (OpenSpec.ofChange filesBuildSpec)) filesBuildCard

/-- THE TIED CARD OF 'flyleaflaw04.FilesBack'. -/
def filesBackCard : Claim7 := { stood := { row := filesBackRow, standIns := [], harness := (true, "02feeb90640b6358cf0986d61c2122e8b49c2d2f4425619ca1fb87a7c86d414e"), looks := false }, kinds := [], alts := [], laidByText := true, laidKinds := [.data, .pinned], laidTests := true, laidLooks := .later }
def FilesBackCardSaid : Prop := Claim7.holds Tryd.pinned (.plain (OpenSpec.ofChange filesBackSpec)) filesBackCard

/-- THE TIED CARD OF 'flyleaflaw04.FilesNil'. -/
def filesNilCard : Claim7 := { stood := { row := filesNilRow, standIns := [], harness := (true, "02feeb90640b6358cf0986d61c2122e8b49c2d2f4425619ca1fb87a7c86d414e"), looks := false }, kinds := [], alts := [], laidByText := true, laidKinds := [.data, .pinned], laidTests := true, laidLooks := .later }
def FilesNilCardSaid : Prop := Claim7.holds Tryd.pinned (.plain (OpenSpec.ofChange filesNilSpec)) filesNilCard

/-- THE TIED CARD OF 'flyleaflaw04.FilesStride'. -/
def filesStrideCard : Claim7 := { stood := { row := filesStrideRow, standIns := [], harness := (true, "02feeb90640b6358cf0986d61c2122e8b49c2d2f4425619ca1fb87a7c86d414e"), looks := false }, kinds := [], alts := [], laidByText := true, laidKinds := [.data, .pinned], laidTests := true, laidLooks := .later }
def FilesStrideCardSaid : Prop := Claim7.holds Tryd.pinned (.plain (OpenSpec.ofChange filesStrideSpec)) filesStrideCard

/-- THE TIED CARD OF 'flyleaflaw04.FilesExtents'. -/
def filesExtentsCard : Claim7 := { stood := { row := filesExtentsRow, standIns := [], harness := (true, "02feeb90640b6358cf0986d61c2122e8b49c2d2f4425619ca1fb87a7c86d414e"), looks := false }, kinds := [], alts := [], laidByText := true, laidKinds := [.data, .pinned], laidTests := true, laidLooks := .later }
def FilesExtentsCardSaid : Prop := Claim7.holds Tryd.pinned (.plain (OpenSpec.ofChange filesExtentsSpec)) filesExtentsCard

/-- THE TIED CARD OF 'flyleaflaw04.FilesNames'. -/
def filesNamesCard : Claim7 := { stood := { row := filesNamesRow, standIns := [], harness := (true, "02feeb90640b6358cf0986d61c2122e8b49c2d2f4425619ca1fb87a7c86d414e"), looks := false }, kinds := [], alts := [], laidByText := true, laidKinds := [.data, .pinned], laidTests := true, laidLooks := .later }
def FilesNamesCardSaid : Prop := Claim7.holds Tryd.pinned (.plain (OpenSpec.ofChange filesNamesSpec)) filesNamesCard

/-- THE SECOND FORM's CARD OF 'flyleaflaw04.FilesBuild'. -/
def filesBuildUptoCard : Claim7 := { stood := { row := filesBuildUptoRow, standIns := [], harness := (true, "02feeb90640b6358cf0986d61c2122e8b49c2d2f4425619ca1fb87a7c86d414e"), looks := false }, kinds := [], alts := [], laidByText := true, laidKinds := [.data, .pinned], laidTests := true, laidLooks := .later }
def FilesBuildUptoCardSaid : Prop := Claim7.holds Tryd.pinned (.plain (OpenSpec.upto filesBuildSpec)) filesBuildUptoCard

/-- THE SECOND FORM's CARD OF 'flyleaflaw04.FilesBack'. -/
def filesBackUptoCard : Claim7 := { stood := { row := filesBackUptoRow, standIns := [], harness := (true, "02feeb90640b6358cf0986d61c2122e8b49c2d2f4425619ca1fb87a7c86d414e"), looks := false }, kinds := [], alts := [], laidByText := true, laidKinds := [.data, .pinned], laidTests := true, laidLooks := .later }
def FilesBackUptoCardSaid : Prop := Claim7.holds Tryd.pinned (.plain (OpenSpec.upto filesBackSpec)) filesBackUptoCard

/-- THE SECOND FORM's CARD OF 'flyleaflaw04.FilesNil'. -/
def filesNilUptoCard : Claim7 := { stood := { row := filesNilUptoRow, standIns := [], harness := (true, "02feeb90640b6358cf0986d61c2122e8b49c2d2f4425619ca1fb87a7c86d414e"), looks := false }, kinds := [], alts := [], laidByText := true, laidKinds := [.data, .pinned], laidTests := true, laidLooks := .later }
def FilesNilUptoCardSaid : Prop := Claim7.holds Tryd.pinned (.plain (OpenSpec.upto filesNilSpec)) filesNilUptoCard

/-- THE SECOND FORM's CARD OF 'flyleaflaw04.FilesStride'. -/
def filesStrideUptoCard : Claim7 := { stood := { row := filesStrideUptoRow, standIns := [], harness := (true, "02feeb90640b6358cf0986d61c2122e8b49c2d2f4425619ca1fb87a7c86d414e"), looks := false }, kinds := [], alts := [], laidByText := true, laidKinds := [.data, .pinned], laidTests := true, laidLooks := .later }
def FilesStrideUptoCardSaid : Prop := Claim7.holds Tryd.pinned (.plain (OpenSpec.upto filesStrideSpec)) filesStrideUptoCard

/-- THE SECOND FORM's CARD OF 'flyleaflaw04.FilesExtents'. -/
def filesExtentsUptoCard : Claim7 := { stood := { row := filesExtentsUptoRow, standIns := [], harness := (true, "02feeb90640b6358cf0986d61c2122e8b49c2d2f4425619ca1fb87a7c86d414e"), looks := false }, kinds := [], alts := [], laidByText := true, laidKinds := [.data, .pinned], laidTests := true, laidLooks := .later }
def FilesExtentsUptoCardSaid : Prop := Claim7.holds Tryd.pinned (.plain (OpenSpec.upto filesExtentsSpec)) filesExtentsUptoCard

/-- THE SECOND FORM's CARD OF 'flyleaflaw04.FilesNames'. -/
def filesNamesUptoCard : Claim7 := { stood := { row := filesNamesUptoRow, standIns := [], harness := (true, "02feeb90640b6358cf0986d61c2122e8b49c2d2f4425619ca1fb87a7c86d414e"), looks := false }, kinds := [], alts := [], laidByText := true, laidKinds := [.data, .pinned], laidTests := true, laidLooks := .later }
def FilesNamesUptoCardSaid : Prop := Claim7.holds Tryd.pinned (.plain (OpenSpec.upto filesNamesSpec)) filesNamesUptoCard
end Rows
end Go.Proofs.YtgkhgjihjbjfnaaDoor
