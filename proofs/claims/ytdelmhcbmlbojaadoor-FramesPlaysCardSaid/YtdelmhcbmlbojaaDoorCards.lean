/-
  DERIVED. GIVEN WITH THE SEED: THE CARDS: each row of YtdelmhcbmlbojaaDoorRows.lean that lists a variable, with what it lists TIED to the program's text (the seventh form; the later family's looks); each row that meets fmt, with fmt's text TOLD by the authors' own Lean function (tested against real Go, not proved from fmt's source: count such statements apart). THE CARD IS WHAT COUNTS. Prove the row's statement (the work); the ties are given (YtdelmhcbmlbojaaDoorTie.lean); close each card by the builder's one call (the guide's Derived/Test/ToyasCard.lean, 'card_holds'). Laid BY PROGRAM, IN A SANDBOX (cutbox-door.mjs). By AI agents, Wed Nov 11 2026. No macro, syntax, notation, axiom, sorry.
-/
import Derived.Test.YtdelmhcbmlbojaaDoorRows
import GoSem.ClaimSeven
namespace Go.Proofs.YtdelmhcbmlbojaaDoor
namespace Rows

/-- THE TIED CARD OF 'flyleaflaw06.FramesPlays'. -/
def framesPlaysCard : Claim7 := { stood := { row := framesPlaysRow, standIns := [], harness := (true, "19c2d8fec37a7e78410c67fe028db91d50dcfe5e75e62d34fd28dbb5084045c3"), looks := false }, kinds := [], alts := [], laidByText := true, laidKinds := [.data], laidTests := true, laidLooks := .later }
def FramesPlaysCardSaid : Prop := Claim7.holds Tryd.pinned (.plain (OpenSpec.ofChange framesPlaysSpec)) framesPlaysCard

/-- THE TIED CARD OF 'flyleaflaw06.FramesApart'. -/
def framesApartCard : Claim7 := { stood := { row := framesApartRow, standIns := [], harness := (true, "19c2d8fec37a7e78410c67fe028db91d50dcfe5e75e62d34fd28dbb5084045c3"), looks := false }, kinds := [], alts := [], laidByText := true, laidKinds := [.data], laidTests := true, laidLooks := .later }
def FramesApartCardSaid : Prop := Claim7.holds Tryd.pinned (.plain (OpenSpec.ofChange framesApartSpec)) framesApartCard

/-- THE TIED CARD OF 'flyleaflaw06.FramesWords'. -/
def framesWordsCard : Claim7 := { stood := { row := framesWordsRow, standIns := [], harness := (true, "19c2d8fec37a7e78410c67fe028db91d50dcfe5e75e62d34fd28dbb5084045c3"), looks := false }, kinds := [], alts := [], laidByText := true, laidKinds := [.data], laidTests := true, laidLooks := .later }
def FramesWordsCardSaid : Prop := Claim7.holds Tryd.pinned (.plain (OpenSpec.ofChange framesWordsSpec)) framesWordsCard

/-- THE TIED CARD OF 'flyleaflaw06.FramesFree'. -/
def framesFreeCard : Claim7 := { stood := { row := framesFreeRow, standIns := [], harness := (true, "19c2d8fec37a7e78410c67fe028db91d50dcfe5e75e62d34fd28dbb5084045c3"), looks := false }, kinds := [], alts := [], laidByText := true, laidKinds := [.data], laidTests := true, laidLooks := .later }
def FramesFreeCardSaid : Prop := Claim7.holds Tryd.pinned (.plain (OpenSpec.ofChange framesFreeSpec)) framesFreeCard

/-- THE TIED CARD OF 'flyleaflaw06.FramesNil'. -/
def framesNilCard : Claim7 := { stood := { row := framesNilRow, standIns := [], harness := (true, "19c2d8fec37a7e78410c67fe028db91d50dcfe5e75e62d34fd28dbb5084045c3"), looks := false }, kinds := [], alts := [], laidByText := true, laidKinds := [.data], laidTests := true, laidLooks := .later }
def FramesNilCardSaid : Prop := Claim7.holds Tryd.pinned (.plain (OpenSpec.ofChange framesNilSpec)) framesNilCard

/-- THE TIED CARD OF 'flyleaflaw06.FramesTaken'. -/
def framesTakenCard : Claim7 := { stood := { row := framesTakenRow, standIns := [], harness := (true, "19c2d8fec37a7e78410c67fe028db91d50dcfe5e75e62d34fd28dbb5084045c3"), looks := false }, kinds := [], alts := [], laidByText := true, laidKinds := [.data], laidTests := true, laidLooks := .later }
def FramesTakenCardSaid : Prop := Claim7.holds Tryd.pinned (.plain (OpenSpec.ofChange framesTakenSpec)) framesTakenCard

/-- THE TIED CARD OF 'flyleaflaw06.FramesCopies'. -/
def framesCopiesCard : Claim7 := { stood := { row := framesCopiesRow, standIns := [], harness := (true, "19c2d8fec37a7e78410c67fe028db91d50dcfe5e75e62d34fd28dbb5084045c3"), looks := false }, kinds := [], alts := [], laidByText := true, laidKinds := [.data], laidTests := true, laidLooks := .later }
def FramesCopiesCardSaid : Prop := Claim7.holds Tryd.pinned (.plain (OpenSpec.ofChange framesCopiesSpec)) framesCopiesCard

/-- THE SECOND FORM's CARD OF 'flyleaflaw06.FramesPlays'. -/
def framesPlaysUptoCard : Claim7 := { stood := { row := framesPlaysUptoRow, standIns := [], harness := (true, "19c2d8fec37a7e78410c67fe028db91d50dcfe5e75e62d34fd28dbb5084045c3"), looks := false }, kinds := [], alts := [], laidByText := true, laidKinds := [.data], laidTests := true, laidLooks := .later }
def FramesPlaysUptoCardSaid : Prop := Claim7.holds Tryd.pinned (.plain (OpenSpec.upto framesPlaysSpec)) framesPlaysUptoCard

/-- THE SECOND FORM's CARD OF 'flyleaflaw06.FramesApart'. -/
def framesApartUptoCard : Claim7 := { stood := { row := framesApartUptoRow, standIns := [], harness := (true, "19c2d8fec37a7e78410c67fe028db91d50dcfe5e75e62d34fd28dbb5084045c3"), looks := false }, kinds := [], alts := [], laidByText := true, laidKinds := [.data], laidTests := true, laidLooks := .later }
def FramesApartUptoCardSaid : Prop := Claim7.holds Tryd.pinned (.plain (OpenSpec.upto framesApartSpec)) framesApartUptoCard

/-- THE SECOND FORM's CARD OF 'flyleaflaw06.FramesWords'. -/
def framesWordsUptoCard : Claim7 := { stood := { row := framesWordsUptoRow, standIns := [], harness := (true, "19c2d8fec37a7e78410c67fe028db91d50dcfe5e75e62d34fd28dbb5084045c3"), looks := false }, kinds := [], alts := [], laidByText := true, laidKinds := [.data], laidTests := true, laidLooks := .later }
def FramesWordsUptoCardSaid : Prop := Claim7.holds Tryd.pinned (.plain (OpenSpec.upto framesWordsSpec)) framesWordsUptoCard

/-- THE SECOND FORM's CARD OF 'flyleaflaw06.FramesFree'. -/
def framesFreeUptoCard : Claim7 := { stood := { row := framesFreeUptoRow, standIns := [], harness := (true, "19c2d8fec37a7e78410c67fe028db91d50dcfe5e75e62d34fd28dbb5084045c3"), looks := false }, kinds := [], alts := [], laidByText := true, laidKinds := [.data], laidTests := true, laidLooks := .later }
def FramesFreeUptoCardSaid : Prop := Claim7.holds Tryd.pinned (.plain (OpenSpec.upto framesFreeSpec)) framesFreeUptoCard

/-- THE SECOND FORM's CARD OF 'flyleaflaw06.FramesNil'. -/
def framesNilUptoCard : Claim7 := { stood := { row := framesNilUptoRow, standIns := [], harness := (true, "19c2d8fec37a7e78410c67fe028db91d50dcfe5e75e62d34fd28dbb5084045c3"), looks := false }, kinds := [], alts := [], laidByText := true, laidKinds := [.data], laidTests := true, laidLooks := .later }
def FramesNilUptoCardSaid : Prop := Claim7.holds Tryd.pinned (.plain (OpenSpec.upto framesNilSpec)) framesNilUptoCard

/-- THE SECOND FORM's CARD OF 'flyleaflaw06.FramesTaken'. -/
def framesTakenUptoCard : Claim7 := { stood := { row := framesTakenUptoRow, standIns := [], harness := (true, "19c2d8fec37a7e78410c67fe028db91d50dcfe5e75e62d34fd28dbb5084045c3"), looks := false }, kinds := [], alts := [], laidByText := true, laidKinds := [.data], laidTests := true, laidLooks := .later }
def FramesTakenUptoCardSaid : Prop := Claim7.holds Tryd.pinned (.plain (OpenSpec.upto framesTakenSpec)) framesTakenUptoCard

/-- THE SECOND FORM's CARD OF 'flyleaflaw06.FramesCopies'. -/
def framesCopiesUptoCard : Claim7 := { stood := { row := framesCopiesUptoRow, standIns := [], harness := (true, "19c2d8fec37a7e78410c67fe028db91d50dcfe5e75e62d34fd28dbb5084045c3"), looks := false }, kinds := [], alts := [], laidByText := true, laidKinds := [.data], laidTests := true, laidLooks := .later }
def FramesCopiesUptoCardSaid : Prop := Claim7.holds Tryd.pinned (.plain (OpenSpec.upto framesCopiesSpec)) framesCopiesUptoCard
end Rows
end Go.Proofs.YtdelmhcbmlbojaaDoor
