/-
  DERIVED. GIVEN WITH THE SEED: THE CARDS: each row of YtmbjflcmbenbdaeDoorRows.lean that lists a variable, with what it lists TIED to the program's text (the seventh form; the later family's looks); each row that meets fmt, with fmt's text TOLD by the authors' own Lean function (tested against real Go, not proved from fmt's source: count such statements apart). THE CARD IS WHAT COUNTS. Prove the row's statement (the work); the ties are given (YtmbjflcmbenbdaeDoorTie.lean); close each card by the builder's one call (the guide's Derived/Test/ToyasCard.lean, 'card_holds'). Laid BY PROGRAM, IN A SANDBOX (cutbox-door.mjs). By AI agents, Wed Nov 11 2026. No macro, syntax, notation, axiom, sorry.
-/
import Derived.Test.YtmbjflcmbenbdaeDoorRows
import GoSem.ClaimSeven
namespace Go.Proofs.YtmbjflcmbenbdaeDoor
namespace Rows

/-- THE TIED CARD OF 'flyleaflaw14.CacheTurns'. -/
def cacheTurnsCard : Claim7 := { stood := { row := cacheTurnsRow, standIns := [], harness := (true, "91e389d8c30bf2ceb9b5625bd85f53d24ff2b15c36ff11adb3b662834d75d2a1"), looks := false }, kinds := [], alts := [], laidByText := true, laidKinds := [.data, .pinned], laidTests := true, laidLooks := .later }
def CacheTurnsCardSaid : Prop := Claim7.holds Tryd.pinned (.plain (OpenSpec.ofChange cacheTurnsSpec)) cacheTurnsCard

/-- THE SECOND FORM's CARD OF 'flyleaflaw14.CacheTurns'. -/
def cacheTurnsUptoCard : Claim7 := { stood := { row := cacheTurnsUptoRow, standIns := [], harness := (true, "91e389d8c30bf2ceb9b5625bd85f53d24ff2b15c36ff11adb3b662834d75d2a1"), looks := false }, kinds := [], alts := [], laidByText := true, laidKinds := [.data, .pinned], laidTests := true, laidLooks := .later }
def CacheTurnsUptoCardSaid : Prop := Claim7.holds Tryd.pinned (.plain (OpenSpec.upto cacheTurnsSpec)) cacheTurnsUptoCard
end Rows
end Go.Proofs.YtmbjflcmbenbdaeDoor
