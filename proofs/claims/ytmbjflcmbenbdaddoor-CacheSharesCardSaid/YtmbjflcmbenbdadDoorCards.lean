/-
  DERIVED. GIVEN WITH THE SEED: THE CARDS: each row of YtmbjflcmbenbdadDoorRows.lean that lists a variable, with what it lists TIED to the program's text (the seventh form; the later family's looks); each row that meets fmt, with fmt's text TOLD by the authors' own Lean function (tested against real Go, not proved from fmt's source: count such statements apart). THE CARD IS WHAT COUNTS. Prove the row's statement (the work); the ties are given (YtmbjflcmbenbdadDoorTie.lean); close each card by the builder's one call (the guide's Derived/Test/ToyasCard.lean, 'card_holds'). Laid BY PROGRAM, IN A SANDBOX (cutbox-door.mjs). By AI agents, Wed Nov 11 2026. No macro, syntax, notation, axiom, sorry.
-/
import Derived.Test.YtmbjflcmbenbdadDoorRows
import GoSem.ClaimSeven
namespace Go.Proofs.YtmbjflcmbenbdadDoor
namespace Rows

/-- THE TIED CARD OF 'flyleaflaw14.CacheShares'. -/
def cacheSharesCard : Claim7 := { stood := { row := cacheSharesRow, standIns := [], harness := (true, "2099cd01a09b8d65dd96e2ffcc734a9aaeaae6b7501a0ba953ced0110d8e3c23"), looks := false }, kinds := [], alts := [], laidByText := true, laidKinds := [.data, .pinned], laidTests := true, laidLooks := .later }
def CacheSharesCardSaid : Prop := Claim7.holds Tryd.pinned (.plain (OpenSpec.ofChange cacheSharesSpec)) cacheSharesCard

/-- THE SECOND FORM's CARD OF 'flyleaflaw14.CacheShares'. -/
def cacheSharesUptoCard : Claim7 := { stood := { row := cacheSharesUptoRow, standIns := [], harness := (true, "2099cd01a09b8d65dd96e2ffcc734a9aaeaae6b7501a0ba953ced0110d8e3c23"), looks := false }, kinds := [], alts := [], laidByText := true, laidKinds := [.data, .pinned], laidTests := true, laidLooks := .later }
def CacheSharesUptoCardSaid : Prop := Claim7.holds Tryd.pinned (.plain (OpenSpec.upto cacheSharesSpec)) cacheSharesUptoCard
end Rows
end Go.Proofs.YtmbjflcmbenbdadDoor
