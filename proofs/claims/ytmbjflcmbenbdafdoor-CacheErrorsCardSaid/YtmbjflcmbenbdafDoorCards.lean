/-
  DERIVED. GIVEN WITH THE SEED: THE CARDS: each row of YtmbjflcmbenbdafDoorRows.lean that lists a variable, with what it lists TIED to the program's text (the seventh form; the later family's looks); each row that meets fmt, with fmt's text TOLD by the authors' own Lean function (tested against real Go, not proved from fmt's source: count such statements apart). THE CARD IS WHAT COUNTS. Prove the row's statement (the work); the ties are given (YtmbjflcmbenbdafDoorTie.lean); close each card by the builder's one call (the guide's Derived/Test/ToyasCard.lean, 'card_holds'). Laid BY PROGRAM, IN A SANDBOX (cutbox-door.mjs). By AI agents, Wed Nov 11 2026. No macro, syntax, notation, axiom, sorry.
-/
import Derived.Test.YtmbjflcmbenbdafDoorRows
import GoSem.ClaimSeven
namespace Go.Proofs.YtmbjflcmbenbdafDoor
namespace Rows

/-- THE TIED CARD OF 'flyleaflaw14.CacheErrors'. -/
def cacheErrorsCard : Claim7 := { stood := { row := cacheErrorsRow, standIns := [], harness := (true, "9fac6eed54563b6a6fe34b5a40025c0fb89128f66b2be10601baeb6cc1f17fa4"), looks := false }, kinds := [], alts := [], laidByText := true, laidKinds := [.data, .pinned], laidTests := true, laidLooks := .later }
def CacheErrorsCardSaid : Prop := Claim7.holds Tryd.pinned (.plain (OpenSpec.ofChange cacheErrorsSpec)) cacheErrorsCard

/-- THE SECOND FORM's CARD OF 'flyleaflaw14.CacheErrors'. -/
def cacheErrorsUptoCard : Claim7 := { stood := { row := cacheErrorsUptoRow, standIns := [], harness := (true, "9fac6eed54563b6a6fe34b5a40025c0fb89128f66b2be10601baeb6cc1f17fa4"), looks := false }, kinds := [], alts := [], laidByText := true, laidKinds := [.data, .pinned], laidTests := true, laidLooks := .later }
def CacheErrorsUptoCardSaid : Prop := Claim7.holds Tryd.pinned (.plain (OpenSpec.upto cacheErrorsSpec)) cacheErrorsUptoCard
end Rows
end Go.Proofs.YtmbjflcmbenbdafDoor
