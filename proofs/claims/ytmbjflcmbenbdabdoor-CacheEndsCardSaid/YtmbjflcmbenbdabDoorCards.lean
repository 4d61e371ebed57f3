/-
  DERIVED. GIVEN WITH THE SEED: THE CARDS: each row of YtmbjflcmbenbdabDoorRows.lean that lists a variable, with what it lists TIED to the program's text (the seventh form; the later family's looks); each row that meets fmt, with fmt's text TOLD by the authors' own Lean function (tested against real Go, not proved from fmt's source: count such statements apart). THE CARD IS WHAT COUNTS. Prove the row's statement (the work); the ties are given (YtmbjflcmbenbdabDoorTie.lean); close each card by the builder's one call (the guide's Derived/Test/ToyasCard.lean, 'card_holds'). Laid BY PROGRAM, IN A SANDBOX (cutbox-door.mjs). By AI agents, Wed Nov 11 2026. No macro, syntax, notation, axiom, sorry.
-/
import Derived.Test.YtmbjflcmbenbdabDoorRows
import GoSem.ClaimSeven
namespace Go.Proofs.YtmbjflcmbenbdabDoor
namespace Rows

/-- THE TIED CARD OF 'flyleaflaw14.CacheEnds'. -/
def cacheEndsCard : Claim7 := { stood := { row := cacheEndsRow, standIns := [], harness := (true, "36534982b3dfb55c1f508f1e7b72f567a7c8aaa3040e5947522abdd66f2ffa55"), looks := false }, kinds := [], alts := [], laidByText := true, laidKinds := [.data, .pinned], laidTests := true, laidLooks := .later }
def CacheEndsCardSaid : Prop := Claim7.holds Tryd.pinned (.plain (OpenSpec.ofChange cacheEndsSpec)) cacheEndsCard

/-- THE SECOND FORM's CARD OF 'flyleaflaw14.CacheEnds'. -/
def cacheEndsUptoCard : Claim7 := { stood := { row := cacheEndsUptoRow, standIns := [], harness := (true, "36534982b3dfb55c1f508f1e7b72f567a7c8aaa3040e5947522abdd66f2ffa55"), looks := false }, kinds := [], alts := [], laidByText := true, laidKinds := [.data, .pinned], laidTests := true, laidLooks := .later }
def CacheEndsUptoCardSaid : Prop := Claim7.holds Tryd.pinned (.plain (OpenSpec.upto cacheEndsSpec)) cacheEndsUptoCard
end Rows
end Go.Proofs.YtmbjflcmbenbdabDoor
