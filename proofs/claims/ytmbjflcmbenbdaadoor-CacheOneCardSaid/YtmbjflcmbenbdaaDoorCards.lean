/-
  DERIVED. GIVEN WITH THE SEED: THE CARDS: each row of YtmbjflcmbenbdaaDoorRows.lean that lists a variable, with what it lists TIED to the program's text (the seventh form; the later family's looks); each row that meets fmt, with fmt's text TOLD by the authors' own Lean function (tested against real Go, not proved from fmt's source: count such statements apart). THE CARD IS WHAT COUNTS. Prove the row's statement (the work); the ties are given (YtmbjflcmbenbdaaDoorTie.lean); close each card by the builder's one call (the guide's Derived/Test/ToyasCard.lean, 'card_holds'). Laid BY PROGRAM, IN A SANDBOX (cutbox-door.mjs). By AI agents, Wed Nov 11 2026. No macro, syntax, notation, axiom, sorry.
-/
import Derived.Test.YtmbjflcmbenbdaaDoorRows
import GoSem.ClaimSeven
namespace Go.Proofs.YtmbjflcmbenbdaaDoor
namespace Rows

/-- THE TIED CARD OF 'flyleaflaw14.CacheOne'. -/
def cacheOneCard : Claim7 := { stood := { row := cacheOneRow, standIns := [], harness := (true, "6510815205d0c76ce1425f207e0e831da545338c246eaa3493986d321586ef70"), looks := false }, kinds := [], alts := [], laidByText := true, laidKinds := [.data, .pinned], laidTests := true, laidLooks := .later }
def CacheOneCardSaid : Prop := Claim7.holds Tryd.pinned (.plain (OpenSpec.ofChange cacheOneSpec)) cacheOneCard

/-- THE SECOND FORM's CARD OF 'flyleaflaw14.CacheOne'. -/
def cacheOneUptoCard : Claim7 := { stood := { row := cacheOneUptoRow, standIns := [], harness := (true, "6510815205d0c76ce1425f207e0e831da545338c246eaa3493986d321586ef70"), looks := false }, kinds := [], alts := [], laidByText := true, laidKinds := [.data, .pinned], laidTests := true, laidLooks := .later }
def CacheOneUptoCardSaid : Prop := Claim7.holds Tryd.pinned (.plain (OpenSpec.upto cacheOneSpec)) cacheOneUptoCard
end Rows
end Go.Proofs.YtmbjflcmbenbdaaDoor
