/-
  DERIVED. GIVEN WITH THE SEED: THE CARDS: each row of YtmbglkebgeomcaaDoorRows.lean that lists a variable, with what it lists TIED to the program's text (the seventh form; the later family's looks); each row that meets fmt, with fmt's text TOLD by the authors' own Lean function (tested against real Go, not proved from fmt's source: count such statements apart). THE CARD IS WHAT COUNTS. Prove the row's statement (the work); the ties are given (YtmbglkebgeomcaaDoorTie.lean); close each card by the builder's one call (the guide's Derived/Test/ToyasCard.lean, 'card_holds'). Laid BY PROGRAM, IN A SANDBOX (cutbox-door.mjs). By AI agents, Wed Nov 11 2026. No macro, syntax, notation, axiom, sorry.
-/
import Derived.Test.YtmbglkebgeomcaaDoorRows
import GoSem.ClaimSeven
namespace Go.Proofs.YtmbglkebgeomcaaDoor
namespace Rows

/-- THE TIED CARD OF 'flyleaflaw09.DynamicBack'. -/
def dynamicBackCard : Claim7 := { stood := { row := dynamicBackRow, standIns := [], harness := (true, "670b6a0db7a8b18f538db2dfcf8285098e0196ee9415661074bdc4d85a54ce2f"), looks := false }, kinds := [], alts := [], laidByText := true, laidKinds := [.data], laidTests := true, laidLooks := .later }
def DynamicBackCardSaid : Prop := Claim7.holds Tryd.pinned (.plain (OpenSpec.ofChange dynamicBackSpec)) dynamicBackCard

/-- THE TIED CARD OF 'flyleaflaw09.DynamicLists'. -/
def dynamicListsCard : Claim7 := { stood := { row := dynamicListsRow, standIns := [], harness := (true, "670b6a0db7a8b18f538db2dfcf8285098e0196ee9415661074bdc4d85a54ce2f"), looks := false }, kinds := [], alts := [], laidByText := true, laidKinds := [.data], laidTests := true, laidLooks := .later }
def DynamicListsCardSaid : Prop := Claim7.holds Tryd.pinned (.plain (OpenSpec.ofChange dynamicListsSpec)) dynamicListsCard

/-- THE TIED CARD OF 'flyleaflaw09.DynamicOne'. -/
def dynamicOneCard : Claim7 := { stood := { row := dynamicOneRow, standIns := [], harness := (true, "670b6a0db7a8b18f538db2dfcf8285098e0196ee9415661074bdc4d85a54ce2f"), looks := false }, kinds := [], alts := [], laidByText := true, laidKinds := [.data], laidTests := true, laidLooks := .later }
def DynamicOneCardSaid : Prop := Claim7.holds Tryd.pinned (.plain (OpenSpec.ofChange dynamicOneSpec)) dynamicOneCard

/-- THE TIED CARD OF 'flyleaflaw09.DynamicName'. -/
def dynamicNameCard : Claim7 := { stood := { row := dynamicNameRow, standIns := [], harness := (true, "670b6a0db7a8b18f538db2dfcf8285098e0196ee9415661074bdc4d85a54ce2f"), looks := false }, kinds := [], alts := [], laidByText := true, laidKinds := [.data], laidTests := true, laidLooks := .later }
def DynamicNameCardSaid : Prop := Claim7.holds Tryd.pinned (.plain (OpenSpec.ofChange dynamicNameSpec)) dynamicNameCard

/-- THE SECOND FORM's CARD OF 'flyleaflaw09.DynamicBack'. -/
def dynamicBackUptoCard : Claim7 := { stood := { row := dynamicBackUptoRow, standIns := [], harness := (true, "670b6a0db7a8b18f538db2dfcf8285098e0196ee9415661074bdc4d85a54ce2f"), looks := false }, kinds := [], alts := [], laidByText := true, laidKinds := [.data], laidTests := true, laidLooks := .later }
def DynamicBackUptoCardSaid : Prop := Claim7.holds Tryd.pinned (.plain (OpenSpec.upto dynamicBackSpec)) dynamicBackUptoCard

/-- THE SECOND FORM's CARD OF 'flyleaflaw09.DynamicLists'. -/
def dynamicListsUptoCard : Claim7 := { stood := { row := dynamicListsUptoRow, standIns := [], harness := (true, "670b6a0db7a8b18f538db2dfcf8285098e0196ee9415661074bdc4d85a54ce2f"), looks := false }, kinds := [], alts := [], laidByText := true, laidKinds := [.data], laidTests := true, laidLooks := .later }
def DynamicListsUptoCardSaid : Prop := Claim7.holds Tryd.pinned (.plain (OpenSpec.upto dynamicListsSpec)) dynamicListsUptoCard

/-- THE SECOND FORM's CARD OF 'flyleaflaw09.DynamicOne'. -/
def dynamicOneUptoCard : Claim7 := { stood := { row := dynamicOneUptoRow, standIns := [], harness := (true, "670b6a0db7a8b18f538db2dfcf8285098e0196ee9415661074bdc4d85a54ce2f"), looks := false }, kinds := [], alts := [], laidByText := true, laidKinds := [.data], laidTests := true, laidLooks := .later }
def DynamicOneUptoCardSaid : Prop := Claim7.holds Tryd.pinned (.plain (OpenSpec.upto dynamicOneSpec)) dynamicOneUptoCard

/-- THE SECOND FORM's CARD OF 'flyleaflaw09.DynamicName'. -/
def dynamicNameUptoCard : Claim7 := { stood := { row := dynamicNameUptoRow, standIns := [], harness := (true, "670b6a0db7a8b18f538db2dfcf8285098e0196ee9415661074bdc4d85a54ce2f"), looks := false }, kinds := [], alts := [], laidByText := true, laidKinds := [.data], laidTests := true, laidLooks := .later }
def DynamicNameUptoCardSaid : Prop := Claim7.holds Tryd.pinned (.plain (OpenSpec.upto dynamicNameSpec)) dynamicNameUptoCard
end Rows
end Go.Proofs.YtmbglkebgeomcaaDoor
