/-
  DERIVED. GIVEN WITH THE SEED: THE CARDS: each row of YtdfokgfcohfgeaaDoorRows.lean that lists a variable, with what it lists TIED to the program's text (the seventh form; the later family's looks); each row that meets fmt, with fmt's text TOLD by the authors' own Lean function (tested against real Go, not proved from fmt's source: count such statements apart). THE CARD IS WHAT COUNTS. Prove the row's statement (the work); the ties are given (YtdfokgfcohfgeaaDoorTie.lean); close each card by the builder's one call (the guide's Derived/Test/ToyasCard.lean, 'card_holds'). Laid BY PROGRAM, IN A SANDBOX (cutbox-door.mjs). By AI agents, Wed Nov 11 2026. No macro, syntax, notation, axiom, sorry.
-/
import Derived.Test.YtdfokgfcohfgeaaDoorRows
import GoSem.ClaimSeven
namespace Go.Proofs.YtdfokgfcohfgeaaDoor
namespace Rows

/-- THE TIED CARD OF 'flyleaflaw16.FaultSteps'. -/
def faultStepsCard : Claim7 := { stood := { row := faultStepsRow, standIns := [], harness := (true, "28761eee2b833167c0cea0090855b31933a81e880de6f88e9c4b6eb7fdcb4141"), looks := false }, kinds := [], alts := [], laidByText := true, laidKinds := [.data], laidTests := true, laidLooks := .later }
def FaultStepsCardSaid : Prop := Claim7.holds Tryd.pinned (.plain (OpenSpec.ofChange faultStepsSpec)) faultStepsCard

/-- THE TIED CARD OF 'flyleaflaw16.FaultEnds'. -/
def faultEndsCard : Claim7 := { stood := { row := faultEndsRow, standIns := [], harness := (true, "28761eee2b833167c0cea0090855b31933a81e880de6f88e9c4b6eb7fdcb4141"), looks := false }, kinds := [], alts := [], laidByText := true, laidKinds := [.data], laidTests := true, laidLooks := .later }
def FaultEndsCardSaid : Prop := Claim7.holds Tryd.pinned (.plain (OpenSpec.ofChange faultEndsSpec)) faultEndsCard

/-- THE TIED CARD OF 'flyleaflaw16.FaultShares'. -/
def faultSharesCard : Claim7 := { stood := { row := faultSharesRow, standIns := [], harness := (true, "28761eee2b833167c0cea0090855b31933a81e880de6f88e9c4b6eb7fdcb4141"), looks := false }, kinds := [], alts := [], laidByText := true, laidKinds := [.data], laidTests := true, laidLooks := .later }
def FaultSharesCardSaid : Prop := Claim7.holds Tryd.pinned (.plain (OpenSpec.ofChange faultSharesSpec)) faultSharesCard

/-- THE TIED CARD OF 'flyleaflaw16.FaultReads'. -/
def faultReadsCard : Claim7 := { stood := { row := faultReadsRow, standIns := [], harness := (true, "28761eee2b833167c0cea0090855b31933a81e880de6f88e9c4b6eb7fdcb4141"), looks := false }, kinds := [], alts := [], laidByText := true, laidKinds := [.data], laidTests := true, laidLooks := .later }
def FaultReadsCardSaid : Prop := Claim7.holds Tryd.pinned (.plain (OpenSpec.ofChange faultReadsSpec)) faultReadsCard

/-- THE TIED CARD OF 'flyleaflaw16.FaultPerms'. -/
def faultPermsCard : Claim7 := { stood := { row := faultPermsRow, standIns := [], harness := (true, "28761eee2b833167c0cea0090855b31933a81e880de6f88e9c4b6eb7fdcb4141"), looks := false }, kinds := [], alts := [], laidByText := true, laidKinds := [.data], laidTests := true, laidLooks := .later }
def FaultPermsCardSaid : Prop := Claim7.holds Tryd.pinned (.plain (OpenSpec.ofChange faultPermsSpec)) faultPermsCard

/-- THE TIED CARD OF 'flyleaflaw16.FaultKinds'. -/
def faultKindsCard : Claim7 := { stood := { row := faultKindsRow, standIns := [], harness := (true, "28761eee2b833167c0cea0090855b31933a81e880de6f88e9c4b6eb7fdcb4141"), looks := false }, kinds := [], alts := [], laidByText := true, laidKinds := [.data], laidTests := true, laidLooks := .later }
def FaultKindsCardSaid : Prop := Claim7.holds Tryd.pinned (.plain (OpenSpec.ofChange faultKindsSpec)) faultKindsCard

/-- THE SECOND FORM's CARD OF 'flyleaflaw16.FaultSteps'. -/
def faultStepsUptoCard : Claim7 := { stood := { row := faultStepsUptoRow, standIns := [], harness := (true, "28761eee2b833167c0cea0090855b31933a81e880de6f88e9c4b6eb7fdcb4141"), looks := false }, kinds := [], alts := [], laidByText := true, laidKinds := [.data], laidTests := true, laidLooks := .later }
def FaultStepsUptoCardSaid : Prop := Claim7.holds Tryd.pinned (.plain (OpenSpec.upto faultStepsSpec)) faultStepsUptoCard

/-- THE SECOND FORM's CARD OF 'flyleaflaw16.FaultEnds'. -/
def faultEndsUptoCard : Claim7 := { stood := { row := faultEndsUptoRow, standIns := [], harness := (true, "28761eee2b833167c0cea0090855b31933a81e880de6f88e9c4b6eb7fdcb4141"), looks := false }, kinds := [], alts := [], laidByText := true, laidKinds := [.data], laidTests := true, laidLooks := .later }
def FaultEndsUptoCardSaid : Prop := Claim7.holds Tryd.pinned (.plain (OpenSpec.upto faultEndsSpec)) faultEndsUptoCard

/-- THE SECOND FORM's CARD OF 'flyleaflaw16.FaultShares'. -/
def faultSharesUptoCard : Claim7 := { stood := { row := faultSharesUptoRow, standIns := [], harness := (true, "28761eee2b833167c0cea0090855b31933a81e880de6f88e9c4b6eb7fdcb4141"), looks := false }, kinds := [], alts := [], laidByText := true, laidKinds := [.data], laidTests := true, laidLooks := .later }
def FaultSharesUptoCardSaid : Prop := Claim7.holds Tryd.pinned (.plain (OpenSpec.upto faultSharesSpec)) faultSharesUptoCard

/-- THE SECOND FORM's CARD OF 'flyleaflaw16.FaultReads'. -/
def faultReadsUptoCard : Claim7 := { stood := { row := faultReadsUptoRow, standIns := [], harness := (true, "28761eee2b833167c0cea0090855b31933a81e880de6f88e9c4b6eb7fdcb4141"), looks := false }, kinds := [], alts := [], laidByText := true, laidKinds := [.data], laidTests := true, laidLooks := .later }
def FaultReadsUptoCardSaid : Prop := Claim7.holds Tryd.pinned (.plain (OpenSpec.upto faultReadsSpec)) faultReadsUptoCard

/-- THE SECOND FORM's CARD OF 'flyleaflaw16.FaultPerms'. -/
def faultPermsUptoCard : Claim7 := { stood := { row := faultPermsUptoRow, standIns := [], harness := (true, "28761eee2b833167c0cea0090855b31933a81e880de6f88e9c4b6eb7fdcb4141"), looks := false }, kinds := [], alts := [], laidByText := true, laidKinds := [.data], laidTests := true, laidLooks := .later }
def FaultPermsUptoCardSaid : Prop := Claim7.holds Tryd.pinned (.plain (OpenSpec.upto faultPermsSpec)) faultPermsUptoCard

/-- THE SECOND FORM's CARD OF 'flyleaflaw16.FaultKinds'. -/
def faultKindsUptoCard : Claim7 := { stood := { row := faultKindsUptoRow, standIns := [], harness := (true, "28761eee2b833167c0cea0090855b31933a81e880de6f88e9c4b6eb7fdcb4141"), looks := false }, kinds := [], alts := [], laidByText := true, laidKinds := [.data], laidTests := true, laidLooks := .later }
def FaultKindsUptoCardSaid : Prop := Claim7.holds Tryd.pinned (.plain (OpenSpec.upto faultKindsSpec)) faultKindsUptoCard
end Rows
end Go.Proofs.YtdfokgfcohfgeaaDoor
