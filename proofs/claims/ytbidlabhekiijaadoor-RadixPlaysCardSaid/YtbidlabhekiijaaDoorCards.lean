/-
  DERIVED. GIVEN WITH THE SEED: THE CARDS: each row of YtbidlabhekiijaaDoorRows.lean that lists a variable, with what it lists TIED to the program's text (the seventh form; the later family's looks); each row that meets fmt, with fmt's text TOLD by the authors' own Lean function (tested against real Go, not proved from fmt's source: count such statements apart). THE CARD IS WHAT COUNTS. Prove the row's statement (the work); the ties are given (YtbidlabhekiijaaDoorTie.lean); close each card by the builder's one call (the guide's Derived/Test/ToyasCard.lean, 'card_holds'). Laid BY PROGRAM, IN A SANDBOX (cutbox-door.mjs). By AI agents, Wed Nov 11 2026. No macro, syntax, notation, axiom, sorry.
-/
import Derived.Test.YtbidlabhekiijaaDoorRows
import GoSem.ClaimSeven
namespace Go.Proofs.YtbidlabhekiijaaDoor
namespace Rows

/-- THE TIED CARD OF 'flyleaflaw07.RadixPacks'. -/
def radixPacksCard : Claim7 := { stood := { row := radixPacksRow, standIns := [], harness := (true, "d658ba780c624dff60835109e4ccbe0d43ed3e7b05d7962e3667cf8f338cce4d"), looks := false }, kinds := [], alts := [], laidByText := true, laidKinds := [.data], laidTests := true, laidLooks := .later }
def RadixPacksCardSaid : Prop := Claim7.holds Tryd.pinned (.plain (OpenSpec.ofChange radixPacksSpec)) radixPacksCard

/-- THE TIED CARD OF 'flyleaflaw07.RadixPlays'. -/
def radixPlaysCard : Claim7 := { stood := { row := radixPlaysRow, standIns := [], harness := (true, "d658ba780c624dff60835109e4ccbe0d43ed3e7b05d7962e3667cf8f338cce4d"), looks := false }, kinds := [], alts := [], laidByText := true, laidKinds := [.data], laidTests := true, laidLooks := .later }
def RadixPlaysCardSaid : Prop := Claim7.holds Tryd.pinned (.plain (OpenSpec.ofChange radixPlaysSpec)) radixPlaysCard

/-- THE TIED CARD OF 'flyleaflaw07.RadixLast'. -/
def radixLastCard : Claim7 := { stood := { row := radixLastRow, standIns := [], harness := (true, "d658ba780c624dff60835109e4ccbe0d43ed3e7b05d7962e3667cf8f338cce4d"), looks := false }, kinds := [], alts := [], laidByText := true, laidKinds := [.data], laidTests := true, laidLooks := .later }
def RadixLastCardSaid : Prop := Claim7.holds Tryd.pinned (.plain (OpenSpec.ofChange radixLastSpec)) radixLastCard

/-- THE TIED CARD OF 'flyleaflaw07.RadixFull'. -/
def radixFullCard : Claim7 := { stood := { row := radixFullRow, standIns := [], harness := (true, "d658ba780c624dff60835109e4ccbe0d43ed3e7b05d7962e3667cf8f338cce4d"), looks := false }, kinds := [], alts := [], laidByText := true, laidKinds := [.data], laidTests := true, laidLooks := .later }
def RadixFullCardSaid : Prop := Claim7.holds Tryd.pinned (.plain (OpenSpec.ofChange radixFullSpec)) radixFullCard

/-- THE TIED CARD OF 'flyleaflaw07.RadixNil'. -/
def radixNilCard : Claim7 := { stood := { row := radixNilRow, standIns := [], harness := (true, "d658ba780c624dff60835109e4ccbe0d43ed3e7b05d7962e3667cf8f338cce4d"), looks := false }, kinds := [], alts := [], laidByText := true, laidKinds := [.data], laidTests := true, laidLooks := .later }
def RadixNilCardSaid : Prop := Claim7.holds Tryd.pinned (.plain (OpenSpec.ofChange radixNilSpec)) radixNilCard

/-- THE TIED CARD OF 'flyleaflaw07.RadixNodes'. -/
def radixNodesCard : Claim7 := { stood := { row := radixNodesRow, standIns := [], harness := (true, "d658ba780c624dff60835109e4ccbe0d43ed3e7b05d7962e3667cf8f338cce4d"), looks := false }, kinds := [], alts := [], laidByText := true, laidKinds := [.data], laidTests := true, laidLooks := .later }
def RadixNodesCardSaid : Prop := Claim7.holds Tryd.pinned (.plain (OpenSpec.ofChange radixNodesSpec)) radixNodesCard

/-- THE TIED CARD OF 'flyleaflaw07.RadixFrom'. -/
def radixFromCard : Claim7 := { stood := { row := radixFromRow, standIns := [], harness := (true, "d658ba780c624dff60835109e4ccbe0d43ed3e7b05d7962e3667cf8f338cce4d"), looks := false }, kinds := [], alts := [], laidByText := true, laidKinds := [.data], laidTests := true, laidLooks := .later }
def RadixFromCardSaid : Prop := Claim7.holds Tryd.pinned (.plain (OpenSpec.ofChange radixFromSpec)) radixFromCard

/-- THE SECOND FORM's CARD OF 'flyleaflaw07.RadixPacks'. -/
def radixPacksUptoCard : Claim7 := { stood := { row := radixPacksUptoRow, standIns := [], harness := (true, "d658ba780c624dff60835109e4ccbe0d43ed3e7b05d7962e3667cf8f338cce4d"), looks := false }, kinds := [], alts := [], laidByText := true, laidKinds := [.data], laidTests := true, laidLooks := .later }
def RadixPacksUptoCardSaid : Prop := Claim7.holds Tryd.pinned (.plain (OpenSpec.upto radixPacksSpec)) radixPacksUptoCard

/-- THE SECOND FORM's CARD OF 'flyleaflaw07.RadixPlays'. -/
def radixPlaysUptoCard : Claim7 := { stood := { row := radixPlaysUptoRow, standIns := [], harness := (true, "d658ba780c624dff60835109e4ccbe0d43ed3e7b05d7962e3667cf8f338cce4d"), looks := false }, kinds := [], alts := [], laidByText := true, laidKinds := [.data], laidTests := true, laidLooks := .later }
def RadixPlaysUptoCardSaid : Prop := Claim7.holds Tryd.pinned (.plain (OpenSpec.upto radixPlaysSpec)) radixPlaysUptoCard

/-- THE SECOND FORM's CARD OF 'flyleaflaw07.RadixLast'. -/
def radixLastUptoCard : Claim7 := { stood := { row := radixLastUptoRow, standIns := [], harness := (true, "d658ba780c624dff60835109e4ccbe0d43ed3e7b05d7962e3667cf8f338cce4d"), looks := false }, kinds := [], alts := [], laidByText := true, laidKinds := [.data], laidTests := true, laidLooks := .later }
def RadixLastUptoCardSaid : Prop := Claim7.holds Tryd.pinned (.plain (OpenSpec.upto radixLastSpec)) radixLastUptoCard

/-- THE SECOND FORM's CARD OF 'flyleaflaw07.RadixFull'. -/
def radixFullUptoCard : Claim7 := { stood := { row := radixFullUptoRow, standIns := [], harness := (true, "d658ba780c624dff60835109e4ccbe0d43ed3e7b05d7962e3667cf8f338cce4d"), looks := false }, kinds := [], alts := [], laidByText := true, laidKinds := [.data], laidTests := true, laidLooks := .later }
def RadixFullUptoCardSaid : Prop := Claim7.holds Tryd.pinned (.plain (OpenSpec.upto radixFullSpec)) radixFullUptoCard

/-- THE SECOND FORM's CARD OF 'flyleaflaw07.RadixNil'. -/
def radixNilUptoCard : Claim7 := { stood := { row := radixNilUptoRow, standIns := [], harness := (true, "d658ba780c624dff60835109e4ccbe0d43ed3e7b05d7962e3667cf8f338cce4d"), looks := false }, kinds := [], alts := [], laidByText := true, laidKinds := [.data], laidTests := true, laidLooks := .later }
def RadixNilUptoCardSaid : Prop := Claim7.holds Tryd.pinned (.plain (OpenSpec.upto radixNilSpec)) radixNilUptoCard

/-- THE SECOND FORM's CARD OF 'flyleaflaw07.RadixNodes'. -/
def radixNodesUptoCard : Claim7 := { stood := { row := radixNodesUptoRow, standIns := [], harness := (true, "d658ba780c624dff60835109e4ccbe0d43ed3e7b05d7962e3667cf8f338cce4d"), looks := false }, kinds := [], alts := [], laidByText := true, laidKinds := [.data], laidTests := true, laidLooks := .later }
def RadixNodesUptoCardSaid : Prop := Claim7.holds Tryd.pinned (.plain (OpenSpec.upto radixNodesSpec)) radixNodesUptoCard

/-- THE SECOND FORM's CARD OF 'flyleaflaw07.RadixFrom'. -/
def radixFromUptoCard : Claim7 := { stood := { row := radixFromUptoRow, standIns := [], harness := (true, "d658ba780c624dff60835109e4ccbe0d43ed3e7b05d7962e3667cf8f338cce4d"), looks := false }, kinds := [], alts := [], laidByText := true, laidKinds := [.data], laidTests := true, laidLooks := .later }
def RadixFromUptoCardSaid : Prop := Claim7.holds Tryd.pinned (.plain (OpenSpec.upto radixFromSpec)) radixFromUptoCard
end Rows
end Go.Proofs.YtbidlabhekiijaaDoor
