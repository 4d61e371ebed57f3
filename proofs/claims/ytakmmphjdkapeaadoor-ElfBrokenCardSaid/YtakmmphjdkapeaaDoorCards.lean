/-
  DERIVED. GIVEN WITH THE SEED: THE CARDS: each row of YtakmmphjdkapeaaDoorRows.lean that lists a variable, with what it lists TIED to the program's text (the seventh form; the later family's looks); each row that meets fmt, with fmt's text TOLD by the authors' own Lean function (tested against real Go, not proved from fmt's source: count such statements apart). THE CARD IS WHAT COUNTS. Prove the row's statement (the work); the ties are given (YtakmmphjdkapeaaDoorTie.lean); close each card by the builder's one call (the guide's Derived/Test/ToyasCard.lean, 'card_holds'). Laid BY PROGRAM, IN A SANDBOX (cutbox-door.mjs). By AI agents, Wed Nov 11 2026. No macro, syntax, notation, axiom, sorry.
-/
import Derived.Test.YtakmmphjdkapeaaDoorRows
import GoSem.ClaimSeven
namespace Go.Proofs.YtakmmphjdkapeaaDoor
namespace Rows

/-- THE TIED CARD OF 'flyleaflaw08.ElfChecks'. -/
def elfChecksCard : Claim7 := { stood := { row := elfChecksRow, standIns := [], harness := (true, "67f1f055eef5310e2374a877cb8b11eb67bbd4323938da09225f12026f9a356a"), looks := false }, kinds := [], alts := [], laidByText := true, laidKinds := [.data, .data], laidTests := true, laidLooks := .later }
def ElfChecksCardSaid : Prop := Claim7.holds Tryd.pinned (.plain (OpenSpec.ofChange elfChecksSpec)) elfChecksCard

/-- THE TIED CARD OF 'flyleaflaw08.ElfParses'. -/
def elfParsesCard : Claim7 := { stood := { row := elfParsesRow, standIns := [], harness := (true, "67f1f055eef5310e2374a877cb8b11eb67bbd4323938da09225f12026f9a356a"), looks := false }, kinds := [], alts := [], laidByText := true, laidKinds := [.data, .data], laidTests := true, laidLooks := .later }
def ElfParsesCardSaid : Prop := Claim7.holds Tryd.pinned (.plain (OpenSpec.ofChange elfParsesSpec)) elfParsesCard

/-- THE TIED CARD OF 'flyleaflaw08.ElfReads'. -/
def elfReadsCard : Claim7 := { stood := { row := elfReadsRow, standIns := [], harness := (true, "67f1f055eef5310e2374a877cb8b11eb67bbd4323938da09225f12026f9a356a"), looks := false }, kinds := [], alts := [], laidByText := true, laidKinds := [.data, .data], laidTests := true, laidLooks := .later }
def ElfReadsCardSaid : Prop := Claim7.holds Tryd.pinned (.plain (OpenSpec.ofChange elfReadsSpec)) elfReadsCard

/-- THE TIED CARD OF 'flyleaflaw08.ElfBack'. -/
def elfBackCard : Claim7 := { stood := { row := elfBackRow, standIns := [], harness := (true, "67f1f055eef5310e2374a877cb8b11eb67bbd4323938da09225f12026f9a356a"), looks := false }, kinds := [], alts := [], laidByText := true, laidKinds := [.data, .data], laidTests := true, laidLooks := .later }
def ElfBackCardSaid : Prop := Claim7.holds Tryd.pinned (.plain (OpenSpec.ofChange elfBackSpec)) elfBackCard

/-- THE TIED CARD OF 'flyleaflaw08.ElfPages'. -/
def elfPagesCard : Claim7 := { stood := { row := elfPagesRow, standIns := [], harness := (true, "67f1f055eef5310e2374a877cb8b11eb67bbd4323938da09225f12026f9a356a"), looks := false }, kinds := [], alts := [], laidByText := true, laidKinds := [.data, .data], laidTests := true, laidLooks := .later }
def ElfPagesCardSaid : Prop := Claim7.holds Tryd.pinned (.plain (OpenSpec.ofChange elfPagesSpec)) elfPagesCard

/-- THE TIED CARD OF 'flyleaflaw08.ElfBroken'. -/
def elfBrokenCard : Claim7 := { stood := { row := elfBrokenRow, standIns := [], harness := (true, "67f1f055eef5310e2374a877cb8b11eb67bbd4323938da09225f12026f9a356a"), looks := false }, kinds := [], alts := [], laidByText := true, laidKinds := [.data, .data], laidTests := true, laidLooks := .later }
def ElfBrokenCardSaid : Prop := Claim7.holds Tryd.pinned (.plain (OpenSpec.ofChange elfBrokenSpec)) elfBrokenCard

/-- THE TIED CARD OF 'flyleaflaw08.ElfAny'. -/
def elfAnyCard : Claim7 := { stood := { row := elfAnyRow, standIns := [], harness := (true, "67f1f055eef5310e2374a877cb8b11eb67bbd4323938da09225f12026f9a356a"), looks := false }, kinds := [], alts := [], laidByText := true, laidKinds := [.data, .data], laidTests := true, laidLooks := .later }
def ElfAnyCardSaid : Prop := Claim7.holds Tryd.pinned (.plain (OpenSpec.ofChange elfAnySpec)) elfAnyCard

/-- THE SECOND FORM's CARD OF 'flyleaflaw08.ElfChecks'. -/
def elfChecksUptoCard : Claim7 := { stood := { row := elfChecksUptoRow, standIns := [], harness := (true, "67f1f055eef5310e2374a877cb8b11eb67bbd4323938da09225f12026f9a356a"), looks := false }, kinds := [], alts := [], laidByText := true, laidKinds := [.data, .data], laidTests := true, laidLooks := .later }
def ElfChecksUptoCardSaid : Prop := Claim7.holds Tryd.pinned (.plain (OpenSpec.upto elfChecksSpec)) elfChecksUptoCard

/-- THE SECOND FORM's CARD OF 'flyleaflaw08.ElfParses'. -/
def elfParsesUptoCard : Claim7 := { stood := { row := elfParsesUptoRow, standIns := [], harness := (true, "67f1f055eef5310e2374a877cb8b11eb67bbd4323938da09225f12026f9a356a"), looks := false }, kinds := [], alts := [], laidByText := true, laidKinds := [.data, .data], laidTests := true, laidLooks := .later }
def ElfParsesUptoCardSaid : Prop := Claim7.holds Tryd.pinned (.plain (OpenSpec.upto elfParsesSpec)) elfParsesUptoCard

/-- THE SECOND FORM's CARD OF 'flyleaflaw08.ElfReads'. -/
def elfReadsUptoCard : Claim7 := { stood := { row := elfReadsUptoRow, standIns := [], harness := (true, "67f1f055eef5310e2374a877cb8b11eb67bbd4323938da09225f12026f9a356a"), looks := false }, kinds := [], alts := [], laidByText := true, laidKinds := [.data, .data], laidTests := true, laidLooks := .later }
def ElfReadsUptoCardSaid : Prop := Claim7.holds Tryd.pinned (.plain (OpenSpec.upto elfReadsSpec)) elfReadsUptoCard

/-- THE SECOND FORM's CARD OF 'flyleaflaw08.ElfBack'. -/
def elfBackUptoCard : Claim7 := { stood := { row := elfBackUptoRow, standIns := [], harness := (true, "67f1f055eef5310e2374a877cb8b11eb67bbd4323938da09225f12026f9a356a"), looks := false }, kinds := [], alts := [], laidByText := true, laidKinds := [.data, .data], laidTests := true, laidLooks := .later }
def ElfBackUptoCardSaid : Prop := Claim7.holds Tryd.pinned (.plain (OpenSpec.upto elfBackSpec)) elfBackUptoCard

/-- THE SECOND FORM's CARD OF 'flyleaflaw08.ElfPages'. -/
def elfPagesUptoCard : Claim7 := { stood := { row := elfPagesUptoRow, standIns := [], harness := (true, "67f1f055eef5310e2374a877cb8b11eb67bbd4323938da09225f12026f9a356a"), looks := false }, kinds := [], alts := [], laidByText := true, laidKinds := [.data, .data], laidTests := true, laidLooks := .later }
def ElfPagesUptoCardSaid : Prop := Claim7.holds Tryd.pinned (.plain (OpenSpec.upto elfPagesSpec)) elfPagesUptoCard

/-- THE SECOND FORM's CARD OF 'flyleaflaw08.ElfBroken'. -/
def elfBrokenUptoCard : Claim7 := { stood := { row := elfBrokenUptoRow, standIns := [], harness := (true, "67f1f055eef5310e2374a877cb8b11eb67bbd4323938da09225f12026f9a356a"), looks := false }, kinds := [], alts := [], laidByText := true, laidKinds := [.data, .data], laidTests := true, laidLooks := .later }
def ElfBrokenUptoCardSaid : Prop := Claim7.holds Tryd.pinned (.plain (OpenSpec.upto elfBrokenSpec)) elfBrokenUptoCard

/-- THE SECOND FORM's CARD OF 'flyleaflaw08.ElfAny'. -/
def elfAnyUptoCard : Claim7 := { stood := { row := elfAnyUptoRow, standIns := [], harness := (true, "67f1f055eef5310e2374a877cb8b11eb67bbd4323938da09225f12026f9a356a"), looks := false }, kinds := [], alts := [], laidByText := true, laidKinds := [.data, .data], laidTests := true, laidLooks := .later }
def ElfAnyUptoCardSaid : Prop := Claim7.holds Tryd.pinned (.plain (OpenSpec.upto elfAnySpec)) elfAnyUptoCard
end Rows
end Go.Proofs.YtakmmphjdkapeaaDoor
