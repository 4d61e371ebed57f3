/-
  NARROWER THAN 'FOR EVERY INPUT', by the rows' own cells (each row's printed sentence says how): ElfChecks: laid · ElfParses: laid · ElfReads: laid · ElfBack: laid · ElfPages: laid · ElfBroken: laid · ElfAny: laid.
  DERIVED. THE GIVEN ROWS OF THIS SEAT. 7 by the template 'for every input the law returns true; each argument reads behind the call as it read before'; 0 by the template 'total and deterministic' (their statements: YtakmmphjdkapeaaDoorTotals.lean).
  GIVEN WITH THE SEED: the statements are not yours to turn. If you find one false, say at which input.
  Laid BY PROGRAM, IN A SANDBOX (cutbox-rows.mjs): the forced cells as the released guide's own fill.sh prints them over the translation f7737db06bcccae8… (all of the seat's roots in one cut). By AI agents, Wed Nov 11 2026. No macro, syntax, notation, axiom, sorry.
-/
import Derived.Test.YtakmmphjdkapeaaDoorChecked
import GoSem.Claim
import GoSem.ClaimJoined
import GoSem.ClaimMapViews
import Derived.JoinedTies
import Derived.KernelRfl
namespace Go.Proofs.YtakmmphjdkapeaaDoor
/- THE CELL 'sum', in the pinned program and in every row, IS THE sha256 OF THE DUMP (.gsa) THAT YtakmmphjdkapeaaDoorProg.lean LOADS. Nothing in Lean hashes anything: it is a label: what it is worth is what the hold of that sum in a sandbox is worth. -/
noncomputable def Tryd.pinned : Pinned := { name := "ytakmmphjdkapeaadoor", sum := "f7737db06bcccae8171f4d0ba9574c661b2d0c24fdffcb39e46f476ae9f829fa", checked := Tryd.checked }
namespace Rows
def none {H : Type} : Left H := { results := [], args := [] }

/- WHAT THE LISTED PACKAGE-LEVEL VARIABLES READ AS WHEN THE CALL BEGINS. Each datum BY PROGRAM (the guide's laid-datum.mjs) off the statement by which the dump's own 'gosem.cut.vars' lays the variable. In a bare row this is a premise. The card (YtakmmphjdkapeaaDoorCards.lean) ties it to the program's text. -/
def laid_flyleaf_elf_widths {H : Type} : DataW H := .agg [.lit (.int .i64 4), .lit (.int .i64 4), .lit (.int .i64 8), .lit (.int .i64 8), .lit (.int .i64 8), .lit (.int .i64 8), .lit (.int .i64 8), .lit (.int .i64 8)]
def laid_flyleaf_elf_greatest {H : Type} : DataW H := .agg [.lit (.int .i64 1073741824), .lit (.int .i64 7), .lit (.int .i64 1099511627776), .lit (.int .i64 1099511627776), .lit (.int .i64 1099511627776), .lit (.int .i64 1099511627776), .lit (.int .i64 1099511627776), .lit (.int .i64 1099511627776)]

/-- 'flyleaflaw08.ElfChecks': WHATEVER THE INPUT: true; the input reads as it did. -/
def elfChecksSpec : ChangeSpec := { name := "elfChecks", fn := fun _ => fun
  | [d1, d2, d3] => { results := [.lit (.bool true)], args := [d1, d2, d3] }
  | _ => none }
def elfChecksRow : OpenClaim := { program := "ytakmmphjdkapeaadoor", sum := "f7737db06bcccae8171f4d0ba9574c661b2d0c24fdffcb39e46f476ae9f829fa", func := "flyleaf/flyleaflaw08.ElfChecks", spec := "elfChecks", inPlace := ["internal/abi.NoEscape"], unfollowed := true, recurses := true, named := ["flyleaf/elf.widths", "flyleaf/elf.greatest"], apart := false, laid := [("flyleaf/elf.widths", laid_flyleaf_elf_widths), ("flyleaf/elf.greatest", laid_flyleaf_elf_greatest)] }
def ElfChecksSaid : Prop := elfChecksRow.holds Tryd.pinned (OpenSpec.ofChange elfChecksSpec)

/-- ITS FALSE NEIGHBOUR: 'it returns false'. Refute it at one input. -/
def elfChecksWrong : ChangeSpec := { name := "elfChecks", fn := fun _ => fun
  | [d1, d2, d3] => { results := [.lit (.bool false)], args := [d1, d2, d3] }
  | _ => none }
def ElfChecksWrongFalsely : Prop := elfChecksRow.holds Tryd.pinned (OpenSpec.ofChange elfChecksWrong)

/-- 'flyleaflaw08.ElfParses': WHATEVER THE INPUT: true; the input reads as it did. -/
def elfParsesSpec : ChangeSpec := { name := "elfParses", fn := fun _ => fun
  | [d1, d2] => { results := [.lit (.bool true)], args := [d1, d2] }
  | _ => none }
def elfParsesRow : OpenClaim := { program := "ytakmmphjdkapeaadoor", sum := "f7737db06bcccae8171f4d0ba9574c661b2d0c24fdffcb39e46f476ae9f829fa", func := "flyleaf/flyleaflaw08.ElfParses", spec := "elfParses", inPlace := ["internal/abi.NoEscape"], unfollowed := true, recurses := true, named := ["flyleaf/elf.widths", "flyleaf/elf.greatest"], apart := false, laid := [("flyleaf/elf.widths", laid_flyleaf_elf_widths), ("flyleaf/elf.greatest", laid_flyleaf_elf_greatest)] }
def ElfParsesSaid : Prop := elfParsesRow.holds Tryd.pinned (OpenSpec.ofChange elfParsesSpec)

/-- ITS FALSE NEIGHBOUR: 'it returns false'. Refute it at one input. -/
def elfParsesWrong : ChangeSpec := { name := "elfParses", fn := fun _ => fun
  | [d1, d2] => { results := [.lit (.bool false)], args := [d1, d2] }
  | _ => none }
def ElfParsesWrongFalsely : Prop := elfParsesRow.holds Tryd.pinned (OpenSpec.ofChange elfParsesWrong)

/-- 'flyleaflaw08.ElfReads': WHATEVER THE INPUT: true; the input reads as it did. -/
def elfReadsSpec : ChangeSpec := { name := "elfReads", fn := fun _ => fun
  | [d] => { results := [.lit (.bool true)], args := [d] }
  | _ => none }
def elfReadsRow : OpenClaim := { program := "ytakmmphjdkapeaadoor", sum := "f7737db06bcccae8171f4d0ba9574c661b2d0c24fdffcb39e46f476ae9f829fa", func := "flyleaf/flyleaflaw08.ElfReads", spec := "elfReads", inPlace := ["internal/abi.NoEscape"], unfollowed := true, recurses := true, named := ["flyleaf/elf.widths", "flyleaf/elf.greatest"], apart := false, laid := [("flyleaf/elf.widths", laid_flyleaf_elf_widths), ("flyleaf/elf.greatest", laid_flyleaf_elf_greatest)] }
def ElfReadsSaid : Prop := elfReadsRow.holds Tryd.pinned (OpenSpec.ofChange elfReadsSpec)

/-- ITS FALSE NEIGHBOUR: 'it returns false'. Refute it at one input. -/
def elfReadsWrong : ChangeSpec := { name := "elfReads", fn := fun _ => fun
  | [d] => { results := [.lit (.bool false)], args := [d] }
  | _ => none }
def ElfReadsWrongFalsely : Prop := elfReadsRow.holds Tryd.pinned (OpenSpec.ofChange elfReadsWrong)

/-- 'flyleaflaw08.ElfBack': WHATEVER THE INPUT: true; the input reads as it did. -/
def elfBackSpec : ChangeSpec := { name := "elfBack", fn := fun _ => fun
  | [d1, d2] => { results := [.lit (.bool true)], args := [d1, d2] }
  | _ => none }
def elfBackRow : OpenClaim := { program := "ytakmmphjdkapeaadoor", sum := "f7737db06bcccae8171f4d0ba9574c661b2d0c24fdffcb39e46f476ae9f829fa", func := "flyleaf/flyleaflaw08.ElfBack", spec := "elfBack", inPlace := ["internal/abi.NoEscape"], unfollowed := true, recurses := true, named := ["flyleaf/elf.widths", "flyleaf/elf.greatest"], apart := false, laid := [("flyleaf/elf.widths", laid_flyleaf_elf_widths), ("flyleaf/elf.greatest", laid_flyleaf_elf_greatest)] }
def ElfBackSaid : Prop := elfBackRow.holds Tryd.pinned (OpenSpec.ofChange elfBackSpec)

/-- ITS FALSE NEIGHBOUR: 'it returns false'. Refute it at one input. -/
def elfBackWrong : ChangeSpec := { name := "elfBack", fn := fun _ => fun
  | [d1, d2] => { results := [.lit (.bool false)], args := [d1, d2] }
  | _ => none }
def ElfBackWrongFalsely : Prop := elfBackRow.holds Tryd.pinned (OpenSpec.ofChange elfBackWrong)

/-- 'flyleaflaw08.ElfPages': WHATEVER THE INPUT: true; the input reads as it did. -/
def elfPagesSpec : ChangeSpec := { name := "elfPages", fn := fun _ => fun
  | [d] => { results := [.lit (.bool true)], args := [d] }
  | _ => none }
def elfPagesRow : OpenClaim := { program := "ytakmmphjdkapeaadoor", sum := "f7737db06bcccae8171f4d0ba9574c661b2d0c24fdffcb39e46f476ae9f829fa", func := "flyleaf/flyleaflaw08.ElfPages", spec := "elfPages", inPlace := ["internal/abi.NoEscape"], unfollowed := true, recurses := true, named := ["flyleaf/elf.widths", "flyleaf/elf.greatest"], apart := false, laid := [("flyleaf/elf.widths", laid_flyleaf_elf_widths), ("flyleaf/elf.greatest", laid_flyleaf_elf_greatest)] }
def ElfPagesSaid : Prop := elfPagesRow.holds Tryd.pinned (OpenSpec.ofChange elfPagesSpec)

/-- ITS FALSE NEIGHBOUR: 'it returns false'. Refute it at one input. -/
def elfPagesWrong : ChangeSpec := { name := "elfPages", fn := fun _ => fun
  | [d] => { results := [.lit (.bool false)], args := [d] }
  | _ => none }
def ElfPagesWrongFalsely : Prop := elfPagesRow.holds Tryd.pinned (OpenSpec.ofChange elfPagesWrong)

/-- 'flyleaflaw08.ElfBroken': WHATEVER THE INPUT: true; the input reads as it did. -/
def elfBrokenSpec : ChangeSpec := { name := "elfBroken", fn := fun _ => fun
  | [d1, d2] => { results := [.lit (.bool true)], args := [d1, d2] }
  | _ => none }
def elfBrokenRow : OpenClaim := { program := "ytakmmphjdkapeaadoor", sum := "f7737db06bcccae8171f4d0ba9574c661b2d0c24fdffcb39e46f476ae9f829fa", func := "flyleaf/flyleaflaw08.ElfBroken", spec := "elfBroken", inPlace := ["internal/abi.NoEscape"], unfollowed := true, recurses := true, named := ["flyleaf/elf.widths", "flyleaf/elf.greatest"], apart := false, laid := [("flyleaf/elf.widths", laid_flyleaf_elf_widths), ("flyleaf/elf.greatest", laid_flyleaf_elf_greatest)] }
def ElfBrokenSaid : Prop := elfBrokenRow.holds Tryd.pinned (OpenSpec.ofChange elfBrokenSpec)

/-- ITS FALSE NEIGHBOUR: 'it returns false'. Refute it at one input. -/
def elfBrokenWrong : ChangeSpec := { name := "elfBroken", fn := fun _ => fun
  | [d1, d2] => { results := [.lit (.bool false)], args := [d1, d2] }
  | _ => none }
def ElfBrokenWrongFalsely : Prop := elfBrokenRow.holds Tryd.pinned (OpenSpec.ofChange elfBrokenWrong)

/-- 'flyleaflaw08.ElfAny': WHATEVER THE INPUT: true; the input reads as it did. -/
def elfAnySpec : ChangeSpec := { name := "elfAny", fn := fun _ => fun
  | [d1, d2, d3] => { results := [.lit (.bool true)], args := [d1, d2, d3] }
  | _ => none }
def elfAnyRow : OpenClaim := { program := "ytakmmphjdkapeaadoor", sum := "f7737db06bcccae8171f4d0ba9574c661b2d0c24fdffcb39e46f476ae9f829fa", func := "flyleaf/flyleaflaw08.ElfAny", spec := "elfAny", inPlace := ["internal/abi.NoEscape"], unfollowed := true, recurses := true, named := ["flyleaf/elf.widths", "flyleaf/elf.greatest"], apart := false, laid := [("flyleaf/elf.widths", laid_flyleaf_elf_widths), ("flyleaf/elf.greatest", laid_flyleaf_elf_greatest)] }
def ElfAnySaid : Prop := elfAnyRow.holds Tryd.pinned (OpenSpec.ofChange elfAnySpec)

/-- ITS FALSE NEIGHBOUR: 'it returns false'. Refute it at one input. -/
def elfAnyWrong : ChangeSpec := { name := "elfAny", fn := fun _ => fun
  | [d1, d2, d3] => { results := [.lit (.bool false)], args := [d1, d2, d3] }
  | _ => none }
def ElfAnyWrongFalsely : Prop := elfAnyRow.holds Tryd.pinned (OpenSpec.ofChange elfAnyWrong)

/- THE SECOND FORM. 'bulk': how many values and letters a reading holds, each counted each time it is reached (what is shared counts as often as it is met; a slice's spare places count too). A statement '..UptoSaid' is the law's where the arguments, and the package variables that the reading takes, are together of bulk at most 1048576: NARROWER than '..Said'. Prove '..Said' where nothing that the law and all that it calls make is longer than what came in: it says more and counts as full. Else prove '..UptoSaid'. A law counts once. -/
mutual
def uptoBulk {H : Type} : DataW H → Nat
  | .lit (.string bytes) => bytes.length + 1
  | .lit _ => 1
  | .nil => 1
  | .ptr d => uptoBulk d + 1
  | .slice elems spare => uptoBulkAll elems + uptoBulkAll spare + 1
  | .agg parts => uptoBulkAll parts + 1
  | .iface _ d => uptoBulk d + 1
  | .map entries => uptoBulkEntries entries + 1
  | .held _ => 1
def uptoBulkAll {H : Type} : List (DataW H) → Nat
  | [] => 0
  | d :: r => uptoBulk d + uptoBulkAll r
def uptoBulkEntries {H : Type} : List (Lit × DataW H) → Nat
  | [] => 0
  | x :: r => uptoBulkEntry x + uptoBulkEntries r
def uptoBulkEntry {H : Type} : Lit × DataW H → Nat
  | (.string bytes, d) => bytes.length + uptoBulk d + 1
  | (_, d) => uptoBulk d + 1
 end
def uptoSmall : (H : Type) → List (DataW H) → Bool := fun _ ds => decide (uptoBulkAll ds ≤ 1048576)
def OpenSpec.upto (s : _root_.Go.ChangeSpec) : _root_.Go.OpenSpec := { _root_.Go.OpenSpec.ofChange s with cond := some uptoSmall }

/-- 'flyleaflaw08.ElfChecks', WHERE WHAT IT READS IS OF BULK AT MOST 1048576: true; the input reads as it did. -/
def elfChecksUptoRow : OpenClaim := { program := "ytakmmphjdkapeaadoor", sum := "f7737db06bcccae8171f4d0ba9574c661b2d0c24fdffcb39e46f476ae9f829fa", func := "flyleaf/flyleaflaw08.ElfChecks", spec := "elfChecks", inPlace := ["internal/abi.NoEscape"], unfollowed := true, recurses := true, named := ["flyleaf/elf.widths", "flyleaf/elf.greatest"], apart := false, laid := [("flyleaf/elf.widths", laid_flyleaf_elf_widths), ("flyleaf/elf.greatest", laid_flyleaf_elf_greatest)], narrowed := true }
def ElfChecksUptoSaid : Prop := elfChecksUptoRow.holds Tryd.pinned (OpenSpec.upto elfChecksSpec)

/-- 'flyleaflaw08.ElfParses', WHERE WHAT IT READS IS OF BULK AT MOST 1048576: true; the input reads as it did. -/
def elfParsesUptoRow : OpenClaim := { program := "ytakmmphjdkapeaadoor", sum := "f7737db06bcccae8171f4d0ba9574c661b2d0c24fdffcb39e46f476ae9f829fa", func := "flyleaf/flyleaflaw08.ElfParses", spec := "elfParses", inPlace := ["internal/abi.NoEscape"], unfollowed := true, recurses := true, named := ["flyleaf/elf.widths", "flyleaf/elf.greatest"], apart := false, laid := [("flyleaf/elf.widths", laid_flyleaf_elf_widths), ("flyleaf/elf.greatest", laid_flyleaf_elf_greatest)], narrowed := true }
def ElfParsesUptoSaid : Prop := elfParsesUptoRow.holds Tryd.pinned (OpenSpec.upto elfParsesSpec)

/-- 'flyleaflaw08.ElfReads', WHERE WHAT IT READS IS OF BULK AT MOST 1048576: true; the input reads as it did. -/
def elfReadsUptoRow : OpenClaim := { program := "ytakmmphjdkapeaadoor", sum := "f7737db06bcccae8171f4d0ba9574c661b2d0c24fdffcb39e46f476ae9f829fa", func := "flyleaf/flyleaflaw08.ElfReads", spec := "elfReads", inPlace := ["internal/abi.NoEscape"], unfollowed := true, recurses := true, named := ["flyleaf/elf.widths", "flyleaf/elf.greatest"], apart := false, laid := [("flyleaf/elf.widths", laid_flyleaf_elf_widths), ("flyleaf/elf.greatest", laid_flyleaf_elf_greatest)], narrowed := true }
def ElfReadsUptoSaid : Prop := elfReadsUptoRow.holds Tryd.pinned (OpenSpec.upto elfReadsSpec)

/-- 'flyleaflaw08.ElfBack', WHERE WHAT IT READS IS OF BULK AT MOST 1048576: true; the input reads as it did. -/
def elfBackUptoRow : OpenClaim := { program := "ytakmmphjdkapeaadoor", sum := "f7737db06bcccae8171f4d0ba9574c661b2d0c24fdffcb39e46f476ae9f829fa", func := "flyleaf/flyleaflaw08.ElfBack", spec := "elfBack", inPlace := ["internal/abi.NoEscape"], unfollowed := true, recurses := true, named := ["flyleaf/elf.widths", "flyleaf/elf.greatest"], apart := false, laid := [("flyleaf/elf.widths", laid_flyleaf_elf_widths), ("flyleaf/elf.greatest", laid_flyleaf_elf_greatest)], narrowed := true }
def ElfBackUptoSaid : Prop := elfBackUptoRow.holds Tryd.pinned (OpenSpec.upto elfBackSpec)

/-- 'flyleaflaw08.ElfPages', WHERE WHAT IT READS IS OF BULK AT MOST 1048576: true; the input reads as it did. -/
def elfPagesUptoRow : OpenClaim := { program := "ytakmmphjdkapeaadoor", sum := "f7737db06bcccae8171f4d0ba9574c661b2d0c24fdffcb39e46f476ae9f829fa", func := "flyleaf/flyleaflaw08.ElfPages", spec := "elfPages", inPlace := ["internal/abi.NoEscape"], unfollowed := true, recurses := true, named := ["flyleaf/elf.widths", "flyleaf/elf.greatest"], apart := false, laid := [("flyleaf/elf.widths", laid_flyleaf_elf_widths), ("flyleaf/elf.greatest", laid_flyleaf_elf_greatest)], narrowed := true }
def ElfPagesUptoSaid : Prop := elfPagesUptoRow.holds Tryd.pinned (OpenSpec.upto elfPagesSpec)

/-- 'flyleaflaw08.ElfBroken', WHERE WHAT IT READS IS OF BULK AT MOST 1048576: true; the input reads as it did. -/
def elfBrokenUptoRow : OpenClaim := { program := "ytakmmphjdkapeaadoor", sum := "f7737db06bcccae8171f4d0ba9574c661b2d0c24fdffcb39e46f476ae9f829fa", func := "flyleaf/flyleaflaw08.ElfBroken", spec := "elfBroken", inPlace := ["internal/abi.NoEscape"], unfollowed := true, recurses := true, named := ["flyleaf/elf.widths", "flyleaf/elf.greatest"], apart := false, laid := [("flyleaf/elf.widths", laid_flyleaf_elf_widths), ("flyleaf/elf.greatest", laid_flyleaf_elf_greatest)], narrowed := true }
def ElfBrokenUptoSaid : Prop := elfBrokenUptoRow.holds Tryd.pinned (OpenSpec.upto elfBrokenSpec)

/-- 'flyleaflaw08.ElfAny', WHERE WHAT IT READS IS OF BULK AT MOST 1048576: true; the input reads as it did. -/
def elfAnyUptoRow : OpenClaim := { program := "ytakmmphjdkapeaadoor", sum := "f7737db06bcccae8171f4d0ba9574c661b2d0c24fdffcb39e46f476ae9f829fa", func := "flyleaf/flyleaflaw08.ElfAny", spec := "elfAny", inPlace := ["internal/abi.NoEscape"], unfollowed := true, recurses := true, named := ["flyleaf/elf.widths", "flyleaf/elf.greatest"], apart := false, laid := [("flyleaf/elf.widths", laid_flyleaf_elf_widths), ("flyleaf/elf.greatest", laid_flyleaf_elf_greatest)], narrowed := true }
def ElfAnyUptoSaid : Prop := elfAnyUptoRow.holds Tryd.pinned (OpenSpec.upto elfAnySpec)

end Rows
end Go.Proofs.YtakmmphjdkapeaaDoor
