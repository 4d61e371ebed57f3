/-
  NARROWER THAN 'FOR EVERY INPUT', by the rows' own cells (each row's printed sentence says how): FramesPlays: laid · FramesApart: laid · FramesWords: laid · FramesFree: laid · FramesNil: laid · FramesTaken: laid · FramesCopies: laid.
  DERIVED. THE GIVEN ROWS OF THIS SEAT. 7 by the template 'for every input the law returns true; each argument reads behind the call as it read before'; 0 by the template 'total and deterministic' (their statements: YtdelmhcbmlbojaaDoorTotals.lean).
  GIVEN WITH THE SEED: the statements are not yours to turn. If you find one false, say at which input.
  Laid BY PROGRAM, IN A SANDBOX (cutbox-rows.mjs): the forced cells as the released guide's own fill.sh prints them over the translation e620021cd3562bf5… (all of the seat's roots in one cut). By AI agents, Wed Nov 11 2026. No macro, syntax, notation, axiom, sorry.
-/
import Derived.Test.YtdelmhcbmlbojaaDoorChecked
import GoSem.Claim
import GoSem.ClaimJoined
import GoSem.ClaimMapViews
import Derived.JoinedTies
import Derived.KernelRfl
namespace Go.Proofs.YtdelmhcbmlbojaaDoor
/- THE CELL 'sum', in the pinned program and in every row, IS THE sha256 OF THE DUMP (.gsa) THAT YtdelmhcbmlbojaaDoorProg.lean LOADS. Nothing in Lean hashes anything: it is a label: what it is worth is what the hold of that sum in a sandbox is worth. -/
noncomputable def Tryd.pinned : Pinned := { name := "ytdelmhcbmlbojaadoor", sum := "e620021cd3562bf5b05dc79e745420337db562c86f68d705a1f81c202a4d29b8", checked := Tryd.checked }
namespace Rows
def none {H : Type} : Left H := { results := [], args := [] }

/- WHAT THE LISTED PACKAGE-LEVEL VARIABLES READ AS WHEN THE CALL BEGINS. Each datum BY PROGRAM (the guide's laid-datum.mjs) off the statement by which the dump's own 'gosem.cut.vars' lays the variable. In a bare row this is a premise. The card (YtdelmhcbmlbojaaDoorCards.lean) ties it to the program's text. -/
def laid_flyleaf_word_widths {H : Type} : DataW H := .agg [.lit (.int .i64 0), .lit (.int .i64 1), .lit (.int .i64 2), .lit (.int .i64 4), .lit (.int .i64 8), .lit (.int .i64 1), .lit (.int .i64 2), .lit (.int .i64 4), .lit (.int .i64 8), .lit (.int .i64 8)]

/-- 'flyleaflaw06.FramesPlays': WHATEVER THE INPUT: true; the input reads as it did. -/
def framesPlaysSpec : ChangeSpec := { name := "framesPlays", fn := fun _ => fun
  | [d1, d2] => { results := [.lit (.bool true)], args := [d1, d2] }
  | _ => none }
def framesPlaysRow : OpenClaim := { program := "ytdelmhcbmlbojaadoor", sum := "e620021cd3562bf5b05dc79e745420337db562c86f68d705a1f81c202a4d29b8", func := "flyleaf/flyleaflaw06.FramesPlays", spec := "framesPlays", unfollowed := true, recurses := true, named := ["flyleaf/word.widths"], apart := false, laid := [("flyleaf/word.widths", laid_flyleaf_word_widths)] }
def FramesPlaysSaid : Prop := framesPlaysRow.holds Tryd.pinned (OpenSpec.ofChange framesPlaysSpec)

/-- ITS FALSE NEIGHBOUR: 'it returns false'. Refute it at one input. -/
def framesPlaysWrong : ChangeSpec := { name := "framesPlays", fn := fun _ => fun
  | [d1, d2] => { results := [.lit (.bool false)], args := [d1, d2] }
  | _ => none }
def FramesPlaysWrongFalsely : Prop := framesPlaysRow.holds Tryd.pinned (OpenSpec.ofChange framesPlaysWrong)

/-- 'flyleaflaw06.FramesApart': WHATEVER THE INPUT: true; the input reads as it did. -/
def framesApartSpec : ChangeSpec := { name := "framesApart", fn := fun _ => fun
  | [d1, d2, d3] => { results := [.lit (.bool true)], args := [d1, d2, d3] }
  | _ => none }
def framesApartRow : OpenClaim := { program := "ytdelmhcbmlbojaadoor", sum := "e620021cd3562bf5b05dc79e745420337db562c86f68d705a1f81c202a4d29b8", func := "flyleaf/flyleaflaw06.FramesApart", spec := "framesApart", unfollowed := true, recurses := true, named := ["flyleaf/word.widths"], apart := false, laid := [("flyleaf/word.widths", laid_flyleaf_word_widths)] }
def FramesApartSaid : Prop := framesApartRow.holds Tryd.pinned (OpenSpec.ofChange framesApartSpec)

/-- ITS FALSE NEIGHBOUR: 'it returns false'. Refute it at one input. -/
def framesApartWrong : ChangeSpec := { name := "framesApart", fn := fun _ => fun
  | [d1, d2, d3] => { results := [.lit (.bool false)], args := [d1, d2, d3] }
  | _ => none }
def FramesApartWrongFalsely : Prop := framesApartRow.holds Tryd.pinned (OpenSpec.ofChange framesApartWrong)

/-- 'flyleaflaw06.FramesWords': WHATEVER THE INPUT: true; the input reads as it did. -/
def framesWordsSpec : ChangeSpec := { name := "framesWords", fn := fun _ => fun
  | [d1, d2, d3] => { results := [.lit (.bool true)], args := [d1, d2, d3] }
  | _ => none }
def framesWordsRow : OpenClaim := { program := "ytdelmhcbmlbojaadoor", sum := "e620021cd3562bf5b05dc79e745420337db562c86f68d705a1f81c202a4d29b8", func := "flyleaf/flyleaflaw06.FramesWords", spec := "framesWords", unfollowed := true, recurses := true, named := ["flyleaf/word.widths"], apart := false, laid := [("flyleaf/word.widths", laid_flyleaf_word_widths)] }
def FramesWordsSaid : Prop := framesWordsRow.holds Tryd.pinned (OpenSpec.ofChange framesWordsSpec)

/-- ITS FALSE NEIGHBOUR: 'it returns false'. Refute it at one input. -/
def framesWordsWrong : ChangeSpec := { name := "framesWords", fn := fun _ => fun
  | [d1, d2, d3] => { results := [.lit (.bool false)], args := [d1, d2, d3] }
  | _ => none }
def FramesWordsWrongFalsely : Prop := framesWordsRow.holds Tryd.pinned (OpenSpec.ofChange framesWordsWrong)

/-- 'flyleaflaw06.FramesFree': WHATEVER THE INPUT: true; the input reads as it did. -/
def framesFreeSpec : ChangeSpec := { name := "framesFree", fn := fun _ => fun
  | [d] => { results := [.lit (.bool true)], args := [d] }
  | _ => none }
def framesFreeRow : OpenClaim := { program := "ytdelmhcbmlbojaadoor", sum := "e620021cd3562bf5b05dc79e745420337db562c86f68d705a1f81c202a4d29b8", func := "flyleaf/flyleaflaw06.FramesFree", spec := "framesFree", unfollowed := true, recurses := true, named := ["flyleaf/word.widths"], apart := false, laid := [("flyleaf/word.widths", laid_flyleaf_word_widths)] }
def FramesFreeSaid : Prop := framesFreeRow.holds Tryd.pinned (OpenSpec.ofChange framesFreeSpec)

/-- ITS FALSE NEIGHBOUR: 'it returns false'. Refute it at one input. -/
def framesFreeWrong : ChangeSpec := { name := "framesFree", fn := fun _ => fun
  | [d] => { results := [.lit (.bool false)], args := [d] }
  | _ => none }
def FramesFreeWrongFalsely : Prop := framesFreeRow.holds Tryd.pinned (OpenSpec.ofChange framesFreeWrong)

/-- 'flyleaflaw06.FramesNil': WHATEVER THE INPUT: true; the input reads as it did. -/
def framesNilSpec : ChangeSpec := { name := "framesNil", fn := fun _ => fun
  | [d] => { results := [.lit (.bool true)], args := [d] }
  | _ => none }
def framesNilRow : OpenClaim := { program := "ytdelmhcbmlbojaadoor", sum := "e620021cd3562bf5b05dc79e745420337db562c86f68d705a1f81c202a4d29b8", func := "flyleaf/flyleaflaw06.FramesNil", spec := "framesNil", unfollowed := true, recurses := true, named := ["flyleaf/word.widths"], apart := false, laid := [("flyleaf/word.widths", laid_flyleaf_word_widths)] }
def FramesNilSaid : Prop := framesNilRow.holds Tryd.pinned (OpenSpec.ofChange framesNilSpec)

/-- ITS FALSE NEIGHBOUR: 'it returns false'. Refute it at one input. -/
def framesNilWrong : ChangeSpec := { name := "framesNil", fn := fun _ => fun
  | [d] => { results := [.lit (.bool false)], args := [d] }
  | _ => none }
def FramesNilWrongFalsely : Prop := framesNilRow.holds Tryd.pinned (OpenSpec.ofChange framesNilWrong)

/-- 'flyleaflaw06.FramesTaken': WHATEVER THE INPUT: true; the input reads as it did. -/
def framesTakenSpec : ChangeSpec := { name := "framesTaken", fn := fun _ => fun
  | [d] => { results := [.lit (.bool true)], args := [d] }
  | _ => none }
def framesTakenRow : OpenClaim := { program := "ytdelmhcbmlbojaadoor", sum := "e620021cd3562bf5b05dc79e745420337db562c86f68d705a1f81c202a4d29b8", func := "flyleaf/flyleaflaw06.FramesTaken", spec := "framesTaken", unfollowed := true, recurses := true, named := ["flyleaf/word.widths"], apart := false, laid := [("flyleaf/word.widths", laid_flyleaf_word_widths)] }
def FramesTakenSaid : Prop := framesTakenRow.holds Tryd.pinned (OpenSpec.ofChange framesTakenSpec)

/-- ITS FALSE NEIGHBOUR: 'it returns false'. Refute it at one input. -/
def framesTakenWrong : ChangeSpec := { name := "framesTaken", fn := fun _ => fun
  | [d] => { results := [.lit (.bool false)], args := [d] }
  | _ => none }
def FramesTakenWrongFalsely : Prop := framesTakenRow.holds Tryd.pinned (OpenSpec.ofChange framesTakenWrong)

/-- 'flyleaflaw06.FramesCopies': WHATEVER THE INPUT: true; the input reads as it did. -/
def framesCopiesSpec : ChangeSpec := { name := "framesCopies", fn := fun _ => fun
  | [d1, d2] => { results := [.lit (.bool true)], args := [d1, d2] }
  | _ => none }
def framesCopiesRow : OpenClaim := { program := "ytdelmhcbmlbojaadoor", sum := "e620021cd3562bf5b05dc79e745420337db562c86f68d705a1f81c202a4d29b8", func := "flyleaf/flyleaflaw06.FramesCopies", spec := "framesCopies", unfollowed := true, recurses := true, named := ["flyleaf/word.widths"], apart := false, laid := [("flyleaf/word.widths", laid_flyleaf_word_widths)] }
def FramesCopiesSaid : Prop := framesCopiesRow.holds Tryd.pinned (OpenSpec.ofChange framesCopiesSpec)

/-- ITS FALSE NEIGHBOUR: 'it returns false'. Refute it at one input. -/
def framesCopiesWrong : ChangeSpec := { name := "framesCopies", fn := fun _ => fun
  | [d1, d2] => { results := [.lit (.bool false)], args := [d1, d2] }
  | _ => none }
def FramesCopiesWrongFalsely : Prop := framesCopiesRow.holds Tryd.pinned (OpenSpec.ofChange framesCopiesWrong)

/- THE SECOND FORM. 'bulk': how many values and letters a reading holds, each counted each time it is reached (what is shared counts as often as it is met; a slice's spare places count too). A statement '..UptoSaid' is the law's where the arguments, and the package variables that the reading takes, are together of bulk at most 1048576: NARROWER than '..Said'. Prove '..Said' where nothing that the law and all that it calls make is longer than what came in: it says more and counts as full. Else prove '..UptoSaid'. A law counts once. -/
mutual
def uptoBulk {H : Type} : DataW H → Nat
  | .lit (.string bytes) => bytes.length + 1
  | .lit _ => 1
  | .nil => 1
  | .ptr d => uptoBulk d + 1
  | .slice elems spare => uptoBulkAll elems + uptoBulkAll spare + 1
  | .agg parts => uptoBulkAll parts + 1
  | .iface _ d => uptoBulk d + 1
  | .map entries => uptoBulkEntries entries + 1
  | .held _ => 1
def uptoBulkAll {H : Type} : List (DataW H) → Nat
  | [] => 0
  | d :: r => uptoBulk d + uptoBulkAll r
def uptoBulkEntries {H : Type} : List (Lit × DataW H) → Nat
  | [] => 0
  | x :: r => uptoBulkEntry x + uptoBulkEntries r
def uptoBulkEntry {H : Type} : Lit × DataW H → Nat
  | (.string bytes, d) => bytes.length + uptoBulk d + 1
  | (_, d) => uptoBulk d + 1
 end
def uptoSmall : (H : Type) → List (DataW H) → Bool := fun _ ds => decide (uptoBulkAll ds ≤ 1048576)
def OpenSpec.upto (s : _root_.Go.ChangeSpec) : _root_.Go.OpenSpec := { _root_.Go.OpenSpec.ofChange s with cond := some uptoSmall }

/-- 'flyleaflaw06.FramesPlays', WHERE WHAT IT READS IS OF BULK AT MOST 1048576: true; the input reads as it did. -/
def framesPlaysUptoRow : OpenClaim := { program := "ytdelmhcbmlbojaadoor", sum := "e620021cd3562bf5b05dc79e745420337db562c86f68d705a1f81c202a4d29b8", func := "flyleaf/flyleaflaw06.FramesPlays", spec := "framesPlays", unfollowed := true, recurses := true, named := ["flyleaf/word.widths"], apart := false, laid := [("flyleaf/word.widths", laid_flyleaf_word_widths)], narrowed := true }
def FramesPlaysUptoSaid : Prop := framesPlaysUptoRow.holds Tryd.pinned (OpenSpec.upto framesPlaysSpec)

/-- 'flyleaflaw06.FramesApart', WHERE WHAT IT READS IS OF BULK AT MOST 1048576: true; the input reads as it did. -/
def framesApartUptoRow : OpenClaim := { program := "ytdelmhcbmlbojaadoor", sum := "e620021cd3562bf5b05dc79e745420337db562c86f68d705a1f81c202a4d29b8", func := "flyleaf/flyleaflaw06.FramesApart", spec := "framesApart", unfollowed := true, recurses := true, named := ["flyleaf/word.widths"], apart := false, laid := [("flyleaf/word.widths", laid_flyleaf_word_widths)], narrowed := true }
def FramesApartUptoSaid : Prop := framesApartUptoRow.holds Tryd.pinned (OpenSpec.upto framesApartSpec)

/-- 'flyleaflaw06.FramesWords', WHERE WHAT IT READS IS OF BULK AT MOST 1048576: true; the input reads as it did. -/
def framesWordsUptoRow : OpenClaim := { program := "ytdelmhcbmlbojaadoor", sum := "e620021cd3562bf5b05dc79e745420337db562c86f68d705a1f81c202a4d29b8", func := "flyleaf/flyleaflaw06.FramesWords", spec := "framesWords", unfollowed := true, recurses := true, named := ["flyleaf/word.widths"], apart := false, laid := [("flyleaf/word.widths", laid_flyleaf_word_widths)], narrowed := true }
def FramesWordsUptoSaid : Prop := framesWordsUptoRow.holds Tryd.pinned (OpenSpec.upto framesWordsSpec)

/-- 'flyleaflaw06.FramesFree', WHERE WHAT IT READS IS OF BULK AT MOST 1048576: true; the input reads as it did. -/
def framesFreeUptoRow : OpenClaim := { program := "ytdelmhcbmlbojaadoor", sum := "e620021cd3562bf5b05dc79e745420337db562c86f68d705a1f81c202a4d29b8", func := "flyleaf/flyleaflaw06.FramesFree", spec := "framesFree", unfollowed := true, recurses := true, named := ["flyleaf/word.widths"], apart := false, laid := [("flyleaf/word.widths", laid_flyleaf_word_widths)], narrowed := true }
def FramesFreeUptoSaid : Prop := framesFreeUptoRow.holds Tryd.pinned (OpenSpec.upto framesFreeSpec)

/-- 'flyleaflaw06.FramesNil', WHERE WHAT IT READS IS OF BULK AT MOST 1048576: true; the input reads as it did. -/
def framesNilUptoRow : OpenClaim := { program := "ytdelmhcbmlbojaadoor", sum := "e620021cd3562bf5b05dc79e745420337db562c86f68d705a1f81c202a4d29b8", func := "flyleaf/flyleaflaw06.FramesNil", spec := "framesNil", unfollowed := true, recurses := true, named := ["flyleaf/word.widths"], apart := false, laid := [("flyleaf/word.widths", laid_flyleaf_word_widths)], narrowed := true }
def FramesNilUptoSaid : Prop := framesNilUptoRow.holds Tryd.pinned (OpenSpec.upto framesNilSpec)

/-- 'flyleaflaw06.FramesTaken', WHERE WHAT IT READS IS OF BULK AT MOST 1048576: true; the input reads as it did. -/
def framesTakenUptoRow : OpenClaim := { program := "ytdelmhcbmlbojaadoor", sum := "e620021cd3562bf5b05dc79e745420337db562c86f68d705a1f81c202a4d29b8", func := "flyleaf/flyleaflaw06.FramesTaken", spec := "framesTaken", unfollowed := true, recurses := true, named := ["flyleaf/word.widths"], apart := false, laid := [("flyleaf/word.widths", laid_flyleaf_word_widths)], narrowed := true }
def FramesTakenUptoSaid : Prop := framesTakenUptoRow.holds Tryd.pinned (OpenSpec.upto framesTakenSpec)

/-- 'flyleaflaw06.FramesCopies', WHERE WHAT IT READS IS OF BULK AT MOST 1048576: true; the input reads as it did. -/
def framesCopiesUptoRow : OpenClaim := { program := "ytdelmhcbmlbojaadoor", sum := "e620021cd3562bf5b05dc79e745420337db562c86f68d705a1f81c202a4d29b8", func := "flyleaf/flyleaflaw06.FramesCopies", spec := "framesCopies", unfollowed := true, recurses := true, named := ["flyleaf/word.widths"], apart := false, laid := [("flyleaf/word.widths", laid_flyleaf_word_widths)], narrowed := true }
def FramesCopiesUptoSaid : Prop := framesCopiesUptoRow.holds Tryd.pinned (OpenSpec.upto framesCopiesSpec)

end Rows
end Go.Proofs.YtdelmhcbmlbojaaDoor
