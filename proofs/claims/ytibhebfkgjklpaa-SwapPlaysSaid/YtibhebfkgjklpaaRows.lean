/-
  No cell of these rows narrows 'for every input' (looked for: loops, veiled, ifaces, maps, wideKeys, modest, calm, conditions, laid).
  DERIVED. THE GIVEN ROWS OF THIS SEAT. 6 by the template 'for every input the law returns true; each argument reads behind the call as it read before'; 0 by the template 'total and deterministic' (their statements: YtibhebfkgjklpaaTotals.lean).
  GIVEN WITH THE SEED: the statements are not yours to turn. If you find one false, say at which input.
  Laid BY PROGRAM, IN A SANDBOX (cutbox-rows.mjs): the forced cells as the released guide's own fill.sh prints them over the translation 93aa4d81ac3bf2d8… (all of the seat's roots in one cut). By AI agents, Wed Nov 11 2026. No macro, syntax, notation, axiom, sorry.
-/
import Derived.Test.YtibhebfkgjklpaaChecked
import GoSem.Claim
import GoSem.ClaimJoined
import GoSem.ClaimMapViews
import Derived.JoinedTies
import Derived.KernelRfl
namespace Go.Proofs.Ytibhebfkgjklpaa
/- THE CELL 'sum', in the pinned program and in every row, IS THE sha256 OF THE DUMP (.gsa) THAT YtibhebfkgjklpaaProg.lean LOADS. Nothing in Lean hashes anything: it is a label: what it is worth is what the hold of that sum in a sandbox is worth. -/
noncomputable def Try.pinned : Pinned := { name := "ytibhebfkgjklpaa", sum := "93aa4d81ac3bf2d84afc9a6fc78a784cc093e41ebf64635d47edbed612a816fe", checked := Try.checked }
namespace Rows
def none {H : Type} : Left H := { results := [], args := [] }

/-- 'flyleaflaw05.SwapPlays': WHATEVER THE INPUT: true; the input reads as it did. -/
def swapPlaysSpec : ChangeSpec := { name := "swapPlays", fn := fun _ => fun
  | [d1, d2] => { results := [.lit (.bool true)], args := [d1, d2] }
  | _ => none }
def swapPlaysRow : OpenClaim := { program := "ytibhebfkgjklpaa", sum := "93aa4d81ac3bf2d84afc9a6fc78a784cc093e41ebf64635d47edbed612a816fe", func := "flyleaf/flyleaflaw05.SwapPlays", spec := "swapPlays", unfollowed := true, recurses := true, apart := false }
def SwapPlaysSaid : Prop := swapPlaysRow.holds Try.pinned (OpenSpec.ofChange swapPlaysSpec)

/-- ITS FALSE NEIGHBOUR: 'it returns false'. Refute it at one input. -/
def swapPlaysWrong : ChangeSpec := { name := "swapPlays", fn := fun _ => fun
  | [d1, d2] => { results := [.lit (.bool false)], args := [d1, d2] }
  | _ => none }
def SwapPlaysWrongFalsely : Prop := swapPlaysRow.holds Try.pinned (OpenSpec.ofChange swapPlaysWrong)

/-- 'flyleaflaw05.SwapMakes': WHATEVER THE INPUT: true; the input reads as it did. -/
def swapMakesSpec : ChangeSpec := { name := "swapMakes", fn := fun _ => fun
  | [d1, d2, d3] => { results := [.lit (.bool true)], args := [d1, d2, d3] }
  | _ => none }
def swapMakesRow : OpenClaim := { program := "ytibhebfkgjklpaa", sum := "93aa4d81ac3bf2d84afc9a6fc78a784cc093e41ebf64635d47edbed612a816fe", func := "flyleaf/flyleaflaw05.SwapMakes", spec := "swapMakes", unfollowed := true, recurses := true, apart := false }
def SwapMakesSaid : Prop := swapMakesRow.holds Try.pinned (OpenSpec.ofChange swapMakesSpec)

/-- ITS FALSE NEIGHBOUR: 'it returns false'. Refute it at one input. -/
def swapMakesWrong : ChangeSpec := { name := "swapMakes", fn := fun _ => fun
  | [d1, d2, d3] => { results := [.lit (.bool false)], args := [d1, d2, d3] }
  | _ => none }
def SwapMakesWrongFalsely : Prop := swapMakesRow.holds Try.pinned (OpenSpec.ofChange swapMakesWrong)

/-- 'flyleaflaw05.SwapKeeps': WHATEVER THE INPUT: true; the input reads as it did. -/
def swapKeepsSpec : ChangeSpec := { name := "swapKeeps", fn := fun _ => fun
  | [d] => { results := [.lit (.bool true)], args := [d] }
  | _ => none }
def swapKeepsRow : OpenClaim := { program := "ytibhebfkgjklpaa", sum := "93aa4d81ac3bf2d84afc9a6fc78a784cc093e41ebf64635d47edbed612a816fe", func := "flyleaf/flyleaflaw05.SwapKeeps", spec := "swapKeeps", unfollowed := true, recurses := true, apart := false }
def SwapKeepsSaid : Prop := swapKeepsRow.holds Try.pinned (OpenSpec.ofChange swapKeepsSpec)

/-- ITS FALSE NEIGHBOUR: 'it returns false'. Refute it at one input. -/
def swapKeepsWrong : ChangeSpec := { name := "swapKeeps", fn := fun _ => fun
  | [d] => { results := [.lit (.bool false)], args := [d] }
  | _ => none }
def SwapKeepsWrongFalsely : Prop := swapKeepsRow.holds Try.pinned (OpenSpec.ofChange swapKeepsWrong)

/-- 'flyleaflaw05.SwapNil': WHATEVER THE INPUT: true; the input reads as it did. -/
def swapNilSpec : ChangeSpec := { name := "swapNil", fn := fun _ => fun
  | [d] => { results := [.lit (.bool true)], args := [d] }
  | _ => none }
def swapNilRow : OpenClaim := { program := "ytibhebfkgjklpaa", sum := "93aa4d81ac3bf2d84afc9a6fc78a784cc093e41ebf64635d47edbed612a816fe", func := "flyleaf/flyleaflaw05.SwapNil", spec := "swapNil", unfollowed := true, recurses := true, apart := false }
def SwapNilSaid : Prop := swapNilRow.holds Try.pinned (OpenSpec.ofChange swapNilSpec)

/-- ITS FALSE NEIGHBOUR: 'it returns false'. Refute it at one input. -/
def swapNilWrong : ChangeSpec := { name := "swapNil", fn := fun _ => fun
  | [d] => { results := [.lit (.bool false)], args := [d] }
  | _ => none }
def SwapNilWrongFalsely : Prop := swapNilRow.holds Try.pinned (OpenSpec.ofChange swapNilWrong)

/-- 'flyleaflaw05.SwapHolds': WHATEVER THE INPUT: true; the input reads as it did. -/
def swapHoldsSpec : ChangeSpec := { name := "swapHolds", fn := fun _ => fun
  | [d] => { results := [.lit (.bool true)], args := [d] }
  | _ => none }
def swapHoldsRow : OpenClaim := { program := "ytibhebfkgjklpaa", sum := "93aa4d81ac3bf2d84afc9a6fc78a784cc093e41ebf64635d47edbed612a816fe", func := "flyleaf/flyleaflaw05.SwapHolds", spec := "swapHolds", unfollowed := true, recurses := true, apart := false }
def SwapHoldsSaid : Prop := swapHoldsRow.holds Try.pinned (OpenSpec.ofChange swapHoldsSpec)

/-- ITS FALSE NEIGHBOUR: 'it returns false'. Refute it at one input. -/
def swapHoldsWrong : ChangeSpec := { name := "swapHolds", fn := fun _ => fun
  | [d] => { results := [.lit (.bool false)], args := [d] }
  | _ => none }
def SwapHoldsWrongFalsely : Prop := swapHoldsRow.holds Try.pinned (OpenSpec.ofChange swapHoldsWrong)

/-- 'flyleaflaw05.SwapPlaces': WHATEVER THE INPUT: true; the input reads as it did. -/
def swapPlacesSpec : ChangeSpec := { name := "swapPlaces", fn := fun _ => fun
  | [d1, d2] => { results := [.lit (.bool true)], args := [d1, d2] }
  | _ => none }
def swapPlacesRow : OpenClaim := { program := "ytibhebfkgjklpaa", sum := "93aa4d81ac3bf2d84afc9a6fc78a784cc093e41ebf64635d47edbed612a816fe", func := "flyleaf/flyleaflaw05.SwapPlaces", spec := "swapPlaces", unfollowed := true, recurses := true, apart := false }
def SwapPlacesSaid : Prop := swapPlacesRow.holds Try.pinned (OpenSpec.ofChange swapPlacesSpec)

/-- ITS FALSE NEIGHBOUR: 'it returns false'. Refute it at one input. -/
def swapPlacesWrong : ChangeSpec := { name := "swapPlaces", fn := fun _ => fun
  | [d1, d2] => { results := [.lit (.bool false)], args := [d1, d2] }
  | _ => none }
def SwapPlacesWrongFalsely : Prop := swapPlacesRow.holds Try.pinned (OpenSpec.ofChange swapPlacesWrong)

/- THE SECOND FORM. 'bulk': how many values and letters a reading holds, each counted each time it is reached (what is shared counts as often as it is met; a slice's spare places count too). A statement '..UptoSaid' is the law's where the arguments, and the package variables that the reading takes, are together of bulk at most 1048576: NARROWER than '..Said'. Prove '..Said' where nothing that the law and all that it calls make is longer than what came in: it says more and counts as full. Else prove '..UptoSaid'. A law counts once. -/
mutual
def uptoBulk {H : Type} : DataW H → Nat
  | .lit (.string bytes) => bytes.length + 1
  | .lit _ => 1
  | .nil => 1
  | .ptr d => uptoBulk d + 1
  | .slice elems spare => uptoBulkAll elems + uptoBulkAll spare + 1
  | .agg parts => uptoBulkAll parts + 1
  | .iface _ d => uptoBulk d + 1
  | .map entries => uptoBulkEntries entries + 1
  | .held _ => 1
def uptoBulkAll {H : Type} : List (DataW H) → Nat
  | [] => 0
  | d :: r => uptoBulk d + uptoBulkAll r
def uptoBulkEntries {H : Type} : List (Lit × DataW H) → Nat
  | [] => 0
  | x :: r => uptoBulkEntry x + uptoBulkEntries r
def uptoBulkEntry {H : Type} : Lit × DataW H → Nat
  | (.string bytes, d) => bytes.length + uptoBulk d + 1
  | (_, d) => uptoBulk d + 1
 end
def uptoSmall : (H : Type) → List (DataW H) → Bool := fun _ ds => decide (uptoBulkAll ds ≤ 1048576)
def OpenSpec.upto (s : _root_.Go.ChangeSpec) : _root_.Go.OpenSpec := { _root_.Go.OpenSpec.ofChange s with cond := some uptoSmall }

/-- 'flyleaflaw05.SwapPlays', WHERE WHAT IT READS IS OF BULK AT MOST 1048576: true; the input reads as it did. -/
def swapPlaysUptoRow : OpenClaim := { program := "ytibhebfkgjklpaa", sum := "93aa4d81ac3bf2d84afc9a6fc78a784cc093e41ebf64635d47edbed612a816fe", func := "flyleaf/flyleaflaw05.SwapPlays", spec := "swapPlays", unfollowed := true, recurses := true, apart := false, narrowed := true }
def SwapPlaysUptoSaid : Prop := swapPlaysUptoRow.holds Try.pinned (OpenSpec.upto swapPlaysSpec)

/-- 'flyleaflaw05.SwapMakes', WHERE WHAT IT READS IS OF BULK AT MOST 1048576: true; the input reads as it did. -/
def swapMakesUptoRow : OpenClaim := { program := "ytibhebfkgjklpaa", sum := "93aa4d81ac3bf2d84afc9a6fc78a784cc093e41ebf64635d47edbed612a816fe", func := "flyleaf/flyleaflaw05.SwapMakes", spec := "swapMakes", unfollowed := true, recurses := true, apart := false, narrowed := true }
def SwapMakesUptoSaid : Prop := swapMakesUptoRow.holds Try.pinned (OpenSpec.upto swapMakesSpec)

/-- 'flyleaflaw05.SwapKeeps', WHERE WHAT IT READS IS OF BULK AT MOST 1048576: true; the input reads as it did. -/
def swapKeepsUptoRow : OpenClaim := { program := "ytibhebfkgjklpaa", sum := "93aa4d81ac3bf2d84afc9a6fc78a784cc093e41ebf64635d47edbed612a816fe", func := "flyleaf/flyleaflaw05.SwapKeeps", spec := "swapKeeps", unfollowed := true, recurses := true, apart := false, narrowed := true }
def SwapKeepsUptoSaid : Prop := swapKeepsUptoRow.holds Try.pinned (OpenSpec.upto swapKeepsSpec)

/-- 'flyleaflaw05.SwapNil', WHERE WHAT IT READS IS OF BULK AT MOST 1048576: true; the input reads as it did. -/
def swapNilUptoRow : OpenClaim := { program := "ytibhebfkgjklpaa", sum := "93aa4d81ac3bf2d84afc9a6fc78a784cc093e41ebf64635d47edbed612a816fe", func := "flyleaf/flyleaflaw05.SwapNil", spec := "swapNil", unfollowed := true, recurses := true, apart := false, narrowed := true }
def SwapNilUptoSaid : Prop := swapNilUptoRow.holds Try.pinned (OpenSpec.upto swapNilSpec)

/-- 'flyleaflaw05.SwapHolds', WHERE WHAT IT READS IS OF BULK AT MOST 1048576: true; the input reads as it did. -/
def swapHoldsUptoRow : OpenClaim := { program := "ytibhebfkgjklpaa", sum := "93aa4d81ac3bf2d84afc9a6fc78a784cc093e41ebf64635d47edbed612a816fe", func := "flyleaf/flyleaflaw05.SwapHolds", spec := "swapHolds", unfollowed := true, recurses := true, apart := false, narrowed := true }
def SwapHoldsUptoSaid : Prop := swapHoldsUptoRow.holds Try.pinned (OpenSpec.upto swapHoldsSpec)

/-- 'flyleaflaw05.SwapPlaces', WHERE WHAT IT READS IS OF BULK AT MOST 1048576: true; the input reads as it did. -/
def swapPlacesUptoRow : OpenClaim := { program := "ytibhebfkgjklpaa", sum := "93aa4d81ac3bf2d84afc9a6fc78a784cc093e41ebf64635d47edbed612a816fe", func := "flyleaf/flyleaflaw05.SwapPlaces", spec := "swapPlaces", unfollowed := true, recurses := true, apart := false, narrowed := true }
def SwapPlacesUptoSaid : Prop := swapPlacesUptoRow.holds Try.pinned (OpenSpec.upto swapPlacesSpec)

end Rows
end Go.Proofs.Ytibhebfkgjklpaa
