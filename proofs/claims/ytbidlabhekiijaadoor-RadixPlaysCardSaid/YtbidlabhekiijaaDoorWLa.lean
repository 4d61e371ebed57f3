/- The table of widths, laid: for a law that reads it. -/
import Derived.Test.YtbidlabhekiijaaDoorWA
import Derived.Test.YtbidlabhekiijaaDoorLaw
import Derived.Test.YtbidlabhekiijaaDoorTie
import Derived.Test.YtbidlabhekiijaaDoorCards
import Derived.Lib.LaidTab
import Derived.LaidLaws
import Derived.SevenTiedAt
namespace Go.Proofs.YtbidlabhekiijaaDoor
open Go.RowKit
set_option linter.unusedVariables false
set_option linter.unusedSimpArgs false

/-- From the row's condition to the walk's. -/
theorem tab_of_laid {W : World} (h : laidMet Tryd.prog [("flyleaf/word.widths", Rows.laid_flyleaf_word_widths)] W) : Tab W := by
  have hT := Lib.tabIs_of_head (k := .i64) (zs := [0, 1, 2, 4, 8, 1, 2, 4, 8, 8]) (g := 0) (t := 125) (e := 3) (n := 10) (by kernel_rfl) (by kernel_rfl) Tryd.underlying125 Tryd.underlying3 (by kernel_rfl) (by kernel_rfl) h
  exact fun i hi => hT.cell (by kernel_rfl) i hi

/-- A world in which the table lies. -/
noncomputable def laidWorld (os : Os) : World :=
  { World.holding Tryd.prog os ⟨#[], #[], []⟩ with heap := (World.holding Tryd.prog os ⟨#[], #[], []⟩).heap.modify 0 fun
      | .cells _ t frozen => .cells #[.int .i64 0, .int .i64 1, .int .i64 2, .int .i64 4, .int .i64 8, .int .i64 1, .int .i64 2, .int .i64 4, .int .i64 8, .int .i64 8] t frozen
      | o => o }
theorem laid_met (os : Os) (args : Array Value) : laidMet Tryd.prog [("flyleaf/word.widths", Rows.laid_flyleaf_word_widths)] ((laidWorld os).forCall (fun _ _ => 0) ⟨#[], args, []⟩).memory :=
  laidMet_of_run' 8 (by kernel_rfl) (by kernel_rfl)

end Go.Proofs.YtbidlabhekiijaaDoor
