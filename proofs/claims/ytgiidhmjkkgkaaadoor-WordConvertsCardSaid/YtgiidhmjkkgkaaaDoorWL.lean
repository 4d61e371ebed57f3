/- What the laws of layer 2 share: the table, awake. -/
import Derived.Test.YtgiidhmjkkgkaaaDoorWI
import Derived.Test.YtgiidhmjkkgkaaaDoorLaw
import Derived.Test.YtgiidhmjkkgkaaaDoorTie
import Derived.Test.YtgiidhmjkkgkaaaDoorCards
import Derived.Lib.LaidTab
import Derived.LaidLaws
import Derived.SevenTiedAt
namespace Go.Proofs.YtgiidhmjkkgkaaaDoor
open Go.RowKit
set_option linter.unusedVariables false
set_option linter.unusedSimpArgs false

/-- From the row's condition to the walk's. -/
theorem tab_of_laid {W : World} (h : laidMet Tryd.prog [("flyleaf/word.widths", Rows.laid_flyleaf_word_widths)] W) : Tab W := by
  have hT := Lib.tabIs_of_head (k := .i64) (zs := [0, 1, 2, 4, 8, 1, 2, 4, 8, 8]) (g := 0) (t := 46) (e := 3) (n := 10) (by kernel_rfl) (by kernel_rfl) Tryd.underlying46 Tryd.underlying3 (by kernel_rfl) (by kernel_rfl) h
  exact fun i hi => hT.cell (by kernel_rfl) i hi

/-- A world in which the table lies. -/
noncomputable def laidWorld (os : Os) : World :=
  { World.holding Tryd.prog os ⟨#[], #[], []⟩ with heap := (World.holding Tryd.prog os ⟨#[], #[], []⟩).heap.modify 0 fun
      | .cells _ t frozen => .cells #[.int .i64 0, .int .i64 1, .int .i64 2, .int .i64 4, .int .i64 8, .int .i64 1, .int .i64 2, .int .i64 4, .int .i64 8, .int .i64 8] t frozen
      | o => o }
theorem laid_met (os : Os) (args : Array Value) : laidMet Tryd.prog [("flyleaf/word.widths", Rows.laid_flyleaf_word_widths)] ((laidWorld os).forCall (fun _ _ => 0) ⟨#[], args, []⟩).memory :=
  laidMet_of_run' 8 (by kernel_rfl) (by kernel_rfl)

set_option maxHeartbeats 800000 in
theorem awake_any (w : World) (hT : Tab w) : Calls Tryd.prog 11 #[] w fun e w' => e = .returned (.bool true) ∧ Below w.heap.size w w' := by
  have e1 : convS 8 1 18446744073709551615 = 0 := by decide +kernel
  have e2 : convS 4 5 200 = 127 := by decide +kernel
  have e3 : convS 9 8 9221120237041090560 = 0 := by decide +kernel
  have e4 : convS 9 8 13832806255468478464 = 18446744073709551615 := by decide +kernel
  have e5 : cmpS 9 9223372036854775808 0 = 0 := by decide +kernel
  have h1 := fun w hT => convert_any 8 1 18446744073709551615 w (by decide) (by decide) (by decide) hT
  have h2 := fun w hT => convert_any 4 5 200 w (by decide) (by decide) (by decide) hT
  have h3 := fun w hT => convert_any 9 8 9221120237041090560 w (by decide) (by decide) (by decide) hT
  have h4 := fun w hT => convert_any 9 8 13832806255468478464 w (by decide) (by decide) (by decide) hT
  have h5 := fun w hT => compare_any 9 9223372036854775808 0 w (by decide) (by decide) (by decide) hT
  have h6 := fun w hT => width_any 9 w (by decide) hT
  simp only [e1, e2, e3, e4, e5] at h1 h2 h3 h4 h5
  have e6 : wid 9 = 8 := by decide
  simp only [e6] at h6
  have H1 := Lib.hid h1
  have H2 := Lib.hid h2
  have H3 := Lib.hid h3
  have H4 := Lib.hid h4
  have H5 := Lib.hid h5
  have H6 := Lib.hid h6
  clear e1 e2 e3 e4 e5 e6 h1 h2 h3 h4 h5 h6
  have hB := Below.refl w.heap.size w
  have hpos := hT.pos
  go_enter Tryd.func11, Tryd.ntmps11
  go_wp2_with (first
    | (go_at_call 22; with_reducible refine (H1.out _ hT).mono ?_; rintro e v1 ⟨rfl, rfl⟩)
    | (go_at_call 22; with_reducible refine (H2.out _ hT).mono ?_; rintro e v1 ⟨rfl, rfl⟩)
    | (go_at_call 22; with_reducible refine (H3.out _ hT).mono ?_; rintro e v1 ⟨rfl, rfl⟩)
    | (go_at_call 22; with_reducible refine (H4.out _ hT).mono ?_; rintro e v1 ⟨rfl, rfl⟩)
    | (go_at_call 24; with_reducible refine (H5.out _ hT).mono ?_; rintro e v1 ⟨rfl, hb⟩; replace hB := hB.trans (hb.mono hB.size); replace hT := hT.below hb hpos)
    | (go_at_call 14; with_reducible refine (H6.out _ hT).mono ?_; rintro e v1 ⟨rfl, rfl⟩))
  go_ret
  exact ⟨rfl, hB⟩
end Go.Proofs.YtgiidhmjkkgkaaaDoor
