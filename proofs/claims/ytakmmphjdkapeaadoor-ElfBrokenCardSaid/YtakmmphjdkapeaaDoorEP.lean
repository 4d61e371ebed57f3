/- Layer 8: awake; the tables, laid. -/
import Derived.Test.YtakmmphjdkapeaaDoorEO
import Derived.Test.YtakmmphjdkapeaaDoorEJ
import Derived.Test.YtakmmphjdkapeaaDoorLaw
import Derived.Test.YtakmmphjdkapeaaDoorTie
import Derived.Test.YtakmmphjdkapeaaDoorCards
import Derived.Lib.LaidTab
import Derived.LaidLaws
import Derived.LaidSub
import Derived.SevenTiedAt
namespace Go.Proofs.YtakmmphjdkapeaaDoor
open Go.RowKit
set_option linter.unusedVariables false
set_option linter.unusedSimpArgs false

/-- From the row's condition to the walk's. -/
theorem etab_of_laid {W : World} (h : laidMet Tryd.prog [("flyleaf/elf.widths", Rows.laid_flyleaf_elf_widths), ("flyleaf/elf.greatest", Rows.laid_flyleaf_elf_greatest)] W) : ETab W := by
  have hT := Lib.tabIs_of_head (k := .i64) (zs := [4, 4, 8, 8, 8, 8, 8, 8]) (g := 0) (t := 72) (e := 3) (n := 8) (by kernel_rfl) (by kernel_rfl) Tryd.underlying72 Tryd.underlying3 (by kernel_rfl) (by kernel_rfl) h
  have h2 : laidMet Tryd.prog [("flyleaf/elf.greatest", Rows.laid_flyleaf_elf_greatest)] W := by
    have h2 := laidMet.filter (fun x => x.1 == "flyleaf/elf.greatest") h
    simpa using h2
  have hG := Lib.tabIs_of_head (k := .i64) (zs := [1073741824, 7, 1099511627776, 1099511627776, 1099511627776, 1099511627776, 1099511627776, 1099511627776]) (g := 1) (t := 72) (e := 3) (n := 8) (by kernel_rfl) (by kernel_rfl) Tryd.underlying72 Tryd.underlying3 (by kernel_rfl) (by kernel_rfl) h2
  exact ⟨fun i hi => hT.cell (by kernel_rfl) i hi, fun i hi => hG.cell (by kernel_rfl) i hi⟩
def layWid : Obj → Obj
  | .cells _ t fr => .cells #[.int .i64 4, .int .i64 4, .int .i64 8, .int .i64 8, .int .i64 8, .int .i64 8, .int .i64 8, .int .i64 8] t fr
  | o => o
def layGreat : Obj → Obj
  | .cells _ t fr => .cells #[.int .i64 1073741824, .int .i64 7, .int .i64 1099511627776, .int .i64 1099511627776, .int .i64 1099511627776, .int .i64 1099511627776, .int .i64 1099511627776, .int .i64 1099511627776] t fr
  | o => o
/-- A world in which the tables lie. -/
noncomputable def elaidWorld (os : Os) : World :=
  { World.holding Tryd.prog os ⟨#[], #[], []⟩ with heap := ((World.holding Tryd.prog os ⟨#[], #[], []⟩).heap.modify 0 layWid).modify 1 layGreat }
theorem elaid_met (os : Os) (args : Array Value) : laidMet Tryd.prog [("flyleaf/elf.widths", Rows.laid_flyleaf_elf_widths), ("flyleaf/elf.greatest", Rows.laid_flyleaf_elf_greatest)] ((elaidWorld os).forCall (fun _ _ => 0) ⟨#[], args, []⟩).memory :=
  laidMet_of_run' 8 (by kernel_rfl) (by kernel_rfl)

theorem build_seg2 (a b : Int) (w : World) : (Instr.build 47 #[(3, .int .i64 a), (5, .int .i64 b)]).run Tryd.prog w = .ok (.agg #[.int .i64 0, .int .i64 0, .int .i64 0, .int .i64 a, .int .i64 0, .int .i64 b, .int .i64 0]) w := run_build w 47 _ _ (by kernel_rfl)
theorem build_seg4 (a b c d : Int) (w : World) : (Instr.build 47 #[(0, .int .i64 a), (1, .int .i64 b), (5, .int .i64 c), (6, .int .i64 d)]).run Tryd.prog w = .ok (.agg #[.int .i64 a, .int .i64 b, .int .i64 0, .int .i64 0, .int .i64 0, .int .i64 c, .int .i64 d]) w := run_build w 47 _ _ (by kernel_rfl)
/-- A row of one segment, in a block. -/
theorem SegRow.one {w : World} {g : Nat} {s : Seg} (h : Blk w g 47 s.cs) (hw : s.wf) : SegRow w (some ⟨g, 0, none⟩) [s] := fun i hi => by
  have hi0 : i = 0 := by simpa using hi
  subst hi0
  refine ⟨⟨g, 0, none⟩, rfl, h.lt, fun j hj => ?_, hw⟩
  have e : (⟨g, 0, none⟩ : Addr).add (0 * 7 + j) = ⟨g, j, none⟩ := by unfold Addr.add; split <;> simp_all
  rw [e]
  exact h.cell j

def z100 : ByteArray := mkb (List.replicate 100 0)
def seg1 : Seg := ⟨1, 5, 0, 0, 0, 9, 64⟩
theorem seg1_wf : seg1.wf := ⟨by decide, by decide, by decide, by decide, by decide, by decide, by decide⟩

set_option maxRecDepth 100000 in
set_option maxHeartbeats 1600000 in
theorem awake8_any (w : World) (hT : ETab w) : Calls Tryd.prog 10 #[] w fun e w' => e = .returned (.bool true) ∧ Below w.heap.size w w' := by
  have e1 : parseB z100 = false := by decide +kernel
  have e2 : parseX z100 = Img.zero := by unfold parseX; rw [e1]; rfl
  have e3 : parseE z100 = 16 := by unfold parseE; rw [e1]; rfl
  have hP := fun v (hT : ETab v) => eparse_any z100 v hT (by unfold z100; rw [mkb_size]; simp)
  rw [e2, e3] at hP
  have hF := fun w => rfill_any ⟨#[]⟩ 100 w (by decide) (by decide) (by decide)
  have e4 : fillS ⟨#[]⟩ 100 = z100 := by decide +kernel
  rw [e4] at hF
  have HG := Lib.hid (show ∀ w, Calls Tryd.prog 23 #[.agg #[.int .i64 0, .int .i64 0, .int .i64 0, .int .i64 100, .int .i64 0, .int .i64 100, .int .i64 0]] w fun e w' => e = .returned (.tuple #[.int .i64 1, .int .i64 4]) ∧ Below w.heap.size w w' from
    fun w => epages_any ⟨0, 0, 0, 100, 0, 100, 0⟩ w ⟨by decide, by decide, by decide, by decide, by decide, by decide, by decide⟩)
  have HC := Lib.hid (show ∀ g w, ETab w → Blk w g 47 #[.int .i64 1, .int .i64 5, .int .i64 0, .int .i64 0, .int .i64 0, .int .i64 9, .int .i64 64] → Calls Tryd.prog 12 #[.agg #[.int .i64 3, .int .i64 0, .slice (some ⟨g, 0, none⟩) 1 1], .int .i64 200] w fun e w' => e = .returned (.int .i64 0) ∧ Below w.heap.size w w' from
    fun g w hT hb => echeck_any ⟨3, 0, [seg1]⟩ (some ⟨g, 0, none⟩) 1 200 w hT (SegRow.one hb seg1_wf) (by decide) (by decide))
  have HP := Lib.hid hP
  have HF := Lib.hid hF
  have hb1 := build_seg2
  have hb2 := build_seg4
  have hB := Below.refl w.heap.size w
  generalize z100 = Z at *
  clear hP hF e1 e2 e3 e4
  have HT := Lib.hid (fun v (hv : Below w.heap.size w v) => hT.on hv)
  clear hT
  go_enter Tryd.func10, Tryd.ntmps10
  go_wp2_with (first
    | (go_at_call 25; refine (HF.out _).mono ?_; rintro e v1 ⟨rfl, hb⟩; replace hB := hB.trans (hb.mono hB.size); clear hb)
    | (go_at_call 19; refine (HP.out _ (HT.out _ hB)).mono ?_; rintro e v2 ⟨A, c, rfl, -, -, hb⟩; unfold Img.v Img.zero; simp only [List.length_nil]; replace hB := hB.trans (hb.mono hB.size); clear hb)
    | (go_at_call 23; refine (HG.out _).mono ?_; rintro e v3 ⟨rfl, hb⟩; replace hB := (hB.alloc hB.size _).trans (hb.mono (by have := hB.size; simp; omega)); clear hb
       have hB2 := (hB.alloc hB.size (.cells #[.int .i64 1, .int .i64 5, .int .i64 0, .int .i64 0, .int .i64 0, .int .i64 9, .int .i64 64] 47)).alloc (by have := hB.size; simp; omega) (.cells #[.int .i64 3, .int .i64 0, .slice (some ⟨v3.heap.size, 0, none⟩) 1 1] 24)
       have hk2 := (Blk.new v3 47 #[.int .i64 1, .int .i64 5, .int .i64 0, .int .i64 0, .int .i64 0, .int .i64 9, .int .i64 64]).alloc (.cells #[.int .i64 3, .int .i64 0, .slice (some ⟨v3.heap.size, 0, none⟩) 1 1] 24))
    | (go_at_call 12; refine (HC.out _ _ (HT.out _ hB2) hk2).mono ?_; rintro e v4 ⟨rfl, hb⟩; replace hB2 := hB2.trans (hb.mono hB2.size); clear hb))
  go_ret
  exact ⟨rfl, hB2⟩
end Go.Proofs.YtakmmphjdkapeaaDoor
