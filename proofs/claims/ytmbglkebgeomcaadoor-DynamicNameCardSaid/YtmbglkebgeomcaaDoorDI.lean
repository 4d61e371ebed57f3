/- Layer 9: awake; the table of tags, laid. -/
import Derived.Test.YtmbglkebgeomcaaDoorDH
import Derived.Test.YtmbglkebgeomcaaDoorLaw
import Derived.Test.YtmbglkebgeomcaaDoorTie
import Derived.Test.YtmbglkebgeomcaaDoorCards
import Derived.Lib.LaidTab
import Derived.LaidLaws
import Derived.SevenTiedAt
namespace Go.Proofs.YtmbglkebgeomcaaDoor
open Go.RowKit
set_option linter.unusedVariables false
set_option linter.unusedSimpArgs false

/-- The table of a program that needs the library at 3. -/
def dyn3 : Dyn := ⟨[3], fun _ => 0⟩
def tab3 : ByteArray := mkb dyn3.tabL
theorem read3 : readO tab3 = some [(1, 3)] := by decide +kernel
theorem dyn3_wf : dyn3.wf := ⟨fun n hn => by rw [List.mem_singleton.1 hn]; decide, fun _ => (by decide : (Lit.int .i64 0).wf = true)⟩
theorem intRow_one {w : World} {g : Nat} {t : TypeId} {n : Int} (h : Blk w g t #[.int .i64 n]) (hn : (Lit.int .i64 n).wf = true) : IntRow w (some ⟨g, 0, none⟩) [n] := fun i hi => by
  have hi0 : i = 0 := by simpa using hi
  subst hi0
  refine ⟨⟨g, 0, none⟩, rfl, h.lt, ?_, hn⟩
  rw [show (⟨g, 0, none⟩ : Addr).add 0 = ⟨g, 0, none⟩ by unfold Addr.add; split <;> simp_all]
  exact h.cell 0

set_option maxRecDepth 100000 in
set_option maxHeartbeats 1600000 in
theorem awake9_any (w : World) (hT : Dyt w) : Calls Tryd.prog 7 #[] w fun e w' => e = .returned (.bool true) ∧ Below w.heap.size w w' := by
  have hd3 : readD tab3 = ⟨[3], fun _ => 0⟩ := by
    unfold readD
    rw [read3]
    show (⟨[3], fun _ => 0⟩ : Dyn) = _
    rfl
  have he3 : readE tab3 = 0 := by unfold readE; rw [read3]; rfl
  have hd0 : readO ⟨#[]⟩ = Option.none := by decide +kernel
  have hd00 : readD ⟨#[]⟩ = Dyn.none := by unfold readD; rw [hd0]
  have he0 : readE ⟨#[]⟩ = 17 := by unfold readE; rw [hd0]; rfl
  have hR3 := fun v => dread_any tab3 v (by decide +kernel)
  have hR0 := fun v => dread_any ⟨#[]⟩ v (by decide)
  rw [hd3, he3] at hR3
  rw [hd00, he0] at hR0
  have HB := Lib.hid (show ∀ g v, Dyt v → Blk v g 3 #[.int .i64 3] → Calls Tryd.prog 9 #[.agg #[.slice (some ⟨g, 0, none⟩) 1 1, .int .i64 0, .int .i64 0, .int .i64 0, .int .i64 0, .int .i64 0, .int .i64 0, .int .i64 0, .int .i64 0]] v fun e w' => e = .returned (.string tab3) ∧ Below v.heap.size v w' from
    fun g v hT hb => dbytes_any dyn3 (some ⟨g, 0, none⟩) 1 v hT dyn3_wf (intRow_one hb (by decide)) (by decide))
  have HR3 := Lib.hid hR3
  have HR0 := Lib.hid hR0
  have hbd : ∀ (A : Option Addr) (n c : Nat) (w : World), (Instr.build 26 #[(0, .slice A n c)]).run Tryd.prog w = .ok (.agg #[.slice A n c, .int .i64 0, .int .i64 0, .int .i64 0, .int .i64 0, .int .i64 0, .int .i64 0, .int .i64 0, .int .i64 0]) w := fun A n c w => run_build w 26 _ _ (by kernel_rfl)
  generalize tab3 = Z at *
  clear hR3 hR0 hd3 he3 hd0 hd00 he0
  have HK := Lib.hid (show Dyt (w.alloc (.cells #[.int .i64 3] 3)) ∧ Blk (w.alloc (.cells #[.int .i64 3] 3)) w.heap.size 3 #[.int .i64 3] ∧ Below w.heap.size w (w.alloc (.cells #[.int .i64 3] 3)) from
    ⟨hT.on ((Below.refl _ _).alloc (Nat.le_refl _) _), Blk.new _ _ _, (Below.refl _ _).alloc (Nat.le_refl _) _⟩)
  clear hT
  go_enter Tryd.func7, Tryd.ntmps7
  go_wp2_with (first
    | (go_at_call 9; refine (HB.out _ _ HK.out.1 HK.out.2.1).mono ?_; rintro e v1 ⟨rfl, hb1⟩; have hB1 := HK.out.2.2.trans (hb1.mono (by simp)); clear hb1))
  refine (HR3.out _).mono ?_
  rintro e v2 ⟨A, c, rfl, hrow, hb2⟩
  have hB2 := hB1.trans (hb2.mono hB1.size)
  obtain ⟨ad, rfl, hlt, d0, -⟩ := hrow 0 (by simp)
  simp only [List.getElem_cons_zero] at d0
  have had : ad.add 0 = ad := by
    obtain ⟨b, o, s⟩ := ad
    unfold Addr.add
    split <;> simp_all
  rw [had] at d0
  clear hrow hb2 hB1
  unfold Dyn.cs
  simp only [List.length_cons, List.length_nil]
  have HK2 := Lib.hid (fun (W1 : World) (hW : v2.alloc (.cells #[.slice (some ad) 1 c, .int .i64 0, .int .i64 0, .int .i64 0, .int .i64 0, .int .i64 0, .int .i64 0, .int .i64 0, .int .i64 0] 26) = W1) =>
    show Below w.heap.size w W1 ∧ W1.cell? ⟨v2.heap.size, 0, none⟩ = some (.slice (some ad) 1 c) ∧ W1.cell? ad = some (.int .i64 3) ∧ v2.heap.size < W1.heap.size ∧ ad.block < W1.heap.size from by
    subst hW
    refine ⟨hB2.alloc hB2.size _, (Blk.new _ _ _).cell 0, ?_, by simp, by simp; omega⟩
    exact (((Below.refl _ v2).alloc (Nat.le_refl _) _).cell (by omega)).trans d0)
  go_upto_region 2 with fail
  generalize hW : v2.alloc (.cells #[.slice (some ad) 1 c, .int .i64 0, .int .i64 0, .int .i64 0, .int .i64 0, .int .i64 0, .int .i64 0, .int .i64 0, .int .i64 0] 26) = W1
  obtain ⟨q1, q2, q3, q4, q5⟩ := HK2.out W1 hW
  clear hW HK2 d0 hB2 hlt
  generalize v2.heap.size = g at *
  go_wp2_with fail
  refine (HR0.out _).mono ?_
  rintro e v3 ⟨A, c2, rfl, -, hb3⟩
  unfold Dyn.cs Dyn.none
  simp only [List.length_nil]
  have HF := Lib.hid (fun (o : Obj) => show Below w.heap.size w (v3.alloc o) ∧ (v3.alloc o).cell? ⟨g, 0, none⟩ = some (.slice (some ad) 1 c) ∧ (v3.alloc o).cell? ad = some (.int .i64 3) from by
    have hb4 := hb3.alloc hb3.size o
    exact ⟨q1.trans (hb4.mono q1.size), (hb4.cell q4).trans q2, (hb4.cell (by omega)).trans q3⟩)
  obtain ⟨r1, r2, r3⟩ := HF.out (.cells #[.slice A 0 c2, .int .i64 0, .int .i64 0, .int .i64 0, .int .i64 0, .int .i64 0, .int .i64 0, .int .i64 0, .int .i64 0] 26)
  clear hb3 q1 q2 q3 q4 q5 HF
  have HR1 := Lib.hid r1
  clear r1
  go_wp2
  go_ret
  exact ⟨rfl, HR1.out⟩

namespace l9
theorem tab_of_laid {W : World} (h : laidMet Tryd.prog [("flyleaf/dynamic.order", Rows.laid_flyleaf_dynamic_order)] W) : Dyt W := by
  have hT := Lib.tabIs_of_head (k := .u64) (zs := [4, 5, 6, 7, 8, 10, 14, 1879047669]) (g := 0) (t := 43) (e := 42) (n := 8) (by kernel_rfl) (by kernel_rfl) Tryd.underlying43 Tryd.underlying42 (by kernel_rfl) (by kernel_rfl) h
  exact ⟨fun i hi => hT.cell (by kernel_rfl) i hi⟩
/-- A world in which the table lies. -/
noncomputable def laidWorld (os : Os) : World :=
  { World.holding Tryd.prog os ⟨#[], #[], []⟩ with heap := (World.holding Tryd.prog os ⟨#[], #[], []⟩).heap.modify 0 fun
      | .cells _ t frozen => .cells #[.int .u64 4, .int .u64 5, .int .u64 6, .int .u64 7, .int .u64 8, .int .u64 10, .int .u64 14, .int .u64 1879047669] t frozen
      | o => o }
theorem laid_met (os : Os) (args : Array Value) : laidMet Tryd.prog [("flyleaf/dynamic.order", Rows.laid_flyleaf_dynamic_order)] ((laidWorld os).forCall (fun _ _ => 0) ⟨#[], args, []⟩).memory :=
  laidMet_of_run' 8 (by kernel_rfl) (by kernel_rfl)
end l9
end Go.Proofs.YtmbglkebgeomcaaDoor
