/- Package files: Inode, Page. -/
import Derived.Test.YtgkhgjihjbjfnaaDoorFI
namespace Go.Proofs.YtgkhgjihjbjfnaaDoor
open Go.RowKit Go.Shelf Go.Maps
set_option linter.unusedVariables false
set_option linter.unusedSimpArgs false

set_option maxRecDepth 100000 in
set_option maxHeartbeats 1600000 in
theorem finode_no (f : Value) (i : Int) (w : World) (h : NoFile w f i) : Calls Tryd.prog 25 #[f, .int .i64 i] w fun e w' => e = .returned (.tuple #[zeroIno, .int .i64 14]) ∧ Below w.heap.size w w' := by
  have hB := (Below.refl w.heap.size w).alloc (Nat.le_refl _) (.cells #[.string ⟨#[]⟩, .int .i64 0, .slice none 0 0] 55)
  have hR := Blk.new w 55 #[.string ⟨#[]⟩, .int .i64 0, .slice none 0 0]
  have h1 := inode_no f i _ (h.on ((Below.refl w.heap.size w).alloc (Nat.le_refl _) (.cells #[.string ⟨#[]⟩, .int .i64 0, .slice none 0 0] 55)))
  unfold zeroIno at *
  have H1 := Lib.hid h1
  clear h1 h
  go_enter Tryd.func25, Tryd.ntmps25
  go_wp2_with (go_at_call 41; with_reducible refine H1.out.mono ?_; rintro e v1 ⟨rfl, hb⟩; have hR1 := (hR.below hb hR.lt).alloc (.cells #[.string ⟨#[]⟩, .int .i64 0, .slice none 0 0] 55); have hB1 := (hB.trans (hb.mono (by simp))).alloc (Nat.le_trans hB.size hb.size) (.cells #[.string ⟨#[]⟩, .int .i64 0, .slice none 0 0] 55); have r0 := hR1.at_ 0 _ rfl; have r1 := hR1.at_ 1 _ rfl; have r2 := hR1.at_ 2 _ rfl; have f0 := hR1.frozen 0; have f1 := hR1.frozen 1; have f2 := hR1.frozen 2)
  generalize v1.alloc (.cells #[.string ⟨#[]⟩, .int .i64 0, .slice none 0 0] 55) = W1 at *
  have hRf : Blk (((W1.setCell ⟨w.heap.size, 0, none⟩ (.string ⟨#[]⟩)).setCell ⟨w.heap.size, 1, none⟩ (.int .i64 0)).setCell ⟨w.heap.size, 2, none⟩ (.slice none 0 0)) w.heap.size 55 #[.string ⟨#[]⟩, .int .i64 0, .slice none 0 0] := by
    simpa using ((hR1.set_ 0 (.string ⟨#[]⟩)).set_ 1 (.int .i64 0)).set_ 2 (.slice none 0 0)
  have hBf := ((hB1.setCell (p := ⟨w.heap.size, 0, none⟩) (Nat.le_refl _) (.string ⟨#[]⟩)).setCell (p := ⟨w.heap.size, 1, none⟩) (Nat.le_refl _) (.int .i64 0)).setCell (p := ⟨w.heap.size, 2, none⟩) (Nat.le_refl _) (.slice none 0 0)
  refine bodyPost_ret (results_cell_row_tmp rfl _ _ w.heap.size 55 _ (0, 0) _ rfl hRf Tryd.underlying55 rfl (by kernel_rfl)) rfl ⟨rfl, hBf⟩

set_option maxRecDepth 100000 in
set_option maxHeartbeats 1600000 in
theorem finode_yes {B p pd used : Nat} {xs : List Ino} (k : Nat) (hk : k < xs.length) (hl : xs.length ≤ 64) (hm : xs[k].ext.length ≤ 1000) (w : World) (h : Fs w B p pd used xs) : Calls Tryd.prog 25 #[.pointer (some ⟨p, 0, none⟩), .int .i64 k] w fun e w' =>
    ∃ A c, e = .returned (.tuple #[.agg #[.string xs[k].name, .int .i64 xs[k].size, .slice A xs[k].ext.length c], .int .i64 0]) ∧ ExtRow w' (.slice A xs[k].ext.length c) xs[k].ext ∧ Below w.heap.size w w' := by
  have hB := (Below.refl w.heap.size w).alloc (Nat.le_refl _) (.cells #[.string ⟨#[]⟩, .int .i64 0, .slice none 0 0] 55)
  have hR := Blk.new w 55 #[.string ⟨#[]⟩, .int .i64 0, .slice none 0 0]
  have h1 := inode_yes k hk hl _ (h.below ((Below.refl w.heap.size w).alloc (Nat.le_refl _) (.cells #[.string ⟨#[]⟩, .int .i64 0, .slice none 0 0] 55)))
  unfold ToldIno at h1
  generalize xs[k] = x at *
  obtain ⟨nm, sz, ext⟩ := x
  simp only at *
  have h2 := fun v w (hv : ExtRow w v ext) => clone_any v ext w hm hv
  unfold Cloned at h2
  have H1 := Lib.hid h1
  have H2 := Lib.hid h2
  clear h1 h2 h
  go_enter Tryd.func25, Tryd.ntmps25
  go_wp2_with (first
    | (go_at_call 41; with_reducible refine H1.out.mono ?_; rintro e v1 ⟨A, c, rfl, hv, hvb, hb⟩; have hR1 := hR.below hb hR.lt; have hB1 := hB.trans (hb.mono (by simp)); have hv1 := hv.alloc (.cells #[.string nm, .int .i64 sz, .slice A ext.length c] 55); have hX1 := Blk.new v1 55 #[.string nm, .int .i64 sz, .slice A ext.length c]; have hR2 := hR1.alloc (.cells #[.string nm, .int .i64 sz, .slice A ext.length c] 55); have hB2 := hB1.alloc hB1.size (.cells #[.string nm, .int .i64 sz, .slice A ext.length c] 55))
    | (go_at_call 46; refine (H2.out _ _ hv1).mono ?_; rintro e v2 ⟨A2, c2, rfl, hv2, hvb2, hb2⟩; have hX2 := hX1.below hb2 hX1.lt; have hR3 := hR2.below hb2 hR2.lt; have hB3 := hB2.trans (hb2.mono hB2.size); have g2 := hX2.frozen 2; have y2 := hX2.at_ 2 _ rfl; have hX3 : Blk (v2.setCell ⟨v1.heap.size, 2, none⟩ (.slice A2 ext.length c2)) v1.heap.size 55 #[.string nm, .int .i64 sz, .slice A2 ext.length c2] := (by simpa using hX2.set_ 2 (.slice A2 ext.length c2)); have hne : w.heap.size ≠ v1.heap.size := (by have := hR1.lt; omega); have hR4 := hR3.far (p := ⟨v1.heap.size, 2, none⟩) hne (.slice A2 ext.length c2); have x0 := hX3.at_ 0 _ rfl; have x1 := hX3.at_ 1 _ rfl; have x2 := hX3.at_ 2 _ rfl; have r0 := hR4.at_ 0 _ rfl; have r1 := hR4.at_ 1 _ rfl; have r2 := hR4.at_ 2 _ rfl; have f0 := hR4.frozen 0; have f1 := hR4.frozen 1; have f2 := hR4.frozen 2))
  have hv3 : ExtRow (v2.setCell ⟨v1.heap.size, 2, none⟩ (.slice A2 ext.length c2)) (.slice A2 ext.length c2) ext := hv2.kp (S := fun k => k = v1.heap.size) (KpC.setCell (S := fun k => k = v1.heap.size) _ (p := ⟨v1.heap.size, 2, none⟩) rfl _) (fun g hg e => by have := hvb2 g hg; simp at this; omega)
  have hB4 := hB3.setCell (p := ⟨v1.heap.size, 2, none⟩) (by show w.heap.size ≤ v1.heap.size; have hwv := hR1.lt; omega) (.slice A2 ext.length c2)
  generalize v2.setCell ⟨v1.heap.size, 2, none⟩ (.slice A2 ext.length c2) = W3 at *
  have hRf : Blk (((W3.setCell ⟨w.heap.size, 0, none⟩ (.string nm)).setCell ⟨w.heap.size, 1, none⟩ (.int .i64 sz)).setCell ⟨w.heap.size, 2, none⟩ (.slice A2 ext.length c2)) w.heap.size 55 #[.string nm, .int .i64 sz, .slice A2 ext.length c2] := by
    simpa using ((hR4.set_ 0 (.string nm)).set_ 1 (.int .i64 sz)).set_ 2 (.slice A2 ext.length c2)
  have hBf := ((hB4.setCell (p := ⟨w.heap.size, 0, none⟩) (Nat.le_refl _) (.string nm)).setCell (p := ⟨w.heap.size, 1, none⟩) (Nat.le_refl _) (.int .i64 sz)).setCell (p := ⟨w.heap.size, 2, none⟩) (Nat.le_refl _) (.slice A2 ext.length c2)
  have hvf : ExtRow (((W3.setCell ⟨w.heap.size, 0, none⟩ (.string nm)).setCell ⟨w.heap.size, 1, none⟩ (.int .i64 sz)).setCell ⟨w.heap.size, 2, none⟩ (.slice A2 ext.length c2)) (.slice A2 ext.length c2) ext :=
    hv3.kp (S := fun k => k = w.heap.size) (((KpC.setCell (S := fun k => k = w.heap.size) _ (p := ⟨w.heap.size, 0, none⟩) rfl _).trans (KpC.setCell (S := fun k => k = w.heap.size) _ (p := ⟨w.heap.size, 1, none⟩) rfl _)).trans (KpC.setCell (S := fun k => k = w.heap.size) _ (p := ⟨w.heap.size, 2, none⟩) rfl _)) (fun g hg e => by
      have := hvb2 g hg
      simp at this
      have := hb.size
      simp at this
      omega)
  refine bodyPost_ret (results_cell_row_tmp rfl _ _ w.heap.size 55 _ (0, 0) _ rfl hRf Tryd.underlying55 rfl (by kernel_rfl)) rfl ⟨A2, c2, rfl, hvf, hBf⟩
end Go.Proofs.YtgkhgjihjbjfnaaDoor
