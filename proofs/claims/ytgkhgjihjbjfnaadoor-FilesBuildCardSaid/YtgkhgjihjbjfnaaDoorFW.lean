/- Layer 4: awake. -/
import Derived.Test.YtgkhgjihjbjfnaaDoorFV
namespace Go.Proofs.YtgkhgjihjbjfnaaDoor
open Go.RowKit Go.Shelf Go.Maps
set_option linter.unusedVariables false
set_option linter.unusedSimpArgs false

/-- The chapter's example. -/
def exF : Fl := ⟨⟨#[97]⟩, ⟨#[104, 101, 108, 108, 111]⟩⟩
theorem exF_pg : exF.pg = 1 := by decide
theorem ex_can : CanBe [exF] 1 := by
  refine ⟨by simp, by decide +kernel, by simp, by decide +kernel, ?_⟩
  rw [dat_len (LaidOk.rows [exF] (Nat.le_refl 1) 4 (by omega))]
  simp [exF_pg]
theorem page_zero (d : ByteArray) : pageOf d 0 = fillS d 64 := by
  unfold pageOf fillS
  rw [if_neg (by omega)]
  simp

set_option maxRecDepth 100000 in
set_option maxHeartbeats 4000000 in
theorem awake_true (w : World) : Calls Tryd.prog 9 #[] w fun e w' => e = .returned (.bool true) ∧ Below w.heap.size w w' := by
  have hB0 := (Below.refl w.heap.size w).alloc (Nat.le_refl _) (.cells #[.string ⟨#[97]⟩, .string ⟨#[104, 101, 108, 108, 111]⟩] 32)
  have hrow : FileRow (w.alloc (.cells #[.string ⟨#[97]⟩, .string ⟨#[104, 101, 108, 108, 111]⟩] 32)) (.slice (some ⟨w.heap.size, 0, none⟩) [exF].length 1) [exF] := .inr ⟨_, _, _, rfl, Blk.new _ _ _, rfl⟩
  have q1 := build_yes (some ⟨w.heap.size, 0, none⟩) 1 [exF] 1 _ hrow ex_can (Nat.le_refl 1) (by decide)
  have q2 := fun g w hg => of_built ex_can (Nat.le_refl 1) g w hg
  have q3 := fun pd gd w (h : Dk w pd gd ⟨builtL [exF] 1, 0, 0, 0⟩) => open_any pd gd _ _ _ w h (built_disk ex_can (Nat.le_refl 1) ⟨builtL [exF] 1, 0, 0, 0⟩ rfl)
  have hxl := builtX_length (fs := [exF]) (Nat.le_refl 1)
  have hk0 : 0 < (builtX [exF] 1).length := by rw [hxl]; decide
  obtain ⟨_, _, hx0⟩ := builtX_at (Nat.le_refl 1) hk0
  have hdisk := built_disk ex_can (Nat.le_refl 1) ⟨builtL [exF] 1, 0, 0, 0⟩ rfl
  have hdata : ∀ (D : Dsk), D.S = builtL [exF] 1 → HasData D ((builtX [exF] 1)[0]'hk0) ⟨#[104, 101, 108, 108, 111]⟩ := fun (D : Dsk) (hD : D.S = builtL [exF] 1) => built_data (fs := [exF]) (Nat.le_refl 1) D hD 0 hk0 (by decide)
  obtain ⟨hfit, hst⟩ := hdisk.fits _ (List.getElem_mem hk0)
  have hnames := hdisk.names
  have hname0 : ((builtX [exF] 1)[0]'hk0).name = ⟨#[97]⟩ := by rw [hx0]; rfl
  have hsz0 : ((builtX [exF] 1)[0]'hk0).size = 5 := by rw [hx0]; rfl
  have q4 := fun B p pd used v (h : Fs v B p pd used (builtX [exF] 1)) => lookup_yes 0 hk0 v h hnames (by rw [hname0]; decide)
  rw [hname0] at q4
  have q5 := fun B p pd gd v (D : Dsk) (hD : D.S = builtL [exF] 1) (h : Fs v B p pd (builtL [exF] 1).length (builtX [exF] 1)) (hd : Dk v pd gd D) => page_yes 0 hk0 (by rw [hxl]; decide) _ hfit hst (hdata D hD) 0 (by rw [hsz0]; decide) v h hd
  have q6 := fun w => rfill_any ⟨#[104, 101, 108, 108, 111]⟩ 64 w (by decide) (by decide) (by omega)
  unfold Built at q1
  unfold Made at q2
  unfold Opened at q3
  unfold PageTold at q5
  simp only [page_zero] at q5
  generalize fillS ⟨#[104, 101, 108, 108, 111]⟩ 64 = PG at *
  generalize builtL [exF] 1 = DL at *
  generalize builtX [exF] 1 = XS at *
  have Q1 := Lib.hid q1
  have Q2 := Lib.hid q2
  have Q3 := Lib.hid q3
  have Q4 := Lib.hid q4
  have Q5 := Lib.hid q5
  have Q6 := Lib.hid q6
  clear q1 q2 q3 q4 q5 q6 hrow hdata hfit hst hnames hname0 hsz0 hdisk hx0
  go_enter Tryd.func9, Tryd.ntmps9
  go_wp2_with (first
    | (go_at_call 11; go_loud (refine Q1.out.mono ?_; rintro e v1 ⟨g, rfl, hg, hgl, hb1⟩; have HB1 := Lib.hid (hB0.trans (hb1.mono hB0.size))))
    | (go_at_call 17; go_loud (refine (Q2.out _ _ hg).mono ?_; rintro e v2 ⟨pd, gd, rfl, hp2, hg2, hb2, hd2⟩; have HB2 := Lib.hid (HB1.out.trans (hb2.mono HB1.out.size))))
    | (go_at_call 16; go_loud (refine (Q3.out _ _ _ hd2).mono ?_; rintro e v3 ⟨p, rfl, hfs, ⟨D3, hD3, hd3⟩, hb3⟩; have HB3 := Lib.hid (HB2.out.trans (hb3.below (B := w.heap.size) HB2.out.size (fun j e => by have := HB1.out.size; omega)))))
    | (go_at_call 20; go_loud (refine (Q4.out _ _ _ _ _ hfs).mono ?_; rintro e v4 ⟨rfl, rfl⟩))
    | (go_at_call 23; go_loud (refine (Q5.out _ _ _ _ _ _ hD3 hfs hd3).mono ?_; rintro e v5 ⟨rfl, hb5, _⟩; have HB5 := Lib.hid (HB3.out.trans (hb5.below (B := w.heap.size) HB3.out.size (fun j e => by have := HB1.out.size; omega)))))
    | (go_at_call 24; go_loud (refine (Q6.out _).mono ?_; rintro e v6 ⟨rfl, hb6⟩)))
  go_ret
  exact ⟨by simp, HB5.out.trans (hb6.mono HB5.out.size)⟩
end Go.Proofs.YtgkhgjihjbjfnaaDoor
