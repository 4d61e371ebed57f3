/- Package stack: the reader's number, low and text. -/
import Derived.Test.YtafogipkbhglcaaJJ
import Derived.Recover
import Derived.Defers
import Derived.StillTailTactics
namespace Go.Proofs.Ytafogipkbhglcaa
open Go.RowKit Go.Deep
set_option linter.unusedVariables false
set_option linter.unusedSimpArgs false

theorem must17 (w : World) : Calls Try.prog 37 #[.bool true] w fun e w' => e = .returned (.tuple #[]) ∧ w = w' := by
  go_enter Try.func37, Try.ntmps37
  go_wp2
  go_end0
  exact ⟨rfl, rfl⟩

/-- The reader lies at r: its view, where that begins, and where it reads on. -/
def Rr (w : World) (r : Nat) (V : ByteArray) (F : Nat) (a : Nat) : Prop := Blk w r 76 #[.string V, .int .i64 (F : Int), .int .i64 (a : Int)]
theorem Rr.below {w w' : World} {r F a : Nat} {V : ByteArray} (h : Rr w r V F a) (hb : Below w.heap.size w w') : Rr w' r V F a := Blk.below h hb h.lt

set_option maxRecDepth 100000 in
set_option maxHeartbeats 1600000 in
theorem number17 (r F a n : Nat) (V : ByteArray) (w : World) (h : Rr w r V F a) (hs : V.size ≤ 1000000) (ha : a ≤ 2000000) (hg : getN V (a : Int) 8 = (n : Int)) (hh : hol V.size (a : Int) 8 = true) :
    Calls Try.prog 35 #[.pointer (some ⟨r, 0, none⟩)] w fun e w' => e = .returned (.int .u64 (n : Int)) ∧ Rr w' r V F (a + 8) ∧ But (· = r) w w' := by
  have hG := fun u => get_any V (a : Int) 8 u (WalkArith.wf_i64 (by omega)) (by decide) (by omega)
  rw [hg, hh] at hG
  have HG := Lib.hid (fun u => (hG u).mono (fun e w' (h : _ ∧ _) => And.intro h.1 h.2.symm))
  have HM := Lib.hid must17
  have HR := Lib.hid h
  have c0 : w.cell? ⟨r, 0, none⟩ = some (.string V) := h.at_ 0 _ rfl
  have c2 : w.cell? ⟨r, 2, none⟩ = some (.int .i64 (a : Int)) := h.at_ 2 _ rfl
  clear hg hh hG h
  go_enter Try.func35, Try.ntmps35
  go_upto_region 1 with fail
  go_quiet ((go_at_call 46; with_reducible exact Calls.quiet_of_same (HG.out _)))
  have HV := Lib.hid (show Rr (w.drewN nq) r V F a ∧ But (· = r) w (w.drewN nq) from ⟨HR.out, (But.refl _ _).drewN nq⟩)
  clear c0 c2 HR HG
  generalize w.drewN nq = v at *
  have c2 : v.cell? ⟨r, 2, none⟩ = some (.int .i64 (a : Int)) := HV.out.1.at_ 2 _ rfl
  have f2 : v.frozen? ⟨r, 2, none⟩ = false := HV.out.1.frozen 2
  have HF := Lib.hid (show Rr (v.setCell ⟨r, 2, none⟩ (.int .i64 ((a : Int) + 8))) r V F (a + 8) ∧ But (· = r) w (v.setCell ⟨r, 2, none⟩ (.int .i64 ((a : Int) + 8))) from
    ⟨by unfold Rr; rw [show ((a + 8 : Nat) : Int) = (a : Int) + 8 by omega]; simpa using Blk.set_ HV.out.1 2 (.int .i64 ((a : Int) + 8)), HV.out.2.setCell (p := ⟨r, 2, none⟩) (.inl rfl) _⟩)
  go_wp2_with (go_at_call 37; with_reducible refine (HM.out _).mono ?_; rintro e v1 ⟨rfl, rfl⟩)
  go_ret
  exact ⟨rfl, HF.out.1, HF.out.2⟩

set_option maxRecDepth 100000 in
set_option maxHeartbeats 1600000 in
theorem low17 (r F a n : Nat) (V : ByteArray) (w : World) (h : Rr w r V F a) (hs : V.size ≤ 1000000) (ha : a ≤ 2000000) (hg : getN V (a : Int) 8 = (n : Int)) (hh : hol V.size (a : Int) 8 = true) (hn : n ≤ 1099511627776) :
    Calls Try.prog 47 #[.pointer (some ⟨r, 0, none⟩)] w fun e w' => e = .returned (.int .i64 (n : Int)) ∧ Rr w' r V F (a + 8) ∧ But (· = r) w w' := by
  have HX := Lib.hid (number17 r F a n V w h hs ha hg hh)
  have HM := Lib.hid must17
  have hw : IntKind.i64.wrap (n : Int) = (n : Int) := IntWalk.i64_in _ (by omega)
  have hd : decide ((n : Int) ≤ 1099511627776) = true := decide_eq_true (by omega)
  have hd1 : (n : Int) ≤ 1099511627776 := by omega
  clear hg hh h
  go_enter Try.func47, Try.ntmps47
  go_wp2_with (first
    | (go_at_call 35; with_reducible refine HX.out.mono ?_; rintro e v1 ⟨rfl, h1, h2⟩)
    | (go_at_call 37; with_reducible refine (HM.out _).mono ?_; rintro e v2 ⟨rfl, rfl⟩))
  go_ret
  exact ⟨rfl, h1, h2⟩

set_option maxRecDepth 100000 in
set_option maxHeartbeats 1600000 in
theorem text17 (r F a p : Nat) (V s : ByteArray) (w : World) (h : Rr w r V F a) (hs : V.size ≤ 1000000) (hF : F ≤ 1099511627776) (hp : p ≤ 1099511627776) (h1 : textOk V ((p : Int) - (F : Int)) 1024 = true) (h2 : textS V ((p : Int) - (F : Int)) 1024 = s) :
    Calls Try.prog 48 #[.pointer (some ⟨r, 0, none⟩), .int .i64 (p : Int)] w fun e w' => e = .returned (.string s) ∧ Below w.heap.size w w' := by
  obtain ⟨o, ho⟩ : ∃ o : Int, (p : Int) - (F : Int) = o := ⟨_, rfl⟩
  have ho2 : IntKind.i64.wrap o = o := IntWalk.i64_in _ (by omega)
  have hT := fun u => text_any V o 1024 u (WalkArith.wf_i64 (by omega)) (by decide) (by omega)
  rw [ho] at h1 h2
  rw [h1, h2] at hT
  have HT := Lib.hid hT
  have HM := Lib.hid must17
  have c0 : w.cell? ⟨r, 0, none⟩ = some (.string V) := h.at_ 0 _ rfl
  have c1 : w.cell? ⟨r, 1, none⟩ = some (.int .i64 (F : Int)) := h.at_ 1 _ rfl
  have HCC := Lib.hid (show ∀ v, Below w.heap.size w v → v.cell? ⟨r, 0, none⟩ = some (.string V) ∧ v.cell? ⟨r, 1, none⟩ = some (.int .i64 (F : Int)) from fun v hv => ⟨(h.below hv).at_ 0 _ rfl, (h.below hv).at_ 1 _ rfl⟩)
  have HX9 := Lib.hid (Below.refl w.heap.size w)
  have HD := Lib.hid (show ∀ u v, Below w.heap.size w u → Below u.heap.size u v → Below w.heap.size w v from fun u v h1 h2 => h1.trans (h2.mono h1.size))
  clear h1 h2 hT h
  go_enter Try.func48, Try.ntmps48
  go_upto_region 1 with fail
  go_region_held3 (fun x => x.cell? ⟨r, 0, none⟩ = some (.string V) ∧ x.cell? ⟨r, 1, none⟩ = some (.int .i64 (F : Int)))
      (first | exact ⟨c0, c1⟩ | exact HCC.out _ HX9.out | exact HCC.out _ HX9.out.drew)
      (first
      | go_at_call 54; (with_reducible refine (HT.out _).mono ?_); rintro e v9 ⟨rfl, hb⟩; have hx := (show Below w.heap.size w v9 from by first | exact HD.out _ _ HX9.out hb | exact HD.out _ _ HX9.out.drew hb); clear c0 c1 HX9; have HX9 := Lib.hid hx; obtain ⟨c0, c1⟩ := HCC.out v9 hx; clear hb hx)
  go_wp2_with (go_at_call 37; with_reducible refine (HM.out _).mono ?_; rintro e v2 ⟨rfl, rfl⟩)
  go_ret
  exact ⟨rfl, HX9.out⟩
end Go.Proofs.Ytafogipkbhglcaa
