/- Package files: stands. -/
import Derived.Test.YtgkhgjihjbjfnaaDoorFB
import Derived.StillTailTactics
namespace Go.Proofs.YtgkhgjihjbjfnaaDoor
open Go.RowKit Go.Shelf
set_option linter.unusedVariables false
set_option linter.unusedSimpArgs false
attribute [local go_sem] Oper.semAt_some

/-- What an inode is: a name, a size, extents. -/
structure Ino where
  name : ByteArray
  size : Nat
  ext : List (Nat × Nat)
/-- An inode's value, its extents lying at v. -/
def inoV (x : Ino) (v : Value) : Value := .agg #[.string x.name, .int .i64 x.size, v]

/-- Where a file's extents may be. -/
def Stands (x : Ino) (first used : Nat) : Prop := (∀ e ∈ x.ext, 1 ≤ e.2 ∧ first ≤ e.1 ∧ e.1 + e.2 ≤ used) ∧ x.size ≤ 1048576 ∧ ahd x.ext x.ext.length = pgs x.size

/-- What is ahead of the next extent. -/
def lastA (xs : List (Nat × Nat)) (pre : List (Fin xs.length)) : Nat := match pre.getLast? with | none => 0 | some k => ahd xs (k.1 + 1)
theorem lastA_snoc (xs : List (Nat × Nat)) (pre : List (Fin xs.length)) (x : Fin xs.length) : lastA xs (pre ++ [x]) = ahd xs (x.1 + 1) := by simp [lastA]
theorem lastA_full (xs : List (Nat × Nat)) : lastA xs (List.finRange xs.length) = ahd xs xs.length := by
  rw [← upF_full]
  rcases Nat.eq_zero_or_pos xs.length with h | h
  · have e : upF xs.length xs.length = [] := List.eq_nil_of_length_eq_zero (by rw [upF_length (Nat.le_refl _), h])
    rw [e]
    simp [lastA, ahd, List.length_eq_zero_iff.1 h]
  · have e := upF_succ (show xs.length - 1 < xs.length by omega)
    rw [Nat.sub_add_cancel h] at e
    rw [e, lastA_snoc]
    simp only [Nat.sub_add_cancel h]
theorem Blk.ownF (B0 B : Nat) (t : TypeId) (c : Array Value) {β : Type} : OwnFrom B0 (fun (_ : β) W => Blk W B t c) := Own.from (Blk.own B t (fun _ => c)) _

set_option maxRecDepth 100000 in
set_option maxHeartbeats 4000000 in
theorem stands_any (x : Ino) (v : Value) (first used : Nat) (w : World) (hsm : SmallE x.ext) (hv : ExtRow w v x.ext) (hst : Stands x first used) (hu : used ≤ 1000000000000) (hf : first ≤ 1000000000000) :
    Calls Tryd.prog 38 #[inoV x v, .int .i64 first, .int .i64 used] w fun e w' => e = .returned (.bool true) ∧ Below w.heap.size w w' := by
  obtain ⟨nm, sz, xs⟩ := x
  obtain ⟨A, c, rfl⟩ := hv.slice
  simp only [inoV, Stands] at *
  obtain ⟨hE, hz, hT⟩ := hst
  have HP := Lib.hid (fun w => parts_any A xs.length c w)
  have HG := Lib.hid (fun w => pages_any sz w (by omega))
  refine callsIn_wide (n := 3).1 ?_
  refine callsIn_of_wp_marks Tryd.func38 rfl trivial ?_ rfl
  simp only [Tryd.ntmps38, List.size_toArray, List.length_cons, List.length_nil, Nat.reduceAdd, Nat.reduceSub, Array.replicate_succ, Array.replicate_zero, List.push_toArray, List.append_toArray, List.nil_append, List.cons_append]
  have HV := Lib.hid hv
  have HE := Lib.hid hE
  have HT := Lib.hid hT
  clear hv hE hT
  refine wpIn_wide.2 ?_
  go_wp2_with (go_at_call 43; refine (HP.out _).mono ?_; rintro e w1 ⟨rfl, rfl⟩)
  have HV := HV.out
  obtain ⟨W0, hW0⟩ : ∃ W0, (((((w.alloc (.cells #[.string nm, .int .i64 sz, .slice A xs.length c] 55)).alloc (.cells #[.int .i64 first] 3)).alloc (.cells #[.int .i64 used] 3)).alloc (.cells #[.bool false] 4)).alloc (.cells #[.int .i64 0] 3)).alloc (.cells #[.slice A xs.length c] 53) = W0 := ⟨_, rfl⟩
  have b0 := ((((((Blk.new w 55 #[.string nm, .int .i64 sz, .slice A xs.length c]).alloc (.cells #[.int .i64 first] 3)).alloc (.cells #[.int .i64 used] 3)).alloc (.cells #[.bool false] 4)).alloc (.cells #[.int .i64 0] 3)).alloc (.cells #[.slice A xs.length c] 53))
  have b1 := ((((Blk.new (w.alloc (.cells #[.string nm, .int .i64 sz, .slice A xs.length c] 55)) 3 #[.int .i64 first]).alloc (.cells #[.int .i64 used] 3)).alloc (.cells #[.bool false] 4)).alloc (.cells #[.int .i64 0] 3)).alloc (.cells #[.slice A xs.length c] 53)
  have b2 := (((Blk.new ((w.alloc (.cells #[.string nm, .int .i64 sz, .slice A xs.length c] 55)).alloc (.cells #[.int .i64 first] 3)) 3 #[.int .i64 used]).alloc (.cells #[.bool false] 4)).alloc (.cells #[.int .i64 0] 3)).alloc (.cells #[.slice A xs.length c] 53)
  have b3 := ((Blk.new (((w.alloc (.cells #[.string nm, .int .i64 sz, .slice A xs.length c] 55)).alloc (.cells #[.int .i64 first] 3)).alloc (.cells #[.int .i64 used] 3)) 4 #[.bool false]).alloc (.cells #[.int .i64 0] 3)).alloc (.cells #[.slice A xs.length c] 53)
  have b4 := (Blk.new ((((w.alloc (.cells #[.string nm, .int .i64 sz, .slice A xs.length c] 55)).alloc (.cells #[.int .i64 first] 3)).alloc (.cells #[.int .i64 used] 3)).alloc (.cells #[.bool false] 4)) 3 #[.int .i64 0]).alloc (.cells #[.slice A xs.length c] 53)
  have b5 := Blk.new (((((w.alloc (.cells #[.string nm, .int .i64 sz, .slice A xs.length c] 55)).alloc (.cells #[.int .i64 first] 3)).alloc (.cells #[.int .i64 used] 3)).alloc (.cells #[.bool false] 4)).alloc (.cells #[.int .i64 0] 3)) 53 #[.slice A xs.length c]
  have hv0 := (((((HV.alloc (.cells #[.string nm, .int .i64 sz, .slice A xs.length c] 55)).alloc (.cells #[.int .i64 first] 3)).alloc (.cells #[.int .i64 used] 3)).alloc (.cells #[.bool false] 4)).alloc (.cells #[.int .i64 0] 3)).alloc (.cells #[.slice A xs.length c] 53)
  have hB0 : Below w.heap.size w W0 := by
    rw [← hW0]
    exact ((((((Below.refl _ w).alloc (Nat.le_refl _) _).alloc (by simp) _).alloc (by simp; omega) _).alloc (by simp; omega) _).alloc (by simp; omega) _).alloc (by simp; omega) _
  have hgl : ∀ g, (Value.slice A xs.length c).ownBlock = some g → g < w.heap.size := fun g hg => HV.lt hg
  simp only [World.size_alloc] at b1 b2 b3 b4 b5
  have hsz : W0.heap.size = w.heap.size + 6 := by rw [← hW0]; simp
  rw [hW0] at b0 b1 b2 b3 b4 b5 hv0 ⊢
  clear hW0 HV
  refine (wpIn_wide (n := 3)).1 ?_
  refine wpIn_rangeFunc_ownH rfl (by omega) (gf := 59) (lb := #[.pointer (some ⟨w.heap.size + 1 + 1 + 1 + 1 + 1, 0, none⟩)]) rfl trivial (enters_of Tryd.func59 (by kernel_rfl) rfl)
    (parts_stops (3 - 1) (by omega) (w.heap.size + 1 + 1 + 1 + 1 + 1) _ xs hsm (fun k => k = w.heap.size + 1 + 1 + 1 + 1) W0 (fun k hk => by omega) (by omega) (fun g hg => by have := hgl g hg; omega) b5 hv0) KpC.trans kpC_b (Below.refl _ _) (fun _ => rfl)
    (fun pre W => (Blk W (w.heap.size + 1 + 1 + 1 + 1) 3 #[.int .i64 (lastA xs pre : Nat)] ∧ Blk W w.heap.size 55 #[.string nm, .int .i64 sz, .slice A xs.length c] ∧ Blk W (w.heap.size + 1) 3 #[.int .i64 first] ∧ Blk W (w.heap.size + 1 + 1) 3 #[.int .i64 used] ∧ Blk W (w.heap.size + 1 + 1 + 1) 4 #[.bool false]) ∧ Below w.heap.size w W)
    (fun _ _ _ => False)
    (OwnFrom.and (OwnFrom.and (Own.from (Blk.own _ _ (fun pre => #[.int .i64 (lastA xs pre : Nat)])) _) (OwnFrom.and (Blk.ownF _ _ _ _) (OwnFrom.and (Blk.ownF _ _ _ _) (OwnFrom.and (Blk.ownF _ _ _ _) (Blk.ownF _ _ _ _))))) (ownFrom_below (Nat.le_refl _) (by omega)))
    (fun _ _ _ _ _ hs _ _ => hs)
    ⟨⟨b4, b0, b1, b2, b3⟩, hB0⟩
    (fun x a' W => ∃ Bx, w.heap.size + 1 + 1 + 1 + 1 < Bx ∧ Blk W Bx 61 #[.int .i64 (xs[x.1].1 : Nat), .int .i64 (xs[x.1].2 : Nat)] ∧ a' = { tmps := #[.agg #[.string nm, .int .i64 sz, .slice A xs.length c], .int .i64 first, .int .i64 used, .pointer (some ⟨w.heap.size, 0, none⟩), .pointer (some ⟨w.heap.size + 1, 0, none⟩), .pointer (some ⟨w.heap.size + 1 + 1, 0, none⟩), .pointer (some ⟨w.heap.size + 1 + 1 + 1, 0, none⟩), .pointer (some ⟨w.heap.size + 1 + 1 + 1 + 1, 0, none⟩),
      .int .i64 (ahd xs x.1 : Nat), .pointer (some ⟨Bx, 0, none⟩), .pointer (some ⟨w.heap.size, 2, none⟩), .slice A xs.length c,
      .func (.func 59) #[] #[.pointer (some ⟨w.heap.size + 1 + 1 + 1 + 1 + 1, 0, none⟩)], .int .i64 (ahd xs x.1 : Nat), .agg #[.int .i64 (xs[x.1].1 : Nat), .int .i64 (xs[x.1].2 : Nat)],
      undef, undef, undef, undef, undef, undef, undef, undef, undef, undef, undef, undef, undef, undef, undef, undef, undef, undef, undef, undef, undef, undef, undef, undef, undef, undef, undef, undef, undef, undef, undef, undef], defers := [] })
    (fun x a' _ X Y row hs hg hr => by obtain ⟨Bx, h1, h2, h3⟩ := hs; exact ⟨Bx, h1, Blk.own _ _ (fun (_ : Unit) => _) () X Y row h2 hg (fun r e => (hr r e).2), h3⟩)
    ?assign ?body ?done ?stop
  case assign =>
    rintro l pre x W K ⟨⟨h4, h0, h1, h2, h3⟩, hB1⟩ hK
    simp only [encE] at *
    gi_wp2
    exact hK _ _ ((KeepsOthers.alloc _ _).from _) (KpC.alloc W _) ⟨⟨h4.alloc _, h0.alloc _, h1.alloc _, h2.alloc _, h3.alloc _⟩, hB1.alloc hB1.size _⟩ ⟨W.heap.size, h4.lt, Blk.new W _ _, rfl⟩
  case body =>
    rintro l pre x a' W hl _ ⟨⟨h4, h0, h1, h2, h3⟩, hB1⟩ ⟨Bx, hBx, bX, rfl⟩ hlt
    have c4 := h4.at_ 0 _ rfl
    have f4 := h4.frozen 0
    have c1 := h1.at_ 0 _ rfl
    have c2 := h2.at_ 0 _ rfl
    have x0 := bX.at_ 0 _ rfl
    have x1 := bX.at_ 1 _ rfl
    have hA1 := ahd_succ xs x.2
    have hA2 := ahd_le xs (x.1 + 1)
    have hA3 := hsm.2.1
    obtain ⟨hE1, hE2, hE3⟩ := HE.out _ (List.getElem_mem x.2)
    have hset := h4.set_ 0 (.int .i64 (lastA xs (pre ++ [x]) : Nat))
    rw [lastA_snoc, hA1] at hset
    have hls : lastA xs (pre ++ [x]) = ahd xs x.1 + xs[x.1].2 := by rw [lastA_snoc, hA1]
    rw [hA1] at hA2
    have hin : inn (xs[x.1].1 : Nat) (xs[x.1].2 : Nat) used = true := inn_iff.2 ⟨by omega, by omega, by omega, by omega⟩
    have hwi := fun w => within_any (xs[x.1].1 : Nat) (xs[x.1].2 : Nat) used w (WalkArith.wf_i64 (by omega)) (WalkArith.wf_i64 (by omega)) (by omega)
    rw [hin] at hwi
    have HW := Lib.hid hwi
    have HS := Lib.hid hset
    have HA := Lib.hid hls
    have H0 := Lib.hid (And.intro h0 (And.intro h1 (And.intro h2 h3)))
    have HB1 := Lib.hid hB1
    have hnn : 1 ≤ 3 - 1 - 1 := by omega
    clear hset hls h4 h0 h1 h2 h3 hB1 hsm hin hwi hA1
    generalize ahd xs x.1 = aa at *
    generalize xs[x.1].1 = pp at *
    generalize xs[x.1].2 = qq at *
    gi_wp2_with (refine ⟨trivial, ?_⟩; gi_at_call 57; refine (CallsIn.inRound l (callsIn_wide.2 (HW.out _))).mono ?_; rintro e w' ⟨rfl, rfl⟩)
    refine ⟨(KeepsOthers.setCell _ _ _).from _, KpC.setCell (S := fun k => k = w.heap.size + 1 + 1 + 1 + 1) _ (p := ⟨w.heap.size + 1 + 1 + 1 + 1, 0, none⟩) rfl _, ⟨by rw [HA.out]; have h := HS.out; simpa using h, ?_, ?_, ?_, ?_⟩, HB1.out.setCell (p := ⟨w.heap.size + 1 + 1 + 1 + 1, 0, none⟩) (by show w.heap.size ≤ w.heap.size + 1 + 1 + 1 + 1; omega) _⟩
    · exact H0.out.1.far (by show _ ≠ w.heap.size + 1 + 1 + 1 + 1; omega) _
    · exact H0.out.2.1.far (by show _ ≠ w.heap.size + 1 + 1 + 1 + 1; omega) _
    · exact H0.out.2.2.1.far (by show _ ≠ w.heap.size + 1 + 1 + 1 + 1; omega) _
    · exact H0.out.2.2.2.far (by show _ ≠ w.heap.size + 1 + 1 + 1 + 1; omega) _
  case done =>
    rintro D ys W hD rfl ⟨⟨h4, h0, h1, h2, h3⟩, hB⟩ hK
    rw [lastA_full, HT.out] at h4
    have c4 := h4.at_ 0 _ rfl
    have c0 := h0.at_ 1 _ rfl
    have c3 := h3.at_ 0 _ rfl
    have f3 := h3.frozen 0
    have hset := h3.set_ 0 (.bool true)
    have HS := Lib.hid hset
    have HB := Lib.hid hB
    clear hset h4 h0 h1 h2 h3 hB
    have hdz : decide ((sz : Int) ≤ 1048576) = true := decide_eq_true (by omega)
    go_wp2
    go_still_tail 10, (by kernel_rfl)
    still_call ((HG.out _).mono fun _ _ h => ⟨h.1, h.2.symm⟩)
    repeat still_step
    refine wpStill_nil ?_
    change wpList _ _ _ _ _ W.drew
    go_wp2
    have hK' : ((W.setCell ⟨w.heap.size + 1 + 1 + 1, 0, none⟩ (.bool true)).drew).heap[D]? = some (.deferred (some [])) := (KeepsOthers.setCell W ⟨w.heap.size + 1 + 1 + 1, 0, none⟩ (.bool true)).same D _ hK rfl
    refine ⟨by simp, .inl ⟨_, _, rfl, run_takeDeferred hK', ?_⟩⟩
    have h5 : Blk (W.setCell ⟨w.heap.size + 1 + 1 + 1, 0, none⟩ (.bool true)).drew (w.heap.size + 1 + 1 + 1) 4 #[.bool true] := by simpa using HS.out.drew
    have hc5 := cell_kept (h5.at_ 0 _ rfl) (grownBy_putObj' _ D (.deferred none)) (fun r e => by cases e; exact ⟨_, hK', rfl⟩)
    refine ⟨.bool true, ?_, rfl, ((HB.out.setCell (p := ⟨w.heap.size + 1 + 1 + 1, 0, none⟩) (by show w.heap.size ≤ w.heap.size + 1 + 1 + 1; omega) _).drew).trans (belowK_b (w := w) (Nat.le_refl _) _ D _ _ (by omega) hK' rfl rfl)⟩
    simp [results, Tryd.f38, go_sem, hc5]
  case stop =>
    rintro D c pre W _ _ h _
    exact h.elim
end Go.Proofs.YtgkhgjihjbjfnaaDoor
