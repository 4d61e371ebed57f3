/- Package files: stands. -/
import Derived.Test.YtmbjflcmbenbdaaDoorFB
import Derived.StillTailTactics
import Derived.Deep.RegionHeld3
import Derived.Deep.RegionLaw
import Derived.Laws.ResultCell
namespace Go.Proofs.YtmbjflcmbenbdaaDoor
open Go.RowKit Go.Shelf
set_option linter.unusedVariables false
set_option linter.unusedSimpArgs false
attribute [local go_sem] Oper.semAt_some

/-- What an inode is: a name, a size, extents. -/
structure Ino where
  name : ByteArray
  size : Nat
  ext : List (Nat × Nat)
/-- An inode's value, its extents lying at v. -/
def inoV (x : Ino) (v : Value) : Value := .agg #[.string x.name, .int .i64 x.size, v]

/-- Where a file's extents may be. -/
def Stands (x : Ino) (first used : Nat) : Prop := (∀ e ∈ x.ext, 1 ≤ e.2 ∧ first ≤ e.1 ∧ e.1 + e.2 ≤ used) ∧ x.size ≤ 1048576 ∧ ahd x.ext x.ext.length = pgs x.size

/-- What is ahead of the next extent. -/
def lastA (xs : List (Nat × Nat)) (pre : List (Fin xs.length)) : Nat := match pre.getLast? with | none => 0 | some k => ahd xs (k.1 + 1)
theorem lastA_snoc (xs : List (Nat × Nat)) (pre : List (Fin xs.length)) (x : Fin xs.length) : lastA xs (pre ++ [x]) = ahd xs (x.1 + 1) := by simp [lastA]
theorem lastA_full (xs : List (Nat × Nat)) : lastA xs (List.finRange xs.length) = ahd xs xs.length := by
  rw [← upF_full]
  rcases Nat.eq_zero_or_pos xs.length with h | h
  · have e : upF xs.length xs.length = [] := List.eq_nil_of_length_eq_zero (by rw [upF_length (Nat.le_refl _), h])
    rw [e]
    simp [lastA, ahd, List.length_eq_zero_iff.1 h]
  · have e := upF_succ (show xs.length - 1 < xs.length by omega)
    rw [Nat.sub_add_cancel h] at e
    rw [e, lastA_snoc]
    simp only [Nat.sub_add_cancel h]

set_option maxRecDepth 100000 in
set_option maxHeartbeats 4000000 in
theorem stands_any (x : Ino) (v : Value) (first used : Nat) (w : World) (hsm : SmallE x.ext) (hv : ExtRow w v x.ext) (hst : Stands x first used) (hu : used ≤ 1000000000000) (hf : first ≤ 1000000000000) :
    Calls Tryd.prog 46 #[inoV x v, .int .i64 first, .int .i64 used] w fun e w' => e = .returned (.bool true) ∧ Below w.heap.size w w' := by
  obtain ⟨nm, sz, xs⟩ := x
  obtain ⟨A, c, rfl⟩ := hv.slice
  simp only [inoV, Stands] at *
  obtain ⟨hE, hz, hT⟩ := hst
  have HP := Lib.hid (fun w => parts_any A xs.length c w)
  have HG := Lib.hid (fun w => pages_any sz w (by omega))
  refine callsIn_wide (n := 3).1 ?_
  refine callsIn_of_wp_marks Tryd.func46 rfl trivial ?_ rfl
  simp only [Tryd.ntmps46, List.size_toArray, List.length_cons, List.length_nil, Nat.reduceAdd, Nat.reduceSub, Array.replicate_succ, Array.replicate_zero, List.push_toArray, List.append_toArray, List.nil_append, List.cons_append]
  have HV := Lib.hid hv
  have HE := Lib.hid hE
  have HT := Lib.hid hT
  clear hv hE hT
  refine wpIn_wide.2 ?_
  go_wp2_with (go_at_call 66; refine (HP.out _).mono ?_; rintro e w1 ⟨rfl, rfl⟩)
  have HV := HV.out
  obtain ⟨W0, hW0⟩ : ∃ W0, (((((w.alloc (.cells #[.string nm, .int .i64 sz, .slice A xs.length c] 67)).alloc (.cells #[.int .i64 first] 3)).alloc (.cells #[.int .i64 used] 3)).alloc (.cells #[.bool false] 4)).alloc (.cells #[.int .i64 0] 3)).alloc (.cells #[.slice A xs.length c] 65) = W0 := ⟨_, rfl⟩
  have b0 := ((((((Blk.new w 67 #[.string nm, .int .i64 sz, .slice A xs.length c]).alloc (.cells #[.int .i64 first] 3)).alloc (.cells #[.int .i64 used] 3)).alloc (.cells #[.bool false] 4)).alloc (.cells #[.int .i64 0] 3)).alloc (.cells #[.slice A xs.length c] 65))
  have b1 := ((((Blk.new (w.alloc (.cells #[.string nm, .int .i64 sz, .slice A xs.length c] 67)) 3 #[.int .i64 first]).alloc (.cells #[.int .i64 used] 3)).alloc (.cells #[.bool false] 4)).alloc (.cells #[.int .i64 0] 3)).alloc (.cells #[.slice A xs.length c] 65)
  have b2 := (((Blk.new ((w.alloc (.cells #[.string nm, .int .i64 sz, .slice A xs.length c] 67)).alloc (.cells #[.int .i64 first] 3)) 3 #[.int .i64 used]).alloc (.cells #[.bool false] 4)).alloc (.cells #[.int .i64 0] 3)).alloc (.cells #[.slice A xs.length c] 65)
  have b3 := ((Blk.new (((w.alloc (.cells #[.string nm, .int .i64 sz, .slice A xs.length c] 67)).alloc (.cells #[.int .i64 first] 3)).alloc (.cells #[.int .i64 used] 3)) 4 #[.bool false]).alloc (.cells #[.int .i64 0] 3)).alloc (.cells #[.slice A xs.length c] 65)
  have b4 := (Blk.new ((((w.alloc (.cells #[.string nm, .int .i64 sz, .slice A xs.length c] 67)).alloc (.cells #[.int .i64 first] 3)).alloc (.cells #[.int .i64 used] 3)).alloc (.cells #[.bool false] 4)) 3 #[.int .i64 0]).alloc (.cells #[.slice A xs.length c] 65)
  have b5 := Blk.new (((((w.alloc (.cells #[.string nm, .int .i64 sz, .slice A xs.length c] 67)).alloc (.cells #[.int .i64 first] 3)).alloc (.cells #[.int .i64 used] 3)).alloc (.cells #[.bool false] 4)).alloc (.cells #[.int .i64 0] 3)) 65 #[.slice A xs.length c]
  have hv0 := (((((HV.alloc (.cells #[.string nm, .int .i64 sz, .slice A xs.length c] 67)).alloc (.cells #[.int .i64 first] 3)).alloc (.cells #[.int .i64 used] 3)).alloc (.cells #[.bool false] 4)).alloc (.cells #[.int .i64 0] 3)).alloc (.cells #[.slice A xs.length c] 65)
  have hB0 : Below w.heap.size w W0 := by
    rw [← hW0]
    exact ((((((Below.refl _ w).alloc (Nat.le_refl _) _).alloc (by simp) _).alloc (by simp; omega) _).alloc (by simp; omega) _).alloc (by simp; omega) _).alloc (by simp; omega) _
  have hgl : ∀ g, (Value.slice A xs.length c).ownBlock = some g → g < w.heap.size := fun g hg => HV.lt hg
  simp only [World.size_alloc] at b1 b2 b3 b4 b5
  have hsz : W0.heap.size = w.heap.size + 6 := by rw [← hW0]; simp
  rw [hW0] at b0 b1 b2 b3 b4 b5 hv0 ⊢
  clear hW0 HV
  refine (wpIn_wide (n := 3)).1 ?_
  refine wpIn_rangeFunc_ownH rfl (by omega) (gf := 82) (lb := #[.pointer (some ⟨w.heap.size + 1 + 1 + 1 + 1 + 1, 0, none⟩)]) rfl trivial (enters_of Tryd.func82 (by kernel_rfl) rfl)
    (parts_stops (3 - 1) (by omega) (w.heap.size + 1 + 1 + 1 + 1 + 1) _ xs hsm (fun k => k = w.heap.size + 1 + 1 + 1 + 1) W0 (fun k hk => by omega) (by omega) (fun g hg => by have := hgl g hg; omega) b5 hv0) KpC.trans kpC_b (Below.refl _ _) (fun _ => rfl)
    (fun pre W => (Blk W (w.heap.size + 1 + 1 + 1 + 1) 3 #[.int .i64 (lastA xs pre : Nat)] ∧ Blk W w.heap.size 67 #[.string nm, .int .i64 sz, .slice A xs.length c] ∧ Blk W (w.heap.size + 1) 3 #[.int .i64 first] ∧ Blk W (w.heap.size + 1 + 1) 3 #[.int .i64 used] ∧ Blk W (w.heap.size + 1 + 1 + 1) 4 #[.bool false]) ∧ Below w.heap.size w W)
    (fun _ _ _ => False)
    (OwnFrom.and (OwnFrom.and (Own.from (Blk.own _ _ (fun pre => #[.int .i64 (lastA xs pre : Nat)])) _) (OwnFrom.and (Blk.ownF _ _ _ _) (OwnFrom.and (Blk.ownF _ _ _ _) (OwnFrom.and (Blk.ownF _ _ _ _) (Blk.ownF _ _ _ _))))) (ownFrom_below (Nat.le_refl _) (by omega)))
    (fun _ _ _ _ _ hs _ _ => hs)
    ⟨⟨b4, b0, b1, b2, b3⟩, hB0⟩
    (fun x a' W => ∃ Bx, w.heap.size + 1 + 1 + 1 + 1 < Bx ∧ Blk W Bx 70 #[.int .i64 (xs[x.1].1 : Nat), .int .i64 (xs[x.1].2 : Nat)] ∧ a' = { tmps := #[.agg #[.string nm, .int .i64 sz, .slice A xs.length c], .int .i64 first, .int .i64 used, .pointer (some ⟨w.heap.size, 0, none⟩), .pointer (some ⟨w.heap.size + 1, 0, none⟩), .pointer (some ⟨w.heap.size + 1 + 1, 0, none⟩), .pointer (some ⟨w.heap.size + 1 + 1 + 1, 0, none⟩), .pointer (some ⟨w.heap.size + 1 + 1 + 1 + 1, 0, none⟩),
      .int .i64 (ahd xs x.1 : Nat), .pointer (some ⟨Bx, 0, none⟩), .pointer (some ⟨w.heap.size, 2, none⟩), .slice A xs.length c,
      .func (.func 82) #[] #[.pointer (some ⟨w.heap.size + 1 + 1 + 1 + 1 + 1, 0, none⟩)], .int .i64 (ahd xs x.1 : Nat), .agg #[.int .i64 (xs[x.1].1 : Nat), .int .i64 (xs[x.1].2 : Nat)],
      undef, undef, undef, undef, undef, undef, undef, undef, undef, undef, undef, undef, undef, undef, undef, undef, undef, undef, undef, undef, undef, undef, undef, undef, undef, undef, undef, undef, undef, undef, undef, undef], defers := [] })
    (fun x a' _ X Y row hs hg hr => by obtain ⟨Bx, h1, h2, h3⟩ := hs; exact ⟨Bx, h1, Blk.own _ _ (fun (_ : Unit) => _) () X Y row h2 hg (fun r e => (hr r e).2), h3⟩)
    ?assign ?body ?done ?stop
  case assign =>
    rintro l pre x W K ⟨⟨h4, h0, h1, h2, h3⟩, hB1⟩ hK
    simp only [encE] at *
    gi_wp2
    exact hK _ _ ((KeepsOthers.alloc _ _).from _) (KpC.alloc W _) ⟨⟨h4.alloc _, h0.alloc _, h1.alloc _, h2.alloc _, h3.alloc _⟩, hB1.alloc hB1.size _⟩ ⟨W.heap.size, h4.lt, Blk.new W _ _, rfl⟩
  case body =>
    rintro l pre x a' W hl _ ⟨⟨h4, h0, h1, h2, h3⟩, hB1⟩ ⟨Bx, hBx, bX, rfl⟩ hlt
    have c4 := h4.at_ 0 _ rfl
    have f4 := h4.frozen 0
    have c1 := h1.at_ 0 _ rfl
    have c2 := h2.at_ 0 _ rfl
    have x0 := bX.at_ 0 _ rfl
    have x1 := bX.at_ 1 _ rfl
    have hA1 := ahd_succ xs x.2
    have hA2 := ahd_le xs (x.1 + 1)
    have hA3 := hsm.2.1
    obtain ⟨hE1, hE2, hE3⟩ := HE.out _ (List.getElem_mem x.2)
    have hset := h4.set_ 0 (.int .i64 (lastA xs (pre ++ [x]) : Nat))
    rw [lastA_snoc, hA1] at hset
    have hls : lastA xs (pre ++ [x]) = ahd xs x.1 + xs[x.1].2 := by rw [lastA_snoc, hA1]
    rw [hA1] at hA2
    have hin : inn (xs[x.1].1 : Nat) (xs[x.1].2 : Nat) used = true := inn_iff.2 ⟨by omega, by omega, by omega, by omega⟩
    have hwi := fun w => within_any (xs[x.1].1 : Nat) (xs[x.1].2 : Nat) used w (WalkArith.wf_i64 (by omega)) (WalkArith.wf_i64 (by omega)) (by omega)
    rw [hin] at hwi
    have HW := Lib.hid hwi
    have HS := Lib.hid hset
    have HA := Lib.hid hls
    have H0 := Lib.hid (And.intro h0 (And.intro h1 (And.intro h2 h3)))
    have HB1 := Lib.hid hB1
    have hnn : 1 ≤ 3 - 1 - 1 := by omega
    clear hset hls h4 h0 h1 h2 h3 hB1 hsm hin hwi hA1
    generalize ahd xs x.1 = aa at *
    generalize xs[x.1].1 = pp at *
    generalize xs[x.1].2 = qq at *
    gi_wp2_with (refine ⟨trivial, ?_⟩; gi_at_call 67; refine (CallsIn.inRound l (callsIn_wide.2 (HW.out _))).mono ?_; rintro e w' ⟨rfl, rfl⟩)
    refine ⟨(KeepsOthers.setCell _ _ _).from _, KpC.setCell (S := fun k => k = w.heap.size + 1 + 1 + 1 + 1) _ (p := ⟨w.heap.size + 1 + 1 + 1 + 1, 0, none⟩) rfl _, ⟨by rw [HA.out]; have h := HS.out; simpa using h, ?_, ?_, ?_, ?_⟩, HB1.out.setCell (p := ⟨w.heap.size + 1 + 1 + 1 + 1, 0, none⟩) (by show w.heap.size ≤ w.heap.size + 1 + 1 + 1 + 1; omega) _⟩
    · exact H0.out.1.far (by show _ ≠ w.heap.size + 1 + 1 + 1 + 1; omega) _
    · exact H0.out.2.1.far (by show _ ≠ w.heap.size + 1 + 1 + 1 + 1; omega) _
    · exact H0.out.2.2.1.far (by show _ ≠ w.heap.size + 1 + 1 + 1 + 1; omega) _
    · exact H0.out.2.2.2.far (by show _ ≠ w.heap.size + 1 + 1 + 1 + 1; omega) _
  case done =>
    rintro D ys W hD rfl ⟨⟨h4, h0, h1, h2, h3⟩, hB⟩ hK
    rw [lastA_full, HT.out] at h4
    have c4 := h4.at_ 0 _ rfl
    have c0 := h0.at_ 1 _ rfl
    have c3 := h3.at_ 0 _ rfl
    have f3 := h3.frozen 0
    have hset := h3.set_ 0 (.bool true)
    have HS := Lib.hid hset
    have HB := Lib.hid hB
    clear hset h4 h0 h1 h2 h3 hB
    have hdz : decide ((sz : Int) ≤ 1048576) = true := decide_eq_true (by omega)
    go_wp2
    go_still_tail 10, (by kernel_rfl)
    still_call ((HG.out _).mono fun _ _ h => ⟨h.1, h.2.symm⟩)
    repeat still_step
    refine wpStill_nil ?_
    change wpList _ _ _ _ _ W.drew
    go_wp2
    have hK' : ((W.setCell ⟨w.heap.size + 1 + 1 + 1, 0, none⟩ (.bool true)).drew).heap[D]? = some (.deferred (some [])) := (KeepsOthers.setCell W ⟨w.heap.size + 1 + 1 + 1, 0, none⟩ (.bool true)).same D _ hK rfl
    refine ⟨by simp, .inl ⟨_, _, rfl, run_takeDeferred hK', ?_⟩⟩
    have h5 : Blk (W.setCell ⟨w.heap.size + 1 + 1 + 1, 0, none⟩ (.bool true)).drew (w.heap.size + 1 + 1 + 1) 4 #[.bool true] := by simpa using HS.out.drew
    have hc5 := cell_kept (h5.at_ 0 _ rfl) (grownBy_putObj' _ D (.deferred none)) (fun r e => by cases e; exact ⟨_, hK', rfl⟩)
    refine ⟨.bool true, ?_, rfl, ((HB.out.setCell (p := ⟨w.heap.size + 1 + 1 + 1, 0, none⟩) (by show w.heap.size ≤ w.heap.size + 1 + 1 + 1; omega) _).drew).trans (belowK_b (w := w) (Nat.le_refl _) _ D _ _ (by omega) hK' rfl rfl)⟩
    simp [results, Tryd.f46, go_sem, hc5]
  case stop =>
    rintro D c pre W _ _ h _
    exact h.elim
end Go.Proofs.YtmbjflcmbenbdaaDoor

/- Package files: what stands in a disk's sectors, as texts. -/
namespace Go.Proofs.YtmbjflcmbenbdaaDoor
open Go.RowKit Go.Shelf
set_option linter.unusedVariables false
set_option linter.unusedSimpArgs false

theorem wf_u64b {z : Int} (h : 0 ≤ z ∧ z ≤ 18446744073709551615) : (Lit.int .u64 z).wf = true := by
  have h1 : IntKind.u64.min = 0 := rfl
  have h2 : IntKind.u64.max = 18446744073709551615 := by decide
  simp [Lit.wf, h1, h2]
  omega
theorem u64w {n : Nat} (h : n ≤ 1000000000000) : IntKind.u64.wrap (n : Int) = n := by
  show (n : Int) % 18446744073709551616 = n
  omega

/-- What sector 0 says. -/
def headL (count used : Nat) : List UInt8 := [70, 76, 89, 49] ++ putL count 2 ++ putL used 4
def headS (count used : Nat) : ByteArray := mkb (fillL (headL count used) 64)
/-- What a file's own sector says. -/
def extT (e : Nat × Nat) : List UInt8 := putL e.1 2 ++ putL e.2 2
def inoBase (x : Ino) : List UInt8 := fillL x.name.data.toList 24 ++ putL x.size 4 ++ putL x.ext.length 2
def inoL (x : Ino) : List UInt8 := inoBase x ++ x.ext.flatMap extT
def inoS (x : Ino) : ByteArray := mkb (fillL (inoL x) 64)
theorem headL_length (c u : Nat) : (headL c u).length = 10 := by simp [headL, putL_length]
theorem inoBase_length (x : Ino) : (inoBase x).length = 30 := by simp [inoBase, putL_length, fillL_length]
theorem extT_length (l : List (Nat × Nat)) : (l.flatMap extT).length = 4 * l.length := by
  induction l with
  | nil => rfl
  | cons e l ih =>
    rw [List.flatMap_cons, List.length_append, ih]
    simp [extT, putL_length]
    omega
theorem headS_size (c u : Nat) : (headS c u).size = 64 := by unfold headS; rw [mkb_size, fillL_length]
theorem inoS_size (x : Ino) : (inoS x).size = 64 := by unfold inoS; rw [mkb_size, fillL_length]

set_option maxHeartbeats 800000 in
theorem headText_any (c u : Nat) (w : World) (hc : c ≤ 1000000000000) (hu : u ≤ 1000000000000) :
    Calls Tryd.prog 62 #[.int .i64 c, .int .i64 u] w fun e w' => e = .returned (.string (mkb (headL c u))) ∧ Below w.heap.size w w' := by
  have h1 := fun w => put_any c 2 w (wf_u64b (by omega)) (by decide)
  have h2 := fun w => put_any u 4 w (wf_u64b (by omega)) (by decide)
  simp only [Int.toNat_natCast, show wide 2 = 2 by decide, show wide 4 = 4 by decide] at h1 h2
  have s1 : (mkb (putL c 2)).size = 2 := by rw [mkb_size, putL_length]
  have s2 : (mkb (putL u 4)).size = 4 := by rw [mkb_size, putL_length]
  have s3 : ((⟨#[70, 76, 89, 49]⟩ : ByteArray) ++ mkb (putL c 2)).size = 6 := by rw [ByteArray.size_append, s1]; rfl
  have hcat : ((⟨#[70, 76, 89, 49]⟩ : ByteArray) ++ mkb (putL c 2)) ++ mkb (putL u 4) = mkb (headL c u) := by
    show (mkb [70, 76, 89, 49] ++ _) ++ _ = _
    rw [mkb_append, mkb_append]
    rfl
  rw [← hcat]
  generalize mkb (putL c 2) = P at *
  generalize mkb (putL u 4) = U at *
  have H1 := Lib.hid h1
  have H2 := Lib.hid h2
  have hB := Below.refl w.heap.size w
  have w1 := u64w hc
  have w2 := u64w hu
  clear h1 h2 hcat
  go_enter Tryd.func62, Tryd.ntmps62
  go_wp2_with (first
    | (go_at_call 76; with_reducible refine (H1.out _).mono ?_; rintro e v1 ⟨rfl, hb⟩; replace hB := hB.trans (hb.mono hB.size); clear hb)
    | (go_at_call 76; with_reducible refine (H2.out _).mono ?_; rintro e v2 ⟨rfl, hb⟩; replace hB := hB.trans (hb.mono hB.size); clear hb))
  go_ret
  exact ⟨rfl, hB⟩

set_option maxRecDepth 100000 in
set_option maxHeartbeats 3200000 in
theorem inodeText_any (x : Ino) (v : Value) (w : World) (hn : x.name.size ≤ 1000000) (hz : x.size ≤ 1000000000000) (hsm : SmallE x.ext) (hv : ExtRow w v x.ext) :
    Calls Tryd.prog 65 #[inoV x v] w fun e w' => e = .returned (.string (mkb (inoL x))) ∧ Below w.heap.size w w' := by
  obtain ⟨nm, sz, xs⟩ := x
  obtain ⟨A, c, rfl⟩ := hv.slice
  simp only [inoV] at *
  have hl := hsm.1
  have h1 := fun w => fill_any nm 24 w (by decide) (by omega) (by omega)
  have h2 := fun w => put_any sz 4 w (wf_u64b (by omega)) (by decide)
  have h3 := fun w => put_any xs.length 2 w (wf_u64b (by omega)) (by decide)
  have hp : ∀ n w, n ≤ 1000000000000 → Calls Tryd.prog 76 #[.int .u64 (n : Nat), .int .i64 2] w fun e w' => e = .returned (.string (mkb (putL n 2))) ∧ Below w.heap.size w w' := fun n w hn => by
    have h := put_any n 2 w (wf_u64b (by omega)) (by decide)
    simpa only [Int.toNat_natCast, show wide 2 = 2 by decide] using h
  simp only [Int.toNat_natCast, show wide 2 = 2 by decide, show wide 4 = 4 by decide, fillS, show ¬ ((24 : Int) < 0) by decide, if_false, show (24 : Int).toNat = 24 from rfl] at h1 h2 h3
  have s1 : (mkb (fillL nm.data.toList 24)).size = 24 := by rw [mkb_size, fillL_length]
  have s2 : (mkb (putL sz 4)).size = 4 := by rw [mkb_size, putL_length]
  have s3 : (mkb (putL xs.length 2)).size = 2 := by rw [mkb_size, putL_length]
  have s4 : (mkb (fillL nm.data.toList 24) ++ mkb (putL sz 4)).size = 28 := by rw [ByteArray.size_append, s1, s2]
  have hcat : (mkb (fillL nm.data.toList 24) ++ mkb (putL sz 4)) ++ mkb (putL xs.length 2) = mkb (inoBase ⟨nm, sz, xs⟩) := by
    rw [mkb_append, mkb_append]
    rfl
  generalize mkb (fillL nm.data.toList 24) = F at *
  generalize mkb (putL sz 4) = P at *
  generalize mkb (putL xs.length 2) = U at *
  have H1 := Lib.hid h1
  have H2 := Lib.hid h2
  have H3 := Lib.hid h3
  have HV := Lib.hid hv
  have hB := (Below.refl w.heap.size w).alloc (Nat.le_refl _) (.cells #[.string nm, .int .i64 sz, .slice A xs.length c] 67)
  have hb := Blk.new w 67 #[.string nm, .int .i64 sz, .slice A xs.length c]
  have w1 := u64w hz
  have w2 : IntKind.u64.wrap (xs.length : Int) = xs.length := u64w (by omega)
  clear h1 h2 h3 hv
  go_enter Tryd.func65, Tryd.ntmps65
  go_wp2
  generalize w.alloc (.cells #[.string nm, .int .i64 sz, .slice A xs.length c] 67) = W at *
  have n1 := hb.drew
  have n2 := hB.drew
  have n3 := hb.drew.at_ 0 _ rfl
  have n4 := hb.drew.at_ 1 _ rfl
  have n5 := hb.drew.at_ 2 _ rfl
  go_region_held3 (fun w' => w'.cell? ⟨w.heap.size, 0, none⟩ = some (.string nm) ∧ w'.cell? ⟨w.heap.size, 1, none⟩ = some (.int .i64 sz) ∧ w'.cell? ⟨w.heap.size, 2, none⟩ = some (.slice A xs.length c) ∧ Hid (Blk w' w.heap.size 67 #[.string nm, .int .i64 sz, .slice A xs.length c]) ∧ Hid (Below w.heap.size w w'))
    (first | exact ⟨n3, n4, n5, n1, n2⟩)
    (first
    | (go_at_call 61; with_reducible refine (H1.out _).mono ?_; rintro e v1 ⟨rfl, hb⟩; rcases ‹(_ : Prop) ∧ _ ∧ _ ∧ Hid _ ∧ Hid _› with ⟨-, -, -, kb, kB⟩; clear n1 n2 n3 n4 n5; have n1 := kb.out.below hb kb.out.lt; have n2 := kB.out.trans (hb.mono kB.out.size); have n3 := n1.at_ 0 _ rfl; have n4 := n1.at_ 1 _ rfl; have n5 := n1.at_ 2 _ rfl; clear hb kb kB)
    | (go_at_call 76; with_reducible refine (H2.out _).mono ?_; rintro e v1 ⟨rfl, hb⟩; rcases ‹(_ : Prop) ∧ _ ∧ _ ∧ Hid _ ∧ Hid _› with ⟨-, -, -, kb, kB⟩; clear n1 n2 n3 n4 n5; have n1 := kb.out.below hb kb.out.lt; have n2 := kB.out.trans (hb.mono kB.out.size); have n3 := n1.at_ 0 _ rfl; have n4 := n1.at_ 1 _ rfl; have n5 := n1.at_ 2 _ rfl; clear hb kb kB)
    | (go_at_call 76; with_reducible refine (H3.out _).mono ?_; rintro e v1 ⟨rfl, hb⟩; rcases ‹(_ : Prop) ∧ _ ∧ _ ∧ Hid _ ∧ Hid _› with ⟨-, -, -, kb, kB⟩; clear n1 n2 n3 n4 n5; have n1 := kb.out.below hb kb.out.lt; have n2 := kB.out.trans (hb.mono kB.out.size); have n3 := n1.at_ 0 _ rfl; have n4 := n1.at_ 1 _ rfl; have n5 := n1.at_ 2 _ rfl; clear hb kb kB))
  rcases ‹(_ : Prop) ∧ _ ∧ _ ∧ Hid _ ∧ Hid _› with ⟨-, -, q3, -, kB⟩
  clear n1 n2 n3 n4 n5 hB hb s1 s2 s3 s4 hcat H1 H2 H3 w1 w2
  rename_i W1 _
  have kB := kB.out
  go_wp2
  go_loopw [3, 23] (fun sv i wr => ∃ k : Nat, k ≤ xs.length ∧ i = .int .i64 k ∧ sv = .string (mkb (inoBase ⟨nm, sz, xs⟩ ++ (xs.take k).flatMap extT)) ∧ Below w.heap.size w wr) (fun _ i _ => xs.length - (intOf i).toNat)
  case atStart => exact ⟨0, Nat.zero_le _, rfl, by simp, kB⟩
  case round =>
    obtain ⟨k, hk, rfl, rfl, hBr⟩ := hrel
    by_cases hlt : k < xs.length
    · rcases HV.out.below hBr with ⟨_, h0⟩ | ⟨g, cap, cur, hA, hbg, hc⟩
      · rw [h0] at hlt; simp at hlt
      injection hA with hA _ hcap
      subst hA
      subst hcap
      obtain ⟨c1, c2⟩ := ext_cells hbg hc hlt
      have hm := List.getElem_mem hlt
      have hq1 := hsm.2.2 _ hm
      have hq2 : xs[k].2 ≤ 1000000000000 := by have := ahd_succ xs hlt; have := ahd_le xs (k + 1); have := hsm.2.1; omega
      have hcat : mkb (inoBase ⟨nm, sz, xs⟩ ++ (xs.take k).flatMap extT) ++ (mkb (putL xs[k].1 2) ++ mkb (putL xs[k].2 2)) = mkb (inoBase ⟨nm, sz, xs⟩ ++ (xs.take (k + 1)).flatMap extT) := by
        rw [mkb_append, mkb_append, List.take_succ_eq_append_getElem hlt, List.flatMap_append, List.append_assoc]
        simp [extT]
      have hs0 : (mkb (inoBase ⟨nm, sz, xs⟩ ++ (xs.take k).flatMap extT)).size ≤ 5000 := by
        rw [mkb_size, List.length_append, inoBase_length, extT_length, List.length_take]; omega
      have hs1 : (mkb (putL xs[k].1 2)).size = 2 := by rw [mkb_size, putL_length]
      have hs2 : (mkb (putL xs[k].2 2)).size = 2 := by rw [mkb_size, putL_length]
      have hs3 : (mkb (putL xs[k].1 2) ++ mkb (putL xs[k].2 2)).size = 4 := by rw [ByteArray.size_append, hs1, hs2]
      have hs9 : ¬ 9223372036854775807 < (mkb (inoBase ⟨nm, sz, xs⟩ ++ (xs.take k).flatMap extT)).size + 4 := by omega
      have h1 := fun w => hp xs[k].1 w hq1
      have h2 := fun w => hp xs[k].2 w hq2
      have w1 := u64w hq1
      have w2 := u64w hq2
      have HC := Lib.hid hcat
      have H1 := Lib.hid h1
      have H2 := Lib.hid h2
      have hb := Blk.new wr 70 #[.int .i64 (xs[k].1 : Nat), .int .i64 (xs[k].2 : Nat)]
      have hB := hBr.alloc hBr.size (.cells #[.int .i64 (xs[k].1 : Nat), .int .i64 (xs[k].2 : Nat)] 70)
      clear hcat h1 h2 hp hm hbg
      generalize mkb (inoBase ⟨nm, sz, xs⟩ ++ (xs.take k).flatMap extT) = Sk at *
      generalize mkb (putL xs[k].1 2) = P1 at *
      generalize mkb (putL xs[k].2 2) = P2 at *
      generalize xs[k].1 = pp at *
      generalize xs[k].2 = qq at *
      go_wp2
      generalize wr.alloc (.cells #[.int .i64 (pp : Nat), .int .i64 (qq : Nat)] 70) = W2 at *
      have n1 := hb.drew
      have n2 := hB.drew
      have n3 := hb.drew.at_ 0 _ rfl
      have n4 := hb.drew.at_ 1 _ rfl
      go_region_held3 (fun w' => w'.cell? ⟨wr.heap.size, 0, none⟩ = some (.int .i64 (pp : Nat)) ∧ w'.cell? ⟨wr.heap.size, 1, none⟩ = some (.int .i64 (qq : Nat)) ∧ Hid (Blk w' wr.heap.size 70 #[.int .i64 (pp : Nat), .int .i64 (qq : Nat)]) ∧ Hid (Below w.heap.size w w'))
        (first | exact ⟨n3, n4, n1, n2⟩)
        (first
        | (go_at_call 76; with_reducible refine (H1.out _).mono ?_; rintro e v1 ⟨rfl, hb⟩; rcases ‹(_ : Prop) ∧ _ ∧ Hid _ ∧ Hid _› with ⟨-, -, kb, kB⟩; clear n1 n2 n3 n4; have n1 := kb.out.below hb kb.out.lt; have n2 := kB.out.trans (hb.mono kB.out.size); have n3 := n1.at_ 0 _ rfl; have n4 := n1.at_ 1 _ rfl; clear hb kb kB)
        | (go_at_call 76; with_reducible refine (H2.out _).mono ?_; rintro e v1 ⟨rfl, hb⟩; rcases ‹(_ : Prop) ∧ _ ∧ Hid _ ∧ Hid _› with ⟨-, -, kb, kB⟩; clear n1 n2 n3 n4; have n1 := kb.out.below hb kb.out.lt; have n2 := kB.out.trans (hb.mono kB.out.size); have n3 := n1.at_ 0 _ rfl; have n4 := n1.at_ 1 _ rfl; clear hb kb kB))
      all_goals
        rcases ‹(_ : Prop) ∧ _ ∧ Hid _ ∧ Hid _› with ⟨-, -, -, kB⟩
        go_wp2
        go_roundw
      case rel => exact ⟨k + 1, by omega, by go_num, by rw [HC.out], kB.out⟩
      case measure => simp [intOf]; omega
    · obtain rfl : k = xs.length := by omega
      have e : mkb (inoBase ⟨nm, sz, xs⟩ ++ (xs.take xs.length).flatMap extT) = mkb (inoL ⟨nm, sz, xs⟩) := by rw [List.take_length]; rfl
      rw [e]
      clear hp
      go_wp2
      go_ret
      exact ⟨rfl, hBr⟩
end Go.Proofs.YtmbjflcmbenbdaaDoor

/- Package files: what is read of a disk's sectors. -/
namespace Go.Proofs.YtmbjflcmbenbdaaDoor
open Go.RowKit Go.Shelf
set_option linter.unusedVariables false
set_option linter.unusedSimpArgs false

theorem getL_putL3 : ∀ W x, getL (putL x W) = x % 256 ^ W
  | 0, x => by rw [Nat.pow_zero, Nat.mod_one]; rfl
  | W + 1, x => by
    rw [putL, getL, getL_putL3 W (x / 256), Nat.pow_succ, Nat.mul_comm (256 ^ W) 256, Nat.mod_mul]
    simp
theorem infoExt : (Tryd.prog.info? 70).map (fun i => (i.zero, i.size, i.bytes)) = some (some (.agg #[.int .i64 0, .int .i64 0]), 2, 16) := by kernel_rfl

set_option maxHeartbeats 800000 in
/-- A number that stands in a text. -/
theorem number_any (a b : List UInt8) (v W : Nat) (w : World) (h1 : 1 ≤ W) (h8 : W ≤ 4) (hv : v < 256 ^ W) (hl : a.length + b.length ≤ 1000) (za zW : Int) (ha : za = a.length) (hW : zW = W) :
    Calls Tryd.prog 60 #[.string (mkb (a ++ putL v W ++ b)), .int .i64 za, .int .i64 zW] w fun e w' => e = .returned (.int .i64 v) ∧ w = w' := by
  subst ha hW
  have hsz : (mkb (a ++ putL v W ++ b)).size = a.length + W + b.length := by rw [mkb_size]; simp [putL_length]; omega
  have hg := fun w => get_any (mkb (a ++ putL v W ++ b)) a.length W w (WalkArith.wf_i64 (by omega)) (WalkArith.wf_i64 (by omega)) (by omega)
  have hh : hol (mkb (a ++ putL v W ++ b)).size a.length W = true := hol_iff.2 ⟨by omega, by omega, by omega, by omega, by omega⟩
  have hn : getN (mkb (a ++ putL v W ++ b)) a.length W = (v : Int) := by
    unfold getN
    rw [hh, if_pos rfl, Int.toNat_natCast, Int.toNat_natCast]
    unfold partL
    rw [mkb_data, List.append_assoc, List.drop_left, List.take_append_of_le_length (by rw [putL_length]; exact Nat.le_refl _), List.take_of_length_le (by rw [putL_length]; exact Nat.le_refl _), getL_putL3, Nat.mod_eq_of_lt hv]
  rw [hn, hh] at hg
  have hv2 : v < 4294967296 := by
    have : (256 : Nat) ^ W ≤ 256 ^ 4 := Nat.pow_le_pow_right (by omega) h8
    omega
  have H := Lib.hid hg
  clear hg hn hh hsz hv
  generalize mkb (a ++ putL v W ++ b) = S at *
  go_enter Tryd.func60, Tryd.ntmps60
  go_wp2_with (go_at_call 75; refine (H.out _).mono ?_; rintro e v1 ⟨rfl, rfl⟩)
  go_ret
  exact ⟨rfl, rfl⟩

set_option maxRecDepth 100000 in
set_option maxHeartbeats 800000 in
theorem trimRight_any (s : ByteArray) (j : Nat) (w : World) (h : (0 : UInt8) ∉ s.data.toList) (hp : 1 ≤ s.size) (hs : s.size + j ≤ 1000) :
    Calls Tryd.prog 64 #[.string (mkb (s.data.toList ++ List.replicate j 0)), .string ⟨#[0]⟩] w fun e w' => e = .returned (.string s) ∧ w = w' := by
  have hne : (mkb (s.data.toList ++ List.replicate j 0)).toList.isEmpty = false := by
    have e := Lib.toList_data (mkb (s.data.toList ++ List.replicate j 0))
    rw [e, mkb_data]
    cases hx : s.data.toList with
    | nil => have := len_data s; rw [hx] at this; simp at this; omega
    | cons => rfl
  have hne2 : ¬ (mkb (s.data.toList ++ List.replicate j 0)).toList = [] := fun e => by rw [e] at hne; cases hne
  have H := Lib.hid (fun w => trimbyte_any s j w h hs)
  generalize mkb (s.data.toList ++ List.replicate j 0) = T at *
  go_enter Tryd.func64, Tryd.ntmps64
  go_wp2_with (go_at_call 78; refine (H.out _).mono ?_; rintro e v1 ⟨rfl, rfl⟩)
  go_ret
  exact ⟨rfl, rfl⟩

/-- What follows behind a text's beginning. -/
theorem fillL_split (l m : List UInt8) (n : Nat) (h : (l ++ m).length ≤ n) : fillL (l ++ m) n = l ++ (m ++ List.replicate (n - (l ++ m).length) 0) := by
  unfold fillL
  rw [List.take_of_length_le h, List.append_assoc]

set_option maxHeartbeats 800000 in
theorem readHead_any (c u : Nat) (w : World) (hc : c < 65536) (hu : u < 4294967296) :
    Calls Tryd.prog 43 #[.string (headS c u)] w fun e w' => e = .returned (.tuple #[.int .i64 c, .int .i64 u, .bool true]) ∧ Below w.heap.size w w' := by
  have e1 : headS c u = mkb ([70, 76, 89, 49] ++ putL c 2 ++ (putL u 4 ++ List.replicate 54 0)) := by
    unfold headS headL
    rw [fillL_split _ _ _ (by simp [putL_length])]
    simp [putL_length]
  have e2 : headS c u = mkb ((([70, 76, 89, 49] : List UInt8) ++ putL c 2) ++ putL u 4 ++ List.replicate 54 0) := by rw [e1]; simp
  have h1 := fun w => number_any [70, 76, 89, 49] (putL u 4 ++ List.replicate 54 0) c 2 w (by omega) (by omega) (by omega) (by simp [putL_length]) 4 2 rfl rfl
  have h2 := fun w => number_any (([70, 76, 89, 49] : List UInt8) ++ putL c 2) (List.replicate 54 0) u 4 w (by omega) (by omega) (by omega) (by simp [putL_length]) 6 4 (by simp [putL_length]) rfl
  rw [← e1] at h1
  rw [← e2] at h2
  have h3 := fun w => headText_any c u w (by omega) (by omega)
  have h4 := fun w => fill_any (mkb (headL c u)) 64 w (by decide) (by rw [mkb_size, headL_length]; omega) (by omega)
  have e3 : fillS (mkb (headL c u)) 64 = headS c u := by unfold fillS headS; rw [if_neg (by decide), mkb_data]; rfl
  rw [e3] at h4
  generalize mkb (headL c u) = T at *
  generalize headS c u = S at *
  have H1 := Lib.hid h1
  have H2 := Lib.hid h2
  have H3 := Lib.hid h3
  have H4 := Lib.hid h4
  clear h1 h2 h3 h4 e1 e2 e3
  have hB := Below.refl w.heap.size w
  go_enter Tryd.func43, Tryd.ntmps43
  go_wp2_with (first
    | (go_at_call 60; with_reducible refine (H1.out _).mono ?_; rintro e v1 ⟨rfl, rfl⟩)
    | (go_at_call 60; with_reducible refine (H2.out _).mono ?_; rintro e v1 ⟨rfl, rfl⟩)
    | (go_at_call 62; with_reducible refine (H3.out _).mono ?_; rintro e v1 ⟨rfl, hb⟩; replace hB := hB.trans (hb.mono hB.size); clear hb)
    | (go_at_call 61; with_reducible refine (H4.out _).mono ?_; rintro e v1 ⟨rfl, hb⟩; replace hB := hB.trans (hb.mono hB.size); clear hb))
  go_ret3
  exact ⟨rfl, hB⟩
end Go.Proofs.YtmbjflcmbenbdaaDoor

/- Package files: a file's own sector, read. -/
namespace Go.Proofs.YtmbjflcmbenbdaaDoor
open Go.RowKit Go.Shelf
set_option linter.unusedVariables false
set_option linter.unusedSimpArgs false

/-- An inode whose numbers fit into its sector. -/
structure InoFits (x : Ino) : Prop where
  name : nameOk x.name = true
  size : x.size ≤ 1048576
  many : x.ext.length ≤ 4
  nums : ∀ e ∈ x.ext, e.1 < 65536 ∧ e.2 < 65536
theorem InoFits.small {x : Ino} (h : InoFits x) : SmallE x.ext := by
  refine ⟨by have := h.many; omega, ?_, fun e he => by have := (h.nums e he).1; omega⟩
  have key : ∀ l : List (Nat × Nat), (∀ e ∈ l, e.2 < 65536) → (l.map (·.2)).sum ≤ 65536 * l.length := by
    intro l
    induction l with
    | nil => intro _; simp
    | cons e l ih =>
      intro hl
      have h1 := hl e (by simp)
      have h2 := ih (fun e he => hl e (by simp [he]))
      simp only [List.map_cons, List.sum_cons, List.length_cons]
      omega
  have := key x.ext (fun e he => (h.nums e he).2)
  have := h.many
  omega
theorem inoL_length (x : Ino) : (inoL x).length = 30 + 4 * x.ext.length := by simp only [inoL, List.length_append, inoBase_length, extT_length]
/-- The bytes 0 behind. -/
def inoZ (x : Ino) : List UInt8 := List.replicate (64 - (inoL x).length) 0
theorem inoS_split {x : Ino} (h : InoFits x) : inoS x = mkb (inoL x ++ inoZ x) := by
  unfold inoS inoZ fillL
  have := inoL_length x
  have := h.many
  rw [List.take_of_length_le (by omega)]
theorem inoS_name {x : Ino} (h : InoFits x) : partS (inoS x) 0 24 = mkb (x.name.data.toList ++ List.replicate (24 - x.name.size) 0) := by
  have hn := (nameOk_iff.1 h.name).2.1
  have hi : inn 0 24 (inoS x).size = true := by rw [inoS_size]; decide
  unfold partS
  rw [hi, if_pos rfl, extract_mkb, inoS_split h, mkb_data]
  show mkb (List.take (0 + 24 - 0) (List.drop 0 _)) = _
  rw [List.drop_zero]
  unfold inoL inoBase
  rw [List.append_assoc, List.append_assoc, List.append_assoc, List.take_append_of_le_length (by rw [fillL_length]; omega), List.take_of_length_le (by rw [fillL_length]; omega)]
  unfold fillL
  rw [List.take_of_length_le (by rw [len_data]; omega), len_data]

set_option maxRecDepth 100000 in
theorem number_ino (x : Ino) (h : InoFits x) (w : World) (a b : List UInt8) (v W : Nat) (z zW : Int) (he : a ++ putL v W ++ b = inoL x ++ inoZ x) (h1 : 1 ≤ W) (h8 : W ≤ 4) (hv : v < 256 ^ W) (ha : z = a.length) (hW : zW = W) :
    Calls Tryd.prog 60 #[.string (inoS x), .int .i64 z, .int .i64 zW] w fun e w' => e = .returned (.int .i64 v) ∧ w = w' := by
  have hl := congrArg List.length he
  simp only [List.length_append, putL_length, inoL_length, inoZ, List.length_replicate] at hl
  have := h.many
  rw [inoS_split h, ← he]
  exact number_any a b v W w h1 h8 hv (by omega) z zW ha hW

theorem ext_split (l : List (Nat × Nat)) {k : Nat} (hk : k < l.length) : l.flatMap extT = (l.take k).flatMap extT ++ (putL l[k].1 2 ++ (putL l[k].2 2 ++ (l.drop (k + 1)).flatMap extT)) := by
  conv => lhs; rw [← List.take_append_drop k l, List.drop_eq_getElem_cons hk, List.flatMap_append, List.flatMap_cons]
  unfold extT
  rw [List.append_assoc (putL l[k].1 2)]
theorem Blk.not_row {W : World} {B : Nat} {t e : TypeId} {cs : Array Value} (h : Blk W B t cs) (hte : t ≠ e) {base size k : Nat} {v : Value} {xs : List Value} (hr : W.ownsRow base e size v k xs) : v.ownBlock ≠ some B := by
  rcases hr.2 with ⟨rfl, _⟩ | ⟨g, cap, cur, rfl, _, hgb, _⟩
  · simp [Value.ownBlock]
  · intro e'
    obtain rfl : g = B := by simpa [Value.ownBlock] using e'
    unfold Blk at h
    have := h.symm.trans hgb
    simp at this
    exact hte this.2

theorem grownBy_setc (w : World) (p : Addr) (u : Value) : w.grownBy (w.setCell p u) (some p.block) :=
  ⟨rfl, rfl, rfl, by simp [World.setCell], fun k _ hk => Below.heap_setCell _ _ _ _ (fun e => hk (by rw [e]))⟩
theorem own_far {w : World} {B e size n : Nat} {v : Value} {xs : List Value} (h : w.ownsRow B e size v n xs) {p : Addr} (hp : v.ownBlock ≠ some p.block) (u : Value) : (w.setCell p u).ownsRow B e size v n xs :=
  h.kept (grownBy_setc w p u) (.inr hp)

theorem results_cell_row_tmp {P : Program} {fn : Func} {p u : Tmp} {ty : TypeId} (h : fn.results = #[.cell p ty, .tmp u]) (tmps : Array Value) (w : World) (g : Nat) (t : TypeId) (cs : Array Value) (fr : Nat × Nat) (d : TypeDesc)
    (hp : tmps.getD p undef = .pointer (some ⟨g, 0, none⟩)) (hg : w.heap[g]? = some (.cells cs t fr))
    (hu : P.underlying ty = some d) (hd : (match d with | .struct _ | .array _ _ => true | _ => false) = true) (hi : (P.info? ty).map (·.size) = some cs.size) :
    (results fn tmps).run P w = .ok (.tuple #[.agg cs, tmps.getD u undef]) w := by
  rw [results_cell_tmp h, hp]
  show ((loadVar ty ⟨g, 0, none⟩).run P w).andThen _ = _
  rw [run_loadVar_row w g t ty cs fr d hg hu hd hi]
  rfl

/-- A file's own sector was read. -/
def ReadIno (w : World) (x : Ino) (e : Ending) (w' : World) : Prop :=
  ∃ v, e = .returned (.tuple #[inoV x v, .bool true]) ∧ ExtRow w' v x.ext ∧ (∀ g, v.ownBlock = some g → w.heap.size ≤ g) ∧ Below w.heap.size w w'

set_option maxRecDepth 100000 in
set_option maxHeartbeats 3200000 in
theorem readInode_any (x : Ino) (h : InoFits x) (w : World) : Calls Tryd.prog 45 #[.string (inoS x)] w (ReadIno w x) := by
  obtain ⟨hn1, hn2, hn3⟩ := nameOk_iff.1 h.name
  have hsm := h.small
  have hmany := h.many
  have hsz := h.size
  have q1 := fun w => number_ino x h w (fillL x.name.data.toList 24 ++ putL x.size 4) (x.ext.flatMap extT ++ inoZ x) x.ext.length 2 28 2 (by simp [inoL, inoBase]) (by omega) (by omega) (by omega) (by simp [fillL_length, putL_length]) rfl
  have q2 := fun w => number_ino x h w (fillL x.name.data.toList 24) (putL x.ext.length 2 ++ (x.ext.flatMap extT ++ inoZ x)) x.size 4 24 4 (by simp [inoL, inoBase]) (by omega) (by omega) (by omega) (by simp [fillL_length]) rfl
  have q3 : ∀ k (hk : k < x.ext.length) w, Calls Tryd.prog 60 #[.string (inoS x), .int .i64 (30 + 4 * (k : Int)), .int .i64 2] w fun e w' => e = .returned (.int .i64 (x.ext[k].1 : Nat)) ∧ w = w' := fun k hk w => by
    have hb := h.nums _ (List.getElem_mem hk)
    refine number_ino x h w (inoBase x ++ (x.ext.take k).flatMap extT) (putL x.ext[k].2 2 ++ ((x.ext.drop (k + 1)).flatMap extT ++ inoZ x)) x.ext[k].1 2 _ 2 ?_ (by omega) (by omega) (by omega) (by simp only [List.length_append, inoBase_length, extT_length, List.length_take, putL_length]; omega) rfl
    unfold inoL
    rw [ext_split x.ext hk]
    simp only [List.append_assoc]
  have q4 : ∀ k (hk : k < x.ext.length) w, Calls Tryd.prog 60 #[.string (inoS x), .int .i64 (30 + 4 * (k : Int) + 2), .int .i64 2] w fun e w' => e = .returned (.int .i64 (x.ext[k].2 : Nat)) ∧ w = w' := fun k hk w => by
    have hb := h.nums _ (List.getElem_mem hk)
    refine number_ino x h w (inoBase x ++ (x.ext.take k).flatMap extT ++ putL x.ext[k].1 2) ((x.ext.drop (k + 1)).flatMap extT ++ inoZ x) x.ext[k].2 2 _ 2 ?_ (by omega) (by omega) (by omega) (by simp only [List.length_append, inoBase_length, extT_length, List.length_take, putL_length]; omega) rfl
    unfold inoL
    rw [ext_split x.ext hk]
    simp only [List.append_assoc]
  have q5 := fun w => part_all (inoS x) 0 24 w (by decide) (by decide) (by rw [inoS_size]; omega)
  rw [inoS_name h, show inn 0 24 (inoS x).size = true by rw [inoS_size]; decide] at q5
  have q6 := fun w => trimRight_any x.name (24 - x.name.size) w hn3 hn1 (by omega)
  have q7 := fun v w (hv : ExtRow w v x.ext) => inodeText_any x v w (by omega) (by omega) hsm hv
  have q8 := fun w => fill_any (mkb (inoL x)) 64 w (by decide) (by rw [mkb_size, inoL_length]; omega) (by omega)
  have e8 : fillS (mkb (inoL x)) 64 = inoS x := by unfold fillS inoS; rw [if_neg (by decide), mkb_data]; rfl
  rw [e8] at q8
  clear e8 hn1 hn2 hn3
  generalize mkb (inoL x) = T at *
  generalize mkb (x.name.data.toList ++ List.replicate (24 - x.name.size) 0) = N24 at *
  generalize inoS x = S at *
  obtain ⟨nm, sz, xs⟩ := x
  simp only at *
  have Q1 := Lib.hid q1
  have Q2 := Lib.hid q2
  have Q3 := Lib.hid q3
  have Q4 := Lib.hid q4
  have Q5 := Lib.hid q5
  have Q6 := Lib.hid q6
  have Q7 := Lib.hid q7
  have Q8 := Lib.hid q8
  clear q1 q2 q3 q4 q5 q6 q7 q8 h
  have hR := Blk.new w 67 #[.string ⟨#[]⟩, .int .i64 0, .slice none 0 0]
  have hB := (Below.refl w.heap.size w).alloc (Nat.le_refl _) (.cells #[.string ⟨#[]⟩, .int .i64 0, .slice none 0 0] 67)
  go_enter Tryd.func45, Tryd.ntmps45
  go_wp2_with (first
    | (go_at_call 60; with_reducible refine (Q1.out _).mono ?_; rintro e v1 ⟨rfl, rfl⟩)
    | (go_at_call 60; with_reducible refine (Q2.out _).mono ?_; rintro e v1 ⟨rfl, rfl⟩)
    | (go_at_call 63; with_reducible refine (Q5.out _).mono ?_; rintro e v1 ⟨rfl, hb⟩; have hR := hR.below hb hR.lt; have hB := hB.trans (hb.mono hB.size); clear hb)
    | (go_at_call 64; with_reducible refine (Q6.out _).mono ?_; rintro e v1 ⟨rfl, rfl⟩))
  have hX := Blk.new v1 67 #[.string nm, .int .i64 sz, .slice none 0 0]
  have hR1 := hR.alloc (.cells #[.string nm, .int .i64 sz, .slice none 0 0] 67)
  have hB1 := hB.alloc hB.size (.cells #[.string nm, .int .i64 sz, .slice none 0 0] 67)
  have hbx : w.heap.size < v1.heap.size := hR.lt
  obtain ⟨bx, hbxe⟩ : ∃ bx, v1.heap.size = bx := ⟨_, rfl⟩
  rw [hbxe] at hX hbx ⊢
  clear hR hB
  generalize v1.alloc (.cells #[.string nm, .int .i64 sz, .slice none 0 0] 67) = W1 at *
  clear hbxe v1
  obtain ⟨i0, hi, hz0, hz1, hz2⟩ := info_parts infoExt
  go_loopw [26] (fun i wr => ∃ (k : Nat) (v : Value), k ≤ xs.length ∧ i = .int .i64 k ∧ Blk wr bx 67 #[.string nm, .int .i64 sz, v] ∧ wr.ownsRow w.heap.size 70 2 v k (extCells (xs.take k)) ∧ Blk wr w.heap.size 67 #[.string ⟨#[]⟩, .int .i64 0, .slice none 0 0] ∧ Below w.heap.size w wr) (fun i _ => xs.length - (intOf i).toNat)
  case atStart => exact ⟨0, _, Nat.zero_le _, rfl, hX, World.ownsRow_nil _ _ _ _, hR1, hB1⟩
  case round =>
    obtain ⟨k, v, hk, rfl, hX, hown, hR, hB⟩ := hrel
    by_cases hlt : k < xs.length
    · have n1 := Q3.out k hlt
      have n2 := Q4.out k hlt
      have hm := hsm.2.2 _ (List.getElem_mem hlt)
      have hcs : extCells (xs.take (k + 1)) = extCells (xs.take k) ++ [.int .i64 (xs[k].1 : Nat), .int .i64 (xs[k].2 : Nat)] := by
        rw [List.take_succ_eq_append_getElem hlt]
        exact extCells_snoc _ _ _
      have hne := hX.not_row (by decide) hown
      have hne2 := hR.not_row (by decide) hown
      have c2 := hX.at_ 2 _ rfl
      have f2 := hX.frozen 2
      have HCS := Lib.hid hcs
      have N1 := Lib.hid n1
      have N2 := Lib.hid n2
      have HX := Lib.hid hX
      have HO := Lib.hid hown
      have HR := Lib.hid hR
      have HB := Lib.hid hB
      have hsz1 := hB.size
      have hkm : k ≤ 3 := by omega
      have hwr : IntKind.i64.wrap (30 + 4 * (k : Int) + 2) = 30 + 4 * (k : Int) + 2 := IntWalk.i64_in _ (by omega)
      clear n1 n2 hm hcs hX hown hR hB
      generalize xs[k].1 = pp at *
      generalize xs[k].2 = qq at *
      have c2a := (HX.out.alloc (.cells #[.int .i64 (pp : Nat), .int .i64 (qq : Nat)] 70)).at_ 2 _ rfl
      go_wp2_with (fail)
      go_region_law (first
        | (go_simp; go_at_call 60; with_reducible refine (N1.out _).mono ?_; rintro e v5 ⟨rfl, rfl⟩)
        | (go_simp; go_at_call 60; with_reducible refine (N2.out _).mono ?_; rintro e v5 ⟨rfl, rfl⟩)
        | (go_loud (refine step_append_lies _ (by rfl) _ _ _ (by rfl) w.heap.size 70 i0 _ 2 16 Tryd.underlying65 hi hz0 hz1 hz2 rfl (by omega) v k (extCells (xs.take k)) (by rfl) (HO.out.alloc (.cells #[.int .i64 (pp : Nat), .int .i64 (qq : Nat)] 70)) ⟨wr.heap.size, 0, none⟩ 1 1 [.int .i64 (pp : Nat), .int .i64 (qq : Nat)] (by rfl) (by rfl) (World.news_of_block (cs := #[.int .i64 (pp : Nat), .int .i64 (qq : Nat)]) (t := 70) (fr := (0, 0)) (heap_alloc_new wr (.cells #[.int .i64 (pp : Nat), .int .i64 (qq : Nat)] 70))) (by simp [Value.oneCell']) (by omega) (by unfold maxLen; omega) (by omega) (by simp; omega) (wr.heap.size + 1) (by simp) ?_)
           intro gg cap w1 hown1 hgrow hat hlt1
           have HX1 := Lib.hid ((HX.out.alloc (.cells #[.int .i64 (pp : Nat), .int .i64 (qq : Nat)] 70)).drew.grown hgrow (by exact fun e => hne e.symm))
           have HR1 := Lib.hid ((HR.out.alloc (.cells #[.int .i64 (pp : Nat), .int .i64 (qq : Nat)] 70)).drew.grown hgrow (by exact fun e => hne2 e.symm))
           have q1 := HX1.out.at_ 2 _ rfl
           have f1 := HX1.out.frozen 2
           have HO1 := Lib.hid hown1
           have HG1 := Lib.hid hgrow
           have HA1 := Lib.hid hat
           clear hown1 hgrow hat))
      all_goals
        have hgb : (Value.slice (some ⟨gg, 0, none⟩) (k + 1) cap).ownBlock ≠ some bx := HX1.out.not_row (by decide) HO1.out
        go_wp2
        go_roundw
        case rel => exact ⟨k + 1, _, by omega, by go_num, by simpa using HX1.out.set_ 2 _, by rw [HCS.out]; exact own_far HO1.out hgb _, HR1.out.far (by show _ ≠ bx; omega) _, (((HB.out.alloc hsz1 (.cells #[.int .i64 (pp : Nat), .int .i64 (qq : Nat)] 70)).drew).grown HG1.out (by simp; omega) (fun j e => (HO.out.lt j e).1)).setCell (p := ⟨bx, 2, none⟩) (by show w.heap.size ≤ bx; omega) _⟩
        case measure => simp [intOf]; omega
    · obtain rfl : k = xs.length := by omega
      rw [List.take_length] at hown
      have hv := ExtRow.of_own hown
      have hvb : ∀ g, v.ownBlock = some g → w.heap.size < g := fun g hg => by
        have h1 := (hown.lt g hg).1
        have h2 := hR.not_row (by decide) hown
        rcases Nat.lt_or_ge w.heap.size g with h3 | h3
        · exact h3
        · exact absurd (by rw [hg, show g = w.heap.size by omega]) h2
      have c0 := hX.at_ 0 _ rfl
      have c1 := hX.at_ 1 _ rfl
      have c2 := hX.at_ 2 _ rfl
      have HX := Lib.hid hX
      have HV := Lib.hid hv
      have HVB := Lib.hid hvb
      have HR := Lib.hid hR
      have HB := Lib.hid hB
      clear hX hown hv hvb hR hB Q1 Q2 Q3 Q4 Q5 Q6
      obtain ⟨A, c, hvv⟩ := HV.out.slice
      subst hvv
      go_wp2
      go_region_with (first
        | (go_at_call 65; refine (Q7.out _ _ (HV.out.kp (S := fun _ => False) (KpC.of_below (Below.refl _ _).drew) (fun _ _ => id))).mono ?_; rintro e v5 ⟨rfl, hb5⟩; have HX5 := Lib.hid (HX.out.drew.below hb5 HX.out.lt); have HR5 := Lib.hid (HR.out.drew.below hb5 HR.out.lt); have HV5 := Lib.hid ((HV.out.kp (S := fun _ => False) (KpC.of_below (Below.refl _ _).drew) (fun _ _ => id)).below hb5); have HB5 := Lib.hid (HB.out.drew.trans (hb5.mono HB.out.size)); have d0 := HX5.out.at_ 0 _ rfl; have d1 := HX5.out.at_ 1 _ rfl; have d2 := HX5.out.at_ 2 _ rfl; clear hb5)
        | (go_at_call 61; refine (Q8.out _).mono ?_; rintro e v6 ⟨rfl, hb6⟩; have HX6 := Lib.hid (HX5.out.below hb6 HX5.out.lt); have HR6 := Lib.hid (HR5.out.below hb6 HR5.out.lt); have HV6 := Lib.hid (HV5.out.below hb6); have HB6 := Lib.hid (HB5.out.trans (hb6.mono HB5.out.size)); have e0 := HX6.out.at_ 0 _ rfl; have e1 := HX6.out.at_ 1 _ rfl; have e2 := HX6.out.at_ 2 _ rfl; have r0 := HR6.out.at_ 0 _ rfl; have r1 := HR6.out.at_ 1 _ rfl; have r2 := HR6.out.at_ 2 _ rfl; have g0 := HR6.out.frozen 0; have g1 := HR6.out.frozen 1; have g2 := HR6.out.frozen 2; clear hb6))
      all_goals
        go_wp2
        have hRf : Blk (((v6.setCell ⟨w.heap.size, 0, none⟩ (.string nm)).setCell ⟨w.heap.size, 1, none⟩ (.int .i64 sz)).setCell ⟨w.heap.size, 2, none⟩ (.slice A xs.length c)) w.heap.size 67 #[.string nm, .int .i64 sz, .slice A xs.length c] := by
          simpa using ((HR6.out.set_ 0 (.string nm)).set_ 1 (.int .i64 sz)).set_ 2 (.slice A xs.length c)
        have hvf : ExtRow (((v6.setCell ⟨w.heap.size, 0, none⟩ (.string nm)).setCell ⟨w.heap.size, 1, none⟩ (.int .i64 sz)).setCell ⟨w.heap.size, 2, none⟩ (.slice A xs.length c)) (.slice A xs.length c) xs :=
          HV6.out.kp (S := fun k => k = w.heap.size) (((KpC.setCell (S := fun k => k = w.heap.size) _ (p := ⟨w.heap.size, 0, none⟩) rfl _).trans (KpC.setCell (S := fun k => k = w.heap.size) _ (p := ⟨w.heap.size, 1, none⟩) rfl _)).trans (KpC.setCell (S := fun k => k = w.heap.size) _ (p := ⟨w.heap.size, 2, none⟩) rfl _)) (fun g hg e => by
            have := HVB.out g hg
            omega)
        have hBf := ((HB6.out.setCell (p := ⟨w.heap.size, 0, none⟩) (Nat.le_refl _) (.string nm)).setCell (p := ⟨w.heap.size, 1, none⟩) (Nat.le_refl _) (.int .i64 sz)).setCell (p := ⟨w.heap.size, 2, none⟩) (Nat.le_refl _) (.slice A xs.length c)
        refine bodyPost_ret (results_cell_row_tmp rfl _ _ w.heap.size 67 _ (0, 0) _ rfl hRf Tryd.underlying67 rfl (by kernel_rfl)) rfl ⟨_, rfl, hvf, fun g hg => Nat.le_of_lt (HVB.out g hg), hBf⟩
end Go.Proofs.YtmbjflcmbenbdaaDoor
