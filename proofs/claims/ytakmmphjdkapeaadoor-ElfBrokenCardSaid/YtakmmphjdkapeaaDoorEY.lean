/- The reference of layer 8: Parse. -/
import Derived.Test.YtakmmphjdkapeaaDoorEW
import Derived.Deep.RegionHeld3
namespace Go.Proofs.YtakmmphjdkapeaaDoor
open Go.RowKit
set_option linter.unusedVariables false
set_option linter.unusedSimpArgs false

/-- What is told: the result's block, the image's, and what is kept. -/
structure Pm (w : World) (B : Nat) (kind entry : Int) (v : Value) (wr : World) : Prop where
  r : Blk wr w.heap.size 24 #[.int .i64 0, .int .i64 0, .slice none 0 0]
  x : Blk wr B 24 #[.int .i64 kind, .int .i64 entry, v]
  b : Below w.heap.size w wr
theorem Pm.below {w wr w2 : World} {B : Nat} {kind entry : Int} {v : Value} (h : Pm w B kind entry v wr) (hb : Below wr.heap.size wr w2) : Pm w B kind entry v w2 := ⟨h.r.below hb h.r.lt, h.x.below hb h.x.lt, h.b.trans (hb.mono h.b.size)⟩
theorem Pm.alloc {w wr : World} {B : Nat} {kind entry : Int} {v : Value} (h : Pm w B kind entry v wr) (o : Obj) : Pm w B kind entry v (wr.alloc o) := ⟨h.r.alloc o, h.x.alloc o, h.b.alloc h.b.size o⟩
theorem Pm.drew {w wr : World} {B : Nat} {kind entry : Int} {v : Value} (h : Pm w B kind entry v wr) : Pm w B kind entry v wr.drew := ⟨h.r.drew, h.x.drew, h.b.drew⟩
theorem Pm.grown {w wr w2 : World} {B : Nat} {kind entry : Int} {v : Value} {row : Option Nat} (h : Pm w B kind entry v wr) (hg : wr.grownBy w2 row) (hB : w.heap.size < B) (hr : ∀ k, row = some k → B < k) : Pm w B kind entry v w2 :=
  ⟨h.r.grown hg (fun e => by have := hr _ e.symm; omega), h.x.grown hg (fun e => by have := hr _ e.symm; omega), h.b.grown hg h.b.size (fun k e => by have := hr k e; omega)⟩
theorem Pm.set2 {w wr : World} {B : Nat} {kind entry : Int} {v : Value} (h : Pm w B kind entry v wr) (hB : w.heap.size < B) (v2 : Value) : Pm w B kind entry v2 (wr.setCell ⟨B, 2, none⟩ v2) :=
  ⟨h.r.but ((But.refl (· = B) wr).setCell (p := ⟨B, 2, none⟩) (.inl rfl) v2) (by omega), by simpa using h.x.set_ 2 v2, h.b.setCell (p := ⟨B, 2, none⟩) (Nat.le_of_lt hB) v2⟩
theorem rsegsAt_wf (s : ByteArray) (k : Nat) : ∀ t, t ∈ rsegsAt s k → t.wf := fun t ht => by
  obtain ⟨i, -, rfl⟩ := List.mem_map.1 ht
  exact rsegAt_wf _ _
theorem Pm.cx {w wr : World} {B : Nat} {kind entry : Int} {v : Value} (h : Pm w B kind entry v wr) : wr.cell? ⟨B, 0, none⟩ = some (.int .i64 kind) ∧ wr.cell? ⟨B, 1, none⟩ = some (.int .i64 entry) ∧ wr.cell? ⟨B, 2, none⟩ = some v := ⟨h.x.at_ 0 _ rfl, h.x.at_ 1 _ rfl, h.x.at_ 2 _ rfl⟩
theorem Pm.cr {w wr : World} {B : Nat} {kind entry : Int} {v : Value} (h : Pm w B kind entry v wr) : (wr.cell? ⟨w.heap.size, 0, none⟩ = some (.int .i64 0) ∧ wr.cell? ⟨w.heap.size, 1, none⟩ = some (.int .i64 0) ∧ wr.cell? ⟨w.heap.size, 2, none⟩ = some (.slice none 0 0)) ∧
    wr.frozen? ⟨w.heap.size, 0, none⟩ = false ∧ wr.frozen? ⟨w.heap.size, 1, none⟩ = false ∧ wr.frozen? ⟨w.heap.size, 2, none⟩ = false := ⟨⟨h.r.at_ 0 _ rfl, h.r.at_ 1 _ rfl, h.r.at_ 2 _ rfl⟩, h.r.frozen 0, h.r.frozen 1, h.r.frozen 2⟩
/-- Nothing is told. -/
theorem Pm.nothing {w wr : World} {B : Nat} {kind entry : Int} {v : Value} (h : Pm w B kind entry v wr) :
    Blk (((wr.setCell ⟨w.heap.size, 0, none⟩ (.int .i64 0)).setCell ⟨w.heap.size, 1, none⟩ (.int .i64 0)).setCell ⟨w.heap.size, 2, none⟩ (.slice none 0 0)) w.heap.size 24 #[.int .i64 0, .int .i64 0, .slice none 0 0] ∧
      Below w.heap.size w (((wr.setCell ⟨w.heap.size, 0, none⟩ (.int .i64 0)).setCell ⟨w.heap.size, 1, none⟩ (.int .i64 0)).setCell ⟨w.heap.size, 2, none⟩ (.slice none 0 0)) :=
  ⟨img_set h.r rfl _ _ _, ((h.b.setCell (p := ⟨w.heap.size, 0, none⟩) (Nat.le_refl _) _).setCell (p := ⟨w.heap.size, 1, none⟩) (Nat.le_refl _) _).setCell (p := ⟨w.heap.size, 2, none⟩) (Nat.le_refl _) _⟩
theorem imgET_none {w W5 : World} {f : ByteArray} {e : Ending} (hp : parseB f = false) (he : e = .returned (.tuple #[.agg #[.int .i64 0, .int .i64 0, .slice none 0 0], .int .i64 16])) (hb : Below w.heap.size w W5) : ImgET w (parseX f) (parseE f) e W5 := by
  subst he
  unfold ImgET parseX parseE
  rw [hp]
  exact ⟨none, 0, rfl, fun i hi => absurd hi (by simp [Img.zero]), (fun ad e => by cases e), hb⟩

set_option maxRecDepth 100000 in
set_option maxHeartbeats 3200000 in
theorem rparse_any (f : ByteArray) (w : World) (hs : f.size ≤ 281474976710656) : Calls Tryd.prog 20 #[.string f] w (ImgET w (parseX f) (parseE f)) := by
  have HGA := Lib.hid (fun (a n : Nat) (w : World) (ha : a ≤ 1000000000000) (hn : n ≤ 100) => rgetr_any f a n w ha hn hs)
  have HG1 := Lib.hid (show ∀ w, Calls Tryd.prog 43 #[.string f, .int .i64 16, .int .i64 2] w fun e w' => e = .returned (.int .i64 (getR f 16 2)) ∧ w = w' from fun w => HGA.out 16 2 w (by omega) (by omega))
  have HG2 := Lib.hid (show ∀ w, Calls Tryd.prog 43 #[.string f, .int .i64 24, .int .i64 8] w fun e w' => e = .returned (.int .i64 (getR f 24 8)) ∧ w = w' from fun w => HGA.out 24 8 w (by omega) (by omega))
  have HG3 := Lib.hid (show ∀ w, Calls Tryd.prog 43 #[.string f, .int .i64 56, .int .i64 2] w fun e w' => e = .returned (.int .i64 (getR f 56 2)) ∧ w = w' from fun w => HGA.out 56 2 w (by omega) (by omega))
  have hno := fun h => parse_none (f := f) h
  have hyes := fun n (h : getR f 56 2 = ((n : Nat) : Int)) => parse_ref (f := f) h
  have hkw := getR_wf f 16 2
  have hew := getR_wf f 24 8
  have hrk : ∀ n, (rImg f n).kind = getR f 16 2 ∧ (rImg f n).entry = getR f 24 8 ∧ (rImg f n).segs = rsegsAt f n := fun n => ⟨rfl, rfl, rfl⟩
  have HCK := Lib.hid (fun n v A c (hr : SegRow v A (rsegsAt f n)) (hl : n ≤ 16) => rcheck_any (rImg f n) A c f.size v hr (by show (rsegsAt f n).length ≤ 1000; rw [rsegsAt_length]; omega) (i64_wf (by omega)))
  have HHD := Lib.hid (fun n v A c (hr : SegRow v A (rsegsAt f n)) (hl : n ≤ 16) => rheader_any (rImg f n) A c v hkw hew hr (by show (rsegsAt f n).length ≤ 1000; rw [rsegsAt_length]; omega))
  have hvx : ∀ n A c, (rImg f n).v A c = .agg #[.int .i64 (getR f 16 2), .int .i64 (getR f 24 8), .slice A n c] := fun n A c => by unfold Img.v rImg; simp only [rsegsAt_length]
  simp only [hvx] at HCK HHD
  have HPZ := Lib.hid (fun (n : Nat) (h : 64 + 56 * n ≤ f.size) => plain_zero (f := f) (x := rImg f n) (rsegsAt_length _ _) h)
  have HPS := Lib.hid (fun (n k : Nat) (hk : k < n) => plain_succ (f := f) (x := rImg f n) (rsegsAt_length _ _) hk (s := rsegAt f (64 + 56 * k)) (by show (rsegsAt f n)[k]'_ = _; simp [rsegsAt]))
  have HPN := Lib.hid (fun (n k : Nat) (hk : k ≤ n) (h : 64 + 56 * n ≤ f.size) => plain_size (f := f) (x := rImg f n) (rsegsAt_length _ _) hk h)
  obtain ⟨kind, hkd⟩ : ∃ z, getR f 16 2 = z := ⟨_, rfl⟩
  obtain ⟨entry, hen⟩ : ∃ z, getR f 24 8 = z := ⟨_, rfl⟩
  obtain ⟨m, hm⟩ : ∃ z, getR f 56 2 = z := ⟨_, rfl⟩
  rw [hkd] at HG1 HCK HHD hvx
  rw [hen] at HG2 HCK HHD hvx
  rw [hm] at HG3 hno hyes
  have hmw := bounds_i64 (hm ▸ getR_wf f 56 2)
  clear hrk
  obtain ⟨B, hB⟩ : ∃ B, w.heap.size + 1 = B := ⟨_, rfl⟩
  obtain ⟨W, hW⟩ : ∃ W, (w.alloc (.cells #[.int .i64 0, .int .i64 0, .slice none 0 0] 24)).alloc (.cells #[.int .i64 kind, .int .i64 entry, .slice none 0 0] 24) = W := ⟨_, rfl⟩
  have hM : Pm w B kind entry (.slice none 0 0) W := by
    rw [← hW, ← hB]
    exact ⟨(Blk.new w _ _).alloc _, by simpa using Blk.new (w.alloc (.cells #[.int .i64 0, .int .i64 0, .slice none 0 0] 24)) 24 #[.int .i64 kind, .int .i64 entry, .slice none 0 0], ((Below.refl _ _).alloc (Nat.le_refl _) _).alloc (by simp) _⟩
  have hWs : W.heap.size = B + 1 := by rw [← hW, ← hB]; simp
  have HW := Lib.hid hW
  have HB := Lib.hid hB
  have hf0 := hM.r.frozen 0
  have hf1 := hM.r.frozen 1
  have hf2 := hM.r.frozen 2
  have hc0 := hM.r.at_ 0 _ rfl
  have hc1 := hM.r.at_ 1 _ rfl
  have hc2 := hM.r.at_ 2 _ rfl
  clear hW
  by_cases hmn : 1 ≤ m ∧ m ≤ 16
  case neg =>
    have hp := hno (fun h => hmn ⟨h.1, h.2.1⟩)
    have HFIN := Lib.hid (And.intro hM.nothing hp)
    clear hno hyes hp HCK HHD HPZ HPS HPN hvx hM
    by_cases h1 : m < 1
    · go_enter Tryd.func20, Tryd.ntmps20
      go_upto_region 3 with (first
        | (go_at_call 43; with_reducible refine (HG1.out _).mono ?_; rintro e v1 ⟨rfl, rfl⟩)
        | (go_at_call 43; with_reducible refine (HG2.out _).mono ?_; rintro e v1 ⟨rfl, rfl⟩)
        | (go_at_call 43; with_reducible refine (HG3.out _).mono ?_; rintro e v1 ⟨rfl, rfl⟩))
      rw [HW.out]
      try rw [HB.out]
      go_wp2
      refine bodyPost_ret (results_img_tmp rfl _ _ w.heap.size 24 _ (0, 0) _ rfl HFIN.out.1.1 Tryd.underlying24 rfl (by kernel_rfl)) rfl ?_
      exact imgET_none HFIN.out.2 rfl HFIN.out.1.2
    · have h2 : 16 < m := by omega
      go_enter Tryd.func20, Tryd.ntmps20
      go_upto_region 3 with (first
        | (go_at_call 43; with_reducible refine (HG1.out _).mono ?_; rintro e v1 ⟨rfl, rfl⟩)
        | (go_at_call 43; with_reducible refine (HG2.out _).mono ?_; rintro e v1 ⟨rfl, rfl⟩)
        | (go_at_call 43; with_reducible refine (HG3.out _).mono ?_; rintro e v1 ⟨rfl, rfl⟩))
      rw [HW.out]
      try rw [HB.out]
      go_wp2
      refine bodyPost_ret (results_img_tmp rfl _ _ w.heap.size 24 _ (0, 0) _ rfl HFIN.out.1.1 Tryd.underlying24 rfl (by kernel_rfl)) rfl ?_
      exact imgET_none HFIN.out.2 rfl HFIN.out.1.2
  obtain ⟨n, rfl⟩ : ∃ n : Nat, m = (n : Int) := ⟨m.toNat, by omega⟩
  have hn1 : 1 ≤ n := by omega
  have hn2 : n ≤ 16 := by omega
  clear hmn hmw
  obtain ⟨M56, hM56⟩ : ∃ M, 56 * n = M := ⟨_, rfl⟩
  obtain ⟨N, hN⟩ : ∃ N, 64 + M56 = N := ⟨_, rfl⟩
  have i1 : IntKind.i64.wrap (56 * (n : Int)) = (M56 : Int) := by rw [IntWalk.i64_in _ (by omega)]; omega
  have i2 : IntKind.i64.wrap (64 + (M56 : Int)) = (N : Int) := by rw [IntWalk.i64_in _ (by omega)]; omega
  by_cases hNs : N ≤ f.size
  case neg =>
    have hp := hno (fun h => hNs (by omega))
    have HFIN := Lib.hid (And.intro hM.nothing hp)
    have hlt : (f.size : Int) < (N : Int) := by omega
    clear hno hyes hp HCK HHD HPZ HPS HPN hvx hM
    go_enter Tryd.func20, Tryd.ntmps20
    go_upto_region 3 with (first
      | (go_at_call 43; with_reducible refine (HG1.out _).mono ?_; rintro e v1 ⟨rfl, rfl⟩)
      | (go_at_call 43; with_reducible refine (HG2.out _).mono ?_; rintro e v1 ⟨rfl, rfl⟩)
      | (go_at_call 43; with_reducible refine (HG3.out _).mono ?_; rintro e v1 ⟨rfl, rfl⟩))
    rw [HW.out]
    try rw [HB.out]
    go_wp2
    refine bodyPost_ret (results_img_tmp rfl _ _ w.heap.size 24 _ (0, 0) _ rfl HFIN.out.1.1 Tryd.underlying24 rfl (by kernel_rfl)) rfl ?_
    exact imgET_none HFIN.out.2 rfl HFIN.out.1.2
  have hN56 : N = 64 + 56 * n := by omega
  have hfit : 64 + 56 * n ≤ f.size := by omega
  obtain ⟨PL, hPL⟩ : ∃ PL : Nat → ByteArray, ∀ k, plainS f (rImg f n) n k = PL k := ⟨fun k => plainS f (rImg f n) n k, fun _ => rfl⟩
  have hyes := hyes n rfl hn1 hn2 hfit
  have hP0 := HPZ.out n hfit
  have hPS := fun k hk => HPS.out n k hk
  have hPN := fun k hk => HPN.out n k hk hfit
  simp only [hPL] at hyes hP0 hPS hPN
  clear hPL HPZ HPS HPN hno
  have hZ12 := fun w => rfill_any ⟨#[]⟩ 12 w (by decide) (by decide) (by decide)
  rw [show fillS ⟨#[]⟩ 12 = mkb (List.replicate 12 0) by decide +kernel] at hZ12
  have hZ6 := fun w => rfill_any ⟨#[]⟩ 6 w (by decide) (by decide) (by decide)
  rw [show fillS ⟨#[]⟩ 6 = mkb (List.replicate 6 0) by decide +kernel] at hZ6
  have HYES := Lib.hid hyes
  have HPS := Lib.hid hPS
  have HPN := Lib.hid hPN
  clear hyes hPS hPN
  have hfl : f.data.toList.length = f.size := len_data _
  have sA1 : (f.extract 0 40).size = 40 := by rw [extract_mkb, mkb_size, List.length_take, List.length_drop, hfl]; omega
  have sA3 : (f.extract 52 58).size = 6 := by rw [extract_mkb, mkb_size, List.length_take, List.length_drop, hfl]; omega
  have sA6 : (f.extract 64 N).size = M56 := by rw [extract_mkb, mkb_size, List.length_take, List.length_drop, hfl]; omega
  have sZ12 : (mkb (List.replicate 12 0)).size = 12 := by rw [mkb_size, List.length_replicate]
  have sZ6 : (mkb (List.replicate 6 0)).size = 6 := by rw [mkb_size, List.length_replicate]
  have hcat : f.extract 0 40 ++ mkb (List.replicate 12 0) ++ f.extract 52 58 ++ mkb (List.replicate 6 0) ++ f.extract 64 N = PL 0 := by
    rw [hP0]
    simp only [extract_mkb, mkb_append]
    rw [show N - 64 = 56 * n by omega]
    simp
  obtain ⟨A1, hA1⟩ : ∃ A, f.extract 0 40 = A := ⟨_, rfl⟩
  obtain ⟨A3, hA3⟩ : ∃ A, f.extract 52 58 = A := ⟨_, rfl⟩
  obtain ⟨A6, hA6⟩ : ∃ A, f.extract 64 N = A := ⟨_, rfl⟩
  obtain ⟨Q0, hQ0⟩ : ∃ Q, PL 0 = Q := ⟨_, rfl⟩
  rw [hA1] at sA1 hcat
  rw [hA3] at sA3 hcat
  rw [hA6] at sA6 hcat
  rw [hQ0] at hcat
  generalize mkb (List.replicate 12 0) = Z12 at *
  generalize mkb (List.replicate 6 0) = Z6 at *
  obtain ⟨A2, hA2⟩ : ∃ A, A1 ++ Z12 = A := ⟨_, rfl⟩
  have sA2 : A2.size = 52 := cat_of hA2 sA1 sZ12
  rw [hA2] at hcat
  obtain ⟨A4, hA4⟩ : ∃ A, A2 ++ A3 = A := ⟨_, rfl⟩
  have sA4 : A4.size = 58 := cat_of hA4 sA2 sA3
  rw [hA4] at hcat
  obtain ⟨A5, hA5⟩ : ∃ A, A4 ++ Z6 = A := ⟨_, rfl⟩
  have sA5 : A5.size = 64 := cat_of hA5 sA4 sZ6
  rw [hA5] at hcat
  have b1 : (40 : Int) ≤ (f.size : Int) := by omega
  have b2 : (58 : Int) ≤ (f.size : Int) := by omega
  have b3 : (N : Int) ≤ (f.size : Int) := by omega
  have b4 : (64 : Int) ≤ (N : Int) := by omega
  have b5 : Not (9223372036854775807 < 64 + M56) := by omega
  have b6 : Not ((f.size : Int) < (N : Int)) := by omega
  have HZ12 := Lib.hid hZ12
  have HZ6 := Lib.hid hZ6
  have HQ0 := Lib.hid hQ0
  have HNN := Lib.hid (And.intro hN56 hM56)
  clear hZ12 hZ6 hP0 hfl hQ0 hM56 hN56 hN
  clear hf0 hf1 hf2 hc0 hc1 hc2
  go_enter Tryd.func20, Tryd.ntmps20
  go_upto_region 3 with (first
    | (go_at_call 43; with_reducible refine (HG1.out _).mono ?_; rintro e v1 ⟨rfl, rfl⟩)
    | (go_at_call 43; with_reducible refine (HG2.out _).mono ?_; rintro e v1 ⟨rfl, rfl⟩)
    | (go_at_call 43; with_reducible refine (HG3.out _).mono ?_; rintro e v1 ⟨rfl, rfl⟩))
  rw [HW.out]
  try rw [HB.out]
  go_upto_region 8 with fail
  have hN8 := Lib.hid hM.drew
  have HM0 := Lib.hid hM
  clear hM
  go_region_held3 (fun w' => Hid (Pm w B kind entry (.slice none 0 0) w'))
    (first | exact hN8)
    (first
    | (rename Hid (Pm w B kind entry (.slice none 0 0) _) => kz; go_at_call 25; with_reducible refine (HZ12.out _).mono ?_; rintro e v1 ⟨rfl, hb⟩; have hN8 := Lib.hid (kz.out.below hb); clear hb kz)
    | (rename Hid (Pm w B kind entry (.slice none 0 0) _) => kz; go_at_call 25; with_reducible refine (HZ6.out _).mono ?_; rintro e v1 ⟨rfl, hb⟩; have hN8 := Lib.hid (kz.out.below hb); clear hb kz))
  rename Hid (Pm w B kind entry (.slice none 0 0) _) => kz
  have ho0 := World.ownsRow_nil v1 (B + 1) 47 7
  have hBw : w.heap.size < B := by rw [← HB.out]; exact Nat.lt_succ_self _
  clear hcat hA1 hA2 hA3 hA4 hA5 hA6 sA1 sA2 sA3 sA4 sA5 sA6 sZ12 sZ6 b1 b2 b3 b4 b5 b6 HZ12 HZ6 hN8
  have HVX := Lib.hid hvx
  clear hyes hvx hkd hen hm hfit hkw hew
  clear hB hWs HW HM0 HB HG1 HG2 HG3
  obtain ⟨i0, hi, hz0, hz1, hz2⟩ := info_parts infoSeg
  go_wp2
  go_loopw [6, 7] (fun pl i wr => ∃ (k : Nat) (v : Value), k ≤ n ∧ i = .int .i64 k ∧ pl = .string (PL k) ∧ Hid (Pm w B kind entry v wr) ∧ Hid (wr.ownsRow (B + 1) 47 7 v k (segCells (rsegsAt f k)))) (fun _ i _ => n - (intOf i).toNat)
  case atStart => exact ⟨0, _, Nat.zero_le _, rfl, by rw [HQ0.out], kz, Lib.hid ho0⟩
  case round =>
    clear kz ho0
    obtain ⟨k, v, hk, rfl, rfl, kz, ho⟩ := hrel
    by_cases hlt : k < n
    · obtain ⟨K56, hK56⟩ : ∃ K, 56 * k = K := ⟨_, rfl⟩
      obtain ⟨P, hP⟩ : ∃ P, 64 + K56 = P := ⟨_, rfl⟩
      obtain ⟨P4, hP4⟩ : ∃ Q, P + 4 = Q := ⟨_, rfl⟩
      obtain ⟨P8, hP8⟩ : ∃ Q, P + 8 = Q := ⟨_, rfl⟩
      obtain ⟨P16, hP16⟩ : ∃ Q, P + 16 = Q := ⟨_, rfl⟩
      obtain ⟨P24, hP24⟩ : ∃ Q, P + 24 = Q := ⟨_, rfl⟩
      obtain ⟨P32, hP32⟩ : ∃ Q, P + 32 = Q := ⟨_, rfl⟩
      obtain ⟨P40, hP40⟩ : ∃ Q, P + 40 = Q := ⟨_, rfl⟩
      obtain ⟨P48, hP48⟩ : ∃ Q, P + 48 = Q := ⟨_, rfl⟩
      have w0 : IntKind.i64.wrap (56 * (k : Int)) = (K56 : Int) := by rw [IntWalk.i64_in _ (by omega)]; omega
      have w1 : IntKind.i64.wrap (64 + (K56 : Int)) = (P : Int) := by rw [IntWalk.i64_in _ (by omega)]; omega
      have w4 : IntKind.i64.wrap ((P : Int) + 4) = (P4 : Int) := by rw [IntWalk.i64_in _ (by omega)]; omega
      have w8 : IntKind.i64.wrap ((P : Int) + 8) = (P8 : Int) := by rw [IntWalk.i64_in _ (by omega)]; omega
      have w16 : IntKind.i64.wrap ((P : Int) + 16) = (P16 : Int) := by rw [IntWalk.i64_in _ (by omega)]; omega
      have w24 : IntKind.i64.wrap ((P : Int) + 24) = (P24 : Int) := by rw [IntWalk.i64_in _ (by omega)]; omega
      have w32 : IntKind.i64.wrap ((P : Int) + 32) = (P32 : Int) := by rw [IntWalk.i64_in _ (by omega)]; omega
      have w40 : IntKind.i64.wrap ((P : Int) + 40) = (P40 : Int) := by rw [IntWalk.i64_in _ (by omega)]; omega
      have w48 : IntKind.i64.wrap ((P : Int) + 48) = (P48 : Int) := by rw [IntWalk.i64_in _ (by omega)]; omega
      have hsg : rsegAt f (64 + 56 * k) = ⟨getR f P 4, getR f P4 4, getR f P8 8, getR f P16 8, getR f P32 8, getR f P40 8, getR f P48 8⟩ := by
        subst hP4 hP8 hP16 hP32 hP40 hP48 hP hK56
        rfl
      have hwf3 := getR_wf f P16 8
      have H0 := Lib.hid (show ∀ w, Calls Tryd.prog 43 #[.string f, .int .i64 (P : Int), .int .i64 4] w fun e w' => e = .returned (.int .i64 (getR f P 4)) ∧ w = w' from fun w => HGA.out P 4 w (by omega) (by omega))
      have H1 := Lib.hid (show ∀ w, Calls Tryd.prog 43 #[.string f, .int .i64 (P4 : Int), .int .i64 4] w fun e w' => e = .returned (.int .i64 (getR f P4 4)) ∧ w = w' from fun w => HGA.out P4 4 w (by omega) (by omega))
      have H2 := Lib.hid (show ∀ w, Calls Tryd.prog 43 #[.string f, .int .i64 (P8 : Int), .int .i64 8] w fun e w' => e = .returned (.int .i64 (getR f P8 8)) ∧ w = w' from fun w => HGA.out P8 8 w (by omega) (by omega))
      have H3 := Lib.hid (show ∀ w, Calls Tryd.prog 43 #[.string f, .int .i64 (P16 : Int), .int .i64 8] w fun e w' => e = .returned (.int .i64 (getR f P16 8)) ∧ w = w' from fun w => HGA.out P16 8 w (by omega) (by omega))
      have H4 := Lib.hid (show ∀ w, Calls Tryd.prog 43 #[.string f, .int .i64 (P32 : Int), .int .i64 8] w fun e w' => e = .returned (.int .i64 (getR f P32 8)) ∧ w = w' from fun w => HGA.out P32 8 w (by omega) (by omega))
      have H5 := Lib.hid (show ∀ w, Calls Tryd.prog 43 #[.string f, .int .i64 (P40 : Int), .int .i64 8] w fun e w' => e = .returned (.int .i64 (getR f P40 8)) ∧ w = w' from fun w => HGA.out P40 8 w (by omega) (by omega))
      have H6 := Lib.hid (show ∀ w, Calls Tryd.prog 43 #[.string f, .int .i64 (P48 : Int), .int .i64 8] w fun e w' => e = .returned (.int .i64 (getR f P48 8)) ∧ w = w' from fun w => HGA.out P48 8 w (by omega) (by omega))
      have hsucc : segCells (rsegsAt f (k + 1)) = segCells (rsegsAt f k) ++ [.int .i64 (getR f P 4), .int .i64 (getR f P4 4), .int .i64 (getR f P8 8), .int .i64 (getR f P16 8), .int .i64 (getR f P32 8), .int .i64 (getR f P40 8), .int .i64 (getR f P48 8)] := by
        rw [rsegsAt_succ, segCells_snoc, hsg]
      have hps := HPS.out k hlt
      rw [hsg, show 64 + 56 * k + 24 = P24 by omega, show 64 + 56 * k + 32 = P32 by omega] at hps
      simp only at hps
      have hpn := HPN.out k hk
      rw [show 64 + 56 * n = N from HNN.out.1.symm] at hpn
      obtain ⟨M3, hM3⟩ : ∃ M, N - P32 = M := ⟨_, rfl⟩
      have hN3 : P32 + M3 = N := by have := HNN.out.1; omega
      obtain ⟨cz, hcz⟩ : ∃ cz, segCells (rsegsAt f k) = cz := ⟨_, rfl⟩
      rw [hcz] at hsucc ho
      generalize getR f P 4 = z0 at *
      generalize getR f P4 4 = z1 at *
      generalize getR f P8 8 = z2 at *
      generalize getR f P16 8 = z3 at *
      generalize getR f P32 8 = z4 at *
      generalize getR f P40 8 = z5 at *
      generalize getR f P48 8 = z6 at *
      have HPUT := Lib.hid (show ∀ w, Calls Tryd.prog 39 #[.int .i64 z3, .int .i64 8] w fun e w' => e = .returned (.string (mkb (numL z3 8))) ∧ Below w.heap.size w w' from fun w => rputn_any z3 8 w hwf3 (by omega))
      obtain ⟨Q, hQ⟩ : ∃ Q, PL k = Q := ⟨_, rfl⟩
      rw [hQ] at hps hpn
      rw [hQ]
      have sE1 : (Q.extract 0 P24).size = P24 := by rw [extract_mkb, mkb_size, List.length_take, List.length_drop, len_data]; omega
      have sE3 : (Q.extract P32 N).size = M3 := by rw [extract_mkb, mkb_size, List.length_take, List.length_drop, len_data]; omega
      have hcat : Q.extract 0 P24 ++ mkb (numL z3 8) ++ Q.extract P32 N = PL (k + 1) := by
        rw [hps]
        simp only [extract_mkb, mkb_append]
        rw [List.take_of_length_le (l := Q.data.toList.drop P32) (by rw [List.length_drop, len_data]; omega)]
        simp
      have sD := numL_size z3 8
      obtain ⟨E1, hE1⟩ : ∃ E, Q.extract 0 P24 = E := ⟨_, rfl⟩
      obtain ⟨E3, hE3⟩ : ∃ E, Q.extract P32 N = E := ⟨_, rfl⟩
      rw [hE1] at sE1 hcat
      rw [hE3] at sE3 hcat
      generalize mkb (numL z3 8) = D at *
      obtain ⟨E2, hE2⟩ : ∃ E, E1 ++ D = E := ⟨_, rfl⟩
      have sE2 : E2.size = P32 := by rw [cat_of hE2 sE1 sD]; omega
      rw [hE2] at hcat
      obtain ⟨Q2, hQ2⟩ : ∃ Q, PL (k + 1) = Q := ⟨_, rfl⟩
      rw [hQ2] at hcat
      have b1 : (P24 : Int) ≤ (N : Int) := by omega
      have b2 : (P32 : Int) ≤ (N : Int) := by omega
      have b3 : Not (9223372036854775807 < P24 + 8) := by omega
      have b4 : Not (9223372036854775807 < P32 + M3) := by omega
      have HQ2 := Lib.hid hQ2
      have HSU := Lib.hid hsucc
      obtain ⟨g, hg⟩ : ∃ g, wr.heap.size = g := ⟨_, rfl⟩
      obtain ⟨W1, hW1⟩ : ∃ W1, wr.alloc (.cells #[.int .i64 z0, .int .i64 z1, .int .i64 z2, .int .i64 z3, .int .i64 z4, .int .i64 z5, .int .i64 z6] 47) = W1 := ⟨_, rfl⟩
      have k1 : Pm w B kind entry v W1 := by rw [← hW1]; exact kz.out.alloc _
      have hown : W1.ownsRow (B + 1) 47 7 v k cz := by rw [← hW1]; exact ho.out.alloc _
      have hblk : Blk W1 g 47 #[.int .i64 z0, .int .i64 z1, .int .i64 z2, .int .i64 z3, .int .i64 z4, .int .i64 z5, .int .i64 z6] := by rw [← hW1, ← hg]; exact Blk.new _ _ _
      have hgo : ∀ j, v.ownBlock = some j → B < j ∧ j < g := fun j e => by have := ho.out.lt j e; omega
      have hgB : B < g := by rw [← hg]; exact kz.out.x.lt
      have HWS := Lib.hid (show W1.heap.size = g + 1 from by rw [← hW1, ← hg]; simp)
      have x2 : W1.cell? ⟨B, 2, none⟩ = some v := k1.x.at_ 2 _ rfl
      have y0 : W1.cell? ⟨g, 0, none⟩ = some (.int .i64 z0) := hblk.at_ 0 _ rfl
      have y1 : W1.cell? ⟨g, 1, none⟩ = some (.int .i64 z1) := hblk.at_ 1 _ rfl
      have y2 : W1.cell? ⟨g, 2, none⟩ = some (.int .i64 z2) := hblk.at_ 2 _ rfl
      have y3 : W1.cell? ⟨g, 3, none⟩ = some (.int .i64 z3) := hblk.at_ 3 _ rfl
      have y4 : W1.cell? ⟨g, 4, none⟩ = some (.int .i64 z4) := hblk.at_ 4 _ rfl
      have y5 : W1.cell? ⟨g, 5, none⟩ = some (.int .i64 z5) := hblk.at_ 5 _ rfl
      have y6 : W1.cell? ⟨g, 6, none⟩ = some (.int .i64 z6) := hblk.at_ 6 _ rfl
      have HG := Lib.hid hg
      have HW1 := Lib.hid hW1
      have K1 := Lib.hid k1
      have HOWN := Lib.hid hown
      have HBLK := Lib.hid hblk
      have HGO := Lib.hid hgo
      clear kz ho k1 hown hblk hgo hg hW1 hps hsg hsucc hcz hwf3 hP4 hP8 hP16 hP24 hP32 hP40 hP48 hP hK56 hM3 hN3 hQ hQ2
      go_upto_region 14 with (first
        | (go_at_call 43; with_reducible refine (H0.out _).mono ?_; rintro e v1 ⟨rfl, rfl⟩)
        | (go_at_call 43; with_reducible refine (H1.out _).mono ?_; rintro e v1 ⟨rfl, rfl⟩)
        | (go_at_call 43; with_reducible refine (H2.out _).mono ?_; rintro e v1 ⟨rfl, rfl⟩)
        | (go_at_call 43; with_reducible refine (H3.out _).mono ?_; rintro e v1 ⟨rfl, rfl⟩)
        | (go_at_call 43; with_reducible refine (H4.out _).mono ?_; rintro e v1 ⟨rfl, rfl⟩)
        | (go_at_call 43; with_reducible refine (H5.out _).mono ?_; rintro e v1 ⟨rfl, rfl⟩)
        | (go_at_call 43; with_reducible refine (H6.out _).mono ?_; rintro e v1 ⟨rfl, rfl⟩))
      rw [HW1.out]
      try rw [HG.out]
      clear HYES HCK HHD HPS HPN
      go_wp2_with (at_builtin; refine Hid.out ?_)
      refine Lib.hid ?_
      refine wpList_append_own _ rfl _ _ 22 rfl (B + 1) 47 i0 _ 7 56 Tryd.underlying22 hi hz0 hz1 hz2 rfl (by decide) _ _ _ rfl (HOWN.out.alloc _) ⟨W1.heap.size, 0, none⟩ 1 1 [.int .i64 z0, .int .i64 z1, .int .i64 z2, .int .i64 z3, .int .i64 z4, .int .i64 z5, .int .i64 z6] rfl (by rfl) (fun j u hj => by rw [show (⟨W1.heap.size, 0, none⟩ : Addr).add j = ⟨W1.heap.size, j, none⟩ by unfold Addr.add; split <;> simp_all]; exact (Blk.new W1 _ _).at_ j u (by simpa using hj)) (fun u hu => by simp at hu; rcases hu with rfl | rfl | rfl | rfl | rfl | rfl | rfl <;> rfl) (by unfold maxLen; omega) (by omega) (by have := HWS.out; simp; omega) ?_
      intro v' w1 hown1 hgrow1 _
      have k3 : Pm w B kind entry v w1 := (K1.out.alloc _).grown hgrow1 hBw (fun j e => (HGO.out j e).1)
      have hblk1 : Blk w1 g 47 #[.int .i64 z0, .int .i64 z1, .int .i64 z2, .int .i64 z3, .int .i64 z4, .int .i64 z5, .int .i64 z6] := (HBLK.out.alloc _).grown hgrow1 (fun e => absurd (HGO.out g e.symm).2 (Nat.lt_irrefl _))
      obtain ⟨ao, n', cap, rfl⟩ : ∃ ao n' cap, v' = .slice ao n' cap := by
        rcases hown1.2 with ⟨hv, _⟩ | ⟨g, cap, cur, hv, _⟩
        · exact ⟨_, _, _, hv⟩
        · exact ⟨_, _, _, hv⟩
      have q2 : w1.cell? ⟨B, 2, none⟩ = some v := k3.x.at_ 2 _ rfl
      have f2 : w1.frozen? ⟨B, 2, none⟩ = false := k3.x.frozen 2
      obtain ⟨W3, hW3⟩ : ∃ W3, w1.setCell ⟨B, 2, none⟩ (.slice ao n' cap) = W3 := ⟨_, rfl⟩
      have k4 : Pm w B kind entry (.slice ao n' cap) W3 := by rw [← hW3]; exact k3.set2 hBw _
      have own3 : W3.ownsRow (B + 1) 47 7 (.slice ao n' cap) (k + 1) (segCells (rsegsAt f (k + 1))) := by rw [← hW3, HSU.out]; exact own_setCell hown1 (p := ⟨B, 2, none⟩) (Nat.lt_succ_self _) _
      have hblk3 : Blk W3 g 47 #[.int .i64 z0, .int .i64 z1, .int .i64 z2, .int .i64 z3, .int .i64 z4, .int .i64 z5, .int .i64 z6] := by rw [← hW3]; exact hblk1.but ((But.refl (· = B) w1).setCell (p := ⟨B, 2, none⟩) (.inl rfl) _) (by omega)
      have K4 := Lib.hid k4.drew
      have O4 := Lib.hid (own_below own3 (Below.refl _ _).drew)
      have c3 : W3.drew.cell? ⟨g, 3, none⟩ = some (.int .i64 z3) := hblk3.at_ 3 _ rfl
      have hgl3 := hblk3.lt
      clear k3 hblk1 hown1 hgrow1 k4 own3 hblk3 y0 y1 y2 y3 y4 y5 y6 x2 HOWN K1 HBLK HGO
      go_upto_region 15 with fail
      clear q2 f2
      clear hW3
      have HGL := Lib.hid (show g < W3.drew.heap.size from hgl3)
      go_region_held3 (fun w' => w'.cell? ⟨g, 3, none⟩ = some (.int .i64 z3) ∧ Hid (Pm w B kind entry (.slice ao n' cap) w') ∧ Hid (w'.ownsRow (B + 1) 47 7 (.slice ao n' cap) (k + 1) (segCells (rsegsAt f (k + 1)))) ∧ Hid (g < w'.heap.size))
        (first | exact ⟨c3, K4, O4, HGL⟩)
        (first
        | (rcases ‹(_ : Prop) ∧ Hid _ ∧ Hid _ ∧ Hid _› with ⟨j0, j1, j2, j3⟩; go_at_call 39; with_reducible refine (HPUT.out _).mono ?_; rintro e v1 ⟨rfl, hb⟩
           have c3 := (hb.cell (p := ⟨g, 3, none⟩) j3.out).trans j0
           have K4 := Lib.hid (j1.out.below hb)
           have O4 := Lib.hid (own_below j2.out hb)
           have HGL := Lib.hid (Nat.lt_of_lt_of_le j3.out hb.size)
           clear hb j0 j1 j2 j3))
      all_goals
        rcases ‹(_ : Prop) ∧ Hid _ ∧ Hid _ ∧ Hid _› with ⟨j0, j1, j2, j3⟩
        clear HGL O4 K4 c3 j0 j3
        go_wp2
        go_roundw
        case rel => exact ⟨k + 1, _, by omega, by go_num, by rw [HQ2.out], j1, j2⟩
        case measure => simp [intOf]; omega
    · obtain rfl : k = n := by omega
      obtain ⟨A, c, rfl, hrow, hlow⟩ := SegRow.of_own ho.out (rsegsAt_wf f k)
      rw [rsegsAt_length] at kz ho
      have hck := HCK.out k
      have hhd := HHD.out k
      have hyes := HYES.out
      have herr : (rImg f k).err f.size = if (rImg f k).chk f.size then 0 else 16 := rfl
      rw [herr] at hck
      obtain ⟨ck, hckd⟩ : ∃ ck, (rImg f k).chk f.size = ck := ⟨_, rfl⟩
      rw [hckd] at hck hyes
      obtain ⟨HL, hHL⟩ : ∃ H, mkb (rImg f k).headL = H := ⟨_, rfl⟩
      rw [hHL] at hhd hyes
      obtain ⟨PN, hPN⟩ : ∃ H, PL k = H := ⟨_, rfl⟩
      rw [hPN] at hyes
      rw [hPN]
      have HCK2 := Lib.hid (fun v (hr : SegRow v A (rsegsAt f k)) => hck v A c hr hn2)
      have HHD2 := Lib.hid (fun v (hr : SegRow v A (rsegsAt f k)) => hhd v A c hr hn2)
      have ho := Lib.hid hrow
      have hrb := Lib.hid (fun v2 (hb : Below wr.heap.size wr v2) => hrow.below hb)
      have HY := Lib.hid hyes
      have HLOW := Lib.hid hlow
      obtain ⟨x0, x1, x2⟩ := kz.out.cx
      clear hck hhd hyes herr hckd hHL hPN hrow hlow HCK HHD HYES HPS HPN HQ0
      clear i1 i2 hNs HNN
      cases ck
      case false =>
        have HP := Lib.hid (show parseB f = false from by rw [HY.out.1]; rfl)
        go_wp2_with (go_at_call 13; with_reducible refine (HCK2.out _ ho.out).mono ?_; rintro e v2 ⟨rfl, hb⟩; have kz2 := kz.out.below hb; have ho2 := Lib.hid (hrb.out v2 hb); clear hb x0 x1 x2; obtain ⟨x0, x1, x2⟩ := kz2.cx; obtain ⟨⟨r0, r1, r2⟩, f0, f1, f2⟩ := kz2.cr)
        have HFIN := Lib.hid kz2.nothing
        refine bodyPost_ret (results_img_tmp rfl _ _ w.heap.size 24 _ (0, 0) _ rfl HFIN.out.1 Tryd.underlying24 rfl (by kernel_rfl)) rfl ?_
        exact imgET_none HP.out rfl HFIN.out.2
      case true =>
        by_cases hq : HL = PN
        case neg =>
          have HP := Lib.hid (show parseB f = false from by rw [HY.out.1, decide_eq_false hq]; rfl)
          have hq1 : (HL.toList == PN.toList) = false := by
            rw [beq_eq_false_iff_ne]
            intro h
            exact hq (by rw [← mkb_of HL, ← mkb_of PN, ← Lib.toList_data, ← Lib.toList_data, h])
          go_wp2_with (first
            | (go_at_call 13; with_reducible refine (HCK2.out _ ho.out).mono ?_; rintro e v2 ⟨rfl, hb⟩; have kz2 := kz.out.below hb; have ho2 := Lib.hid (hrb.out v2 hb); clear hb x0 x1 x2; obtain ⟨x0, x1, x2⟩ := kz2.cx; obtain ⟨⟨r0, r1, r2⟩, f0, f1, f2⟩ := kz2.cr)
            | (go_at_call 15; with_reducible refine (HHD2.out _ ho2.out).mono ?_; rintro e v3 ⟨rfl, hb⟩; have kz3 := kz2.below hb; clear hb x0 x1 x2 r0 r1 r2 f0 f1 f2; obtain ⟨x0, x1, x2⟩ := kz3.cx; obtain ⟨⟨r0, r1, r2⟩, f0, f1, f2⟩ := kz3.cr))
          have HFIN := Lib.hid kz3.nothing
          refine bodyPost_ret (results_img_tmp rfl _ _ w.heap.size 24 _ (0, 0) _ rfl HFIN.out.1 Tryd.underlying24 rfl (by kernel_rfl)) rfl ?_
          exact imgET_none HP.out rfl HFIN.out.2
        case pos =>
          subst hq
          have hp : parseB f = true := by rw [HY.out.1]; simp
          have HP := Lib.hid (And.intro hp (HY.out.2 hp))
          clear hp
          go_wp2_with (first
            | (go_at_call 13; with_reducible refine (HCK2.out _ ho.out).mono ?_; rintro e v2 ⟨rfl, hb⟩; have kz2 := kz.out.below hb; have ho2 := Lib.hid (hrb.out v2 hb); clear hb x0 x1 x2; obtain ⟨x0, x1, x2⟩ := kz2.cx; obtain ⟨⟨r0, r1, r2⟩, f0, f1, f2⟩ := kz2.cr)
            | (go_at_call 15; with_reducible refine (HHD2.out _ ho2.out).mono ?_; rintro e v3 ⟨rfl, hb⟩; have kz3 := kz2.below hb; have ho3 := Lib.hid (ho2.out.below hb); clear hb x0 x1 x2 r0 r1 r2 f0 f1 f2; obtain ⟨x0, x1, x2⟩ := kz3.cx; obtain ⟨⟨r0, r1, r2⟩, f0, f1, f2⟩ := kz3.cr))
          have hfin := img_set kz3.r rfl (.int .i64 kind) (.int .i64 entry) (.slice A k c)
          have hbt := (((But.refl (· = w.heap.size) v3).setCell (p := ⟨w.heap.size, 0, none⟩) (.inl rfl) (.int .i64 kind)).setCell (p := ⟨w.heap.size, 1, none⟩) (.inl rfl) (.int .i64 entry)).setCell (p := ⟨w.heap.size, 2, none⟩) (.inl rfl) (.slice A k c)
          have hbl := ((kz3.b.setCell (p := ⟨w.heap.size, 0, none⟩) (Nat.le_refl _) (.int .i64 kind)).setCell (p := ⟨w.heap.size, 1, none⟩) (Nat.le_refl _) (.int .i64 entry)).setCell (p := ⟨w.heap.size, 2, none⟩) (Nat.le_refl _) (.slice A k c)
          have hrw := ho3.out.but hbt (fun ad e e2 => by have := HLOW.out ad e; omega)
          generalize World.setCell _ _ _ = W5 at *
          refine bodyPost_ret (results_img_tmp rfl _ _ w.heap.size 24 _ (0, 0) _ rfl hfin Tryd.underlying24 rfl (by kernel_rfl)) rfl ?_
          unfold ImgET parseX parseE
          rw [HP.out.1, if_pos rfl, if_pos rfl, HP.out.2]
          exact ⟨A, c, by rw [HVX.out]; rfl, hrw, fun ad e => by have := HLOW.out ad e; omega, hbl⟩
end Go.Proofs.YtakmmphjdkapeaaDoor
