/- The reference of layer 8: Header. -/
import Derived.Test.YtakmmphjdkapeaaDoorER
import Derived.Test.YtakmmphjdkapeaaDoorEI
import Derived.Deep.RegionHeld3
namespace Go.Proofs.YtakmmphjdkapeaaDoor
open Go.RowKit
set_option linter.unusedVariables false
set_option linter.unusedSimpArgs false

theorem numL_size (n : Int) (k : Nat) : (mkb (numL n k)).size = k := by rw [mkb_size]; simp [numL, putL_length]
/-- A text with another behind it. -/
theorem cat_of {a b c : ByteArray} (h : a ++ b = c) {m k : Nat} (ha : a.size = m) (hb : b.size = k) : c.size = m + k := by rw [← h, ByteArray.size_append, ha, hb]

theorem segL_eq (s : Seg) : segL s = numL s.ty 4 ++ (numL s.fl 4 ++ (numL s.off 8 ++ (numL s.ad 8 ++ (numL s.ad 8 ++ (numL s.sz 8 ++ (numL s.mem 8 ++ numL s.al 8)))))) := by
  simp [segL, List.range_succ, numsL, Seg.nums, widL]
theorem head_step (base : List UInt8) (l : List Seg) (k : Nat) (hk : k < l.length) (s : Seg) (hs : l[k] = s) :
    mkb (base ++ (l.take k).flatMap segL) ++ mkb (numL s.ty 4) ++ mkb (numL s.fl 4) ++ mkb (numL s.off 8) ++ mkb (numL s.ad 8) ++ mkb (numL s.ad 8) ++ mkb (numL s.sz 8) ++ mkb (numL s.mem 8) ++ mkb (numL s.al 8) = mkb (base ++ (l.take (k + 1)).flatMap segL) := by
  rw [List.take_succ_eq_append_getElem hk, List.flatMap_append, hs]
  simp only [mkb_append, List.flatMap_cons, List.flatMap_nil, List.append_nil, segL_eq, List.append_assoc]

set_option maxRecDepth 100000 in
set_option maxHeartbeats 6400000 in
theorem rheader_any (x : Img) (A : Option Addr) (c : Nat) (w : World) (hk : (Lit.int .i64 x.kind).wf = true) (he : (Lit.int .i64 x.entry).wf = true) (hr : SegRow w A x.segs) (hl : x.segs.length ≤ 1000) :
    Calls Tryd.prog 15 #[x.v A c] w fun e w' => e = .returned (.string (mkb x.headL)) ∧ Below w.heap.size w w' := by
  obtain ⟨kind, entry, segs⟩ := x
  unfold Img.v
  simp only at *
  obtain ⟨n, hn⟩ : ∃ n, segs.length = n := ⟨_, rfl⟩
  have wn : (Lit.int .i64 ((n : Nat) : Int)).wf = true := i64_wf (by omega)
  rw [hn]
  have HN := Lib.hid hn
  have HBASE := Lib.hid (show (⟨#[127, 69, 76, 70, 2, 1, 1]⟩ : ByteArray) ++ mkb (List.replicate 9 0) ++ mkb (numL kind 2) ++ mkb (numL 62 2) ++ mkb (numL 1 4) ++ mkb (numL entry 8) ++ mkb (numL 64 8) ++ mkb (List.replicate 12 0) ++ mkb (numL 64 2) ++ mkb (numL 56 2) ++ mkb (numL n 2) ++ mkb (List.replicate 6 0) = mkb (Img.baseL ⟨kind, entry, segs⟩) from by
    rw [show (⟨#[127, 69, 76, 70, 2, 1, 1]⟩ : ByteArray) = mkb [127, 69, 76, 70, 2, 1, 1] from rfl]
    simp only [mkb_append]
    unfold Img.baseL
    rw [hn]
    rfl)
  have hP1 := (show ∀ w, Calls Tryd.prog 39 #[.int .i64 kind, .int .i64 2] w fun e w' => e = .returned (.string (mkb (numL kind 2))) ∧ Below w.heap.size w w' from fun w => rputn_any kind 2 w hk (by omega))
  have hP2 := (show ∀ w, Calls Tryd.prog 39 #[.int .i64 62, .int .i64 2] w fun e w' => e = .returned (.string (mkb (numL 62 2))) ∧ Below w.heap.size w w' from fun w => rputn_any 62 2 w (by decide) (by omega))
  have hP3 := (show ∀ w, Calls Tryd.prog 39 #[.int .i64 1, .int .i64 4] w fun e w' => e = .returned (.string (mkb (numL 1 4))) ∧ Below w.heap.size w w' from fun w => rputn_any 1 4 w (by decide) (by omega))
  have hP4 := (show ∀ w, Calls Tryd.prog 39 #[.int .i64 entry, .int .i64 8] w fun e w' => e = .returned (.string (mkb (numL entry 8))) ∧ Below w.heap.size w w' from fun w => rputn_any entry 8 w he (by omega))
  have hP5 := (show ∀ w, Calls Tryd.prog 39 #[.int .i64 64, .int .i64 8] w fun e w' => e = .returned (.string (mkb (numL 64 8))) ∧ Below w.heap.size w w' from fun w => rputn_any 64 8 w (by decide) (by omega))
  have hP6 := (show ∀ w, Calls Tryd.prog 39 #[.int .i64 64, .int .i64 2] w fun e w' => e = .returned (.string (mkb (numL 64 2))) ∧ Below w.heap.size w w' from fun w => rputn_any 64 2 w (by decide) (by omega))
  have hP7 := (show ∀ w, Calls Tryd.prog 39 #[.int .i64 56, .int .i64 2] w fun e w' => e = .returned (.string (mkb (numL 56 2))) ∧ Below w.heap.size w w' from fun w => rputn_any 56 2 w (by decide) (by omega))
  have hP8 := (show ∀ w, Calls Tryd.prog 39 #[.int .i64 (n : Nat), .int .i64 2] w fun e w' => e = .returned (.string (mkb (numL (n : Nat) 2))) ∧ Below w.heap.size w w' from fun w => rputn_any (n : Nat) 2 w wn (by omega))
  have hZ9 := fun w => rfill_any ⟨#[]⟩ 9 w (by decide) (by decide) (by decide)
  rw [show fillS ⟨#[]⟩ 9 = mkb (List.replicate 9 0) by decide +kernel] at hZ9
  have hZ12 := fun w => rfill_any ⟨#[]⟩ 12 w (by decide) (by decide) (by decide)
  rw [show fillS ⟨#[]⟩ 12 = mkb (List.replicate 12 0) by decide +kernel] at hZ12
  have hZ6 := fun w => rfill_any ⟨#[]⟩ 6 w (by decide) (by decide) (by decide)
  rw [show fillS ⟨#[]⟩ 6 = mkb (List.replicate 6 0) by decide +kernel] at hZ6
  have s0 : (⟨#[127, 69, 76, 70, 2, 1, 1]⟩ : ByteArray).size = 7 := rfl
  have sP1 := numL_size kind 2
  have sP2 := numL_size 62 2
  have sP3 := numL_size 1 4
  have sP4 := numL_size entry 8
  have sP5 := numL_size 64 8
  have sP6 := numL_size 64 2
  have sP7 := numL_size 56 2
  have sP8 := numL_size (n : Nat) 2
  have sZ9 : (mkb (List.replicate 9 0)).size = 9 := by rw [mkb_size, List.length_replicate]
  have sZ12 : (mkb (List.replicate 12 0)).size = 12 := by rw [mkb_size, List.length_replicate]
  have sZ6 : (mkb (List.replicate 6 0)).size = 6 := by rw [mkb_size, List.length_replicate]
  have hbase := HBASE.out
  generalize mkb (numL kind 2) = P1 at *
  generalize mkb (numL 62 2) = P2 at *
  generalize mkb (numL 1 4) = P3 at *
  generalize mkb (numL entry 8) = P4 at *
  generalize mkb (numL 64 8) = P5 at *
  generalize mkb (numL 64 2) = P6 at *
  generalize mkb (numL 56 2) = P7 at *
  generalize mkb (numL (n : Nat) 2) = P8 at *
  generalize mkb (List.replicate 9 0) = Z9 at *
  generalize mkb (List.replicate 12 0) = Z12 at *
  generalize mkb (List.replicate 6 0) = Z6 at *
  obtain ⟨C0, hC0⟩ : ∃ C, (⟨#[127, 69, 76, 70, 2, 1, 1]⟩ : ByteArray) ++ Z9 = C := ⟨_, rfl⟩
  have sC0 : C0.size = 16 := cat_of hC0 s0 sZ9
  rw [hC0] at hbase
  obtain ⟨C1, hC1⟩ : ∃ C, C0 ++ P1 = C := ⟨_, rfl⟩
  have sC1 : C1.size = 18 := cat_of hC1 sC0 sP1
  rw [hC1] at hbase
  obtain ⟨C2, hC2⟩ : ∃ C, C1 ++ P2 = C := ⟨_, rfl⟩
  have sC2 : C2.size = 20 := cat_of hC2 sC1 sP2
  rw [hC2] at hbase
  obtain ⟨C3, hC3⟩ : ∃ C, C2 ++ P3 = C := ⟨_, rfl⟩
  have sC3 : C3.size = 24 := cat_of hC3 sC2 sP3
  rw [hC3] at hbase
  obtain ⟨C4, hC4⟩ : ∃ C, C3 ++ P4 = C := ⟨_, rfl⟩
  have sC4 : C4.size = 32 := cat_of hC4 sC3 sP4
  rw [hC4] at hbase
  obtain ⟨C5, hC5⟩ : ∃ C, C4 ++ P5 = C := ⟨_, rfl⟩
  have sC5 : C5.size = 40 := cat_of hC5 sC4 sP5
  rw [hC5] at hbase
  obtain ⟨C6, hC6⟩ : ∃ C, C5 ++ Z12 = C := ⟨_, rfl⟩
  have sC6 : C6.size = 52 := cat_of hC6 sC5 sZ12
  rw [hC6] at hbase
  obtain ⟨C7, hC7⟩ : ∃ C, C6 ++ P6 = C := ⟨_, rfl⟩
  have sC7 : C7.size = 54 := cat_of hC7 sC6 sP6
  rw [hC7] at hbase
  obtain ⟨C8, hC8⟩ : ∃ C, C7 ++ P7 = C := ⟨_, rfl⟩
  have sC8 : C8.size = 56 := cat_of hC8 sC7 sP7
  rw [hC8] at hbase
  obtain ⟨C9, hC9⟩ : ∃ C, C8 ++ P8 = C := ⟨_, rfl⟩
  have sC9 : C9.size = 58 := cat_of hC9 sC8 sP8
  rw [hC9] at hbase
  obtain ⟨C10, hC10⟩ : ∃ C, C9 ++ Z6 = C := ⟨_, rfl⟩
  have sC10 : C10.size = 64 := cat_of hC10 sC9 sZ6
  rw [hC10] at hbase
  clear HBASE
  have HBASE := Lib.hid hbase
  clear hbase
  have HZ9 := Lib.hid hZ9
  have HP1 := Lib.hid hP1
  have HP2 := Lib.hid hP2
  have HP3 := Lib.hid hP3
  have HP4 := Lib.hid hP4
  have HP5 := Lib.hid hP5
  have HZ12 := Lib.hid hZ12
  have HP6 := Lib.hid hP6
  have HP7 := Lib.hid hP7
  have HP8 := Lib.hid hP8
  have HZ6 := Lib.hid hZ6
  clear hZ9 hP1 hP2 hP3 hP4 hP5 hZ12 hP6 hP7 hP8 hZ6
  have hsegs := Lib.hid (fun v (hv : Below w.heap.size w v) => show SegRow v A segs from hr.below hv)
  have hB := (Below.refl w.heap.size w).alloc (Nat.le_refl _) (.cells #[.int .i64 kind, .int .i64 entry, .slice A n c] 24)
  have hb := Blk.new w 24 #[.int .i64 kind, .int .i64 entry, .slice A n c]
  clear hr hk he wn hn
  go_enter Tryd.func15, Tryd.ntmps15
  go_wp2
  generalize w.alloc (.cells #[.int .i64 kind, .int .i64 entry, .slice A n c] 24) = W at *
  have n1 := hb.drew
  have n2 := hB.drew
  have n3 : W.drew.cell? ⟨w.heap.size, 0, none⟩ = some (.int .i64 kind) := hb.drew.at_ 0 _ rfl
  have n4 : W.drew.cell? ⟨w.heap.size, 1, none⟩ = some (.int .i64 entry) := hb.drew.at_ 1 _ rfl
  have n5 : W.drew.cell? ⟨w.heap.size, 2, none⟩ = some (.slice A n c) := hb.drew.at_ 2 _ rfl
  clear hb hB
  go_region_held3 (fun w' => w'.cell? ⟨w.heap.size, 0, none⟩ = some (.int .i64 kind) ∧ w'.cell? ⟨w.heap.size, 1, none⟩ = some (.int .i64 entry) ∧ w'.cell? ⟨w.heap.size, 2, none⟩ = some (.slice A n c) ∧ Hid (Blk w' w.heap.size 24 #[.int .i64 kind, .int .i64 entry, .slice A n c]) ∧ Hid (Below w.heap.size w w'))
    (first | exact ⟨n3, n4, n5, n1, n2⟩)
    (first
    | (go_at_call 25; with_reducible refine (HZ9.out _).mono ?_; rintro e v1 ⟨rfl, hb⟩; rcases ‹(_ : Prop) ∧ _ ∧ _ ∧ Hid _ ∧ Hid _› with ⟨-, -, -, kb, kB⟩; clear n1 n2 n3 n4 n5; have n1 := kb.out.below hb kb.out.lt; have n2 := kB.out.trans (hb.mono kB.out.size); have n3 := n1.at_ 0 _ rfl; have n4 := n1.at_ 1 _ rfl; have n5 := n1.at_ 2 _ rfl; clear hb kb kB)
    | (go_at_call 39; with_reducible refine (HP1.out _).mono ?_; rintro e v1 ⟨rfl, hb⟩; rcases ‹(_ : Prop) ∧ _ ∧ _ ∧ Hid _ ∧ Hid _› with ⟨-, -, -, kb, kB⟩; clear n1 n2 n3 n4 n5; have n1 := kb.out.below hb kb.out.lt; have n2 := kB.out.trans (hb.mono kB.out.size); have n3 := n1.at_ 0 _ rfl; have n4 := n1.at_ 1 _ rfl; have n5 := n1.at_ 2 _ rfl; clear hb kb kB)
    | (go_at_call 39; with_reducible refine (HP2.out _).mono ?_; rintro e v1 ⟨rfl, hb⟩; rcases ‹(_ : Prop) ∧ _ ∧ _ ∧ Hid _ ∧ Hid _› with ⟨-, -, -, kb, kB⟩; clear n1 n2 n3 n4 n5; have n1 := kb.out.below hb kb.out.lt; have n2 := kB.out.trans (hb.mono kB.out.size); have n3 := n1.at_ 0 _ rfl; have n4 := n1.at_ 1 _ rfl; have n5 := n1.at_ 2 _ rfl; clear hb kb kB)
    | (go_at_call 39; with_reducible refine (HP3.out _).mono ?_; rintro e v1 ⟨rfl, hb⟩; rcases ‹(_ : Prop) ∧ _ ∧ _ ∧ Hid _ ∧ Hid _› with ⟨-, -, -, kb, kB⟩; clear n1 n2 n3 n4 n5; have n1 := kb.out.below hb kb.out.lt; have n2 := kB.out.trans (hb.mono kB.out.size); have n3 := n1.at_ 0 _ rfl; have n4 := n1.at_ 1 _ rfl; have n5 := n1.at_ 2 _ rfl; clear hb kb kB)
    | (go_at_call 39; with_reducible refine (HP4.out _).mono ?_; rintro e v1 ⟨rfl, hb⟩; rcases ‹(_ : Prop) ∧ _ ∧ _ ∧ Hid _ ∧ Hid _› with ⟨-, -, -, kb, kB⟩; clear n1 n2 n3 n4 n5; have n1 := kb.out.below hb kb.out.lt; have n2 := kB.out.trans (hb.mono kB.out.size); have n3 := n1.at_ 0 _ rfl; have n4 := n1.at_ 1 _ rfl; have n5 := n1.at_ 2 _ rfl; clear hb kb kB)
    | (go_at_call 39; with_reducible refine (HP5.out _).mono ?_; rintro e v1 ⟨rfl, hb⟩; rcases ‹(_ : Prop) ∧ _ ∧ _ ∧ Hid _ ∧ Hid _› with ⟨-, -, -, kb, kB⟩; clear n1 n2 n3 n4 n5; have n1 := kb.out.below hb kb.out.lt; have n2 := kB.out.trans (hb.mono kB.out.size); have n3 := n1.at_ 0 _ rfl; have n4 := n1.at_ 1 _ rfl; have n5 := n1.at_ 2 _ rfl; clear hb kb kB)
    | (go_at_call 25; with_reducible refine (HZ12.out _).mono ?_; rintro e v1 ⟨rfl, hb⟩; rcases ‹(_ : Prop) ∧ _ ∧ _ ∧ Hid _ ∧ Hid _› with ⟨-, -, -, kb, kB⟩; clear n1 n2 n3 n4 n5; have n1 := kb.out.below hb kb.out.lt; have n2 := kB.out.trans (hb.mono kB.out.size); have n3 := n1.at_ 0 _ rfl; have n4 := n1.at_ 1 _ rfl; have n5 := n1.at_ 2 _ rfl; clear hb kb kB)
    | (go_at_call 39; with_reducible refine (HP6.out _).mono ?_; rintro e v1 ⟨rfl, hb⟩; rcases ‹(_ : Prop) ∧ _ ∧ _ ∧ Hid _ ∧ Hid _› with ⟨-, -, -, kb, kB⟩; clear n1 n2 n3 n4 n5; have n1 := kb.out.below hb kb.out.lt; have n2 := kB.out.trans (hb.mono kB.out.size); have n3 := n1.at_ 0 _ rfl; have n4 := n1.at_ 1 _ rfl; have n5 := n1.at_ 2 _ rfl; clear hb kb kB)
    | (go_at_call 39; with_reducible refine (HP7.out _).mono ?_; rintro e v1 ⟨rfl, hb⟩; rcases ‹(_ : Prop) ∧ _ ∧ _ ∧ Hid _ ∧ Hid _› with ⟨-, -, -, kb, kB⟩; clear n1 n2 n3 n4 n5; have n1 := kb.out.below hb kb.out.lt; have n2 := kB.out.trans (hb.mono kB.out.size); have n3 := n1.at_ 0 _ rfl; have n4 := n1.at_ 1 _ rfl; have n5 := n1.at_ 2 _ rfl; clear hb kb kB)
    | (go_at_call 39; with_reducible refine (HP8.out _).mono ?_; rintro e v1 ⟨rfl, hb⟩; rcases ‹(_ : Prop) ∧ _ ∧ _ ∧ Hid _ ∧ Hid _› with ⟨-, -, -, kb, kB⟩; clear n1 n2 n3 n4 n5; have n1 := kb.out.below hb kb.out.lt; have n2 := kB.out.trans (hb.mono kB.out.size); have n3 := n1.at_ 0 _ rfl; have n4 := n1.at_ 1 _ rfl; have n5 := n1.at_ 2 _ rfl; clear hb kb kB)
    | (go_at_call 25; with_reducible refine (HZ6.out _).mono ?_; rintro e v1 ⟨rfl, hb⟩; rcases ‹(_ : Prop) ∧ _ ∧ _ ∧ Hid _ ∧ Hid _› with ⟨-, -, -, kb, kB⟩; clear n1 n2 n3 n4 n5; have n1 := kb.out.below hb kb.out.lt; have n2 := kB.out.trans (hb.mono kB.out.size); have n3 := n1.at_ 0 _ rfl; have n4 := n1.at_ 1 _ rfl; have n5 := n1.at_ 2 _ rfl; clear hb kb kB))
  all_goals
    rcases ‹(_ : Prop) ∧ _ ∧ _ ∧ Hid _ ∧ Hid _› with ⟨-, -, q3, kb, kB⟩
    clear n1 n2 n3 n4 n5 s0 sP1 sP2 sP3 sP4 sP5 sP6 sP7 sP8 sZ9 sZ12 sZ6 sC0 sC1 sC2 sC3 sC4 sC5 sC6 sC7 sC8 sC9 sC10 hC0 hC1 hC2 hC3 hC4 hC5 hC6 hC7 hC8 hC9 hC10 HZ9 HP1 HP2 HP3 HP4 HP5 HZ12 HP6 HP7 HP8 HZ6
    go_wp2
    go_loopw [3, 4] (fun sv i wr => ∃ k : Nat, k ≤ n ∧ i = .int .i64 k ∧ sv = .string (mkb (Img.baseL ⟨kind, entry, segs⟩ ++ (segs.take k).flatMap segL)) ∧ Below w.heap.size w wr ∧ Hid (Blk wr w.heap.size 24 #[.int .i64 kind, .int .i64 entry, .slice A n c])) (fun _ i _ => n - (intOf i).toNat)
    case atStart => exact ⟨0, Nat.zero_le _, rfl, by rw [HBASE.out]; simp, kB.out, kb⟩
    case round =>
      clear kb kB q3
      obtain ⟨k, hk, rfl, rfl, hbe, kb⟩ := hrel
      have q3 : wr.cell? ⟨w.heap.size, 2, none⟩ = some (.slice A n c) := kb.out.at_ 2 _ rfl
      by_cases hlt : k < n
      · have hr := hsegs.out _ hbe
        have hkl : k < segs.length := by rw [HN.out]; exact hlt
        obtain ⟨ad, rfl, hblt, hwf, d0, d1, d2, d3, d4, d5, d6⟩ := hr.at_ hkl
        have hbl := baseL_length ⟨kind, entry, segs⟩
        have hfl := segsL_length (segs.take k)
        rw [List.length_take] at hfl
        obtain ⟨s, hs⟩ : ∃ s, segs[k] = s := ⟨_, rfl⟩
        rw [hs] at hwf d0 d1 d2 d3 d4 d5 d6
        have hcat : mkb (Img.baseL ⟨kind, entry, segs⟩ ++ (segs.take k).flatMap segL) ++ mkb (numL s.ty 4) ++ mkb (numL s.fl 4) ++ mkb (numL s.off 8) ++ mkb (numL s.ad 8) ++ mkb (numL s.ad 8) ++ mkb (numL s.sz 8) ++ mkb (numL s.mem 8) ++ mkb (numL s.al 8) = mkb (Img.baseL ⟨kind, entry, segs⟩ ++ (segs.take (k + 1)).flatMap segL) := head_step _ segs k hkl s hs
        have sQ : (mkb (Img.baseL ⟨kind, entry, segs⟩ ++ (segs.take k).flatMap segL)).size = 64 + 56 * k := by
          rw [mkb_size, List.length_append, hbl, hfl]
          omega
        obtain ⟨ty, fl, off, ad', sz, mem, al⟩ := s
        simp only at hcat hwf d0 d1 d2 d3 d4 d5 d6
        obtain ⟨w0, w1, w2, w3, w4, w5, w6⟩ := hwf
        simp only at w0 w1 w2 w3 w4 w5 w6
        have hp0 := (show ∀ w, Calls Tryd.prog 39 #[.int .i64 ty, .int .i64 4] w fun e w' => e = .returned (.string (mkb (numL ty 4))) ∧ Below w.heap.size w w' from fun w => rputn_any ty 4 w w0 (by omega))
        have sp0 := numL_size ty 4
        have hp1 := (show ∀ w, Calls Tryd.prog 39 #[.int .i64 fl, .int .i64 4] w fun e w' => e = .returned (.string (mkb (numL fl 4))) ∧ Below w.heap.size w w' from fun w => rputn_any fl 4 w w1 (by omega))
        have sp1 := numL_size fl 4
        have hp2 := (show ∀ w, Calls Tryd.prog 39 #[.int .i64 off, .int .i64 8] w fun e w' => e = .returned (.string (mkb (numL off 8))) ∧ Below w.heap.size w w' from fun w => rputn_any off 8 w w2 (by omega))
        have sp2 := numL_size off 8
        have hp3 := (show ∀ w, Calls Tryd.prog 39 #[.int .i64 ad', .int .i64 8] w fun e w' => e = .returned (.string (mkb (numL ad' 8))) ∧ Below w.heap.size w w' from fun w => rputn_any ad' 8 w w3 (by omega))
        have sp3 := numL_size ad' 8
        have hp4 := (show ∀ w, Calls Tryd.prog 39 #[.int .i64 sz, .int .i64 8] w fun e w' => e = .returned (.string (mkb (numL sz 8))) ∧ Below w.heap.size w w' from fun w => rputn_any sz 8 w w4 (by omega))
        have sp4 := numL_size sz 8
        have hp5 := (show ∀ w, Calls Tryd.prog 39 #[.int .i64 mem, .int .i64 8] w fun e w' => e = .returned (.string (mkb (numL mem 8))) ∧ Below w.heap.size w w' from fun w => rputn_any mem 8 w w5 (by omega))
        have sp5 := numL_size mem 8
        have hp6 := (show ∀ w, Calls Tryd.prog 39 #[.int .i64 al, .int .i64 8] w fun e w' => e = .returned (.string (mkb (numL al 8))) ∧ Below w.heap.size w w' from fun w => rputn_any al 8 w w6 (by omega))
        have sp6 := numL_size al 8
        generalize mkb (numL ty 4) = p0 at *
        generalize mkb (numL fl 4) = p1 at *
        generalize mkb (numL off 8) = p2 at *
        generalize mkb (numL ad' 8) = p3 at *
        generalize mkb (numL sz 8) = p4 at *
        generalize mkb (numL mem 8) = p5 at *
        generalize mkb (numL al 8) = p6 at *
        generalize mkb (Img.baseL ⟨kind, entry, segs⟩ ++ (segs.take k).flatMap segL) = Q at *
        obtain ⟨D0, hD0⟩ : ∃ C, Q ++ p0 = C := ⟨_, rfl⟩
        have sD0 := cat_of hD0 sQ sp0
        rw [hD0] at hcat
        obtain ⟨D1, hD1⟩ : ∃ C, D0 ++ p1 = C := ⟨_, rfl⟩
        have sD1 := cat_of hD1 sD0 sp1
        rw [hD1] at hcat
        obtain ⟨D2, hD2⟩ : ∃ C, D1 ++ p2 = C := ⟨_, rfl⟩
        have sD2 := cat_of hD2 sD1 sp2
        rw [hD2] at hcat
        obtain ⟨D3, hD3⟩ : ∃ C, D2 ++ p3 = C := ⟨_, rfl⟩
        have sD3 := cat_of hD3 sD2 sp3
        rw [hD3] at hcat
        obtain ⟨D4, hD4⟩ : ∃ C, D3 ++ p3 = C := ⟨_, rfl⟩
        have sD4 := cat_of hD4 sD3 sp3
        rw [hD4] at hcat
        obtain ⟨D5, hD5⟩ : ∃ C, D4 ++ p4 = C := ⟨_, rfl⟩
        have sD5 := cat_of hD5 sD4 sp4
        rw [hD5] at hcat
        obtain ⟨D6, hD6⟩ : ∃ C, D5 ++ p5 = C := ⟨_, rfl⟩
        have sD6 := cat_of hD6 sD5 sp5
        rw [hD6] at hcat
        obtain ⟨D7, hD7⟩ : ∃ C, D6 ++ p6 = C := ⟨_, rfl⟩
        have sD7 := cat_of hD7 sD6 sp6
        rw [hD7] at hcat
        have HCAT := Lib.hid hcat
        have Hp0 := Lib.hid hp0
        have Hp1 := Lib.hid hp1
        have Hp2 := Lib.hid hp2
        have Hp3 := Lib.hid hp3
        have Hp4 := Lib.hid hp4
        have Hp5 := Lib.hid hp5
        have Hp6 := Lib.hid hp6
        have g0 : ¬ 9223372036854775807 < Q.size + p0.size := by omega
        have g1 : ¬ 9223372036854775807 < D0.size + p1.size := by omega
        have g2 : ¬ 9223372036854775807 < D1.size + p2.size := by omega
        have g3 : ¬ 9223372036854775807 < D2.size + p3.size := by omega
        have g4 : ¬ 9223372036854775807 < D3.size + p3.size := by omega
        have g5 : ¬ 9223372036854775807 < D4.size + p4.size := by omega
        have g6 : ¬ 9223372036854775807 < D5.size + p5.size := by omega
        have g7 : ¬ 9223372036854775807 < D6.size + p6.size := by omega
        clear hcat hp0 hp1 hp2 hp3 hp4 hp5 hp6 w0 w1 w2 w3 w4 w5 w6 sQ sD0 sD1 sD2 sD3 sD4 sD5 sD6 sD7 hs hbl hfl hr sp0 sp1 sp2 sp3 sp4 sp5 sp6
        have HB1 := Lib.hid (hbe.alloc hbe.size (.cells #[.int .i64 ty, .int .i64 fl, .int .i64 off, .int .i64 ad', .int .i64 sz, .int .i64 mem, .int .i64 al] 47))
        have HK1 := Lib.hid (Blk.new wr 47 #[.int .i64 ty, .int .i64 fl, .int .i64 off, .int .i64 ad', .int .i64 sz, .int .i64 mem, .int .i64 al])
        have HK2 := Lib.hid (kb.out.alloc (.cells #[.int .i64 ty, .int .i64 fl, .int .i64 off, .int .i64 ad', .int .i64 sz, .int .i64 mem, .int .i64 al] 47))
        have hgw : w.heap.size < wr.heap.size := kb.out.lt
        clear kb hbe
        go_wp2
        generalize wr.alloc (.cells #[.int .i64 ty, .int .i64 fl, .int .i64 off, .int .i64 ad', .int .i64 sz, .int .i64 mem, .int .i64 al] 47) = W2 at *
        clear d0 d1 d2 d3 d4 d5 d6 q3
        have n1 := HK1.out.drew
        have n2 := HK2.out.drew
        have n3 := HB1.out.drew
        have n4 := seg_cells (s := ⟨ty, fl, off, ad', sz, mem, al⟩) n1
        simp only at n4
        clear HK1 HK2 HB1
        generalize wr.heap.size = g at *
        obtain ⟨m0, m1, m2, m3, m4, m5, m6⟩ := n4
        go_region_held3 (fun w' => w'.cell? ⟨g, 0, none⟩ = some (.int .i64 ty) ∧ w'.cell? ⟨g, 1, none⟩ = some (.int .i64 fl) ∧ w'.cell? ⟨g, 2, none⟩ = some (.int .i64 off) ∧ w'.cell? ⟨g, 3, none⟩ = some (.int .i64 ad') ∧ w'.cell? ⟨g, 4, none⟩ = some (.int .i64 sz) ∧ w'.cell? ⟨g, 5, none⟩ = some (.int .i64 mem) ∧ w'.cell? ⟨g, 6, none⟩ = some (.int .i64 al) ∧ Hid (Blk w' g 47 #[.int .i64 ty, .int .i64 fl, .int .i64 off, .int .i64 ad', .int .i64 sz, .int .i64 mem, .int .i64 al]) ∧ Hid (Blk w' w.heap.size 24 #[.int .i64 kind, .int .i64 entry, .slice (some ad) n c]) ∧ Hid (Below w.heap.size w w'))
          (first | exact ⟨m0, m1, m2, m3, m4, m5, m6, n1, n2, n3⟩)
          (first
          | (go_at_call 39; with_reducible refine (Hp0.out _).mono ?_; rintro e v1 ⟨rfl, hb⟩; rcases ‹(_ : Prop) ∧ _ ∧ _ ∧ _ ∧ _ ∧ _ ∧ _ ∧ Hid _ ∧ Hid _ ∧ Hid _› with ⟨-, -, -, -, -, -, -, kx, ky, kz⟩; clear m0 m1 m2 m3 m4 m5 m6 n1 n2 n3; have n1 := kx.out.below hb kx.out.lt; have n2 := ky.out.below hb ky.out.lt; have n3 := kz.out.trans (hb.mono kz.out.size); have n4 := seg_cells (s := ⟨ty, fl, off, ad', sz, mem, al⟩) n1; simp only at n4; obtain ⟨m0, m1, m2, m3, m4, m5, m6⟩ := n4; clear hb kx ky kz)
          | (go_at_call 39; with_reducible refine (Hp1.out _).mono ?_; rintro e v1 ⟨rfl, hb⟩; rcases ‹(_ : Prop) ∧ _ ∧ _ ∧ _ ∧ _ ∧ _ ∧ _ ∧ Hid _ ∧ Hid _ ∧ Hid _› with ⟨-, -, -, -, -, -, -, kx, ky, kz⟩; clear m0 m1 m2 m3 m4 m5 m6 n1 n2 n3; have n1 := kx.out.below hb kx.out.lt; have n2 := ky.out.below hb ky.out.lt; have n3 := kz.out.trans (hb.mono kz.out.size); have n4 := seg_cells (s := ⟨ty, fl, off, ad', sz, mem, al⟩) n1; simp only at n4; obtain ⟨m0, m1, m2, m3, m4, m5, m6⟩ := n4; clear hb kx ky kz)
          | (go_at_call 39; with_reducible refine (Hp2.out _).mono ?_; rintro e v1 ⟨rfl, hb⟩; rcases ‹(_ : Prop) ∧ _ ∧ _ ∧ _ ∧ _ ∧ _ ∧ _ ∧ Hid _ ∧ Hid _ ∧ Hid _› with ⟨-, -, -, -, -, -, -, kx, ky, kz⟩; clear m0 m1 m2 m3 m4 m5 m6 n1 n2 n3; have n1 := kx.out.below hb kx.out.lt; have n2 := ky.out.below hb ky.out.lt; have n3 := kz.out.trans (hb.mono kz.out.size); have n4 := seg_cells (s := ⟨ty, fl, off, ad', sz, mem, al⟩) n1; simp only at n4; obtain ⟨m0, m1, m2, m3, m4, m5, m6⟩ := n4; clear hb kx ky kz)
          | (go_at_call 39; with_reducible refine (Hp3.out _).mono ?_; rintro e v1 ⟨rfl, hb⟩; rcases ‹(_ : Prop) ∧ _ ∧ _ ∧ _ ∧ _ ∧ _ ∧ _ ∧ Hid _ ∧ Hid _ ∧ Hid _› with ⟨-, -, -, -, -, -, -, kx, ky, kz⟩; clear m0 m1 m2 m3 m4 m5 m6 n1 n2 n3; have n1 := kx.out.below hb kx.out.lt; have n2 := ky.out.below hb ky.out.lt; have n3 := kz.out.trans (hb.mono kz.out.size); have n4 := seg_cells (s := ⟨ty, fl, off, ad', sz, mem, al⟩) n1; simp only at n4; obtain ⟨m0, m1, m2, m3, m4, m5, m6⟩ := n4; clear hb kx ky kz)
          | (go_at_call 39; with_reducible refine (Hp4.out _).mono ?_; rintro e v1 ⟨rfl, hb⟩; rcases ‹(_ : Prop) ∧ _ ∧ _ ∧ _ ∧ _ ∧ _ ∧ _ ∧ Hid _ ∧ Hid _ ∧ Hid _› with ⟨-, -, -, -, -, -, -, kx, ky, kz⟩; clear m0 m1 m2 m3 m4 m5 m6 n1 n2 n3; have n1 := kx.out.below hb kx.out.lt; have n2 := ky.out.below hb ky.out.lt; have n3 := kz.out.trans (hb.mono kz.out.size); have n4 := seg_cells (s := ⟨ty, fl, off, ad', sz, mem, al⟩) n1; simp only at n4; obtain ⟨m0, m1, m2, m3, m4, m5, m6⟩ := n4; clear hb kx ky kz)
          | (go_at_call 39; with_reducible refine (Hp5.out _).mono ?_; rintro e v1 ⟨rfl, hb⟩; rcases ‹(_ : Prop) ∧ _ ∧ _ ∧ _ ∧ _ ∧ _ ∧ _ ∧ Hid _ ∧ Hid _ ∧ Hid _› with ⟨-, -, -, -, -, -, -, kx, ky, kz⟩; clear m0 m1 m2 m3 m4 m5 m6 n1 n2 n3; have n1 := kx.out.below hb kx.out.lt; have n2 := ky.out.below hb ky.out.lt; have n3 := kz.out.trans (hb.mono kz.out.size); have n4 := seg_cells (s := ⟨ty, fl, off, ad', sz, mem, al⟩) n1; simp only at n4; obtain ⟨m0, m1, m2, m3, m4, m5, m6⟩ := n4; clear hb kx ky kz)
          | (go_at_call 39; with_reducible refine (Hp6.out _).mono ?_; rintro e v1 ⟨rfl, hb⟩; rcases ‹(_ : Prop) ∧ _ ∧ _ ∧ _ ∧ _ ∧ _ ∧ _ ∧ Hid _ ∧ Hid _ ∧ Hid _› with ⟨-, -, -, -, -, -, -, kx, ky, kz⟩; clear m0 m1 m2 m3 m4 m5 m6 n1 n2 n3; have n1 := kx.out.below hb kx.out.lt; have n2 := ky.out.below hb ky.out.lt; have n3 := kz.out.trans (hb.mono kz.out.size); have n4 := seg_cells (s := ⟨ty, fl, off, ad', sz, mem, al⟩) n1; simp only at n4; obtain ⟨m0, m1, m2, m3, m4, m5, m6⟩ := n4; clear hb kx ky kz))
        all_goals
          rcases ‹(_ : Prop) ∧ _ ∧ _ ∧ _ ∧ _ ∧ _ ∧ _ ∧ Hid _ ∧ Hid _ ∧ Hid _› with ⟨-, -, -, -, -, -, -, kx, ky, kz⟩
          clear m0 m1 m2 m3 m4 m5 m6 n1 n2 n3
          go_wp2
          go_roundw
          case rel => exact ⟨k + 1, by omega, by go_num, by rw [HCAT.out], kz.out, ky⟩
          case measure => simp [intOf]; omega
      · obtain rfl : k = n := by omega
        have HE := Lib.hid (show Img.baseL ⟨kind, entry, segs⟩ ++ (segs.take k).flatMap segL = Img.headL ⟨kind, entry, segs⟩ from by rw [List.take_of_length_le (by rw [HN.out]; exact Nat.le_refl _)]; rfl)
        go_wp2
        go_ret
        exact ⟨congrArg (fun L => Ending.returned (.string (mkb L))) HE.out, hbe⟩
end Go.Proofs.YtakmmphjdkapeaaDoor
