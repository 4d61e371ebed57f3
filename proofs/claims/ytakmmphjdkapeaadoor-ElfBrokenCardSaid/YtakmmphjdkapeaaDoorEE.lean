/- Package elf: Header. -/
import Derived.Test.YtakmmphjdkapeaaDoorED
namespace Go.Proofs.YtakmmphjdkapeaaDoor
open Go.RowKit
set_option linter.unusedVariables false
set_option linter.unusedSimpArgs false

/-- The builder, and how long what it holds is. -/
def Bq (B b : Nat) (l : List UInt8) (m : Nat) (w : World) : Prop := Bd B b l w ∧ l.length = m
theorem Bq.below {B b m : Nat} {l : List UInt8} {w w' : World} (h : Bq B b l m w) (hb : Below w.heap.size w w') : Bq B b l m w' := ⟨h.1.below hb, h.2⟩
theorem hput_q (B b : Nat) (l : List UInt8) (m : Nat) (n : Int) (k : Nat) (w : World) (hn : (Lit.int .i64 n).wf = true) (hk : k ≤ 8) (h : Bq B b l m w) (hl : m ≤ 1000000) :
    Calls Tryd.prog 33 #[.int .i64 n, .int .i64 k, .pointer (some ⟨b, 0, none⟩)] w fun e w' => e = .returned (.tuple #[]) ∧ Bq B b (l ++ numL n k) (m + k) w' ∧ Below B w w' :=
  (hput_any B b l n k w hn hk h.1 (by rw [h.2]; exact hl)).mono fun e w' ⟨he, hb, hB⟩ => ⟨he, ⟨hb, by rw [List.length_append, h.2]; simp [numL, putL_length]⟩, hB⟩
theorem bd_q (B b : Nat) (l : List UInt8) (m : Nat) (L : List UInt8) (k : Nat) (hk : L.length = k) (w : World) (h : Bq B b l m w) (hl : m + k ≤ 1000000) :
    Calls Tryd.prog 34 #[.pointer (some ⟨b, 0, none⟩), .string (mkb L)] w fun e w' => e = .returned (.tuple #[.int .i64 k, .nilIface]) ∧ Bq B b (l ++ L) (m + k) w' ∧ Below B w w' := by
  have hs : (mkb L).size = k := by rw [mkb_size, hk]
  have h1 := bd_write B b l (mkb L) w h.1 (by rw [h.2, hs]; omega)
  rw [hs, mkb_data] at h1
  exact h1.mono fun e w' ⟨he, hb, hB⟩ => ⟨he, ⟨hb, by rw [List.length_append, h.2, hk]⟩, hB⟩
theorem fill_lit (s : ByteArray) (n : Int) (L : List UInt8) (w : World) (hn : (Lit.int .i64 n).wf = true) (hs : s.size ≤ 100) (hle : n ≤ 100) (he : fillS s n = mkb L) :
    Calls Tryd.prog 36 #[.string s, .int .i64 n] w fun e w' => e = .returned (.string (mkb L)) ∧ Below w.heap.size w w' := by
  have h := fill_any s n w hn (by omega) (by omega)
  rw [he] at h
  exact h

set_option maxRecDepth 100000 in
set_option maxHeartbeats 3200000 in
theorem header_any (x : Img) (A : Option Addr) (c : Nat) (w : World) (hT : ETab w) (hk : (Lit.int .i64 x.kind).wf = true) (he : (Lit.int .i64 x.entry).wf = true) (hr : SegRow w A x.segs) (hl : x.segs.length ≤ 1000) :
    Calls Tryd.prog 14 #[.agg #[.int .i64 x.kind, .int .i64 x.entry, .slice A x.segs.length c]] w fun e w' => e = .returned (.string (mkb x.headL)) ∧ Below w.heap.size w w' := by
  have hmf : ∀ (fn : Fn) (first cap : Array Value) (w : World), (Instr.makeFunc fn first cap).run Tryd.prog w = .ok (.func fn first cap) w := fun _ _ _ _ => rfl
  obtain ⟨kind, entry, segs⟩ := x
  simp only at *
  obtain ⟨n, hn⟩ : ∃ n, segs.length = n := ⟨_, rfl⟩
  obtain ⟨B, hBdef⟩ : ∃ B, w.heap.size + 1 = B := ⟨_, rfl⟩
  obtain ⟨M16, hM16⟩ : ∃ L : List UInt8, [127, 69, 76, 70, 2, 1, 1, 0, 0, 0, 0, 0, 0, 0, 0, 0] = L := ⟨_, rfl⟩
  obtain ⟨Z12, hZ12⟩ : ∃ L : List UInt8, List.replicate 12 0 = L := ⟨_, rfl⟩
  obtain ⟨Z6, hZ6⟩ : ∃ L : List UInt8, List.replicate 6 0 = L := ⟨_, rfl⟩
  have HF1 := Lib.hid (fun w => fill_lit ⟨#[127, 69, 76, 70, 2, 1, 1]⟩ 16 M16 w (by decide) (by decide) (by decide) (by rw [← hM16]; decide +kernel))
  have HF2 := Lib.hid (fun w => fill_lit ⟨#[]⟩ 12 Z12 w (by decide) (by decide) (by decide) (by rw [← hZ12]; decide +kernel))
  have HF3 := Lib.hid (fun w => fill_lit ⟨#[]⟩ 6 Z6 w (by decide) (by decide) (by decide) (by rw [← hZ6]; decide +kernel))
  have HW1 := Lib.hid (fun l m => bd_q B B l m M16 16 (by rw [← hM16]; rfl))
  have HW2 := Lib.hid (fun l m => bd_q B B l m Z12 12 (by rw [← hZ12]; rfl))
  have HW3 := Lib.hid (fun l m => bd_q B B l m Z6 6 (by rw [← hZ6]; rfl))
  have HM := Lib.hid (And.intro hM16 (And.intro hZ12 hZ6))
  clear hM16 hZ12 hZ6
  have HP2 := Lib.hid (show ∀ l m n w, (Lit.int .i64 n).wf = true → Bq B B l m w → m ≤ 1000000 → Calls Tryd.prog 33 #[.int .i64 n, .int .i64 2, .pointer (some ⟨B, 0, none⟩)] w fun e w' => e = .returned (.tuple #[]) ∧ Bq B B (l ++ numL n 2) (m + 2) w' ∧ Below B w w' from fun l m n w hn h hl => hput_q B B l m n 2 w hn (by omega) h hl)
  have HP4 := Lib.hid (show ∀ l m n w, (Lit.int .i64 n).wf = true → Bq B B l m w → m ≤ 1000000 → Calls Tryd.prog 33 #[.int .i64 n, .int .i64 4, .pointer (some ⟨B, 0, none⟩)] w fun e w' => e = .returned (.tuple #[]) ∧ Bq B B (l ++ numL n 4) (m + 4) w' ∧ Below B w w' from fun l m n w hn h hl => hput_q B B l m n 4 w hn (by omega) h hl)
  have HP8 := Lib.hid (show ∀ l m n w, (Lit.int .i64 n).wf = true → Bq B B l m w → m ≤ 1000000 → Calls Tryd.prog 33 #[.int .i64 n, .int .i64 8, .pointer (some ⟨B, 0, none⟩)] w fun e w' => e = .returned (.tuple #[]) ∧ Bq B B (l ++ numL n 8) (m + 8) w' ∧ Below B w w' from fun l m n w hn h hl => hput_q B B l m n 8 w hn (by omega) h hl)
  have HS := Lib.hid (fun (W0 : World) (hW0 : (w.alloc (.cells #[.int .i64 kind, .int .i64 entry, .slice A n c] 24)).alloc (.cells #[.pointer none, .slice none 0 0] 63) = W0) =>
    show Bq B B [] 0 W0 ∧ Below w.heap.size w W0 ∧ Blk W0 w.heap.size 24 #[.int .i64 kind, .int .i64 entry, .slice A n c] ∧ B ≤ W0.heap.size from by
    subst hBdef
    subst hW0
    refine ⟨⟨?_, rfl⟩, ((Below.refl _ _).alloc (Nat.le_refl _) _).alloc (by simp) _, (Blk.new w _ _).alloc _, by simp⟩
    have := Bd.new (w.alloc (.cells #[.int .i64 kind, .int .i64 entry, .slice A n c] 24))
    simpa using this)
  have wn : (Lit.int .i64 (n : Int)).wf = true := by
    have e1 : IntKind.i64.min = -9223372036854775808 := rfl
    have e2 : IntKind.i64.max = 9223372036854775807 := by decide
    simp [Lit.wf, e1, e2]; omega
  rw [hn]
  have HN := Lib.hid hn
  have HBD := Lib.hid hBdef
  have hBlt : w.heap.size < B := by omega
  clear hn hBdef
  go_enter Tryd.func14, Tryd.ntmps14
  go_wp2_with fail
  rw [HBD.out]
  generalize hW : (w.alloc (.cells #[.int .i64 kind, .int .i64 entry, .slice A n c] 24)).alloc (.cells #[.pointer none, .slice none 0 0] 63) = W0
  obtain ⟨hQ, hBW, hK, hB0⟩ := HS.out W0 hW
  clear hW HS
  have hBe : Below B W0 W0 := Below.refl _ _
  have HC := Lib.hid (fun v (hv : Below B W0 v) => show v.cell? ⟨w.heap.size, 0, none⟩ = some (.int .i64 kind) ∧ v.cell? ⟨w.heap.size, 1, none⟩ = some (.int .i64 entry) ∧ v.cell? ⟨w.heap.size, 2, none⟩ = some (.slice A n c) from
    ⟨(hv.cell hBlt).trans (hK.at_ 0 _ rfl), (hv.cell hBlt).trans (hK.at_ 1 _ rfl), (hv.cell hBlt).trans (hK.at_ 2 _ rfl)⟩)
  have HTR := Lib.hid (fun v (hv : Below B W0 v) => show ETab v ∧ SegRow v A segs from by
    have hv2 : Below w.heap.size w v := hBW.trans (hv.mono (by omega))
    exact ⟨hT.on hv2, hr.below hv2⟩)
  obtain ⟨k0, k1, k2⟩ := HC.out _ hBe
  clear hT hr hK
  go_wp2_with (first
    | (go_at_call 36; with_reducible refine (HF1.out _).mono ?_; rintro e v1 ⟨rfl, hb⟩; replace hQ := hQ.below hb; replace hBe := hBe.trans (hb.mono (Nat.le_trans hB0 hBe.size)); clear hb k0 k1 k2; obtain ⟨k0, k1, k2⟩ := HC.out _ hBe)
    | (go_at_call 36; with_reducible refine (HF2.out _).mono ?_; rintro e v1 ⟨rfl, hb⟩; replace hQ := hQ.below hb; replace hBe := hBe.trans (hb.mono (Nat.le_trans hB0 hBe.size)); clear hb k0 k1 k2; obtain ⟨k0, k1, k2⟩ := HC.out _ hBe)
    | (go_at_call 36; with_reducible refine (HF3.out _).mono ?_; rintro e v1 ⟨rfl, hb⟩; replace hQ := hQ.below hb; replace hBe := hBe.trans (hb.mono (Nat.le_trans hB0 hBe.size)); clear hb k0 k1 k2; obtain ⟨k0, k1, k2⟩ := HC.out _ hBe)
    | (go_at_call 34; with_reducible refine (HW1.out _ _ _ hQ (by omega)).mono ?_; rintro e v1 ⟨rfl, hQ', hb⟩; clear hQ; have hQ := hQ'; clear hQ'; replace hBe := hBe.trans hb; clear hb k0 k1 k2; obtain ⟨k0, k1, k2⟩ := HC.out _ hBe)
    | (go_at_call 34; with_reducible refine (HW2.out _ _ _ hQ (by omega)).mono ?_; rintro e v1 ⟨rfl, hQ', hb⟩; clear hQ; have hQ := hQ'; clear hQ'; replace hBe := hBe.trans hb; clear hb k0 k1 k2; obtain ⟨k0, k1, k2⟩ := HC.out _ hBe)
    | (go_at_call 34; with_reducible refine (HW3.out _ _ _ hQ (by omega)).mono ?_; rintro e v1 ⟨rfl, hQ', hb⟩; clear hQ; have hQ := hQ'; clear hQ'; replace hBe := hBe.trans hb; clear hb k0 k1 k2; obtain ⟨k0, k1, k2⟩ := HC.out _ hBe)
    | (go_at_call 33; with_reducible refine (HP2.out _ _ _ _ (by first | assumption | decide) hQ (by omega)).mono ?_; rintro e v1 ⟨rfl, hQ', hb⟩; clear hQ; have hQ := hQ'; clear hQ'; replace hBe := hBe.trans hb; clear hb k0 k1 k2; obtain ⟨k0, k1, k2⟩ := HC.out _ hBe)
    | (go_at_call 33; with_reducible refine (HP4.out _ _ _ _ (by first | assumption | decide) hQ (by omega)).mono ?_; rintro e v1 ⟨rfl, hQ', hb⟩; clear hQ; have hQ := hQ'; clear hQ'; replace hBe := hBe.trans hb; clear hb k0 k1 k2; obtain ⟨k0, k1, k2⟩ := HC.out _ hBe)
    | (go_at_call 33; with_reducible refine (HP8.out _ _ _ _ (by first | assumption | decide) hQ (by omega)).mono ?_; rintro e v1 ⟨rfl, hQ', hb⟩; clear hQ; have hQ := hQ'; clear hQ'; replace hBe := hBe.trans hb; clear hb k0 k1 k2; obtain ⟨k0, k1, k2⟩ := HC.out _ hBe))
  have hbase : Bd B B (Img.baseL ⟨kind, entry, segs⟩) v1 := by
    obtain ⟨e1, e2, e3⟩ := HM.out
    refine cast (congrArg (fun L => Bd B B L v1) ?_) hQ.1
    unfold Img.baseL
    rw [← e1, ← e2, ← e3]
    simp only [List.nil_append, HN.out]
  have HBL := Lib.hid (baseL_length ⟨kind, entry, segs⟩)
  have hHHD : Img.headL ⟨kind, entry, segs⟩ = Img.baseL ⟨kind, entry, segs⟩ ++ segs.flatMap segL := rfl
  obtain ⟨head, hhead⟩ : ∃ head, head = Img.headL ⟨kind, entry, segs⟩ := ⟨_, rfl⟩
  rw [← hhead] at hHHD
  have HHD := Lib.hid hHHD
  have HG := Lib.hid hhead
  clear hHHD hhead
  generalize Img.baseL ⟨kind, entry, segs⟩ = base at *
  clear hQ HF1 HF2 HF3 HW1 HW2 HW3 HP2 HP4 HP8 HM
  generalize v1 = v0 at *
  go_loopw [43] (fun i wr => ∃ k : Nat, k ≤ n ∧ i = .int .i64 k ∧ Bd B B (base ++ (segs.take k).flatMap segL) wr ∧ Below B W0 wr) (fun i _ => n - (intOf i).toNat)
  case atStart => exact ⟨0, Nat.zero_le _, rfl, by simpa using hbase, hBe⟩
  case round =>
    obtain ⟨k, hk, rfl, hbd, hbe⟩ := hrel
    by_cases hlt : k < n
    · obtain ⟨hT, hr⟩ := HTR.out _ hbe
      have hkl : k < segs.length := by rw [HN.out]; exact hlt
      obtain ⟨ad, rfl, hblt, hwf, d0, d1, d2, d3, d4, d5, d6⟩ := hr.at_ hkl
      obtain ⟨s, hs⟩ : ∃ s, segs[k] = s := ⟨_, rfl⟩
      rw [hs] at hwf d0 d1 d2 d3 d4 d5 d6
      have hNA : ∀ j, j < 8 → s.numA[j]? = some (.int .i64 (s.nums.getD j 0)) := fun j hj => s.numA_at hj
      have hNU := fun w => numbersOf_any s w
      unfold Seg.v Seg.cs at hNU
      generalize s.numA = NA at *
      have HNU := Lib.hid hNU
      have HNA := Lib.hid hNA
      have HWF := Lib.hid hwf
      have HSK := Lib.hid hs
      have HTT := Lib.hid hT
      clear hNU hNA hwf hs hT hr k0 k1 k2
      go_wp2_with (go_at_call 37; with_reducible refine (HNU.out _).mono ?_; rintro e v2 ⟨rfl, hb2⟩)
      have hbd2 := (hbd.below ((Below.refl _ _).alloc (Nat.le_refl _) _)).below hb2
      have hbe2 := (hbe.alloc (Nat.le_trans hB0 hbe.size) _).trans (hb2.mono (by have := Nat.le_trans hB0 hbe.size; simp; omega))
      clear hb2 hbd d0 d1 d2 d3 d4 d5 d6
      go_loopw [49] (fun j w2 => ∃ q : Nat, q ≤ 8 ∧ j = .int .i64 q ∧ Bd B B ((base ++ (segs.take k).flatMap segL) ++ (List.range q).flatMap (numsL s)) w2 ∧ Below B W0 w2) (fun j _ => 8 - (intOf j).toNat)
      case atStart => exact ⟨0, Nat.zero_le _, rfl, by simpa using hbd2, hbe2⟩
      case round =>
        obtain ⟨q, hq, rfl, hb3, hbe3⟩ := hrel
        by_cases hq8 : q < 8
        · have x1 := HNA.out q hq8
          have x2 := (HTR.out _ hbe3).1.wid q hq8
          obtain ⟨kk, hkk, hk8⟩ := wid_nat q
          obtain ⟨z, hz⟩ : ∃ z, s.nums.getD q 0 = z := ⟨_, rfl⟩
          have hzw : (Lit.int .i64 z).wf = true := by rw [← hz]; exact Seg.nums_wf HWF.out hq8
          have hnx : numsL s q = numL z kk := by unfold numsL; rw [hz, hkk]; simp
          rw [hz] at x1
          rw [hkk] at x2
          have hix := run_index8 NA q _ hq8 x1
          have hll : ((base ++ (segs.take k).flatMap segL) ++ (List.range q).flatMap (numsL s)).length ≤ 1000000 := by
            have e1 := numsL_le s q
            have e2 := segsL_length (segs.take k)
            rw [List.length_take] at e2
            rw [List.length_append, List.length_append, HBL.out]
            omega
          have hnext : (base ++ (segs.take k).flatMap segL) ++ (List.range (q + 1)).flatMap (numsL s) = ((base ++ (segs.take k).flatMap segL) ++ (List.range q).flatMap (numsL s)) ++ numL z kk := by
            rw [List.range_succ, List.flatMap_append]
            simp only [List.flatMap_cons, List.flatMap_nil, List.append_nil, hnx, List.append_assoc]
          have HP := Lib.hid (fun w h => hput_any B B ((base ++ (segs.take k).flatMap segL) ++ (List.range q).flatMap (numsL s)) z kk w hzw hk8 h hll)
          have HNX := Lib.hid hnext
          clear hz hkk hnx hll hnext x1
          generalize (base ++ (segs.take k).flatMap segL) ++ (List.range q).flatMap (numsL s) = Lq at *
          go_wp2_with (go_at_call 33; with_reducible refine (HP.out _ hb3).mono ?_; rintro e v4 ⟨rfl, hb4, hB4⟩)
          go_roundw
          case rel => exact ⟨q + 1, by omega, by go_num, by rw [HNX.out]; exact hb4, hbe3.trans hB4⟩
          case measure => simp [intOf]; omega
        · obtain rfl : q = 8 := by omega
          have hsn : base ++ (segs.take (k + 1)).flatMap segL = (base ++ (segs.take k).flatMap segL) ++ (List.range 8).flatMap (numsL s) := by
            have hkl' : k < segs.length := by rw [HN.out]; exact hlt
            have e : segs[k] = s := HSK.out
            rw [List.take_succ_eq_append_getElem hkl', List.flatMap_append, e]
            simp only [List.flatMap_cons, List.flatMap_nil, List.append_nil, List.append_assoc]
            rfl
          rw [← hsn] at hb3
          have HSN := Lib.hid hb3
          clear hsn hb3
          rw [show ((8 : Nat) : Int) = 8 from rfl]
          go_wp2_with fail
          go_roundw
          case rel => exact ⟨k + 1, by omega, by go_num, HSN.out, hbe3⟩
          case measure => simp [intOf]; omega
    · obtain rfl : k = n := by omega
      have e : base ++ (segs.take k).flatMap segL = head := by rw [HHD.out, List.take_of_length_le (by rw [HN.out]; exact Nat.le_refl _)]
      rw [e] at hbd
      have h0 : head ≠ [] := by
        intro h
        have e1 := HHD.out
        rw [h] at e1
        have e2 := HBL.out
        rw [(List.append_eq_nil_iff.1 e1.symm).1] at e2
        simp at e2
      have HS := Lib.hid (bd_string B B head _ hbd h0)
      clear e h0
      go_wp2_with (go_at_call 38; with_reducible refine HS.out.mono ?_; rintro e v5 ⟨rfl, hb5⟩)
      go_ret
      exact ⟨congrArg (fun L => Ending.returned (.string (mkb L))) HG.out, hBW.trans ((hbe.trans hb5).mono (by omega))⟩
end Go.Proofs.YtakmmphjdkapeaaDoor
