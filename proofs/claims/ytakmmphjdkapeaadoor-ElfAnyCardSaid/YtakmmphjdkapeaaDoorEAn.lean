/- ElfAny: for any segments by numbers, 4 at most: the bytes of a file that may be any may be any: the image is the same. -/
import Derived.Test.YtakmmphjdkapeaaDoorFf
import Derived.Test.YtakmmphjdkapeaaDoorFa
namespace Go.Proofs.YtakmmphjdkapeaaDoor.lawAn
open Go.ChangeShapes Go.WideShapes Go.ChangeAt Go.RowKit
set_option linter.unusedVariables false
set_option linter.unusedSimpArgs false

/-- Which byte. -/
def placeN (K : Nat) : Nat := if K < 12 then 40 + K else if K < 18 then 46 + K else 64 + 56 * ((K - 18) / 8) + 24 + (K - 18) % 8
theorem place_free {n K : Nat} (h : K < 18 + 8 * n) : freeK n (placeN K) = true ∧ placeN K < 64 + 56 * n := by
  rw [freeK_iff]
  unfold placeN
  split
  · omega
  · split
    · omega
    · have h1 : (64 + 56 * ((K - 18) / 8) + 24 + (K - 18) % 8 - 64) % 56 = 24 + (K - 18) % 8 := by
        rw [show 64 + 56 * ((K - 18) / 8) + 24 + (K - 18) % 8 - 64 = (24 + (K - 18) % 8) + 56 * ((K - 18) / 8) by omega, Nat.add_mul_mod_self_left, Nat.mod_eq_of_lt (by omega)]
      rw [h1]
      omega
theorem fill_at {L : List UInt8} {m j : Nat} (hj : j < L.length) (hm : L.length ≤ m) : (fillS (mkb L) m).data.toList.getD j 0 = L.getD j 0 := by
  unfold fillS
  rw [if_neg (by omega), mkb_data, mkb_data, Int.toNat_natCast]
  unfold fillL
  simp only [List.getD_eq_getElem?_getD]
  rw [List.getElem?_append_left (by rw [List.length_take]; omega), List.getElem?_take_of_lt (by omega)]
theorem fill_size (s : ByteArray) (m : Nat) : (fillS s m).size = m := by
  unfold fillS
  rw [if_neg (by omega), mkb_size, fillL_length, Int.toNat_natCast]
theorem set_at {s : ByteArray} {k j : Nat} {x : UInt8} (h : k ≠ j) : (setB s k x).data.toList.getD j 0 = s.data.toList.getD j 0 := by
  unfold setB
  rw [mkb_data]
  simp only [List.getD_eq_getElem?_getD]
  rw [List.getElem?_set_ne h]

set_option maxRecDepth 100000 in
set_option maxHeartbeats 3200000 in
theorem walk (p : SpecIn) (at_ c0 : Int) (w : World) (hp : p.In w) (wa : (Lit.int .i64 at_).wf = true) (wc : (Lit.int .u8 c0).wf = true) (hT : ETab w) :
    Calls Tryd.prog 9 #[p.v, .int .i64 at_, .int .u8 c0] w fun e w' => e = .returned (.bool true) ∧ Below w.heap.size w w' := by
  obtain ⟨cb, hcb⟩ := u8_of (z := c0) (by have e1 : IntKind.u8.min = 0 := rfl; have e2 : IntKind.u8.max = 255 := by decide
                                          simp [Lit.wf, e1, e2] at wc; omega)
  obtain rfl : c0 = (cb.toNat : Int) := hcb.symm
  have HA := Lib.hid (fun v (hv : Below w.heap.size w v) => awake8_any v (hT.on hv))
  have HI := Lib.hid (fun v (hv : Below w.heap.size w v) => image_any p v (hp.below hv))
  have hlen := img_len p
  have hmay := img_may p
  have hfit := img_fits p
  have hsz := size_in p
  have hwf := fun s hs => May.wf (hmay s hs)
  have hpv : p.v = .agg #[.int .i64 p.kind, .int .i64 p.entry, .slice p.A p.qs.length p.c] := rfl
  have hHD := fun v A c (hv : Below w.heap.size w v) (hr : SegRow v A p.img.segs) => header_any p.img A c v (hT.on hv) (i64_wf (by have := hfit.kind; omega)) (i64_wf (by have := hfit.entry; omega)) hr (by omega)
  have hPA := fun (hne : p.img.segs ≠ []) f h1 h2 => file_parse (p := p) (f := f) hne h1 h2
  have hhl : p.img.headL.length = 64 + 56 * p.img.segs.length := headL_len _
  have HEP := Lib.hid (fun f v (hv : Below w.heap.size w v) (hs : f.size ≤ 281474976710656) => eparse_any f v (hT.on hv) hs)
  rw [hpv] at HI ⊢
  generalize p.img = x at *
  obtain ⟨size, hsd⟩ : ∃ s : Nat, p.size = s := ⟨p.size.toNat, by omega⟩
  rw [hsd] at HI hsz hPA
  have HPA := Lib.hid hPA
  have HWF := Lib.hid hwf
  clear hPA hwf hpv hp hmay hsd hT hfit hcb wc
  obtain ⟨pk, pe, pq, pA, pc⟩ := p
  simp only at *
  generalize pq.length = pn at *
  obtain ⟨hl, hhl2⟩ : ∃ l, x.headL = l := ⟨_, rfl⟩
  have hss := same_same x.kind x.entry x.segs (by omega)
  obtain ⟨W, hW⟩ : ∃ W, w.alloc (.cells #[.int .i64 pk, .int .i64 pe, .slice pA pn pc] 41) = W := ⟨_, rfl⟩
  have hB0 : Below w.heap.size w W := by rw [← hW]; exact (Below.refl _ _).alloc (Nat.le_refl _) _
  have hK0 : Blk W w.heap.size 41 #[.int .i64 pk, .int .i64 pe, .slice pA pn pc] := by rw [← hW]; exact Blk.new w _ _
  have HW := Lib.hid hW
  clear hW
  go_enter Tryd.func9, Tryd.ntmps9
  go_upto_region 1 with fail
  rw [HW.out]
  go_upto_region 2 with (go_at_call 10; refine (HA.out _ hB0).mono ?_; rintro e v1 ⟨rfl, hb⟩; have hB1 := hB0.trans (hb.mono hB0.size); have hK1 := hK0.below hb hK0.lt; clear hb hK0)
  have s0 : v1.cell? ⟨w.heap.size, 0, none⟩ = some (.int .i64 pk) := hK1.at_ 0 _ rfl
  have s1 : v1.cell? ⟨w.heap.size, 1, none⟩ = some (.int .i64 pe) := hK1.at_ 1 _ rfl
  have s2 : v1.cell? ⟨w.heap.size, 2, none⟩ = some (.slice pA pn pc) := hK1.at_ 2 _ rfl
  obtain ⟨kind, entry, segs⟩ := x
  simp only at *
  go_upto_region 3 with (go_at_call 21; refine (HI.out _ hB1).mono ?_; rintro e v2 ⟨A, c, rfl, hown, hb⟩; unfold Img.v; simp only; have hB2 := hB1.trans (hb.mono hB1.size); clear hb)
  obtain ⟨A1, c1, hv, hrow, -⟩ := SegRow.of_own hown HWF.out
  injection hv with e1 e2 e3
  subst e1 e3
  obtain ⟨W2, hW2⟩ : ∃ W2, v2.alloc (.cells #[.int .i64 kind, .int .i64 entry, .slice A segs.length c] 24) = W2 := ⟨_, rfl⟩
  have hB3 : Below w.heap.size w W2 := by rw [← hW2]; exact hB2.alloc hB2.size _
  have hrow2 : SegRow W2 A segs := by rw [← hW2]; exact hrow.below ((Below.refl _ _).alloc (Nat.le_refl _) _)
  have hK2 : Blk W2 v2.heap.size 24 #[.int .i64 kind, .int .i64 entry, .slice A segs.length c] := by rw [← hW2]; exact Blk.new _ _ _
  rw [hW2]
  obtain ⟨G, hG⟩ : ∃ G, v2.heap.size = G := ⟨_, rfl⟩
  rw [hG] at hK2 ⊢
  have HTR := Lib.hid (fun v (hv : Below W2.heap.size W2 v) => show SegRow v A segs ∧ Below w.heap.size w v ∧ v.cell? ⟨G, 0, none⟩ = some (.int .i64 kind) ∧ v.cell? ⟨G, 1, none⟩ = some (.int .i64 entry) ∧ v.cell? ⟨G, 2, none⟩ = some (.slice A segs.length c) from
    ⟨hrow2.below hv, hB3.trans (hv.mono hB3.size), (hK2.below hv hK2.lt).at_ 0 _ rfl, (hK2.below hv hK2.lt).at_ 1 _ rfl, (hK2.below hv hK2.lt).at_ 2 _ rfl⟩)
  have hbq := Below.refl W2.heap.size W2
  have hhd := fun v (hv : Below W2.heap.size W2 v) => hHD v A c (HTR.out v hv).2.1 (HTR.out v hv).1
  clear hrow hrow2 hK2 hB3 hB2 hB1 hB0 hK1 hown hW2 hG s0 s1 s2 hHD
  by_cases hne : segs = []
  · subst hne
    simp only [List.length_nil] at *
    obtain ⟨hr, hbw, x0, x1, x2⟩ := HTR.out _ hbq
    clear hhd hr
    go_wp2
    go_ret
    exact ⟨rfl, hbw⟩
  · have hpa := fun f h1 h2 => HPA.out hne f h1 h2
    have hlp : 1 ≤ segs.length := List.length_pos_iff.2 hne
    try unfold Img.v at hhd
    try simp only at hhd
    have HHD2 := Lib.hid hhd
    have HSS := Lib.hid hss
    rw [hhl2] at hhl hpa HHD2
    have HPA2 := Lib.hid hpa
    obtain ⟨n, hn⟩ : ∃ n, segs.length = n := ⟨_, rfl⟩
    have HN := Lib.hid hn
    rw [hn] at hlp hlen hhl HHD2 HSS HPA2 HTR ⊢
    have hn0 : ((n : Int) == 0) = false := by simp; omega
    have hn1 : ¬ ((n : Int) = 0) := by omega
    obtain ⟨hr, hbw, x0, x1, x2⟩ := HTR.out _ hbq
    have hF := fun w => rfill_any (mkb hl) size w (i64_wf (by omega)) (by rw [mkb_size]; omega) (by omega)
    have hFa := fun j (hj : j < 64 + 56 * n) => fill_at (L := hl) (m := size) (j := j) (by omega) (by omega)
    have hFs := fill_size (mkb hl) size
    obtain ⟨H, hH⟩ : ∃ H, mkb hl = H := ⟨_, rfl⟩
    rw [hH] at hF hFa hFs HHD2
    obtain ⟨F, hFd⟩ : ∃ F, fillS H size = F := ⟨_, rfl⟩
    rw [hFd] at hF hFa hFs
    have HF := Lib.hid hF
    -- which byte
    obtain ⟨M8, hM8⟩ : ∃ z, 8 * n = z := ⟨_, rfl⟩
    obtain ⟨M, hM⟩ : ∃ z, 18 + M8 = z := ⟨_, rfl⟩
    have w1 : IntKind.i64.wrap (8 * (n : Int)) = (M8 : Int) := by rw [IntWalk.i64_in _ (by omega)]; omega
    have w2 : IntKind.i64.wrap (18 + (M8 : Int)) = (M : Int) := by rw [IntWalk.i64_in _ (by omega)]; omega
    obtain ⟨r, k, h1, h2, h3, h4, h5, h6⟩ := rest_nat at_ M (by omega)
    obtain ⟨r18, hr18⟩ : ∃ z, r + 18 = z := ⟨_, rfl⟩
    have w3 : IntKind.i64.wrap (r + 18) = r18 := by rw [IntWalk.i64_in _ (by omega)]; exact hr18
    have w4 : IntKind.i64.wrap (r18 + (M8 : Int)) = r + (M : Int) := by rw [IntWalk.i64_in _ (by omega)]; omega
    obtain ⟨K, rfl⟩ : ∃ K : Nat, k = (K : Int) := ⟨k.toNat, by omega⟩
    have hfree := place_free (n := n) (K := K) (by omega)
    obtain ⟨P0, hP0⟩ : ∃ z, 40 + K = z := ⟨_, rfl⟩
    have w5 : IntKind.i64.wrap (40 + (K : Int)) = (P0 : Int) := by rw [IntWalk.i64_in _ (by omega)]; omega
    obtain ⟨q1, hq1⟩ : ∃ z, 58 + K = z := ⟨_, rfl⟩
    have w6 : IntKind.i64.wrap (58 + (K : Int)) = (q1 : Int) := by rw [IntWalk.i64_in _ (by omega)]; omega
    obtain ⟨P1, hP1⟩ : ∃ z, q1 - 12 = z := ⟨_, rfl⟩
    have w7 : IntKind.i64.wrap ((q1 : Int) - 12) = (P1 : Int) := by rw [IntWalk.i64_in _ (by omega)]; omega
    obtain ⟨M56, hM56⟩ : ∃ z, 56 * n = z := ⟨_, rfl⟩
    obtain ⟨HN56, hHN⟩ : ∃ z, 64 + M56 = z := ⟨_, rfl⟩
    have w8 : IntKind.i64.wrap (56 * (n : Int)) = (M56 : Int) := by rw [IntWalk.i64_in _ (by omega)]; omega
    have w9 : IntKind.i64.wrap (64 + (M56 : Int)) = (HN56 : Int) := by rw [IntWalk.i64_in _ (by omega)]; omega
    have hnl : ¬ ((size : Int) < (HN56 : Int)) := by omega
    obtain ⟨P, hP⟩ : ∃ z, placeN K = z := ⟨_, rfl⟩
    rw [hP] at hfree
    have hPs : P < size := by omega
    obtain ⟨f, hf⟩ : ∃ f, setB F P cb = f := ⟨_, rfl⟩
    have hfs : f.size = size := by rw [← hf, setB_size]; exact hFs
    have hpar := HPA2.out f (by omega) (fun j hj hfr => by
      rw [← hf, set_at (fun e => by subst e; rw [hfree.1] at hfr; exact absurd hfr (by simp))]
      exact hFa j hj)
    have hep := fun v (hv : Below W2.heap.size W2 v) => HEP.out f v (HTR.out v hv).2.1 (by omega)
    rw [hpar.1, hpar.2] at hep
    have HP1 := Lib.hid (fun v (hv : Below W2.heap.size W2 v) => (hep v hv).mono (R' := fun e v' => ∃ D d, e = .returned (.tuple #[.agg #[.int .i64 kind, .int .i64 entry, .slice D n d], .int .i64 0]) ∧ SegRow v' D segs ∧ Below v.heap.size v v') (by
      rintro e v' ⟨D, d, rfl, hr, -, hb⟩
      refine ⟨D, d, ?_, hr, hb⟩
      unfold Img.v
      simp only
      rw [HN.out]))
    have hcases : (¬ (12 : Int) ≤ (K : Int) ∧ ¬ (18 : Int) ≤ (K : Int) ∧ P0 = P) ∨ ((12 : Int) ≤ (K : Int) ∧ ¬ (18 : Int) ≤ (K : Int) ∧ P1 = P) ∨
        ∃ q2 q3 q4 q5 q6 q7 : Int, (12 : Int) ≤ (K : Int) ∧ (18 : Int) ≤ (K : Int) ∧ IntKind.i64.wrap ((K : Int) - 18) = q2 ∧ q2.tdiv 8 = q3 ∧ wrap64 q3 = q3 ∧ IntKind.i64.wrap q3 = q3 ∧ IntKind.i64.wrap (56 * q3) = q4 ∧ IntKind.i64.wrap (64 + q4) = q5 ∧ IntKind.i64.wrap (q5 + 24) = q6 ∧ q2.tmod 8 = q7 ∧ IntKind.i64.wrap (q6 + q7) = (P : Int) := by
      unfold placeN at hP
      by_cases c1 : K < 12
      · rw [if_pos c1] at hP
        exact .inl ⟨by omega, by omega, by omega⟩
      · rw [if_neg c1] at hP
        by_cases c2 : K < 18
        · rw [if_pos c2] at hP
          exact .inr (.inl ⟨by omega, by omega, by omega⟩)
        · rw [if_neg c2] at hP
          refine .inr (.inr ⟨(K : Int) - 18, ((K : Int) - 18) / 8, 56 * (((K : Int) - 18) / 8), 64 + 56 * (((K : Int) - 18) / 8), 64 + 56 * (((K : Int) - 18) / 8) + 24, ((K : Int) - 18) % 8, by omega, by omega, IntWalk.i64_in _ (by omega), Int.tdiv_eq_ediv_of_nonneg (by omega), IntWalk.wrap64_in _ (by omega), IntWalk.i64_in _ (by omega), IntWalk.i64_in _ (by omega), IntWalk.i64_in _ (by omega), IntWalk.i64_in _ (by omega), Int.tmod_eq_emod_of_nonneg (by omega), ?_⟩)
          rw [IntWalk.i64_in _ (by omega)]
          omega
    clear hpar hep hF hFa hFd hH hhl hhl2 hhd hpa hss hn hne HPA HPA2 HWF HI HA HEP hP hfree hM8 hM hr18 hP0 hq1 hP1 hM56 hHN h2 h3 hr
    have HCB := Lib.hid (fun w => Lib.run_convert_string_bytes (P := Tryd.prog) w 9 53 5 F Tryd.underlying9 Tryd.underlying53 Tryd.underlying5)
    go_upto_region 7 with (first
      | (go_at_call 14; with_reducible refine (HHD2.out _ hbq).mono ?_; rintro e v3 ⟨rfl, hb3⟩; have hbq3 := hbq.trans (hb3.mono hbq.size); clear hb3)
      | (go_at_call 25; with_reducible refine (HF.out _).mono ?_; rintro e v4 ⟨rfl, hb4⟩; have hbq4 := hbq3.trans (hb4.mono hbq3.size); clear hb4; refine Hid.out ?_))
    refine Lib.hid ?_
    have hcb1 := HCB.out v4
    have hcap := grownCap_ge v4 F.size 0 5
    have hraw := rawB_new v4 5 F
    have hbw5 := below_bytesWorld v4 5 F
    obtain ⟨v5, hv5⟩ : ∃ v5, v5 = Lib.bytesWorld v4 5 F := ⟨_, rfl⟩
    rw [← hv5] at hcb1 hraw hbw5
    generalize grownCap v4 F.size 0 5 = cap at *
    obtain ⟨g, hg⟩ : ∃ g, v4.heap.size = g := ⟨_, rfl⟩
    have hbq5 := hbq4.trans (hbw5.mono hbq4.size)
    rw [hg] at hcb1 hraw
    rw [hFs] at hcb1 hcap
    obtain ⟨hc1, hf1⟩ := hraw.2 P (by omega)
    obtain ⟨x, hx⟩ : ∃ x, F.data.toList.getD P 0 = x := ⟨_, rfl⟩
    rw [hx] at hc1
    have hgW : W2.heap.size ≤ g := by rw [← hg]; exact hbq4.size
    obtain ⟨v6, hv6⟩ : ∃ v6, v5.setCell ⟨g, P, none⟩ (.int .u8 cb.toNat) = v6 := ⟨_, rfl⟩
    have hr6 : RawB v6 g f := by rw [← hv6, ← hf]; exact hraw.set (by omega) cb
    have hbq6 : Below W2.heap.size W2 v6 := by rw [← hv6]; exact hbq5.setCell (p := ⟨g, P, none⟩) hgW _
    have hcv := run_string_raw (P := Tryd.prog) v6 53 9 5 g cap f Tryd.underlying53 Tryd.underlying5 Tryd.underlying9 hr6 size hfs
    have HB6 := Lib.hid hbq6
    have k1 : (P : Int) < (size : Int) := by omega
    clear hv5 hcap hraw hbw5 hbq hbq3 hbq4 hbq5 hr6 hbq6 hx hgW hg hf hfs hFs HCB HF HHD2
    clear x0 x1 x2 hbw
    rcases hcases with ⟨c1, c2, rfl⟩ | ⟨c1, c2, rfl⟩ | ⟨q2, q3, q4, q5, q6, q7, c1, c2, t1, t2, t8, t9, t3, t4, t5, t6, t7⟩
    all_goals
      go_wp2_with (first
        | (go_at_call 19; with_reducible refine (HP1.out _ HB6.out).mono ?_; rintro e v7 ⟨D, d, rfl, hrD, hb7⟩
           have hq7 := (HB6.out.trans (hb7.mono HB6.out.size)).alloc (Nat.le_trans HB6.out.size hb7.size) (.cells #[.int .i64 kind, .int .i64 entry, .slice D n d] 24)
           have k7 := Blk.new v7 24 #[.int .i64 kind, .int .i64 entry, .slice D n d]
           have r7 := hrD.below ((Below.refl v7.heap.size v7).alloc (Nat.le_refl _) (.cells #[.int .i64 kind, .int .i64 entry, .slice D n d] 24))
           obtain ⟨hr7, hbw7, x0, x1, x2⟩ := HTR.out _ hq7
           have y0 := k7.at_ 0 _ rfl
           have y1 := k7.at_ 1 _ rfl
           have y2 := k7.at_ 2 _ rfl
           clear hrD hb7)
        | (go_at_call 16; with_reducible refine (HSS.out _ _ _ _ _ hr7 r7).mono ?_; rintro e v8 ⟨rfl, hb8⟩; have hq8 := hbw7.trans (hb8.mono hbw7.size); clear hb8))
      go_ret
      exact ⟨rfl, hq8⟩
open Go.Proofs.YtakmmphjdkapeaaDoor.l8
set_option maxRecDepth 100000 in
theorem lifted (os : Os) (started : os.Started) (H : Type) (enc : TypeId × Value → H) :
    ReturnsInHanded {} Tryd.checked os 9 .any (fun w args => (Rows.elfAnySpec.pre enc Tryd.prog Tryd.f9 Rows.elfAnyRow.domain false w args ∧ laidMet Tryd.prog Rows.elfAnyRow.laid w) ∧ sizedMet enc Tryd.prog Tryd.f9 (OpenSpec.ofChange Rows.elfAnySpec) false w args) (Rows.elfAnySpec.post enc Tryd.prog Tryd.f9 false true false false) := by
  refine returnsInHanded_of_change_and (C := Tryd.checked) (X := fun w _ => laidMet Tryd.prog Rows.elfAnyRow.laid w) (fun _ _ _ hh h => h.of_heap hh) own started (by kernel_rfl) Tryd.func9
    (ChangeSpec.witness_at (enc := enc) (C := Tryd.checked) (os := os) (X := fun w _ => laidMet Tryd.prog Rows.elfAnyRow.laid w) false (laidWorld os) #[zspecV, .int .i64 0, .int .u8 0] 8 rfl (by kernel_rfl) (by kernel_rfl) (by kernel_rfl) (by kernel_rfl) (by kernel_rfl) (laid_met os _)) ?_
  intro W base args ds gs before hval0 hW hcnd _ hL _
  have hval : ∀ (j : Nat) t v, Tryd.f9.params[j]? = some t → args[j]? = some v → Value.okWide Tryd.prog W .any base t v := hval0
  have hW' := hW
  obtain ⟨p, q, hA0, hV, rfl, hfz, hnd⟩ := hW
  have hA : DataW.TrodAll enc Tryd.prog W 0 (fun _ => true) true Tryd.f9.params.toList args.toList ds p := hA0
  rw [Tryd.params9] at hA hval
  obtain ⟨v0, vs0, d0, ds0, p0, q0, hargs, rfl, rfl, h0, r0⟩ := trodAll_cons hA
  obtain ⟨v1, vs1, d1, ds1, p1, q1, rfl, rfl, rfl, h1, r1⟩ := trodAll_cons r0
  obtain ⟨v2, vs2, d2, ds2, p2, q2, rfl, rfl, rfl, h2, r2⟩ := trodAll_cons r1
  obtain ⟨rfl, rfl, rfl⟩ := trodAll_nil r2
  obtain rfl : args = #[v0, v1, v2] := by cases args; simp_all
  obtain ⟨rfl, rfl⟩ := trodVars_none hV
  have k0 := h0
  have lt0 : ∀ x ∈ p0, x.block < W.heap.size := by obtain ⟨m, hm⟩ := k0; exact DataW.trod_lt m _ _ _ hm
  obtain ⟨a0, rfl, w0⟩ := open_spec (hval 0 41 v0 rfl rfl) h0
  have k1 := h1
  have lt1 : ∀ x ∈ p1, x.block < W.heap.size := by obtain ⟨m, hm⟩ := k1; exact DataW.trod_lt m _ _ _ hm
  obtain ⟨a1, rfl, _, _, w1⟩ := open_int Tryd.underlying3 (hval 1 3 v1 rfl rfl) h1
  have k2 := h2
  have lt2 : ∀ x ∈ p2, x.block < W.heap.size := by obtain ⟨m, hm⟩ := k2; exact DataW.trod_lt m _ _ _ hm
  obtain ⟨a2, rfl, _, _, w2⟩ := open_int Tryd.underlying5 (hval 2 5 v2 rfl rfl) h2
  clear hA0 hval0
  refine (walk a0 a1 a2 W w0 w1 w2 (tab_of_laid hL)).mono fun e W' ⟨he, bel⟩ => ?_
  subst he
  exact ⟨_, rfl, _, _, _, [], _, [], hW', trodAll_mk1 (shut_bool Tryd.underlying4 _), (trodAll_cons_mk (Below.trod laidOut (by kernel_rfl) (of_decide_eq_true (by kernel_rfl)) k0 bel lt0) (trodAll_cons_mk (Below.trod laidOut (by kernel_rfl) (of_decide_eq_true (by kernel_rfl)) k1 bel lt1) (trodAll_cons_mk (Below.trod laidOut (by kernel_rfl) (of_decide_eq_true (by kernel_rfl)) k2 bel lt2) trodAll_mk0))), rfl, bel.frame _, fun h => by cases h⟩
theorem over : Rows.elfAnyRow.holds Tryd.pinned (OpenSpec.ofChange Rows.elfAnySpec) :=
  OpenClaim.holds_of_wide 9 Tryd.f9 rfl rfl rfl rfl rfl rfl rfl ⟨rfl, rfl, rfl, rfl, rfl⟩ rfl rfl rfl rfl rfl (by kernel_rfl) Tryd.func9 (by kernel_rfl)
    (of_decide_eq_true (by kernel_rfl)) (by unfold Func.isWrapper; first | (rw [if_pos (by decide +kernel)]; kernel_rfl) | (rw [if_neg (by decide +kernel)]; exact ⟨rfl, rfl⟩))
    (fun os started H enc _ => lifted os started H enc)
set_option maxRecDepth 100000 in
/-- The statement. -/
theorem proved : Rows.ElfAnyCardSaid :=
  Claim7.holds_tied_plain_at .later [] [.data, .data] true _ false over (fun _ h => by cases h) (by kernel_rfl) (fun _ h => by cases h) elfAny_row_tie rfl ⟨rfl, rfl⟩ (by kernel_rfl) rfl
    (fun f fn hf hfn => by
      obtain rfl : f = 9 := Option.some.inj (hf.symm.trans (by kernel_rfl))
      obtain rfl : fn = Tryd.f9 := Option.some.inj (hfn.symm.trans Tryd.func9)
      refine ⟨by kernel_rfl, fun j t ht => ?_⟩
      rw [Tryd.params9] at ht
      match j, ht with
      | 0, ht =>
        obtain rfl : t = 41 := by simpa using ht.symm
        exact (by kernel_rfl : Tryd.pinned.checked.prog.wantsStandIn 41 = false)
      | 1, ht =>
        obtain rfl : t = 3 := by simpa using ht.symm
        exact (by kernel_rfl : Tryd.pinned.checked.prog.wantsStandIn 3 = false)
      | 2, ht =>
        obtain rfl : t = 5 := by simpa using ht.symm
        exact (by kernel_rfl : Tryd.pinned.checked.prog.wantsStandIn 5 = false)
      | j + 3, ht => simp at ht)
    (by kernel_rfl)
end Go.Proofs.YtakmmphjdkapeaaDoor.lawAn
