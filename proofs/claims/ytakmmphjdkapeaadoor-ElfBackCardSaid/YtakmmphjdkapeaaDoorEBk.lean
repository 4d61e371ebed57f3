/- ElfBack: for any segments by numbers, 4 at most, and any bytes behind: a program that is put together as it should may be, and is parsed as it was written. -/
import Derived.Test.YtakmmphjdkapeaaDoorFf
namespace Go.Proofs.YtakmmphjdkapeaaDoor.lawBk
open Go.ChangeShapes Go.WideShapes Go.ChangeAt Go.RowKit Go.ChangeMaps
set_option linter.unusedVariables false
set_option linter.unusedSimpArgs false

theorem head_pre {x : Img} {R : List UInt8} {n m : Nat} (hn : x.headL.length = n) (hm : n ≤ m) : ∀ j, j < n → ((mkb (x.headL ++ R)).extract 0 m).data.toList.getD j 0 = x.headL.getD j 0 := fun j hj => by
  rw [extract_mkb, mkb_data, mkb_data]
  simp only [List.getD_eq_getElem?_getD, List.drop_zero, Nat.sub_zero]
  rw [List.getElem?_take_of_lt (by omega), List.getElem?_append_left (by omega)]

theorem ext_getD {s : ByteArray} {m j : Nat} (h : j < m) : (s.extract 0 m).data.toList.getD j 0 = s.data.toList.getD j 0 := by
  rw [extract_mkb, mkb_data]
  simp only [List.getD_eq_getElem?_getD, List.drop_zero, Nat.sub_zero]
  rw [List.getElem?_take_of_lt h]
theorem ext_size {s : ByteArray} {m : Nat} (h : m ≤ s.size) : (s.extract 0 m).size = m := by rw [extract_mkb, mkb_size, List.drop_zero, List.length_take, len_data]; omega

set_option maxRecDepth 100000 in
set_option maxHeartbeats 3200000 in
theorem walk (p : SpecIn) (behind : ByteArray) (w : World) (hp : p.In w) (wb : behind.size ≤ maxLen) (hT : ETab w) :
    Calls Tryd.prog 6 #[p.v, .string behind] w fun e w' => e = .returned (.bool true) ∧ Below w.heap.size w w' := by
  have HA := Lib.hid (fun v (hv : Below w.heap.size w v) => awake8_any v (hT.on hv))
  have HI := Lib.hid (fun v (hv : Below w.heap.size w v) => image_any p v (hp.below hv))
  have hlen := img_len p
  have hmay := img_may p
  have hfit := img_fits p
  have hty := img_ty p
  have hsz := size_in p
  have hchk := img_chk p
  have hwf := fun s hs => May.wf (hmay s hs)
  have hpv : p.v = .agg #[.int .i64 p.kind, .int .i64 p.entry, .slice p.A p.qs.length p.c] := rfl
  have hCK := fun v A c (hv : Below w.heap.size w v) (hr : SegRow v A p.img.segs) => echeck_any p.img A c p.size v (hT.on hv) hr (by omega) (i64_wf (by omega))
  have hHD := fun v A c (hv : Below w.heap.size w v) (hr : SegRow v A p.img.segs) => header_any p.img A c v (hT.on hv) (i64_wf (by have := hfit.kind; omega)) (i64_wf (by have := hfit.entry; omega)) hr (by omega)
  have hTO := fun (hne : p.img.segs ≠ []) v A c (hr : SegRow v A p.img.segs) => total_any p.img A c v hr (by omega) hne (fun s hs => ⟨(hty s hs).2, by have := (hmay s hs).off; omega⟩)
  have hPA := fun (hne : p.img.segs ≠ []) f h1 h2 => file_parse (p := p) (f := f) hne h1 h2
  have hPL := fun (hne : p.img.segs ≠ []) f h1 h2 => file_less (p := p) (f := f) hne h1 h2
  have hhl : p.img.headL.length = 64 + 56 * p.img.segs.length := headL_len _
  have herr : p.img.err p.size = if p.img.chk p.size then 0 else 16 := rfl
  rw [hchk] at herr
  have HEP := Lib.hid (fun f v (hv : Below w.heap.size w v) (hs : f.size ≤ 281474976710656) => eparse_any f v (hT.on hv) hs)
  rw [hpv] at HI ⊢
  generalize p.img = x at *
  obtain ⟨size, hsd⟩ : ∃ s : Nat, p.size = s := ⟨p.size.toNat, by omega⟩
  rw [hsd] at HI hsz hCK herr hPA
  have HPA := Lib.hid hPA
  have HPL := Lib.hid hPL
  have HTO := Lib.hid hTO
  have HWF := Lib.hid hwf
  clear hPA hPL hTO hwf hpv hp hmay hty hchk hsd hT hfit
  obtain ⟨pk, pe, pq, pA, pc⟩ := p
  simp only at *
  generalize pq.length = pn at *
  have hHS : (mkb x.headL).size = 64 + 56 * x.segs.length := by rw [mkb_size, hhl]
  obtain ⟨hl, hhl2⟩ : ∃ l, x.headL = l := ⟨_, rfl⟩
  have hss := same_same x.kind x.entry x.segs (by omega)
  obtain ⟨W, hW⟩ : ∃ W, w.alloc (.cells #[.int .i64 pk, .int .i64 pe, .slice pA pn pc] 41) = W := ⟨_, rfl⟩
  have hB0 : Below w.heap.size w W := by rw [← hW]; exact (Below.refl _ _).alloc (Nat.le_refl _) _
  have hK0 : Blk W w.heap.size 41 #[.int .i64 pk, .int .i64 pe, .slice pA pn pc] := by rw [← hW]; exact Blk.new w _ _
  have HW := Lib.hid hW
  clear hW
  go_enter Tryd.func6, Tryd.ntmps6
  go_upto_region 1 with fail
  rw [HW.out]
  go_upto_region 2 with (go_at_call 10; refine (HA.out _ hB0).mono ?_; rintro e v1 ⟨rfl, hb⟩; have hB1 := hB0.trans (hb.mono hB0.size); have hK1 := hK0.below hb hK0.lt; clear hb hK0)
  have s0 : v1.cell? ⟨w.heap.size, 0, none⟩ = some (.int .i64 pk) := hK1.at_ 0 _ rfl
  have s1 : v1.cell? ⟨w.heap.size, 1, none⟩ = some (.int .i64 pe) := hK1.at_ 1 _ rfl
  have s2 : v1.cell? ⟨w.heap.size, 2, none⟩ = some (.slice pA pn pc) := hK1.at_ 2 _ rfl
  obtain ⟨kind, entry, segs⟩ := x
  simp only at *
  go_upto_region 3 with (go_at_call 21; refine (HI.out _ hB1).mono ?_; rintro e v2 ⟨A, c, rfl, hown, hb⟩; unfold Img.v; simp only; have hB2 := hB1.trans (hb.mono hB1.size); clear hb)
  obtain ⟨A1, c1, hv, hrow, -⟩ := SegRow.of_own hown HWF.out
  injection hv with e1 e2 e3
  subst e1 e3
  obtain ⟨W2, hW2⟩ : ∃ W2, v2.alloc (.cells #[.int .i64 kind, .int .i64 entry, .slice A segs.length c] 24) = W2 := ⟨_, rfl⟩
  have hB3 : Below w.heap.size w W2 := by rw [← hW2]; exact hB2.alloc hB2.size _
  have hrow2 : SegRow W2 A segs := by rw [← hW2]; exact hrow.below ((Below.refl _ _).alloc (Nat.le_refl _) _)
  have hK2 : Blk W2 v2.heap.size 24 #[.int .i64 kind, .int .i64 entry, .slice A segs.length c] := by rw [← hW2]; exact Blk.new _ _ _
  rw [hW2]
  obtain ⟨G, hG⟩ : ∃ G, v2.heap.size = G := ⟨_, rfl⟩
  rw [hG] at hK2 ⊢
  have HTR := Lib.hid (fun v (hv : Below W2.heap.size W2 v) => show SegRow v A segs ∧ Below w.heap.size w v ∧ v.cell? ⟨G, 0, none⟩ = some (.int .i64 kind) ∧ v.cell? ⟨G, 1, none⟩ = some (.int .i64 entry) ∧ v.cell? ⟨G, 2, none⟩ = some (.slice A segs.length c) from
    ⟨hrow2.below hv, hB3.trans (hv.mono hB3.size), (hK2.below hv hK2.lt).at_ 0 _ rfl, (hK2.below hv hK2.lt).at_ 1 _ rfl, (hK2.below hv hK2.lt).at_ 2 _ rfl⟩)
  have hbq := Below.refl W2.heap.size W2
  have hck := fun v (hv : Below W2.heap.size W2 v) => hCK v A c (HTR.out v hv).2.1 (HTR.out v hv).1
  have hhd := fun v (hv : Below W2.heap.size W2 v) => hHD v A c (HTR.out v hv).2.1 (HTR.out v hv).1
  rw [herr] at hck
  clear hrow hrow2 hK2 hB3 hB2 hB1 hB0 hK1 hown hW2 hG s0 s1 s2 hCK hHD
  by_cases hne : segs = []
  · subst hne
    rw [show (if decide (([] : List Seg) ≠ []) = true then (0 : Int) else 16) = 16 from rfl] at hck
    unfold Img.v at hck
    simp only [List.length_nil] at *
    have HC2 := Lib.hid hck
    obtain ⟨hr, hbw, x0, x1, x2⟩ := HTR.out _ hbq
    clear hck hhd hr
    go_wp2_with (go_at_call 12; refine (HC2.out _ hbq).mono ?_; rintro e v3 ⟨rfl, hb3⟩)
    go_ret
    exact ⟨rfl, hbw.trans (hb3.mono hbw.size)⟩
  · rw [if_pos (decide_eq_true (show segs ≠ [] from hne))] at hck
    have hpa := fun f h1 h2 => HPA.out hne f h1 h2
    have hpl := fun f h1 h2 => HPL.out hne f h1 h2
    have hto := HTO.out hne
    have hlp : 1 ≤ segs.length := List.length_pos_iff.2 hne
    try unfold Img.v at hck
    try unfold Img.v at hhd
    try unfold Img.v at hto
    try simp only at hck
    try simp only at hhd
    try simp only at hto
    have HCK2 := Lib.hid hck
    have HHD2 := Lib.hid hhd
    have HTO2 := Lib.hid hto
    have HSS := Lib.hid hss
    obtain ⟨H, hH⟩ : ∃ H, mkb hl = H := ⟨_, rfl⟩
    rw [hhl2, hH] at hHS
    rw [hhl2] at hhl hpa hpl
    have hHR : H = mkb (hl ++ []) := by rw [List.append_nil]; exact hH.symm
    have hH2 : mkb (Img.headL ⟨kind, entry, segs⟩) = H := by rw [hhl2]; exact hH
    rw [hH2] at HHD2
    have HPA2 := Lib.hid hpa
    have HPL2 := Lib.hid hpl
    have HHR := Lib.hid hHR
    have HHL := Lib.hid hhl
    obtain ⟨n, hn⟩ : ∃ n, segs.length = n := ⟨_, rfl⟩
    have HN := Lib.hid hn
    rw [hn] at hlp hlen hHS HCK2 HHD2 HTO2 HSS HPA2 HPL2 HTR HHL ⊢
    have hn0 : ((n : Int) == 0) = false := by simp; omega
    have hn1 : ¬ ((n : Int) = 0) := by omega
    obtain ⟨b2, hb2, hz2⟩ : ∃ b2, (if 30 < behind.size then behind.extract 0 30 else behind) = b2 ∧ b2.size ≤ 30 := ⟨_, rfl, by
      split
      · rw [ext_size (by omega)]; exact Nat.le_refl _
      · omega⟩
    obtain ⟨hr, hbw, x0, x1, x2⟩ := HTR.out _ hbq
    clear hck hhd hto hpa hpl hss hhl hhl2 hH hH2 hHR herr hr hne HTO HPA HPL HWF HI HA
    have hstart : (∃ b : Bool, decide (30 < behind.size) = b) := ⟨_, rfl⟩
    have hcases : (¬ (30 : Int) < (behind.size : Int) ∧ b2 = behind) ∨ ((30 : Int) < (behind.size : Int) ∧ (30 : Int) ≤ (behind.size : Int) ∧ behind.extract 0 30 = b2) := by
      by_cases h : 30 < behind.size
      · rw [if_pos h] at hb2; exact .inr ⟨by omega, by omega, hb2⟩
      · rw [if_neg h] at hb2; exact .inl ⟨by omega, hb2.symm⟩
    clear hb2 hstart
    rcases hcases with ⟨g1, rfl⟩ | ⟨g1, g2, g3⟩
    all_goals
      go_wp2_with (go_at_call 14; refine (HHD2.out _ hbq).mono ?_; rintro e v3 ⟨rfl, hb3⟩; have hbq3 := hbq.trans (hb3.mono hbq.size); clear hb3)
      clear x0 x1 x2 hbw
      go_loopw [8] (fun sv wr => ∃ (S : ByteArray) (R : List UInt8), sv = .string S ∧ Hid (S = mkb (hl ++ R)) ∧ S.size ≤ 2100 ∧ wr = v3) (fun sv _ => size - (match sv with | .string b => b.size | _ => 0))
      case atStart => exact ⟨H, [], rfl, HHR, by omega, rfl⟩
      case round =>
        obtain ⟨S, R, rfl, HS, hS, rfl⟩ := hrel
        by_cases hlt : S.size < size
        · obtain ⟨E1, hE1⟩ : ∃ E, S ++ b2 = E := ⟨_, rfl⟩
          obtain ⟨E2, hE2⟩ : ∃ E, E1 ++ ⟨#[46]⟩ = E := ⟨_, rfl⟩
          obtain ⟨N, hN⟩ : ∃ N, S.size = N := ⟨_, rfl⟩
          obtain ⟨M, hM⟩ : ∃ M, b2.size = M := ⟨_, rfl⟩
          obtain ⟨K, hK⟩ : ∃ K, N + M = K := ⟨_, rfl⟩
          have sE1 : E1.size = K := by rw [cat_of hE1 hN hM]; exact hK
          have sD : (⟨#[46]⟩ : ByteArray).size = 1 := rfl
          have sE2 : E2.size = K + 1 := cat_of hE2 sE1 sD
          have HS2 := Lib.hid (show E2 = mkb (hl ++ (R ++ b2.data.toList ++ [46])) from by
            rw [← hE2, ← hE1, HS.out, ← mkb_of b2, show (⟨#[46]⟩ : ByteArray) = mkb [46] from rfl, mkb_append, mkb_append, mkb_data]
            simp)
          have o1 : Not (9223372036854775807 < N + M) := by omega
          have o2 : Not (9223372036854775807 < K + 1) := by omega
          rw [hN] at hlt hS
          rw [hM] at hz2
          have q1 : (N : Int) < (size : Int) := by omega
          have HM := Lib.hid (show K + 1 ≤ 2100 ∧ size - (K + 1) < size - N from by omega)
          clear hK
          go_wp2
          go_roundw
          case rel => exact ⟨E2, _, rfl, HS2, by rw [sE2]; exact HM.out.1, by first | rfl | trivial⟩
          case measure => simp [hN, sE2]; exact HM.out.2
        · obtain ⟨f, hf⟩ : ∃ f, S.extract 0 size = f := ⟨_, rfl⟩
          have hfs : f.size = size := by rw [← hf]; exact ext_size (by omega)
          obtain ⟨f2, hf2⟩ : ∃ f2, f.extract 0 1000 = f2 := ⟨_, rfl⟩
          have hf2s : f2.size = 1000 := by rw [← hf2]; exact ext_size (by omega)
          have hSj : ∀ j, j < 64 + 56 * n → S.data.toList.getD j 0 = hl.getD j 0 := fun j hj => by
            rw [HS.out, mkb_data]
            simp only [List.getD_eq_getElem?_getD]
            rw [List.getElem?_append_left (by rw [HHL.out]; exact hj)]
          have hfj : ∀ j, j < 64 + 56 * n → f.data.toList.getD j 0 = hl.getD j 0 := fun j hj => by rw [← hf, ext_getD (by omega)]; exact hSj j hj
          have h1 := HPA2.out f (by omega) (fun j hj _ => hfj j hj)
          have h2 := HPL2.out f2 hf2s (fun j hj _ => by rw [← hf2, ext_getD (by omega)]; exact hfj j hj)
          have hp1 := fun v (hv : Below W2.heap.size W2 v) => HEP.out f v (HTR.out v hv).2.1 (by omega)
          have hp2 := fun v (hv : Below W2.heap.size W2 v) => HEP.out f2 v (HTR.out v hv).2.1 (by omega)
          rw [h1.1, h1.2] at hp1
          rw [h2.1, h2.2] at hp2
          have HP1 := Lib.hid (fun v (hv : Below W2.heap.size W2 v) => (hp1 v hv).mono (R' := fun e v' => ∃ D d, e = .returned (.tuple #[.agg #[.int .i64 kind, .int .i64 entry, .slice D n d], .int .i64 0]) ∧ SegRow v' D segs ∧ Below v.heap.size v v') (by
            rintro e v' ⟨D, d, rfl, hr, -, hb⟩
            refine ⟨D, d, ?_, hr, hb⟩
            unfold Img.v
            simp only
            rw [HN.out]))
          have HP2 := Lib.hid (fun v (hv : Below W2.heap.size W2 v) => (hp2 v hv).mono (R' := fun e v' => ∃ D d, e = .returned (.tuple #[.agg #[.int .i64 0, .int .i64 0, .slice D 0 d], .int .i64 16]) ∧ Below v.heap.size v v') (by
            rintro e v' ⟨D, d, rfl, hr, -, hb⟩
            exact ⟨D, d, rfl, hb⟩))
          have g5 : ¬ ((S.size : Int) < (size : Int)) := by omega
          have g6 : (size : Int) ≤ (S.size : Int) := by omega
          have g7 : (1000 : Int) ≤ (f.size : Int) := by omega
          clear hp1 hp2 h1 h2 hfj hSj hlt hfs hf2s HEP HPA2 HPL2 HS hS
          have hq3 := hbq3
          clear hbq hbq3
          go_wp2_with (first
            | (go_at_call 19; with_reducible refine (HP1.out _ hq3).mono ?_; rintro e v4 ⟨D, d, rfl, hrD, hb4⟩
               have hq4 := (hq3.trans (hb4.mono hq3.size)).alloc (Nat.le_trans hq3.size hb4.size) (.cells #[.int .i64 kind, .int .i64 entry, .slice D n d] 24)
               have k4 := Blk.new v4 24 #[.int .i64 kind, .int .i64 entry, .slice D n d]
               have r4 := hrD.below ((Below.refl v4.heap.size v4).alloc (Nat.le_refl _) (.cells #[.int .i64 kind, .int .i64 entry, .slice D n d] 24))
               clear hrD hb4)
            | (go_at_call 19; with_reducible refine (HP2.out _ hq4).mono ?_; rintro e v5 ⟨D2, d2, rfl, hb5⟩
               have hq5 := (hq4.trans (hb5.mono hq4.size)).alloc (Nat.le_trans hq4.size hb5.size) (.cells #[.int .i64 0, .int .i64 0, .slice D2 0 d2] 24)
               have k5 := (k4.below hb5 k4.lt).alloc (.cells #[.int .i64 0, .int .i64 0, .slice D2 0 d2] 24)
               have r5 := (r4.below hb5).below ((Below.refl v5.heap.size v5).alloc (Nat.le_refl _) (.cells #[.int .i64 0, .int .i64 0, .slice D2 0 d2] 24))
               obtain ⟨hr5, hbw5, x0, x1, x2⟩ := HTR.out _ hq5
               have y0 := k5.at_ 0 _ rfl
               have y1 := k5.at_ 1 _ rfl
               have y2 := k5.at_ 2 _ rfl
               clear hb5 k4 r4 hr5)
            | (go_at_call 12; with_reducible refine (HCK2.out _ hq5).mono ?_; rintro e v6 ⟨rfl, hb6⟩
               have hq6 := hq5.trans (hb6.mono hq5.size)
               have k6 := k5.below hb6 k5.lt
               have r6 := r5.below hb6
               clear x0 x1 x2 y0 y1 y2 hbw5 hb6 k5 r5
               obtain ⟨hr6, hbw6, x0, x1, x2⟩ := HTR.out _ hq6
               have y0 := k6.at_ 0 _ rfl
               have y1 := k6.at_ 1 _ rfl
               have y2 := k6.at_ 2 _ rfl)
            | (go_at_call 16; with_reducible refine (HSS.out _ _ _ _ _ hr6 r6).mono ?_; rintro e v7 ⟨rfl, hb7⟩
               have hq7 := hq6.trans (hb7.mono hq6.size)
               clear x0 x1 x2 y0 y1 y2 hbw6 hb7 k6 r6 hr6
               obtain ⟨hr7, hbw7, x0, x1, x2⟩ := HTR.out _ hq7)
            | (go_at_call 22; with_reducible refine (HTO2.out _ _ _ hr7).mono ?_; rintro e v8 ⟨⟨t, rfl, ht⟩, hb8⟩
               have hq8 := hbw7.trans (hb8.mono hbw7.size)
               have ht0 : (t == 0) = false := by simp; omega
               have ht1 : ¬ t = 0 := by omega
               clear hb8 hr7 ht))
          go_ret
          exact ⟨rfl, hq8⟩
open Go.Proofs.YtakmmphjdkapeaaDoor.l8
set_option maxRecDepth 100000 in
theorem lifted (os : Os) (started : os.Started) (H : Type) (enc : TypeId × Value → H) :
    ReturnsInHanded {} Tryd.checked os 6 .any (fun w args => (Rows.elfBackSpec.pre enc Tryd.prog Tryd.f6 Rows.elfBackRow.domain false w args ∧ laidMet Tryd.prog Rows.elfBackRow.laid w) ∧ sizedMet enc Tryd.prog Tryd.f6 (OpenSpec.ofChange Rows.elfBackSpec) false w args) (Rows.elfBackSpec.post enc Tryd.prog Tryd.f6 false true false false) := by
  refine returnsInHanded_of_change_and (C := Tryd.checked) (X := fun w _ => laidMet Tryd.prog Rows.elfBackRow.laid w) (fun _ _ _ hh h => h.of_heap hh) own started (by kernel_rfl) Tryd.func6
    (ChangeSpec.witness_at (enc := enc) (C := Tryd.checked) (os := os) (X := fun w _ => laidMet Tryd.prog Rows.elfBackRow.laid w) false (laidWorld os) #[zspecV, .string ⟨#[]⟩] 8 rfl (by kernel_rfl) (by kernel_rfl) (by kernel_rfl) (by kernel_rfl) (by kernel_rfl) (laid_met os _)) ?_
  intro W base args ds gs before hval0 hW hcnd _ hL _
  have hval : ∀ (j : Nat) t v, Tryd.f6.params[j]? = some t → args[j]? = some v → Value.okWide Tryd.prog W .any base t v := hval0
  have hW' := hW
  obtain ⟨p, q, hA0, hV, rfl, hfz, hnd⟩ := hW
  have hA : DataW.TrodAll enc Tryd.prog W 0 (fun _ => true) true Tryd.f6.params.toList args.toList ds p := hA0
  rw [Tryd.params6] at hA hval
  obtain ⟨v0, vs0, d0, ds0, p0, q0, hargs, rfl, rfl, h0, r0⟩ := trodAll_cons hA
  obtain ⟨v1, vs1, d1, ds1, p1, q1, rfl, rfl, rfl, h1, r1⟩ := trodAll_cons r0
  obtain ⟨rfl, rfl, rfl⟩ := trodAll_nil r1
  obtain rfl : args = #[v0, v1] := by cases args; simp_all
  obtain ⟨rfl, rfl⟩ := trodVars_none hV
  have k0 := h0
  have lt0 : ∀ x ∈ p0, x.block < W.heap.size := by obtain ⟨m, hm⟩ := k0; exact DataW.trod_lt m _ _ _ hm
  obtain ⟨a0, rfl, w0⟩ := open_spec (hval 0 41 v0 rfl rfl) h0
  have k1 := h1
  have lt1 : ∀ x ∈ p1, x.block < W.heap.size := by obtain ⟨m, hm⟩ := k1; exact DataW.trod_lt m _ _ _ hm
  obtain ⟨a1, rfl, _, _, w1⟩ := open_string Tryd.underlying9 (hval 1 9 v1 rfl rfl) h1
  clear hA0 hval0
  refine (walk a0 a1 W w0 w1 (tab_of_laid hL)).mono fun e W' ⟨he, bel⟩ => ?_
  subst he
  exact ⟨_, rfl, _, _, _, [], _, [], hW', trodAll_mk1 (shut_bool Tryd.underlying4 _), (trodAll_cons_mk (Below.trod laidOut (by kernel_rfl) (of_decide_eq_true (by kernel_rfl)) k0 bel lt0) (trodAll_cons_mk (Below.trod laidOut (by kernel_rfl) (of_decide_eq_true (by kernel_rfl)) k1 bel lt1) trodAll_mk0)), rfl, bel.frame _, fun h => by cases h⟩
theorem over : Rows.elfBackRow.holds Tryd.pinned (OpenSpec.ofChange Rows.elfBackSpec) :=
  OpenClaim.holds_of_wide 6 Tryd.f6 rfl rfl rfl rfl rfl rfl rfl ⟨rfl, rfl, rfl, rfl, rfl⟩ rfl rfl rfl rfl rfl (by kernel_rfl) Tryd.func6 (by kernel_rfl)
    (of_decide_eq_true (by kernel_rfl)) (by unfold Func.isWrapper; first | (rw [if_pos (by decide +kernel)]; kernel_rfl) | (rw [if_neg (by decide +kernel)]; exact ⟨rfl, rfl⟩))
    (fun os started H enc _ => lifted os started H enc)
set_option maxRecDepth 100000 in
/-- The statement. -/
theorem proved : Rows.ElfBackCardSaid :=
  Claim7.holds_tied_plain_at .later [] [.data, .data] true _ false over (fun _ h => by cases h) (by kernel_rfl) (fun _ h => by cases h) elfBack_row_tie rfl ⟨rfl, rfl⟩ (by kernel_rfl) rfl
    (fun f fn hf hfn => by
      obtain rfl : f = 6 := Option.some.inj (hf.symm.trans (by kernel_rfl))
      obtain rfl : fn = Tryd.f6 := Option.some.inj (hfn.symm.trans Tryd.func6)
      refine ⟨by kernel_rfl, fun j t ht => ?_⟩
      rw [Tryd.params6] at ht
      match j, ht with
      | 0, ht =>
        obtain rfl : t = 41 := by simpa using ht.symm
        exact (by kernel_rfl : Tryd.pinned.checked.prog.wantsStandIn 41 = false)
      | 1, ht =>
        obtain rfl : t = 9 := by simpa using ht.symm
        exact (by kernel_rfl : Tryd.pinned.checked.prog.wantsStandIn 9 = false)
      | j + 2, ht => simp at ht)
    (by kernel_rfl)
end Go.Proofs.YtakmmphjdkapeaaDoor.lawBk
