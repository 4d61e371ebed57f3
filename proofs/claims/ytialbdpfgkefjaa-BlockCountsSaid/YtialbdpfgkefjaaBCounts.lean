/- BlockCounts: for any number of sectors (by its rest by 16) and any row of places: reads and writes are counted, if they are OK, and no others. -/
import Derived.Test.YtialbdpfgkefjaaBF
import Derived.Test.YtialbdpfgkefjaaBits
import Derived.RegionTactic
import Derived.Deep.RegionWith
namespace Go.Proofs.Ytialbdpfgkefjaa.lawCounts
open Go.ChangeShapes Go.WideShapes Go.ChangeAt Go.RowKit
set_option linter.unusedVariables false

theorem wrap_up (n : Nat) (h : n ≤ 30) : wrap64 ((n : Int) + 1) = ((n + 1 : Nat) : Int) := by unfold wrap64; omega

/-- The disk behind k rounds. -/
structure At (D : Dsk) (q a b : Nat) : Prop where
  rd : D.rd = (a : Int)
  wr : D.wr = (b : Int)
  low : D.low = 0
  len : D.S.length = 1 + q
theorem At.has_ {D : Dsk} {q a b : Nat} (h : At D q a b) {z : Int} (h0 : 0 ≤ z) (h1 : z < 1 + (q : Int)) : D.has z = true := has_of h0 (by rw [h.len]; omega)
theorem At.no {D : Dsk} {q a b : Nat} (h : At D q a b) {z : Int} (h1 : ¬ (0 ≤ z ∧ z < 1 + (q : Int))) : D.has z = false := by
  cases e : D.has z
  · rfl
  · obtain ⟨x, y⟩ := has_iff.1 e
    rw [h.len] at y
    exact absurd ⟨x, by omega⟩ h1
theorem At.read {D : Dsk} {q a b : Nat} (h : At D q a b) {z : Int} (hh : D.has z = true) (ha : a ≤ 30) : At (D.rdD z) q (a + 1) b := by
  unfold Dsk.rdD
  rw [if_pos hh]
  exact ⟨by show wrap64 (D.rd + 1) = _; rw [h.rd, wrap_up _ ha], h.wr, h.low, h.len⟩
theorem At.write {D : Dsk} {q a b : Nat} (h : At D q a b) {z : Int} (hh : D.has z = true) (h0 : 0 ≤ z) (s : ByteArray) (hs : s.size = 64) (hb : b ≤ 30) : D.wrE z s = 0 ∧ At (D.wrD z s) q a (b + 1) := by
  have e : D.wrE z s = 0 := by rw [wrE_in hh hs, h.low, if_neg (by omega)]
  refine ⟨e, ?_⟩
  unfold Dsk.wrD
  rw [if_pos e]
  exact ⟨h.rd, by show wrap64 (D.wr + 1) = _; rw [h.wr, wrap_up _ hb], h.low, by simpa using h.len⟩

set_option maxHeartbeats 3200000 in
theorem walk (n : Int) (A : Option Addr) (zs : List Int) (c : Nat) (w : World) (hn : (Lit.int .i64 n).wf = true) (hm : zs.length ≤ maxLen) (hz : IntRow w A zs) :
    Calls Try.prog 8 #[.int .i64 n, .slice A zs.length c] w fun e w' => e = .returned (.bool true) ∧ Below w.heap.size w w' := by
  unfold maxLen at hm
  obtain ⟨q, hq, hq16⟩ : ∃ q : Nat, bits .and .i64 n 15 = (q : Int) ∧ q < 16 := by
    have e : bits .and .i64 n 15 = n % (2 : Int) ^ 4 := i64_and_mask n 4 15 (by omega) (by decide)
    rw [e]
    have h1 := Int.emod_nonneg n (show ((2 : Int) ^ 4) ≠ 0 by decide)
    have h2 := Int.emod_lt_of_pos n (show (0 : Int) < (2 : Int) ^ 4 by decide)
    exact ⟨(n % (2 : Int) ^ 4).toNat, by omega, by omega⟩
  have HA := Lib.hid (fun w => awake3_any w)
  have hN := fun w => new_made (1 + q) w (by omega) (by omega)
  rw [show ((1 + q : Nat) : Int) = 1 + (q : Int) by omega] at hN
  have HN := Lib.hid hN
  have HX := Lib.hid (fun w => lsec_any 119 w (by decide))
  have HZ := Lib.hid hz
  clear hz hN
  have hB := Below.refl w.heap.size w
  go_enter Try.func8, Try.ntmps8
  go_wp2_with (first
    | (go_at_call 9; refine (HA.out _).mono ?_; rintro e v1 ⟨rfl, hb⟩; replace hB := hB.trans (hb.mono hB.size); clear hb)
    | (go_at_call 10; refine (HN.out _).mono ?_; rintro e v2 ⟨p, g, rfl, hp, hg, hb, hd⟩; have hp' := Nat.le_trans hB.size hp; have hg' := Nat.le_trans hB.size hg; replace hB := hB.trans (hb.mono hB.size); clear hb hp hg))
  go_loopw [8, 9, 10] (fun x y i wr => ∃ (k a b : Nat) (D : Dsk), k ≤ zs.length ∧ k ≤ 30 ∧ a ≤ k ∧ b ≤ k ∧ i = .int .i64 k ∧ x = .int .i64 a ∧ y = .int .i64 b ∧ At D q a b ∧ Below w.heap.size w wr ∧ Dk wr p g D) (fun _ _ i _ => zs.length - (intOf i).toNat)
  case atStart => exact ⟨0, 0, 0, newD (1 + q), Nat.zero_le _, by omega, by omega, by omega, rfl, rfl, rfl, ⟨rfl, rfl, rfl, by simp [newD]⟩, hB, hd⟩
  case round =>
    obtain ⟨k, a, b, D, hk, hk30, hak, hbk, rfl, rfl, rfl, hat, hB, hd⟩ := hrel
    have HB := Lib.hid hB
    have HT := Lib.hid hat
    by_cases hlt : k < zs.length ∧ k < 30
    · obtain ⟨h1, h2⟩ := hlt
      obtain ⟨ad, rfl, hab, hc, hwf⟩ := HZ.out k h1
      have hblk : (ad.add k).block < w.heap.size := by rw [show (ad.add k).block = ad.block by unfold Addr.add; split <;> rfl]; exact hab
      have hc1 : wr.cell? (ad.add k) = some (.int .i64 zs[k]) := (hB.cell (p := ad.add k) hblk).trans hc
      clear hc hwf hB hat
      generalize zs[k] = z at *
      have hR := fun (w' : World) (h : Dk w' p g D) => read_any h z
      have hW := fun (w' : World) (h : Dk w' p g D) => write_any h z (secOf 119) (by rw [secOf_size]; omega)
      have hpar : (k : Int) % 2 = 0 ∨ (k : Int) % 2 = 1 := by omega
      by_cases hth : 0 ≤ z ∧ z < 1 + (q : Int)
      · obtain ⟨hz0, hz1⟩ := hth
        have hh := HT.out.has_ hz0 hz1
        have e1 : D.rdE z = 0 := by unfold Dsk.rdE; rw [if_pos hh]
        obtain ⟨e2, ht2⟩ := HT.out.write hh hz0 (secOf 119) (secOf_size _) (by omega)
        have ht1 := HT.out.read hh (by omega)
        rw [e1] at hR
        rw [e2] at hW
        have HR := Lib.hid hR
        have HW := Lib.hid hW
        have HT1 := Lib.hid ht1
        have HT2 := Lib.hid ht2
        clear hR hW e1 e2 hh ht1 ht2
        rcases hpar with hpar | hpar
        · go_wp2_with (go_at_call 12; refine (HR.out _ hd).mono ?_; rintro e v3 ⟨rfl, hb3, hd3⟩)
          go_roundw
          case rel => exact ⟨k + 1, a + 1, b, _, by omega, by omega, by omega, by omega, by go_num, by go_num, rfl, HT1.out, HB.out.trans (hb3.below HB.out.size (fun j e => by omega)), hd3⟩
          case measure => simp [intOf]; omega
        · go_wp2_with (go_at_call 12; refine (HR.out _ hd).mono ?_; rintro e v3 ⟨rfl, hb3, hd3⟩)
          go_region_with (first
            | (go_at_call 16; refine (HX.out _).mono ?_; rintro e v5 ⟨rfl, hb5⟩; have hd5 := hd.drew.below hb5 hd.head.lt hd.row.lt; have c5 := (hb5.cell (p := ad.add k) (Nat.lt_of_lt_of_le hblk HB.out.size)).trans hc1)
            | (go_at_call 17; refine (HW.out _ hd5).mono ?_; rintro e v6 ⟨rfl, hb6, hd6⟩))
          all_goals
            have k1 := HB.out.drew.trans (hb5.mono HB.out.drew.size)
            have HK := Lib.hid (k1.trans (hb6.below k1.size (fun j e => by omega)))
            go_wp2
            go_roundw
            case rel => exact ⟨k + 1, a, b + 1, _, by omega, by omega, by omega, by omega, by go_num, rfl, by go_num, HT2.out, HK.out, hd6⟩
            case measure => simp [intOf]; omega
      · have hh := HT.out.no hth
        have e1 : D.rdE z = 14 := by unfold Dsk.rdE; rw [if_neg (by rw [hh]; simp)]
        have e2 : D.wrE z (secOf 119) = 14 := by unfold Dsk.wrE; rw [if_neg (by rw [hh]; simp)]
        have e3 : D.rdD z = D := by unfold Dsk.rdD; rw [if_neg (by rw [hh]; simp)]
        have e4 : D.wrD z (secOf 119) = D := by unfold Dsk.wrD; rw [e2]; rfl
        rw [e1, e3] at hR
        rw [e2, e4] at hW
        have HR := Lib.hid hR
        have HW := Lib.hid hW
        clear hR hW e1 e2 e3 e4 hh
        by_cases hz0 : 0 ≤ z
        · have hz1 : ¬ z < 1 + (q : Int) := fun h => hth ⟨hz0, h⟩
          clear hth
          rcases hpar with hpar | hpar
          · go_wp2_with (go_at_call 12; refine (HR.out _ hd).mono ?_; rintro e v3 ⟨rfl, hb3, hd3⟩)
            go_roundw
            case rel => exact ⟨k + 1, a, b, _, by omega, by omega, by omega, by omega, by go_num, rfl, rfl, HT.out, HB.out.trans (hb3.below HB.out.size (fun j e => by omega)), hd3⟩
            case measure => simp [intOf]; omega
          · go_wp2_with (fail)
            go_region_with (first
              | (go_at_call 16; refine (HX.out _).mono ?_; rintro e v5 ⟨rfl, hb5⟩; have hd5 := hd.drew.below hb5 hd.head.lt hd.row.lt; have c5 := (hb5.cell (p := ad.add k) (Nat.lt_of_lt_of_le hblk HB.out.size)).trans hc1)
              | (go_at_call 17; refine (HW.out _ hd5).mono ?_; rintro e v6 ⟨rfl, hb6, hd6⟩))
            all_goals
              have k1 := HB.out.drew.trans (hb5.mono HB.out.drew.size)
              have HK := Lib.hid (k1.trans (hb6.below k1.size (fun j e => by omega)))
              go_wp2
              go_roundw
              case rel => exact ⟨k + 1, a, b, _, by omega, by omega, by omega, by omega, by go_num, rfl, rfl, HT.out, HK.out, hd6⟩
              case measure => simp [intOf]; omega
        · clear hth
          rcases hpar with hpar | hpar
          · go_wp2_with (go_at_call 12; refine (HR.out _ hd).mono ?_; rintro e v3 ⟨rfl, hb3, hd3⟩)
            go_roundw
            case rel => exact ⟨k + 1, a, b, _, by omega, by omega, by omega, by omega, by go_num, rfl, rfl, HT.out, HB.out.trans (hb3.below HB.out.size (fun j e => by omega)), hd3⟩
            case measure => simp [intOf]; omega
          · go_wp2_with (fail)
            go_region_with (first
              | (go_at_call 16; refine (HX.out _).mono ?_; rintro e v5 ⟨rfl, hb5⟩; have hd5 := hd.drew.below hb5 hd.head.lt hd.row.lt; have c5 := (hb5.cell (p := ad.add k) (Nat.lt_of_lt_of_le hblk HB.out.size)).trans hc1)
              | (go_at_call 17; refine (HW.out _ hd5).mono ?_; rintro e v6 ⟨rfl, hb6, hd6⟩))
            all_goals
              have k1 := HB.out.drew.trans (hb5.mono HB.out.drew.size)
              have HK := Lib.hid (k1.trans (hb6.below k1.size (fun j e => by omega)))
              go_wp2
              go_roundw
              case rel => exact ⟨k + 1, a, b, _, by omega, by omega, by omega, by omega, by go_num, rfl, rfl, HT.out, HK.out, hd6⟩
              case measure => simp [intOf]; omega
    · clear hat hB
      have h5 := reads_any hd
      have h6 := writes_any hd
      have h7 := sectors_any hd
      rw [HT.out.rd] at h5
      rw [HT.out.wr] at h6
      rw [HT.out.len, show ((1 + q : Nat) : Int) = 1 + (q : Int) by omega] at h7
      have H5 := Lib.hid h5
      have H6 := Lib.hid h6
      have H7 := Lib.hid h7
      clear h5 h6 h7
      by_cases h1 : k < zs.length
      · have h2 : ¬ k < 30 := by omega
        clear hlt
        go_wp2_with (first
          | (go_at_call 20; refine H5.out.mono ?_; rintro e v3 ⟨rfl, rfl⟩)
          | (go_at_call 21; refine H6.out.mono ?_; rintro e v3 ⟨rfl, rfl⟩)
          | (go_at_call 19; refine H7.out.mono ?_; rintro e v3 ⟨rfl, rfl⟩))
        go_ret
        exact ⟨rfl, HB.out⟩
      · clear hlt
        go_wp2_with (first
          | (go_at_call 20; refine H5.out.mono ?_; rintro e v3 ⟨rfl, rfl⟩)
          | (go_at_call 21; refine H6.out.mono ?_; rintro e v3 ⟨rfl, rfl⟩)
          | (go_at_call 19; refine H7.out.mono ?_; rintro e v3 ⟨rfl, rfl⟩))
        go_ret
        exact ⟨rfl, HB.out⟩

set_option maxRecDepth 100000 in
theorem lifted (os : Os) (started : os.Started) (H : Type) (enc : TypeId × Value → H) :
    ReturnsInHanded {} Try.checked os 8 .any (Rows.blockCountsSpec.pre6 enc Try.prog Try.f8 Rows.blockCountsRow.domain false) (Rows.blockCountsSpec.post enc Try.prog Try.f8 false true false false) := by
  refine returnsInHanded_of_change (C := Try.checked) own started (by kernel_rfl) Try.func8
    (ChangeSpec.witness6 (enc := enc) (C := Try.checked) false ⟨#[], #[.int .i64 0, .slice none 0 0], []⟩ 8 (by kernel_rfl) (by kernel_rfl) (by kernel_rfl) (by kernel_rfl)) ?_
  intro W base args ds gs before hval0 hW hcnd _
  have hval : ∀ (j : Nat) t v, Try.f8.params[j]? = some t → args[j]? = some v → Value.okWide Try.prog W .any base t v := hval0
  have hW' := hW
  obtain ⟨p, q, hA0, hV, rfl, hfz, hnd⟩ := hW
  have hA : DataW.TrodAll enc Try.prog W 0 (fun _ => true) true Try.f8.params.toList args.toList ds p := hA0
  rw [Try.params8] at hA hval
  obtain ⟨v0, vs0, d0, ds0, p0, q0, hargs, rfl, rfl, h0, r0⟩ := trodAll_cons hA
  obtain ⟨v1, vs1, d1, ds1, p1, q1, rfl, rfl, rfl, h1, r1⟩ := trodAll_cons r0
  obtain ⟨rfl, rfl, rfl⟩ := trodAll_nil r1
  obtain rfl : args = #[v0, v1] := by cases args; simp_all
  obtain ⟨rfl, rfl⟩ := trodVars_none hV
  have k0 := h0
  have lt0 : ∀ x ∈ p0, x.block < W.heap.size := by obtain ⟨m, hm⟩ := k0; exact DataW.trod_lt m _ _ _ hm
  obtain ⟨a0, rfl, _, _, w0⟩ := open_int Try.underlying3 (hval 0 3 v0 rfl rfl) h0
  have k1 := h1
  have lt1 : ∀ x ∈ p1, x.block < W.heap.size := by obtain ⟨m, hm⟩ := k1; exact DataW.trod_lt m _ _ _ hm
  obtain ⟨LA1, Ll1, Lc1, rfl, Lm1, Lr1⟩ := openInts (hval 1 53 v1 rfl rfl) h1
  clear hA0 hval0
  refine (walk a0 LA1 Ll1 Lc1 W w0 Lm1 Lr1).mono fun e W' ⟨he, bel⟩ => ?_
  subst he
  exact ⟨_, rfl, _, _, _, [], _, [], hW', trodAll_mk1 (shut_bool Try.underlying4 _), (trodAll_cons_mk (Below.trod laidOut (by kernel_rfl) (of_decide_eq_true (by kernel_rfl)) k0 bel lt0) (trodAll_cons_mk (Below.trod laidOut (by kernel_rfl) (of_decide_eq_true (by kernel_rfl)) k1 bel lt1) trodAll_mk0)), rfl, bel.frame _, fun h => by cases h⟩
theorem over : Rows.blockCountsRow.holds Try.pinned (OpenSpec.ofChange Rows.blockCountsSpec) :=
  OpenClaim.holds_of_wide 8 Try.f8 rfl rfl rfl rfl rfl rfl rfl ⟨rfl, rfl, rfl, rfl, rfl⟩ rfl rfl rfl rfl rfl (by kernel_rfl) Try.func8 (by kernel_rfl)
    (of_decide_eq_true (by kernel_rfl)) (by unfold Func.isWrapper; first | (rw [if_pos (by decide +kernel)]; kernel_rfl) | (rw [if_neg (by decide +kernel)]; exact ⟨rfl, rfl⟩))
    (fun os started H enc _ => lifted os started H enc)
/-- The statement. -/
theorem proved : Rows.BlockCountsSaid := over
end Go.Proofs.Ytialbdpfgkefjaa.lawCounts
