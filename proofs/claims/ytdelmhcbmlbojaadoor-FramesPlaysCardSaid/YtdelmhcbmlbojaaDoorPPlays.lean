/- FramesPlays: for any number of frames and any calls (fifty at most): a pool goes on as the document's does. -/
import Derived.Test.YtdelmhcbmlbojaaDoorPT
import Derived.Deep.CutBlock
namespace Go.Proofs.YtdelmhcbmlbojaaDoor.lawPlays
open Go.ChangeShapes Go.WideShapes Go.ChangeAt Go.RowKit
set_option linter.unusedVariables false

set_option maxRecDepth 100000 in
set_option maxHeartbeats 12800000 in
theorem walk (n0 : Int) (A : Option Addr) (l : List OpD) (c : Nat) (w : World) (ws : (Lit.int .i64 n0).wf = true) (hm : l.length ≤ maxLen) (hz : OpRow w A l) (hT : Tab w) :
    Calls Tryd.prog 3 #[.int .i64 n0, .slice A l.length c] w fun e w' => e = .returned (.bool true) ∧ Below w.heap.size w w' := by
  unfold maxLen at hm
  have HA := Lib.hid (fun w hT => awake6_any w hT)
  have HB := Lib.hid (Below.refl w.heap.size w)
  by_cases hn : n0 < 1 ∨ 4096 < n0
  · have HN := Lib.hid (fun w => pnew_no n0 w hn)
    have HR := Lib.hid (fun w => rnew_no n0 w hn)
    clear hz hn
    go_enter Tryd.func3, Tryd.ntmps3
    go_wp2_with (first
      | (go_at_call 10; refine (HA.out _ hT).mono ?_; rintro e v0 ⟨rfl, hb⟩)
      | (go_at_call 11; refine (HN.out _).mono ?_; rintro e v1 ⟨rfl, rfl⟩)
      | (go_at_call 12; refine (HR.out _).mono ?_; rintro e v1 ⟨rfl, rfl⟩))
    go_ret
    exact ⟨rfl, hb⟩
  · obtain ⟨n, rfl⟩ : ∃ n : Nat, n0 = n := ⟨n0.toNat, by omega⟩
    have n1 : 1 ≤ n := by omega
    have n4 : n ≤ 4096 := by omega
    clear hn
    have HN := Lib.hid (fun v (hb : Below w.heap.size w v) (hT' : Tab v) => pw_new hb hT' hT.pos n n1 n4)
    have HR := Lib.hid (fun w => rnew_made n n1 n4 w)
    have HZ := Lib.hid hz
    clear hz
    go_enter Tryd.func3, Tryd.ntmps3
    go_wp2_with (first
      | (go_at_call 10; refine (HA.out _ hT).mono ?_; rintro e v0 ⟨rfl, hb⟩; have hB := HB.out.trans hb; replace hT := hT.below hb hT.pos; clear hb)
      | (go_at_call 11; refine (HN.out _ hB hT).mono ?_; rintro e v1 ⟨p, h, g, rfl, hS⟩; clear hB)
      | (go_at_call 12; refine (HR.out _).mono ?_; rintro e v3 ⟨q, h2, s2, rfl, hq2, hh2, hs2, hb3, hr3⟩
         have hT2 : Two w v3 ⟨p, h, g, q, h2, s2⟩ (newP n) (newP n).H (List.replicate n ⟨#[]⟩) := by
           have s1 := hS.bel.size
           have l1 := hS.pl.head.lt
           have l2 := hS.pl.row.lt
           have l3 := hS.pl.byt.lt
           exact ⟨hS.on hb3, hr3, ⟨Nat.le_trans s1 hq2, Nat.le_trans s1 hh2, Nat.le_trans s1 hs2⟩, fun j e => by show j ≠ p ∧ j ≠ h ∧ j ≠ g; have e' : j = q ∨ j = h2 ∨ j = s2 := e; omega⟩
         clear hS hq2 hh2 hs2 hb3 hr3))
    have hL : Rel n (newP n) (List.replicate n ⟨#[]⟩) := ⟨by simp [newP], by simp [newP], by simp, fun k c hk hc => by
      simp only [newP] at hk
      rw [List.getElem?_replicate] at hk
      split at hk
      · injection hk with hk
        exact absurd hk.symm hc
      · cases hk⟩
    have HT := Lib.hid hT2
    have HL := Lib.hid hL
    clear hT2 hL hT HN
    go_loopw [8, 10, 11, 12, 13, 14, 15, 16, 17, 18, 19, 20, 21, 22, 23, 24, 25, 26, 27, 28] (fun i _ _ _ _ _ _ _ _ _ _ _ _ _ _ _ _ _ _ _ wr => ∃ (k : Nat) (X : Pol) (T : List ByteArray), k ≤ l.length ∧ k ≤ 50 ∧ i = .int .i64 k ∧ Two w wr ⟨p, h, g, q, h2, s2⟩ X X.H T ∧ Rel n X T) (fun i _ _ _ _ _ _ _ _ _ _ _ _ _ _ _ _ _ _ _ _ => l.length - (intOf i).toNat)
    case atStart => exact ⟨0, _, _, Nat.zero_le _, by omega, rfl, HT.out, HL.out⟩
    case round =>
      clear HT HL
      obtain ⟨k, X, T, hk, hk50, rfl, hT, hL⟩ := hrel
      by_cases hlt : k < l.length ∧ k < 50
      · obtain ⟨hk1, hk2⟩ := hlt
        have d50 : decide ((k : Int) < 50) = true := decide_eq_true (by omega)
        obtain ⟨ad, rfl, hab, hc0, hc1, hc2, hc3, hc4, hc5, hc6, wu, wk, wx, wsz⟩ := HZ.out k hk1
        have hbk : ∀ i, (ad.add i).block < w.heap.size := fun i => by rw [show (ad.add i).block = ad.block by unfold Addr.add; split <;> rfl]; exact hab
        replace hc0 := (hT.sw.bel.cell (hbk _)).trans hc0
        replace hc1 : wr.cell? { block := (ad.add (k * 7)).block, off := (ad.add (k * 7)).off + 1, spot := none } = some (.int .i64 l[k].frame) := by
          show wr.cell? ((ad.add (k * 7)).add 1) = _
          rw [Go.Deep.add_add]
          exact (hT.sw.bel.cell (hbk _)).trans hc1
        replace hc2 : wr.cell? { block := (ad.add (k * 7)).block, off := (ad.add (k * 7)).off + 2, spot := none } = some (.int .i64 l[k].at_) := by
          show wr.cell? ((ad.add (k * 7)).add 2) = _
          rw [Go.Deep.add_add]
          exact (hT.sw.bel.cell (hbk _)).trans hc2
        replace hc3 : wr.cell? { block := (ad.add (k * 7)).block, off := (ad.add (k * 7)).off + 3, spot := none } = some (.int .i64 l[k].word) := by
          show wr.cell? ((ad.add (k * 7)).add 3) = _
          rw [Go.Deep.add_add]
          exact (hT.sw.bel.cell (hbk _)).trans hc3
        replace hc4 : wr.cell? { block := (ad.add (k * 7)).block, off := (ad.add (k * 7)).off + 4, spot := none } = some (.int .u64 l[k].bits) := by
          show wr.cell? ((ad.add (k * 7)).add 4) = _
          rw [Go.Deep.add_add]
          exact (hT.sw.bel.cell (hbk _)).trans hc4
        replace hc5 : wr.cell? { block := (ad.add (k * 7)).block, off := (ad.add (k * 7)).off + 5, spot := none } = some (.string l[k].s) := by
          show wr.cell? ((ad.add (k * 7)).add 5) = _
          rw [Go.Deep.add_add]
          exact (hT.sw.bel.cell (hbk _)).trans hc5
        replace hc6 : wr.cell? { block := (ad.add (k * 7)).block, off := (ad.add (k * 7)).off + 6, spot := none } = some (.bool l[k].short) := by
          show wr.cell? ((ad.add (k * 7)).add 6) = _
          rw [Go.Deep.add_add]
          exact (hT.sw.bel.cell (hbk _)).trans hc6
        clear hbk
        unfold maxLen at wsz
        generalize l[k].kind = kd at *
        generalize l[k].frame = z at *
        generalize l[k].at_ = u at *
        generalize l[k].word = kw at *
        generalize l[k].bits = x at *
        generalize l[k].s = s0 at *
        generalize l[k].short = sh at *
        obtain ⟨m, hmk, hm0, hm8⟩ : ∃ m : Int, bits .and .i64 kd 7 = m ∧ 0 ≤ m ∧ m < 8 := by
          have e : bits .and .i64 kd 7 = kd % (2 : Int) ^ 3 := i64_and_mask kd 3 7 (by omega) (by decide)
          rw [show (2 : Int) ^ 3 = 8 by decide] at e
          exact ⟨_, e, by omega, by omega⟩
        have hR := Rd.new hT #[.int .i64 kd, .int .i64 z, .int .i64 u, .int .i64 kw, .int .u64 x, .string s0, .bool sh]
        go_upto_region 12 with fail
        obtain ⟨bo, hbo⟩ : ∃ bo, wr.heap.size = bo := ⟨_, rfl⟩
        rw [hbo] at hR ⊢
        generalize wr.alloc (.cells #[.int .i64 kd, .int .i64 z, .int .i64 u, .int .i64 kw, .int .u64 x, .string s0, .bool sh] 30) = W at *
        have HR1 := Lib.hid hR
        have HL := Lib.hid hL
        have c5 := hR.blk.at_ 5 _ rfl
        clear hT hL hbo hc0 hc1 hc2 hc3 hc4 hc5 hc6 hab hR
        go_upto_if 60 with fail
        go_cut [10] from 61 to 62 (fun v wx => ∃ t, v = .string t ∧ t.size ≤ 70 ∧ wx = W)
        case first =>
          by_cases h70 : 70 < s0.size
          · go_wp2
            go_meet
            exact ⟨_, rfl, by rw [ByteArray.size_extract]; omega, rfl⟩
          · go_wp2
            go_meet
            exact ⟨_, rfl, by omega, rfl⟩
        case rest =>
          obtain ⟨t, rfl, ht, rfl⟩ := hcut
          have c6 := HR1.out.blk.at_ 6 _ rfl
          clear c5
          go_upto_if 65 with fail
          go_cut [10] from 66 to 67 (fun v wx => ∃ t2, v = .string t2 ∧ t2.size ≤ 70 ∧ Rd w wx ⟨p, h, g, q, h2, s2⟩ bo #[.int .i64 kd, .int .i64 z, .int .i64 u, .int .i64 kw, .int .u64 x, .string s0, .bool sh] X X.H T)
          case first =>
            have hf := fun w => rfill_any t 64 w (by decide) (by omega) (by decide)
            have hfs : (fillS t 64).size = 64 := by unfold fillS; rw [if_neg (by decide), mkb_size, fillL_length]; rfl
            generalize fillS t 64 = t2 at *
            have HF := Lib.hid hf
            have HFS := Lib.hid hfs
            clear hf hfs
            cases sh
            · go_wp2_with (go_at_call 13; refine (HF.out _).mono ?_; rintro e v4 ⟨rfl, hb4⟩; have HR4 := Lib.hid (HR1.out.on hb4); clear hb4)
              go_meet
              exact ⟨_, rfl, by rw [HFS.out]; omega, HR4.out⟩
            · go_wp2
              go_meet
              exact ⟨_, rfl, ht, HR1.out⟩
          case rest =>
          obtain ⟨t2, rfl, ht2, hR2⟩ := hcut
          clear HR1 c6 ht
          generalize wc = W2 at *
          have HR2 := Lib.hid hR2
          have c0 := hR2.blk.at_ 0 _ rfl
          have ht3 : t2.size ≤ 281474976710656 := by omega
          clear hR2
          go_upto_block 2 with fail
          clear c0
          go_cut [11, 12, 13, 14, 15, 16, 17, 18, 19, 20, 21, 22, 23, 24, 25, 26, 27] from 71 to 226 (fun s11 _ _ _ _ _ _ _ _ _ _ _ _ _ _ _ _ wx => s11 = .bool true ∧ ∃ X T, Rd w wx ⟨p, h, g, q, h2, s2⟩ bo #[.int .i64 kd, .int .i64 z, .int .i64 u, .int .i64 kw, .int .u64 x, .string s0, .bool sh] X X.H T ∧ Rel n X T)
          case first =>
            have hm : m = 0 ∨ m = 1 ∨ m = 2 ∨ m = 3 ∨ m = 4 ∨ m = 5 ∨ m = 6 ∨ m = 7 := by omega
            clear hmk hm0 hm8
            rcases hm with rfl | rfl | rfl | rfl | rfl | rfl | rfl | rfl
            · as_aux_lemma =>
                have HX := Lib.hid (HL.out.take)
                go_wp2_with (first
                  | (go_at_call 14; refine (rd_take HR2.out).mono ?_; rintro e v5 ⟨rfl, hR5⟩)
                  | (go_at_call 15; refine (rd_rtake hR5).mono ?_; rintro e v6 ⟨rfl, hR6⟩; have HR6 := Lib.hid hR6; clear hR5 hR6))
                go_meet
                obtain ⟨e1, e2⟩ := HX.out
                exact ⟨rfl, _, _, by rw [e1]; exact HR6.out, e2⟩
            · as_aux_lemma =>
                have a1 := HR2.out.drew.blk.at_ 1 _ rfl
                go_wp2
                go_region_held3 (fun w' => w'.cell? ⟨bo, 1, none⟩ = some (.int .i64 z))
                  (first | exact a1)
                  (first
                  | (go_at_call 16; refine (rd_hold HR2.out.drew z).mono ?_; rintro e v5 ⟨rfl, hR5⟩; clear a1; have a1 := hR5.blk.at_ 1 _ rfl)
                  | (go_at_call 17; refine (rd_radd hR5 z 1).mono ?_; rintro e v6 ⟨rfl, hR6⟩; clear a1; have a1 := hR6.blk.at_ 1 _ rfl; have HR6 := Lib.hid hR6; clear hR6))
                go_wp2
                go_meet
                obtain ⟨e1, e2⟩ := HL.out.add z 1
                exact ⟨rfl, _, _, by rw [e1]; exact HR6.out, e2⟩
            · as_aux_lemma =>
                have a1 := HR2.out.drew.blk.at_ 1 _ rfl
                go_wp2
                go_region_held3 (fun w' => w'.cell? ⟨bo, 1, none⟩ = some (.int .i64 z))
                  (first | exact a1)
                  (first
                  | (go_at_call 18; refine (rd_drop HR2.out.drew z).mono ?_; rintro e v5 ⟨rfl, hR5⟩; clear a1; have a1 := hR5.blk.at_ 1 _ rfl)
                  | (go_at_call 17; refine (rd_radd hR5 z (-1)).mono ?_; rintro e v6 ⟨rfl, hR6⟩; clear a1; have a1 := hR6.blk.at_ 1 _ rfl; have HR6 := Lib.hid hR6; clear hR6))
                go_wp2
                go_meet
                obtain ⟨e1, e2⟩ := HL.out.add z (-1)
                exact ⟨rfl, _, _, by rw [e1]; exact HR6.out, e2⟩
            · as_aux_lemma =>
                have c1 := HR2.out.blk.at_ 1 _ rfl
                have hby := rd_bytes HR2.out z
                rw [HL.out.bytes z] at hby
                have HBY := Lib.hid hby
                clear hby
                go_wp2_with (first
                  | (go_at_call 19; refine HBY.out.mono ?_; rintro e v5 ⟨rfl, hR5⟩; have c5 := hR5.blk.at_ 1 _ rfl)
                  | (go_at_call 20; refine (rd_rbytes hR5 z).mono ?_; rintro e v6 ⟨rfl, rfl⟩))
                go_meet
                exact ⟨rfl, X, T, hR5, HL.out⟩
            · as_aux_lemma =>
                have hfl := fun (v : World) (r : Rd w v ⟨p, h, g, q, h2, s2⟩ bo #[.int .i64 kd, .int .i64 z, .int .i64 u, .int .i64 kw, .int .u64 x, .string s0, .bool sh] X X.H T) => rd_fill r z t2 ht3
                rw [show X.flE z t2 = rflE X.H z t2 from rfl] at hfl
                have HFL := Lib.hid hfl
                clear hfl
                have a1 := HR2.out.drew.blk.at_ 1 _ rfl
                go_wp2
                go_region_held3 (fun w' => w'.cell? ⟨bo, 1, none⟩ = some (.int .i64 z))
                  (first | exact a1)
                  (first
                  | (go_at_call 21; refine (HFL.out _ HR2.out.drew).mono ?_; rintro e v5 ⟨rfl, hR5⟩; clear a1; have a1 := hR5.blk.at_ 1 _ rfl)
                  | (go_at_call 22; refine (rd_rfill hR5 z t2 ht3).mono ?_; rintro e v6 ⟨rfl, hR6⟩; clear a1; have a1 := hR6.blk.at_ 1 _ rfl; have HR6 := Lib.hid hR6; clear hR6))
                go_wp2
                go_meet
                exact ⟨rfl, _, _, by rw [X.flX_H]; exact HR6.out, HL.out.fill z t2⟩
            · as_aux_lemma =>
                have c1 := HR2.out.blk.at_ 1 _ rfl
                go_wp2_with (first
                  | (go_at_call 23; refine (rd_copy HR2.out z).mono ?_; rintro e v5 ⟨rfl, hR5⟩; have c5 := hR5.blk.at_ 1 _ rfl)
                  | (go_at_call 24; refine (rd_rcopy hR5 z).mono ?_; rintro e v6 ⟨rfl, hR6⟩; have HR6 := Lib.hid hR6; clear hR5 hR6))
                go_meet
                obtain ⟨e1, e2⟩ := HL.out.copy z
                exact ⟨rfl, _, _, by rw [e1]; exact HR6.out, e2⟩
            · as_aux_lemma =>
                have c1 := HR2.out.blk.at_ 1 _ rfl
                have c2 := HR2.out.blk.at_ 2 _ rfl
                have c3 := HR2.out.blk.at_ 3 _ rfl
                have hld := rd_load HR2.out z u kw wu wk
                rw [HL.out.load z u kw] at hld
                have HLD := Lib.hid hld
                have HWH := Lib.hid (HL.out.whole HR2.out.two.sw.pl.all)
                clear hld
                go_wp2_with (first
                  | (go_at_call 25; refine HLD.out.mono ?_; rintro e v5 ⟨rfl, hR5⟩; have d1 := hR5.blk.at_ 1 _ rfl; have d2 := hR5.blk.at_ 2 _ rfl; have d3 := hR5.blk.at_ 3 _ rfl)
                  | (go_at_call 26; refine (rd_rload hR5 HWH.out z u kw wu wk).mono ?_; rintro e v6 ⟨rfl, rfl⟩))
                go_meet
                exact ⟨rfl, X, T, hR5, HL.out⟩
            · as_aux_lemma =>
                have HWH := Lib.hid (HL.out.whole HR2.out.two.sw.pl.all)
                have a1 := HR2.out.drew.blk.at_ 1 _ rfl
                have a2 := HR2.out.drew.blk.at_ 2 _ rfl
                have a3 := HR2.out.drew.blk.at_ 3 _ rfl
                have a4 := HR2.out.drew.blk.at_ 4 _ rfl
                go_wp2
                go_region_held3 (fun w' => w'.cell? ⟨bo, 1, none⟩ = some (.int .i64 z) ∧ w'.cell? ⟨bo, 2, none⟩ = some (.int .i64 u) ∧ w'.cell? ⟨bo, 3, none⟩ = some (.int .i64 kw) ∧ w'.cell? ⟨bo, 4, none⟩ = some (.int .u64 x))
                  (first | exact ⟨a1, a2, a3, a4⟩)
                  (first
                  | (go_at_call 27; refine (rd_store HR2.out.drew z u kw x wu wk wx).mono ?_; rintro e v5 ⟨rfl, hR5⟩; clear a1 a2 a3 a4; have a1 := hR5.blk.at_ 1 _ rfl; have a2 := hR5.blk.at_ 2 _ rfl; have a3 := hR5.blk.at_ 3 _ rfl; have a4 := hR5.blk.at_ 4 _ rfl)
                  | (go_at_call 28; refine (rd_rstore hR5 HWH.out z u kw x wu wk wx).mono ?_; rintro e v6 ⟨rfl, hR6⟩; clear a1 a2 a3 a4; have a1 := hR6.blk.at_ 1 _ rfl; have a2 := hR6.blk.at_ 2 _ rfl; have a3 := hR6.blk.at_ 3 _ rfl; have a4 := hR6.blk.at_ 4 _ rfl; have HR6 := Lib.hid hR6; clear hR6))
                go_wp2
                go_meet
                exact ⟨rfl, _, _, by rw [X.stX_H]; exact HR6.out, HL.out.store z u kw x⟩
          case rest =>
            obtain ⟨rfl, Y, T2, hR3, hL3⟩ := hcut
            clear HR2 HL
            generalize wc = W3 at *
            have HL3 := Lib.hid hL3
            clear hL3
            by_cases hin : 0 ≤ z ∧ z < n
            · as_aux_lemma =>
                obtain ⟨hz0, hz1⟩ := hin
                obtain ⟨f, rfl⟩ : ∃ f : Nat, z = f := ⟨z.toNat, by omega⟩
                have hfl : f < Y.H.length := by rw [HL3.out.lenH]; omega
                have e : heldI Y.H f = Y.H[f] := by unfold heldI; simp [hfl]
                obtain ⟨y, hy⟩ : ∃ y, Y.H[f]? = some y := ⟨_, List.getElem?_eq_getElem hfl⟩
                have ey : Y.H[f] = y := (List.getElem?_eq_some_iff.1 hy).2
                rw [ey] at e
                have HY := Lib.hid hy
                have g1 : decide ((0 : Int) ≤ (f : Int)) = true := decide_eq_true (by omega)
                have g2 : decide ((f : Int) < (Y.H.length : Int)) = true := decide_eq_true (by rw [HL3.out.lenH]; omega)
                have HE := Lib.hid e
                have hI : (f : Int) < (Y.H.length : Int) := by omega
                have HF := Lib.hid hfl
                clear e ey hy hfl
                have c1 := hR3.blk.at_ 1 _ rfl
                have c4 := hR3.two.rf.head.at_ 0 _ rfl
                go_wp2
                go_quiet (fail)
                replace hR3 := hR3.drewN nq
                generalize W3.drewN nq = W4 at *
                clear c1 c4
                have c1 := hR3.blk.at_ 1 _ rfl
                have c4 := hR3.two.rf.head.at_ 0 _ rfl
                have c5 : W4.cell? ⟨h2, f, none⟩ = some (.int .i64 y) := hR3.two.rf.row.at_ f _ (by simp [icells, HY.out])
                go_wp2
                go_quiet (fail)
                replace hR3 := hR3.drewN nq
                generalize W4.drewN nq = W5 at *
                clear c1 c4 c5
                have c1 := hR3.blk.at_ 1 _ rfl
                have c4 := hR3.two.rf.head.at_ 0 _ rfl
                have HU1 := Lib.hid (fun m => (pfreeN_any (hR3.two.sw.pl.drewN m)).mono fun _ _ ⟨he, hw⟩ => (⟨he, hw.symm⟩ : _ ∧ _))
                have HU2 := Lib.hid (fun m => (rfree_any (hR3.two.rf.drewN m)).mono fun _ _ ⟨he, hw⟩ => (⟨he, hw.symm⟩ : _ ∧ _))
                have hu3 := fun m => (pheld_any (hR3.two.sw.pl.drewN m) (f : Int)).mono fun _ _ ⟨he, hw⟩ => (⟨he, hw.symm⟩ : _ ∧ _)
                rw [HE.out] at hu3
                have HU3 := Lib.hid hu3
                have HU4 := Lib.hid (fun m => (pframes_any (hR3.two.sw.pl.drewN m)).mono fun _ _ ⟨he, hw⟩ => (⟨he, hw.symm⟩ : _ ∧ _))
                have HR3 := Lib.hid hR3
                clear hu3 hR3
                generalize freeN Y.H = fr at *
                go_wp2
                go_quiet ((first
                  | (go_at_call 29; exact Calls.quiet_of_same (HU1.out _))
                  | (go_at_call 30; exact Calls.quiet_of_same (HU2.out _))
                  | (go_at_call 31; exact Calls.quiet_of_same (HU3.out _))
                  | (go_at_call 32; exact Calls.quiet_of_same (HU4.out _))))
                go_wp2
                go_roundw
                case rel => exact ⟨k + 1, Y, T2, by omega, by omega, by go_num, HR3.out.two.drewN _, HL3.out⟩
                case measure => simp [intOf]; omega
            · have e : heldI Y.H z = 0 := by unfold heldI; rw [if_neg (by rw [HL3.out.lenH]; exact hin)]
              have hor : z < 0 ∨ (0 ≤ z ∧ (Y.H.length : Int) ≤ z) := by rw [HL3.out.lenH]; omega
              have HE := Lib.hid e
              clear e hin
              rcases hor with h1 | ⟨h1, h3⟩
              · as_aux_lemma =>
                  have g1 : decide ((0 : Int) ≤ z) = false := decide_eq_false (by omega)
                  have c1 := hR3.blk.at_ 1 _ rfl
                  have c4 := hR3.two.rf.head.at_ 0 _ rfl
                  go_wp2
                  go_quiet (fail)
                  replace hR3 := hR3.drewN nq
                  generalize W3.drewN nq = W4 at *
                  clear c1 c4
                  have c1 := hR3.blk.at_ 1 _ rfl
                  have c4 := hR3.two.rf.head.at_ 0 _ rfl
                  have HU1 := Lib.hid (fun m => (pfreeN_any (hR3.two.sw.pl.drewN m)).mono fun _ _ ⟨he, hw⟩ => (⟨he, hw.symm⟩ : _ ∧ _))
                  have HU2 := Lib.hid (fun m => (rfree_any (hR3.two.rf.drewN m)).mono fun _ _ ⟨he, hw⟩ => (⟨he, hw.symm⟩ : _ ∧ _))
                  have hu3 := fun m => (pheld_any (hR3.two.sw.pl.drewN m) z).mono fun _ _ ⟨he, hw⟩ => (⟨he, hw.symm⟩ : _ ∧ _)
                  rw [HE.out] at hu3
                  have HU3 := Lib.hid hu3
                  have HU4 := Lib.hid (fun m => (pframes_any (hR3.two.sw.pl.drewN m)).mono fun _ _ ⟨he, hw⟩ => (⟨he, hw.symm⟩ : _ ∧ _))
                  have HR3 := Lib.hid hR3
                  clear hu3 hR3
                  generalize freeN Y.H = fr at *
                  go_wp2
                  go_quiet ((first
                    | (go_at_call 29; exact Calls.quiet_of_same (HU1.out _))
                    | (go_at_call 30; exact Calls.quiet_of_same (HU2.out _))
                    | (go_at_call 31; exact Calls.quiet_of_same (HU3.out _))
                    | (go_at_call 32; exact Calls.quiet_of_same (HU4.out _))))
                  go_wp2
                  go_roundw
                  case rel => exact ⟨k + 1, Y, T2, by omega, by omega, by go_num, HR3.out.two.drewN _, HL3.out⟩
                  case measure => simp [intOf]; omega
              · as_aux_lemma =>
                  have g1 : decide ((0 : Int) ≤ z) = true := decide_eq_true h1
                  have g2 : decide (z < (Y.H.length : Int)) = false := decide_eq_false (by omega)
                  have c1 := hR3.blk.at_ 1 _ rfl
                  have c4 := hR3.two.rf.head.at_ 0 _ rfl
                  go_wp2
                  go_quiet (fail)
                  replace hR3 := hR3.drewN nq
                  generalize W3.drewN nq = W4 at *
                  clear c1 c4
                  have c1 := hR3.blk.at_ 1 _ rfl
                  have c4 := hR3.two.rf.head.at_ 0 _ rfl
                  have HU1 := Lib.hid (fun m => (pfreeN_any (hR3.two.sw.pl.drewN m)).mono fun _ _ ⟨he, hw⟩ => (⟨he, hw.symm⟩ : _ ∧ _))
                  have HU2 := Lib.hid (fun m => (rfree_any (hR3.two.rf.drewN m)).mono fun _ _ ⟨he, hw⟩ => (⟨he, hw.symm⟩ : _ ∧ _))
                  have hu3 := fun m => (pheld_any (hR3.two.sw.pl.drewN m) z).mono fun _ _ ⟨he, hw⟩ => (⟨he, hw.symm⟩ : _ ∧ _)
                  rw [HE.out] at hu3
                  have HU3 := Lib.hid hu3
                  have HU4 := Lib.hid (fun m => (pframes_any (hR3.two.sw.pl.drewN m)).mono fun _ _ ⟨he, hw⟩ => (⟨he, hw.symm⟩ : _ ∧ _))
                  have HR3 := Lib.hid hR3
                  clear hu3 hR3
                  generalize freeN Y.H = fr at *
                  go_wp2
                  go_quiet ((first
                    | (go_at_call 29; exact Calls.quiet_of_same (HU1.out _))
                    | (go_at_call 30; exact Calls.quiet_of_same (HU2.out _))
                    | (go_at_call 31; exact Calls.quiet_of_same (HU3.out _))
                    | (go_at_call 32; exact Calls.quiet_of_same (HU4.out _))))
                  go_wp2
                  go_roundw
                  case rel => exact ⟨k + 1, Y, T2, by omega, by omega, by go_num, HR3.out.two.drewN _, HL3.out⟩
                  case measure => simp [intOf]; omega
      · have HT := Lib.hid hT
        have hl2 : (k < l.length ∧ ¬ k < 50) ∨ ¬ k < l.length := by omega
        clear hlt hT hL
        rcases hl2 with ⟨h1, h2⟩ | h1
        all_goals
          go_wp2
          go_ret
          exact ⟨rfl, HT.out.sw.bel⟩

set_option maxRecDepth 100000 in
theorem lifted (os : Os) (started : os.Started) (H : Type) (enc : TypeId × Value → H) :
    ReturnsInHanded {} Tryd.checked os 3 .any (fun w args => (Rows.framesPlaysSpec.pre enc Tryd.prog Tryd.f3 Rows.framesPlaysRow.domain false w args ∧ laidMet Tryd.prog Rows.framesPlaysRow.laid w) ∧ sizedMet enc Tryd.prog Tryd.f3 (OpenSpec.ofChange Rows.framesPlaysSpec) false w args) (Rows.framesPlaysSpec.post enc Tryd.prog Tryd.f3 false true false false) := by
  refine returnsInHanded_of_change_and (C := Tryd.checked) (X := fun w _ => laidMet Tryd.prog Rows.framesPlaysRow.laid w) (fun _ _ _ hh h => h.of_heap hh) own started (by kernel_rfl) Tryd.func3
    (ChangeSpec.witness_at (enc := enc) (C := Tryd.checked) (os := os) (X := fun w _ => laidMet Tryd.prog Rows.framesPlaysRow.laid w) false (laidWorld os) #[.int .i64 0, .slice none 0 0] 8 rfl (by kernel_rfl) (by kernel_rfl) (by kernel_rfl) (by kernel_rfl) (by kernel_rfl) (laid_met os _)) ?_
  intro W base args ds gs before hval0 hW hcnd _ hL _
  have hval : ∀ (j : Nat) t v, Tryd.f3.params[j]? = some t → args[j]? = some v → Value.okWide Tryd.prog W .any base t v := hval0
  have hW' := hW
  obtain ⟨p, q, hA0, hV, rfl, hfz, hnd⟩ := hW
  have hA : DataW.TrodAll enc Tryd.prog W 0 (fun _ => true) true Tryd.f3.params.toList args.toList ds p := hA0
  rw [Tryd.params3] at hA hval
  obtain ⟨v0, vs0, d0, ds0, p0, q0, hargs, rfl, rfl, h0, r0⟩ := trodAll_cons hA
  obtain ⟨v1, vs1, d1, ds1, p1, q1, rfl, rfl, rfl, h1, r1⟩ := trodAll_cons r0
  obtain ⟨rfl, rfl, rfl⟩ := trodAll_nil r1
  obtain rfl : args = #[v0, v1] := by cases args; simp_all
  obtain ⟨rfl, rfl⟩ := trodVars_none hV
  have k0 := h0
  have lt0 : ∀ x ∈ p0, x.block < W.heap.size := by obtain ⟨m, hm⟩ := k0; exact DataW.trod_lt m _ _ _ hm
  obtain ⟨a0, rfl, _, _, w0⟩ := open_int Tryd.underlying3 (hval 0 3 v0 rfl rfl) h0
  have k1 := h1
  have lt1 : ∀ x ∈ p1, x.block < W.heap.size := by obtain ⟨m, hm⟩ := k1; exact DataW.trod_lt m _ _ _ hm
  obtain ⟨LA1, Ll1, Lc1, rfl, Lm1, Lr1⟩ := openOps (hval 1 22 v1 rfl rfl) h1
  clear hA0 hval0
  refine (walk a0 LA1 Ll1 Lc1 W w0 Lm1 Lr1 (tab_of_laid hL)).mono fun e W' ⟨he, bel⟩ => ?_
  subst he
  exact ⟨_, rfl, _, _, _, [], _, [], hW', trodAll_mk1 (shut_bool Tryd.underlying4 _), (trodAll_cons_mk (Below.trod laidOut (by kernel_rfl) (of_decide_eq_true (by kernel_rfl)) k0 bel lt0) (trodAll_cons_mk (Below.trod laidOut (by kernel_rfl) (of_decide_eq_true (by kernel_rfl)) k1 bel lt1) trodAll_mk0)), rfl, bel.frame _, fun h => by cases h⟩
theorem over : Rows.framesPlaysRow.holds Tryd.pinned (OpenSpec.ofChange Rows.framesPlaysSpec) :=
  OpenClaim.holds_of_wide 3 Tryd.f3 rfl rfl rfl rfl rfl rfl rfl ⟨rfl, rfl, rfl, rfl, rfl⟩ rfl rfl rfl rfl rfl (by kernel_rfl) Tryd.func3 (by kernel_rfl)
    (of_decide_eq_true (by kernel_rfl)) (by unfold Func.isWrapper; first | (rw [if_pos (by decide +kernel)]; kernel_rfl) | (rw [if_neg (by decide +kernel)]; exact ⟨rfl, rfl⟩))
    (fun os started H enc _ => lifted os started H enc)
/-- The statement. -/
theorem proved : Rows.FramesPlaysCardSaid :=
  Claim7.holds_tied_plain_at .later [] [.data] true _ false over (fun _ h => by cases h) (by kernel_rfl) (fun _ h => by cases h) framesPlays_row_tie rfl ⟨rfl, rfl⟩ (by kernel_rfl) rfl
    (fun f fn hf hfn => by
      obtain rfl : f = 3 := Option.some.inj (hf.symm.trans (by kernel_rfl))
      obtain rfl : fn = Tryd.f3 := Option.some.inj (hfn.symm.trans Tryd.func3)
      refine ⟨by kernel_rfl, fun j t ht => ?_⟩
      rw [Tryd.params3] at ht
      match j, ht with
      | 0, ht =>
        obtain rfl : t = 3 := by simpa using ht.symm
        exact (by kernel_rfl : Tryd.pinned.checked.prog.wantsStandIn 3 = false)
      | 1, ht =>
        obtain rfl : t = 22 := by simpa using ht.symm
        exact (by kernel_rfl : Tryd.pinned.checked.prog.wantsStandIn 22 = false)
      | j + 2, ht => simp at ht)
    (by kernel_rfl)
end Go.Proofs.YtdelmhcbmlbojaaDoor.lawPlays
