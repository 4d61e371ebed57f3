/- BlockPlays: for any number of sectors and any calls (forty at most): a disk goes on as the document's does. -/
import Derived.Test.YtialbdpfgkefjaaBH
import Derived.Test.YtialbdpfgkefjaaBits
import Derived.Deep.RegionWith
namespace Go.Proofs.Ytialbdpfgkefjaa.lawPlays
open Go.ChangeShapes Go.WideShapes Go.ChangeAt Go.RowKit
set_option linter.unusedVariables false

/-- A call. -/
structure OpD where
  kind : Int
  at_ : Int
  byte : Int
  short : Bool
/-- A slice of calls. -/
def OpRow (w : World) (A : Option Addr) (l : List OpD) : Prop := ∀ i (hi : i < l.length), ∃ ad, A = some ad ∧ ad.block < w.heap.size ∧ w.cell? (ad.add (i * 4)) = some (.int .i64 l[i].kind) ∧ w.cell? (ad.add (i * 4 + 1)) = some (.int .i64 l[i].at_) ∧
  w.cell? (ad.add (i * 4 + 2)) = some (.int .u8 l[i].byte) ∧ w.cell? (ad.add (i * 4 + 3)) = some (.bool l[i].short) ∧ (Lit.int .u8 l[i].byte).wf = true
theorem openOps {H : Type} {enc : TypeId × Value → H} {w : World} {base : Nat} {spare : Nat → Bool} {held : Bool} {r : Reach} {b0 : Nat} {v : Value} {d : DataW H} {ps : List MemPlace}
    (hv : Value.okWide Try.prog w r b0 22 v) (h : DataW.Trod enc Try.prog w base spare held 22 v d ps) : ∃ A l c, v = .slice A (List.length l) c ∧ l.length ≤ maxLen ∧ OpRow w A l := by
  obtain ⟨A, n, c, rfl, hn, hi⟩ := open_fields_row Try.underlying22 Try.underlying29 (by kernel_rfl) (by kernel_rfl) (by decide) hv h
  obtain ⟨zs, hl, hz⟩ := list_of (Q := fun i (z : OpD) => ∃ ad, A = some ad ∧ ad.block < w.heap.size ∧ w.cell? (ad.add (i * 4)) = some (.int .i64 z.kind) ∧ w.cell? (ad.add (i * 4 + 1)) = some (.int .i64 z.at_) ∧
      w.cell? (ad.add (i * 4 + 2)) = some (.int .u8 z.byte) ∧ w.cell? (ad.add (i * 4 + 3)) = some (.bool z.short) ∧ (Lit.int .u8 z.byte).wf = true) n (fun i h => by
    obtain ⟨ad, rfl, hb, hf⟩ := hi i h
    obtain ⟨u0, y0, m0, hc0, h0⟩ := hf 0 _ rfl
    obtain ⟨u1, y1, m1, hc1, h1⟩ := hf 1 _ rfl
    obtain ⟨u2, y2, m2, hc2, h2⟩ := hf 2 _ rfl
    obtain ⟨u3, y3, m3, hc3, h3⟩ := hf 3 _ rfl
    obtain ⟨z0, e0, _, w0⟩ := DataW.trod_int Try.underlying3 h0
    obtain ⟨z1, e1, _, w1⟩ := DataW.trod_int Try.underlying3 h1
    obtain ⟨z2, e2, _, w2⟩ := DataW.trod_int Try.underlying5 h2
    obtain ⟨z3, e3, _⟩ := DataW.trod_bool Try.underlying4 h3
    injection e0 with e0
    injection e1 with e1
    injection e2 with e2
    injection e3 with e3
    subst e0 e1 e2 e3
    exact ⟨⟨z0, z1, z2, z3⟩, ad, rfl, hb, by simpa using hc0, by simpa using hc1, by simpa using hc2, by simpa using hc3, w2⟩)
  subst hl
  exact ⟨A, zs, c, rfl, hn, hz⟩

theorem rk_drewN {w : World} {B q h cap : Nat} {D : Dsk} (k : Rk w B q h cap D) (n : Nat) : Rk (w.drewN n) B q h cap D := ⟨k.ne, k.base, k.head.drewN n, k.own, k.len⟩
theorem rk_drew {w : World} {B q h cap : Nat} {D : Dsk} (k : Rk w B q h cap D) : Rk w.drew B q h cap D := ⟨k.ne, k.base, k.head.drew, k.own, k.len⟩
theorem sec_len (s : ByteArray) (h : s.size ≤ 64) : (s.extract 0 63).size ≤ 281474976710656 := by
  rw [extract_mkb, mkb_size, List.length_take, List.length_drop, len_data]
  omega
theorem blk_new_but {S : Nat → Prop} {t : TypeId} {cs : Array Value} (w : World) {w' : World} (hb : But S (w.alloc (.cells cs t)) w') (hS : ¬ S w.heap.size) : Blk w' w.heap.size t cs := (Blk.new w t cs).but hb hS

set_option maxRecDepth 100000 in
set_option maxHeartbeats 6400000 in
theorem walk (n : Int) (A : Option Addr) (l : List OpD) (c : Nat) (w : World) (hn : (Lit.int .i64 n).wf = true) (hm : l.length ≤ maxLen) (hz : OpRow w A l) :
    Calls Try.prog 3 #[.int .i64 n, .slice A l.length c] w fun e w' => e = .returned (.bool true) ∧ Below w.heap.size w w' := by
  unfold maxLen at hm
  have HA := Lib.hid (fun w => awake3_any w)
  have hB := Below.refl w.heap.size w
  by_cases hno : n < 1 ∨ 16384 < n
  · have H1 := Lib.hid (fun w => bnew_no n w hno)
    have H2 := Lib.hid (fun w => rnew_no n w hno)
    clear hno
    go_enter Try.func3, Try.ntmps3
    go_wp2_with (first
      | (go_at_call 9; refine (HA.out _).mono ?_; rintro e v1 ⟨rfl, hb⟩; replace hB := hB.trans (hb.mono hB.size); clear hb)
      | (go_at_call 10; refine (H1.out _).mono ?_; rintro e v2 ⟨rfl, rfl⟩)
      | (go_at_call 11; refine (H2.out _).mono ?_; rintro e v3 ⟨rfl, rfl⟩))
    go_ret
    exact ⟨rfl, hB⟩
  · obtain ⟨N, rfl⟩ : ∃ N : Nat, n = N := ⟨n.toNat, by omega⟩
    have H1 := Lib.hid (fun w => new_made N w (by omega) (by omega))
    have H2 := Lib.hid (fun w => rnew_yes N w (by omega) (by omega))
    have HX := Lib.hid (fun w c => lsec_any c w)
    have HZ := Lib.hid hz
    clear hno hz
    go_enter Try.func3, Try.ntmps3
    go_wp2_with (first
      | (go_at_call 9; refine (HA.out _).mono ?_; rintro e v1 ⟨rfl, hb⟩; replace hB := hB.trans (hb.mono hB.size); clear hb)
      | (go_at_call 10; refine (H1.out _).mono ?_; rintro e v2 ⟨p, g, rfl, hp, hg, hb, hd⟩; have hp' := Nat.le_trans hB.size hp; have hg' := Nat.le_trans hB.size hg; replace hB := hB.trans (hb.mono hB.size); clear hb hp hg)
      | (go_at_call 11; refine (H2.out _).mono ?_; rintro e v3 ⟨q, h, cap, rfl, hb, hr⟩; have hq := hr.base; have hh := hr.low.1; have hpq : p ≠ q := (by have := hd.head.lt; omega); have hgq : g ≠ q := (by have := hd.row.lt; omega); have hph : p ≠ h := (by have := hd.head.lt; omega); have hgh : g ≠ h := (by have := hd.row.lt; omega); have hq' := Nat.le_trans hB.size hq; have hh' := Nat.le_trans hB.size hh; replace hd := hd.below hb hd.head.lt hd.row.lt; replace hB := hB.trans (hb.mono hB.size); clear hb hq hh))
    go_loopw [8] (fun i wr => ∃ (k : Nat) (D : Dsk), k ≤ l.length ∧ k ≤ 40 ∧ i = .int .i64 k ∧ Below w.heap.size w wr ∧ Dk wr p g D ∧ Rk wr v2.heap.size q h cap D) (fun i _ => l.length - (intOf i).toNat)
    case atStart => exact ⟨0, _, Nat.zero_le _, by omega, rfl, hB, hd, hr⟩
    case round =>
      clear hB hd hr
      obtain ⟨k, D, hk, hk40, rfl, hB, hd, hr⟩ := hrel
      by_cases hlt : k < l.length ∧ k < 40
      · obtain ⟨h1, h2⟩ := hlt
        obtain ⟨ad, rfl, hab, hc0, hc1, hc2, hc3, hw2⟩ := HZ.out k h1
        have hbk : ∀ i, (ad.add i).block < w.heap.size := fun i => by rw [show (ad.add i).block = ad.block by unfold Addr.add; split <;> rfl]; exact hab
        replace hc0 : wr.cell? (ad.add (k * 4)) = some (.int .i64 l[k].kind) := (hB.cell (hbk _)).trans hc0
        replace hc1 : wr.cell? { block := (ad.add (k * 4)).block, off := (ad.add (k * 4)).off + 1, spot := none } = some (.int .i64 l[k].at_) := by
          show wr.cell? ((ad.add (k * 4)).add 1) = _
          rw [Go.Deep.add_add]
          exact (hB.cell (hbk _)).trans hc1
        replace hc2 : wr.cell? { block := (ad.add (k * 4)).block, off := (ad.add (k * 4)).off + 2, spot := none } = some (.int .u8 l[k].byte) := by
          show wr.cell? ((ad.add (k * 4)).add 2) = _
          rw [Go.Deep.add_add]
          exact (hB.cell (hbk _)).trans hc2
        replace hc3 : wr.cell? { block := (ad.add (k * 4)).block, off := (ad.add (k * 4)).off + 3, spot := none } = some (.bool l[k].short) := by
          show wr.cell? ((ad.add (k * 4)).add 3) = _
          rw [Go.Deep.add_add]
          exact (hB.cell (hbk _)).trans hc3
        clear hbk
        generalize l[k].kind = kd at *
        generalize l[k].at_ = z at *
        generalize l[k].byte = b at *
        generalize l[k].short = sh at *
        obtain ⟨m, hmk, hm0, hm4⟩ : ∃ m : Int, bits .and .i64 kd 3 = m ∧ 0 ≤ m ∧ m < 4 := by
          have e : bits .and .i64 kd 3 = kd % (2 : Int) ^ 2 := i64_and_mask kd 2 3 (by omega) (by decide)
          exact ⟨_, e, Int.emod_nonneg _ (by decide), Int.emod_lt_of_pos _ (by decide)⟩
        by_cases hm3 : m = 0
        · subst hm3
          have hR1 := fun v (hd : Dk v p g D) => read_any hd z
          have hR2 := fun v (hr : Rk v v2.heap.size q h cap D) => rread_any hr z
          generalize D.rdS z = F at *
          generalize D.rdE z = E at *
          have HR1 := Lib.hid hR1
          have HR2 := Lib.hid hR2
          clear hR1 hR2
          have hD1 := Lib.hid (rdD_S D z)
          go_wp2_with (first
            | (go_at_call 12; refine (HR1.out _ (hd.alloc _)).mono ?_; rintro e v5 ⟨rfl, hb5, hd5⟩; have hr5 := (hr.on ((Below.refl _ _).alloc (Nat.le_refl _) _)).but hb5 (fun e => hpq e.symm) (fun e => hph e.symm); have kb := blk_new_but wr hb5 (by have := hd.head.lt; omega); have o1 := kb.at_ 1 _ rfl; have KB := Lib.hid kb; have HB5 := Lib.hid hb5; clear kb hb5)
            | (go_at_call 13; refine (HR2.out _ hr5).mono ?_; rintro e v6 ⟨rfl, hb6, hr6⟩; have HD6 := Lib.hid (hd5.but hb6 hpq hgq); have HR6 := Lib.hid hr6; have HB6 := Lib.hid hb6; clear hr6 hb6))
          have k1 := (hB.alloc hB.size _).trans (HB5.out.below (B := w.heap.size) (by have := hB.size; simp; omega) (fun j e => by omega))
          have HBX := Lib.hid (k1.trans (HB6.out.below k1.size (fun j e => by omega)))
          have HDX := HD6
          have HRX := HR6
          clear k1
          have c0 : v6.cell? ⟨q, 0, none⟩ = some (.slice (some ⟨h, 0, none⟩) (D.rdD z).S.length cap) := HRX.out.head.at_ 0 _ rfl
          have c2 : v6.cell? ⟨q, 2, none⟩ = some (.int .i64 (D.rdD z).rd) := HRX.out.head.at_ 2 _ rfl
          have c3 : v6.cell? ⟨q, 3, none⟩ = some (.int .i64 (D.rdD z).wr) := HRX.out.head.at_ 3 _ rfl
          have hq1 := fun n => (sectors_any (HDX.out.drewN n)).mono fun _ _ ⟨he, hw⟩ => (⟨he, hw.symm⟩ : _ ∧ _)
          have hq2 := fun n => (reads_any (HDX.out.drewN n)).mono fun _ _ ⟨he, hw⟩ => (⟨he, hw.symm⟩ : _ ∧ _)
          have hq3 := fun n => (writes_any (HDX.out.drewN n)).mono fun _ _ ⟨he, hw⟩ => (⟨he, hw.symm⟩ : _ ∧ _)
          generalize (D.rdD z).S.length = LL at c0 hq1
          generalize (D.rdD z).rd = RR at c2 hq2
          generalize (D.rdD z).wr = WW at c3 hq3
          have HQ1 := Lib.hid hq1
          have HQ2 := Lib.hid hq2
          have HQ3 := Lib.hid hq3
          clear hq1 hq2 hq3
          go_quiet ((first
            | (go_at_call 19; exact Calls.quiet_of_same (HQ1.out _))
            | (go_at_call 20; exact Calls.quiet_of_same (HQ2.out _))
            | (go_at_call 21; exact Calls.quiet_of_same (HQ3.out _))))
          go_wp2
          go_roundw
          case rel => exact ⟨k + 1, D.rdD z, by omega, by omega, by go_num, Below.drewN HBX.out _, HDX.out.drewN _, rk_drewN HRX.out _⟩
          case measure => simp [intOf]; omega
        · have hz0 : (m == 0) = false := by simpa using hm3
          by_cases hm5 : m = 3
          · subst hm5
            have HR1 := Lib.hid (fun v (hd : Dk v p g D) => seal_any hd z)
            have HR2 := Lib.hid (fun v (hr : Rk v v2.heap.size q h cap D) => rseal_any hr z)
            go_wp2_with (first
              | (go_at_call 14; refine (HR1.out _ (hd.alloc _)).mono ?_; rintro e v5 ⟨rfl, hb5, hd5⟩; have hr5 := (hr.on ((Below.refl _ _).alloc (Nat.le_refl _) _)).but hb5 (fun e => hpq e.symm) (fun e => hph e.symm); have kb := blk_new_but wr hb5 (by have := hd.head.lt; omega); have o1 := kb.at_ 1 _ rfl; have KB := Lib.hid kb; have HB5 := Lib.hid hb5; clear kb hb5)
              | (go_at_call 15; refine (HR2.out _ hr5).mono ?_; rintro e v6 ⟨rfl, hb6, hr6⟩; have HD6 := Lib.hid (hd5.but hb6 hpq hgq); have HR6 := Lib.hid hr6; have HB6 := Lib.hid hb6; clear hr6 hb6))
            have k1 := (hB.alloc hB.size _).trans (HB5.out.below (B := w.heap.size) (by have := hB.size; simp; omega) (fun j e => by omega))
            have HBX := Lib.hid (k1.trans (HB6.out.below k1.size (fun j e => by omega)))
            have HDX := HD6
            have HRX := HR6
            clear k1
            have c0 : v6.cell? ⟨q, 0, none⟩ = some (.slice (some ⟨h, 0, none⟩) (D.seal_ z).S.length cap) := HRX.out.head.at_ 0 _ rfl
            have c2 : v6.cell? ⟨q, 2, none⟩ = some (.int .i64 (D.seal_ z).rd) := HRX.out.head.at_ 2 _ rfl
            have c3 : v6.cell? ⟨q, 3, none⟩ = some (.int .i64 (D.seal_ z).wr) := HRX.out.head.at_ 3 _ rfl
            have hq1 := fun n => (sectors_any (HDX.out.drewN n)).mono fun _ _ ⟨he, hw⟩ => (⟨he, hw.symm⟩ : _ ∧ _)
            have hq2 := fun n => (reads_any (HDX.out.drewN n)).mono fun _ _ ⟨he, hw⟩ => (⟨he, hw.symm⟩ : _ ∧ _)
            have hq3 := fun n => (writes_any (HDX.out.drewN n)).mono fun _ _ ⟨he, hw⟩ => (⟨he, hw.symm⟩ : _ ∧ _)
            generalize (D.seal_ z).S.length = LL at c0 hq1
            generalize (D.seal_ z).rd = RR at c2 hq2
            generalize (D.seal_ z).wr = WW at c3 hq3
            have HQ1 := Lib.hid hq1
            have HQ2 := Lib.hid hq2
            have HQ3 := Lib.hid hq3
            clear hq1 hq2 hq3
            go_quiet ((first
              | (go_at_call 19; exact Calls.quiet_of_same (HQ1.out _))
              | (go_at_call 20; exact Calls.quiet_of_same (HQ2.out _))
              | (go_at_call 21; exact Calls.quiet_of_same (HQ3.out _))))
            go_wp2
            go_roundw
            case rel => exact ⟨k + 1, D.seal_ z, by omega, by omega, by go_num, Below.drewN HBX.out _, HDX.out.drewN _, rk_drewN HRX.out _⟩
            case measure => simp [intOf]; omega
          · have hz3 : (m == 3) = false := by simpa using hm5
            have hG := secOf_size b
            have hX := fun v => lsec_any b v hw2
            generalize secOf b = G at *
            have hG1 : 63 ≤ G.size := by omega
            have hG2 : G.size ≤ 64 := by omega
            have HXB := Lib.hid hX
            have HW1 := Lib.hid (fun v (T : ByteArray) (hT : T.size ≤ 281474976710656) (hd : Dk v p g D) => write_any hd z T hT)
            have HW2 := Lib.hid (fun v (T : ByteArray) (hT : T.size ≤ 281474976710656) (hr : Rk v v2.heap.size q h cap D) => rwrite_any hr z T hT)
            have hGE := sec_len G hG2
            have hGF : G.size ≤ 281474976710656 := by omega
            clear hG hX hm3 hm5
            cases sh
            · go_wp2_with (go_at_call 16; refine (HXB.out _).mono ?_; rintro e v4 ⟨rfl, hb4⟩; have hd4 := (hd.alloc _).below hb4 (hd.alloc _).head.lt (hd.alloc _).row.lt; have hr4 := (hr.on ((Below.refl _ _).alloc (Nat.le_refl _) _)).on hb4; have kb := (Blk.new wr _ _).below hb4 (by simp); have o1 := kb.at_ 1 _ rfl; have o3 := kb.at_ 3 _ rfl; have KB := Lib.hid kb; have HB4 := Lib.hid hb4; clear kb hb4)
              go_region_with (first
                | (go_at_call 17; refine (HW1.out _ _ hGF hd4.drew).mono ?_; rintro e v7 ⟨rfl, hb7, hd7⟩; have hr7 := (rk_drew hr4).but hb7 (by rintro (e | e); exact hpq e.symm; exact hgq e.symm) (by rintro (e | e); exact hph e.symm; exact hgh e.symm); have kb7 := KB.out.drew.but hb7 (by have := hd.head.lt; have := hd.row.lt; rintro (e | e) <;> omega); have o7 := kb7.at_ 1 _ rfl; have HB7 := Lib.hid hb7; clear kb7 hb7)
                | (go_at_call 18; refine (HW2.out _ _ hGF hr7).mono ?_; rintro e v8 ⟨rfl, hb8, hr8⟩; have HD8 := Lib.hid (hd7.but hb8 (by rintro (e | e); exact hpq e; exact hph e) (by rintro (e | e); exact hgq e; exact hgh e)); have HR8 := Lib.hid hr8; have HB8 := Lib.hid hb8; clear hr8 hb8))
              all_goals
                have k1 := ((hB.alloc hB.size _).trans (HB4.out.mono (by have := hB.size; simp; omega))).drew
                have k2 := k1.trans (HB7.out.below (B := w.heap.size) k1.size (fun j e => by omega))
                have HBX := Lib.hid (k2.trans (HB8.out.below k2.size (fun j e => by omega)))
                have HDX := HD8
                have HRX := HR8
                clear k1 k2
                go_wp2_with (fail)
                have c0 : v8.cell? ⟨q, 0, none⟩ = some (.slice (some ⟨h, 0, none⟩) (D.wrD z G).S.length cap) := HRX.out.head.at_ 0 _ rfl
                have c2 : v8.cell? ⟨q, 2, none⟩ = some (.int .i64 (D.wrD z G).rd) := HRX.out.head.at_ 2 _ rfl
                have c3 : v8.cell? ⟨q, 3, none⟩ = some (.int .i64 (D.wrD z G).wr) := HRX.out.head.at_ 3 _ rfl
                have hq1 := fun n => (sectors_any (HDX.out.drewN n)).mono fun _ _ ⟨he, hw⟩ => (⟨he, hw.symm⟩ : _ ∧ _)
                have hq2 := fun n => (reads_any (HDX.out.drewN n)).mono fun _ _ ⟨he, hw⟩ => (⟨he, hw.symm⟩ : _ ∧ _)
                have hq3 := fun n => (writes_any (HDX.out.drewN n)).mono fun _ _ ⟨he, hw⟩ => (⟨he, hw.symm⟩ : _ ∧ _)
                generalize (D.wrD z G).S.length = LL at c0 hq1
                generalize (D.wrD z G).rd = RR at c2 hq2
                generalize (D.wrD z G).wr = WW at c3 hq3
                have HQ1 := Lib.hid hq1
                have HQ2 := Lib.hid hq2
                have HQ3 := Lib.hid hq3
                clear hq1 hq2 hq3
                go_quiet ((first
                  | (go_at_call 19; exact Calls.quiet_of_same (HQ1.out _))
                  | (go_at_call 20; exact Calls.quiet_of_same (HQ2.out _))
                  | (go_at_call 21; exact Calls.quiet_of_same (HQ3.out _))))
                go_wp2
                go_roundw
                case rel => exact ⟨k + 1, D.wrD z G, by omega, by omega, by go_num, Below.drewN HBX.out _, HDX.out.drewN _, rk_drewN HRX.out _⟩
                case measure => simp [intOf]; omega
            · go_wp2_with (go_at_call 16; refine (HXB.out _).mono ?_; rintro e v4 ⟨rfl, hb4⟩; have hd4 := (hd.alloc _).below hb4 (hd.alloc _).head.lt (hd.alloc _).row.lt; have hr4 := (hr.on ((Below.refl _ _).alloc (Nat.le_refl _) _)).on hb4; have kb := (Blk.new wr _ _).below hb4 (by simp); have o1 := kb.at_ 1 _ rfl; have o3 := kb.at_ 3 _ rfl; have KB := Lib.hid kb; have HB4 := Lib.hid hb4; clear kb hb4)
              go_region_with (first
                | (go_at_call 17; refine (HW1.out _ _ hGE hd4.drew).mono ?_; rintro e v7 ⟨rfl, hb7, hd7⟩; have hr7 := (rk_drew hr4).but hb7 (by rintro (e | e); exact hpq e.symm; exact hgq e.symm) (by rintro (e | e); exact hph e.symm; exact hgh e.symm); have kb7 := KB.out.drew.but hb7 (by have := hd.head.lt; have := hd.row.lt; rintro (e | e) <;> omega); have o7 := kb7.at_ 1 _ rfl; have HB7 := Lib.hid hb7; clear kb7 hb7)
                | (go_at_call 18; refine (HW2.out _ _ hGE hr7).mono ?_; rintro e v8 ⟨rfl, hb8, hr8⟩; have HD8 := Lib.hid (hd7.but hb8 (by rintro (e | e); exact hpq e; exact hph e) (by rintro (e | e); exact hgq e; exact hgh e)); have HR8 := Lib.hid hr8; have HB8 := Lib.hid hb8; clear hr8 hb8))
              all_goals
                have k1 := ((hB.alloc hB.size _).trans (HB4.out.mono (by have := hB.size; simp; omega))).drew
                have k2 := k1.trans (HB7.out.below (B := w.heap.size) k1.size (fun j e => by omega))
                have HBX := Lib.hid (k2.trans (HB8.out.below k2.size (fun j e => by omega)))
                have HDX := HD8
                have HRX := HR8
                clear k1 k2
                go_wp2_with (fail)
                have c0 : v8.cell? ⟨q, 0, none⟩ = some (.slice (some ⟨h, 0, none⟩) (D.wrD z (G.extract 0 63)).S.length cap) := HRX.out.head.at_ 0 _ rfl
                have c2 : v8.cell? ⟨q, 2, none⟩ = some (.int .i64 (D.wrD z (G.extract 0 63)).rd) := HRX.out.head.at_ 2 _ rfl
                have c3 : v8.cell? ⟨q, 3, none⟩ = some (.int .i64 (D.wrD z (G.extract 0 63)).wr) := HRX.out.head.at_ 3 _ rfl
                have hq1 := fun n => (sectors_any (HDX.out.drewN n)).mono fun _ _ ⟨he, hw⟩ => (⟨he, hw.symm⟩ : _ ∧ _)
                have hq2 := fun n => (reads_any (HDX.out.drewN n)).mono fun _ _ ⟨he, hw⟩ => (⟨he, hw.symm⟩ : _ ∧ _)
                have hq3 := fun n => (writes_any (HDX.out.drewN n)).mono fun _ _ ⟨he, hw⟩ => (⟨he, hw.symm⟩ : _ ∧ _)
                generalize (D.wrD z (G.extract 0 63)).S.length = LL at c0 hq1
                generalize (D.wrD z (G.extract 0 63)).rd = RR at c2 hq2
                generalize (D.wrD z (G.extract 0 63)).wr = WW at c3 hq3
                have HQ1 := Lib.hid hq1
                have HQ2 := Lib.hid hq2
                have HQ3 := Lib.hid hq3
                clear hq1 hq2 hq3
                go_quiet ((first
                  | (go_at_call 19; exact Calls.quiet_of_same (HQ1.out _))
                  | (go_at_call 20; exact Calls.quiet_of_same (HQ2.out _))
                  | (go_at_call 21; exact Calls.quiet_of_same (HQ3.out _))))
                go_wp2
                go_roundw
                case rel => exact ⟨k + 1, D.wrD z (G.extract 0 63), by omega, by omega, by go_num, Below.drewN HBX.out _, HDX.out.drewN _, rk_drewN HRX.out _⟩
                case measure => simp [intOf]; omega
      · have HB := Lib.hid hB
        have hl2 : (k < l.length ∧ ¬ k < 40) ∨ ¬ k < l.length := by omega
        clear hlt hB hd hr
        rcases hl2 with ⟨h1, h2⟩ | h1
        all_goals
          go_wp2
          go_ret
          exact ⟨rfl, HB.out⟩

set_option maxRecDepth 100000 in
theorem lifted (os : Os) (started : os.Started) (H : Type) (enc : TypeId × Value → H) :
    ReturnsInHanded {} Try.checked os 3 .any (Rows.blockPlaysSpec.pre6 enc Try.prog Try.f3 Rows.blockPlaysRow.domain false) (Rows.blockPlaysSpec.post enc Try.prog Try.f3 false true false false) := by
  refine returnsInHanded_of_change (C := Try.checked) own started (by kernel_rfl) Try.func3
    (ChangeSpec.witness6 (enc := enc) (C := Try.checked) false ⟨#[], #[.int .i64 0, .slice none 0 0], []⟩ 8 (by kernel_rfl) (by kernel_rfl) (by kernel_rfl) (by kernel_rfl)) ?_
  intro W base args ds gs before hval0 hW hcnd _
  have hval : ∀ (j : Nat) t v, Try.f3.params[j]? = some t → args[j]? = some v → Value.okWide Try.prog W .any base t v := hval0
  have hW' := hW
  obtain ⟨p, q, hA0, hV, rfl, hfz, hnd⟩ := hW
  have hA : DataW.TrodAll enc Try.prog W 0 (fun _ => true) true Try.f3.params.toList args.toList ds p := hA0
  rw [Try.params3] at hA hval
  obtain ⟨v0, vs0, d0, ds0, p0, q0, hargs, rfl, rfl, h0, r0⟩ := trodAll_cons hA
  obtain ⟨v1, vs1, d1, ds1, p1, q1, rfl, rfl, rfl, h1, r1⟩ := trodAll_cons r0
  obtain ⟨rfl, rfl, rfl⟩ := trodAll_nil r1
  obtain rfl : args = #[v0, v1] := by cases args; simp_all
  obtain ⟨rfl, rfl⟩ := trodVars_none hV
  have k0 := h0
  have lt0 : ∀ x ∈ p0, x.block < W.heap.size := by obtain ⟨m, hm⟩ := k0; exact DataW.trod_lt m _ _ _ hm
  obtain ⟨a0, rfl, _, _, w0⟩ := open_int Try.underlying3 (hval 0 3 v0 rfl rfl) h0
  have k1 := h1
  have lt1 : ∀ x ∈ p1, x.block < W.heap.size := by obtain ⟨m, hm⟩ := k1; exact DataW.trod_lt m _ _ _ hm
  obtain ⟨LA1, Ll1, Lc1, rfl, Lm1, Lr1⟩ := openOps (hval 1 22 v1 rfl rfl) h1
  clear hA0 hval0
  refine (walk a0 LA1 Ll1 Lc1 W w0 Lm1 Lr1).mono fun e W' ⟨he, bel⟩ => ?_
  subst he
  exact ⟨_, rfl, _, _, _, [], _, [], hW', trodAll_mk1 (shut_bool Try.underlying4 _), (trodAll_cons_mk (Below.trod laidOut (by kernel_rfl) (of_decide_eq_true (by kernel_rfl)) k0 bel lt0) (trodAll_cons_mk (Below.trod laidOut (by kernel_rfl) (of_decide_eq_true (by kernel_rfl)) k1 bel lt1) trodAll_mk0)), rfl, bel.frame _, fun h => by cases h⟩
theorem over : Rows.blockPlaysRow.holds Try.pinned (OpenSpec.ofChange Rows.blockPlaysSpec) :=
  OpenClaim.holds_of_wide 3 Try.f3 rfl rfl rfl rfl rfl rfl rfl ⟨rfl, rfl, rfl, rfl, rfl⟩ rfl rfl rfl rfl rfl (by kernel_rfl) Try.func3 (by kernel_rfl)
    (of_decide_eq_true (by kernel_rfl)) (by unfold Func.isWrapper; first | (rw [if_pos (by decide +kernel)]; kernel_rfl) | (rw [if_neg (by decide +kernel)]; exact ⟨rfl, rfl⟩))
    (fun os started H enc _ => lifted os started H enc)
/-- The statement. -/
theorem proved : Rows.BlockPlaysSaid := over
end Go.Proofs.Ytialbdpfgkefjaa.lawPlays
