/- The reference's Spread. -/
import Derived.Test.YtmknkdfdkanijaaVC
namespace Go.Proofs.Ytmknkdfdkanijaa
open Go.RowKit Go.ChangeShapes Go.WideShapes Go.Deep
set_option linter.unusedVariables false
set_option linter.unusedSimpArgs false

/-- What is some region's page is so in the row. -/
def SpO (l : List Rg) (f : Nat → Rg × Bool) : Prop := OkF f ∧ ∀ q : Nat, q < 4096 → (f q).2 = (atL l q).isSome
def SpI (l : List Rg) (r : Rg) (p : Int) (f : Nat → Rg × Bool) : Prop := OkF f ∧ ∀ q : Nat, q < 4096 → (f q).2 = ((atL l q).isSome || decide (r.f ≤ q ∧ (q : Int) < p))
theorem SpO.start : SpO [] (fun _ => (zeroR, false)) := ⟨fun p hp h => (by cases h), fun q hq => rfl⟩
theorem SpO.open_ {l : List Rg} {f : Nat → Rg × Bool} (h : SpO l f) (r : Rg) : SpI l r r.f f := ⟨h.1, fun q hq => by
  rw [h.2 q hq, decide_eq_false (by omega), Bool.or_false]⟩
theorem SpI.close {l : List Rg} {r : Rg} {f : Nat → Rg × Bool} (h : SpI l r r.t f) : SpO (l ++ [r]) f := ⟨h.1, fun q hq => by
  rw [h.2 q hq, atL_append]
  show _ = ((atL l q).or ((r.at_ q).or none)).isSome
  rw [Option.or_none]
  by_cases c : r.f ≤ (q : Int) ∧ (q : Int) < r.t
  · rw [decide_eq_true c, Rg.at_some c.1 c.2]; simp
  · rw [decide_eq_false c, Rg.at_none (by omega)]; simp⟩
theorem SpI.step {l : List Rg} {r : Rg} {p : Nat} {f : Nat → Rg × Bool} (h : SpI l r p f) (hm : r.May) (h0 : r.f ≤ p) (h1 : (p : Int) < r.t) : SpI l r ((p + 1 : Nat) : Int) (updF f p (r.part p (p + 1), true)) := ⟨fun q hq hb => by
    by_cases e : q = p
    · subst e
      have e1 : updF f q (r.part q (q + 1), true) q = (r.part q (q + 1), true) := by unfold updF; rw [if_pos rfl]
      rw [e1]
      exact ⟨hm.part_may h0 (by omega) (by omega), rfl, rfl⟩
    · have e1 : updF f p (r.part p (p + 1), true) q = f q := by unfold updF; rw [if_neg e]
      rw [e1] at hb ⊢
      exact h.1 q hq hb, fun q hq => by
    by_cases e : q = p
    · subst e
      have e1 : updF f q (r.part q (q + 1), true) q = (r.part q (q + 1), true) := by unfold updF; rw [if_pos rfl]
      rw [e1, decide_eq_true (by omega)]; simp
    · have e1 : updF f p (r.part p (p + 1), true) q = f q := by unfold updF; rw [if_neg e]
      rw [e1, h.2 q hq]
      congr 1
      rw [decide_eq_decide]
      omega⟩

set_option maxRecDepth 100000 in
set_option maxHeartbeats 12800000 in
theorem rspread_any (l : List Rg) (A : Option Addr) (n c : Nat) (w : World) (h : RS w A n c l) (hasc : Asc l) :
    Calls Try.prog 18 #[.slice A n c] w fun e w' => ∃ ad f, e = .returned (.slice (some ad) 4096 4096) ∧ OwnR w' ad f ∧ SpO l f ∧ w.heap.size ≤ ad.block ∧ Below w.heap.size w w' := by
  obtain ⟨i0, hi, hz0, hz1, hz2⟩ := info_parts infoOwn
  have hmk : (Instr.makeSlice 42 (.int .i64 4096) (.int .i64 4096)).run Try.prog w = .ok (.slice (some ⟨w.heap.size, 0, none⟩) 4096 4096) (w.alloc (.cells (madeCells #[.int .i64 0, .int .i64 0, .int .i64 0, .int .i64 0, .int .i64 0, .int .i64 0, .bool false] 28672) 45)) := by
    have h := run_make (P := Try.prog) w 42 45 i0 _ Try.underlying42 hi hz0 .i64 .i64 4096 4096 (by decide) (by decide) (by rw [hz2]; decide) (by decide)
    rw [hz1] at h
    exact h
  have hn2 : n ≤ 4096 := by have := hasc.len; have := h.len; omega
  have hown := own_made w
  have hbw := (Below.refl w.heap.size w).alloc (Nat.le_refl _) (.cells (madeCells #[.int .i64 0, .int .i64 0, .int .i64 0, .int .i64 0, .int .i64 0, .int .i64 0, .bool false] 28672) 45)
  obtain ⟨U0, hU0⟩ : ∃ U0, w.alloc (.cells (madeCells #[.int .i64 0, .int .i64 0, .int .i64 0, .int .i64 0, .int .i64 0, .int .i64 0, .bool false] 28672) 45) = U0 := ⟨_, rfl⟩
  rw [hU0] at hmk hown hbw
  have HL := Lib.hid (fun (v : World) (hv : Below w.heap.size w v) => h.row.below rfl hv)
  have HN := Lib.hid h.len
  have HASC := Lib.hid hasc
  have HADB := Lib.hid (show w.heap.size ≤ (⟨w.heap.size, 0, none⟩ : Addr).block from Nat.le_refl _)
  have HSTART := Lib.hid (show ∃ f, SpO (l.take 0) f ∧ OwnR U0 ⟨w.heap.size, 0, none⟩ f ∧ Below w.heap.size w U0 from ⟨_, SpO.start, hown, hbw⟩)
  clear h hasc hU0 hown hbw hi hz0 hz1 hz2
  go_enter Try.func18, Try.ntmps18
  go_wp2
  go_loopw [4] (fun iv wr => ∃ i : Nat, i ≤ n ∧ iv = .int .i64 i ∧ Hid (∃ f, SpO (l.take i) f ∧ OwnR wr ⟨w.heap.size, 0, none⟩ f ∧ Below w.heap.size w wr)) (fun iv _ => n - (intOf iv).toNat)
  case atStart => exact ⟨0, Nat.zero_le _, rfl, HSTART⟩
  case round =>
    clear HSTART
    obtain ⟨i, hi, rfl, HI⟩ := hrel
    by_cases hlt : i < n
    · have hil : i < l.length := by rw [HN.out]; exact hlt
      obtain ⟨fo, hso, hoo, hbo⟩ := HI.out
      obtain ⟨ad, rfl, hblt, hwf, x0, x1, x2, x3, x4, x5⟩ := (HL.out wr hbo).at_ hil
      have hmay := HASC.out.may _ (List.getElem_mem hil)
      obtain ⟨r, hr⟩ : ∃ r, l[i] = r := ⟨_, rfl⟩
      have HCELL := Lib.hid (fun (v : World) (hv : Below w.heap.size w v) => show v.cell? (ad.add (i * 6)) = some (.int .i64 r.f) ∧ v.cell? ⟨(ad.add (i * 6)).block, (ad.add (i * 6)).off + 1, none⟩ = some (.int .i64 r.t) ∧ v.cell? ⟨(ad.add (i * 6)).block, (ad.add (i * 6)).off + 2, none⟩ = some (.int .i64 r.p) ∧ v.cell? ⟨(ad.add (i * 6)).block, (ad.add (i * 6)).off + 3, none⟩ = some (.int .i64 r.k) ∧ v.cell? ⟨(ad.add (i * 6)).block, (ad.add (i * 6)).off + 4, none⟩ = some (.int .i64 r.fl) ∧ v.cell? ⟨(ad.add (i * 6)).block, (ad.add (i * 6)).off + 5, none⟩ = some (.int .i64 r.pg) from by
        obtain ⟨ad', e, -, -, z0, z1, z2, z3, z4, z5⟩ := (HL.out v hv).at_ hil
        cases e
        rw [hr] at z0 z1 z2 z3 z4 z5
        exact ⟨z0, z1, z2, z3, z4, z5⟩)
      rw [hr] at x0 x1 x2 x3 x4 x5 hmay
      have htk : l.take (i + 1) = l.take i ++ [r] := by rw [List.take_succ_eq_append_getElem hil, hr]
      have HTK := Lib.hid htk
      have HMAY := Lib.hid hmay
      have m1 := hmay.f
      have m2 := hmay.ft
      have m3 := hmay.t
      obtain ⟨a0, ha0⟩ : ∃ a : Nat, r.f = (a : Int) := ⟨r.f.toNat, by omega⟩
      obtain ⟨b0, hb0⟩ : ∃ b : Nat, r.t = (b : Int) := ⟨r.t.toNat, by omega⟩
      have hab : a0 < b0 ∧ b0 ≤ 4096 := by omega
      have HAB := Lib.hid (And.intro ha0 hb0)
      have HS0 := Lib.hid (show ∃ f, SpI (l.take i) r (a0 : Int) f ∧ OwnR wr ⟨w.heap.size, 0, none⟩ f ∧ Below w.heap.size w wr from ⟨fo, by rw [← ha0]; exact hso.open_ r, hoo, hbo⟩)
      have k0 : (0 : Int) ≤ (i : Int) := by omega
      have k1 : (i : Int) < (n : Int) := by omega
      rw [ha0] at x0
      rw [hb0] at x1
      clear hso hoo hbo hwf hblt hil hr htk hmay m1 m2 m3
      obtain ⟨rf, rt, rp, rk, rfl', rpg⟩ := r
      simp only at x0 x1 x2 x3 x4 x5 ha0 hb0
      subst ha0 hb0
      go_wp2
      clear x0 x1 x2 x3 x4 x5
      go_loopw [5] (fun pv wq => ∃ p : Nat, a0 ≤ p ∧ p ≤ b0 ∧ pv = .int .i64 p ∧ Hid (∃ f, SpI (l.take i) ⟨(a0 : Int), (b0 : Int), rp, rk, rfl', rpg⟩ (p : Int) f ∧ OwnR wq ⟨w.heap.size, 0, none⟩ f ∧ Below w.heap.size w wq)) (fun pv _ => b0 - (intOf pv).toNat)
      case atStart => exact ⟨a0, Nat.le_refl _, by omega, rfl, HS0⟩
      case round =>
        clear HS0 HI
        obtain ⟨p, hp0, hp1, rfl, HP⟩ := hrel
        by_cases hpl : p < b0
        · obtain ⟨f, hsp, how, hbl⟩ := HP.out
          obtain ⟨y0, y1, y2, y3, y4, y5⟩ := HCELL.out wr hbl
          skip
          have hp4 : p < 4096 := by omega
          have j0 : (0 : Int) ≤ (p : Int) := by omega
          have j1 : (p : Int) < 4096 := by omega
          have j2 : (p : Int) < (b0 : Int) := by omega
          have j3 : wrap64 ((p : Int) + 1) = (p : Int) + 1 := IntWalk.wrap64_in _ (by omega)
          have j4 : IntKind.i64.wrap ((p : Int) + 1) = (p : Int) + 1 := IntWalk.i64_in _ (by omega)
          have HSTEP := Lib.hid (hsp.step HMAY.out (by show (a0 : Int) ≤ p; omega) (by show (p : Int) < b0; omega))
          by_cases hk1 : rk = 1
          · subst hk1
            have hx : (⟨(a0 : Int), (b0 : Int), rp, 1, rfl', rpg⟩ : Rg).part (p : Int) ((p : Int) + 1) = ⟨(p : Int), (p : Int) + 1, rp, 1, rfl', (rpg + ((p : Int) - (a0 : Int)))⟩ := by
              unfold Rg.part Rg.pgAt
              simp only
              rw [if_pos trivial]
            rw [hx] at HSTEP
            have hbl2 := (Below.refl wr.heap.size wr).alloc (Nat.le_refl _) (.cells #[.int .i64 (p : Int), .int .i64 ((p : Int) + 1), .int .i64 rp, .int .i64 1, .int .i64 rfl', .int .i64 rpg] 29)
            have hbx := Blk.new wr 29 #[.int .i64 (p : Int), .int .i64 ((p : Int) + 1), .int .i64 rp, .int .i64 1, .int .i64 rfl', .int .i64 rpg]
            obtain ⟨V, hV⟩ : ∃ V, wr.alloc (.cells #[.int .i64 (p : Int), .int .i64 ((p : Int) + 1), .int .i64 rp, .int .i64 1, .int .i64 rfl', .int .i64 rpg] 29) = V := ⟨_, rfl⟩
            rw [hV] at hbl2 hbx
            have HV := Lib.hid hV
            clear hV hx
            have hr1 : (-9223372036854775808 ≤ rpg + (p : Int) ∧ rpg + (p : Int) ≤ 9223372036854775807) ∧ (-9223372036854775808 ≤ rpg + (p : Int) - (a0 : Int) ∧ rpg + (p : Int) - (a0 : Int) ≤ 9223372036854775807) := by have h1 := HMAY.out.bd.pg rfl; simp only at h1; omega
            have hpe : rpg + (p : Int) - (a0 : Int) = rpg + ((p : Int) - (a0 : Int)) := by omega
            have hbl3 := (hbl2.setCell (p := ⟨wr.heap.size, 5, none⟩) (Nat.le_refl _) (.int .i64 (rpg + ((p : Int) - (a0 : Int))))).drew
            have hbx3 : Blk (V.setCell ⟨wr.heap.size, 5, none⟩ (.int .i64 (rpg + ((p : Int) - (a0 : Int))))).drew wr.heap.size 29 #[.int .i64 (p : Int), .int .i64 ((p : Int) + 1), .int .i64 rp, .int .i64 1, .int .i64 rfl', .int .i64 (rpg + ((p : Int) - (a0 : Int)))] := by simpa using (hbx.set_ 5 (.int .i64 (rpg + ((p : Int) - (a0 : Int))))).drew
            have z0 : V.cell? (ad.add (i * 6)) = some (.int .i64 (a0 : Int)) := (HCELL.out V (hbl.trans (hbl2.mono hbl.size))).1
            have z0' : V.drew.cell? (ad.add (i * 6)) = some (.int .i64 (a0 : Int)) := z0
            have b3 := hbx.at_ 3 _ rfl
            have b5 := hbx.at_ 5 _ rfl
            have b5' : V.drew.cell? ⟨wr.heap.size, 5, none⟩ = _ := b5
            have b5f := hbx.frozen 5
            have b5f' : V.drew.frozen? ⟨wr.heap.size, 5, none⟩ = false := b5f
            have q1 : wrap64 (rpg + (p : Int)) = rpg + (p : Int) := IntWalk.wrap64_in _ hr1.1
            have q2 : wrap64 (rpg + (p : Int) - (a0 : Int)) = rpg + ((p : Int) - (a0 : Int)) := by rw [IntWalk.wrap64_in _ hr1.2]; exact hpe
            have q3 : IntKind.i64.wrap (rpg + (p : Int)) = rpg + (p : Int) := IntWalk.i64_in _ hr1.1
            have q4 : IntKind.i64.wrap (rpg + (p : Int) - (a0 : Int)) = rpg + ((p : Int) - (a0 : Int)) := by rw [IntWalk.i64_in _ hr1.2]; exact hpe
            have HB3 := Lib.hid (And.intro hbl3 hbx3)
            clear hr1 hpe hbl2 hbx hbl3 hbx3
            go_upto_region 11 with fail
            rw [HV.out]
            clear y0 y1 y2 y3 y4 y5
            go_upto_region 12 with fail
            go_still_tail 11, (by kernel_rfl)
            change wpList _ _ _ _ _ V.drew
            go_upto_region 13 with fail
            clear z0' b5' b5f'
            clear z0 b3 b5 b5f q1 q2 q3 q4
            generalize World.drew _ = V2 at *
            obtain ⟨hbl4, hbx4⟩ := HB3.out
            have how4 := how.below hbl4
            have hfin := how4.allL hp4 ⟨(p : Int), (p : Int) + 1, rp, 1, rfl', (rpg + ((p : Int) - (a0 : Int)))⟩ true
            have HFIN := Lib.hid (show ∃ f', SpI (l.take i) ⟨(a0 : Int), (b0 : Int), rp, 1, rfl', rpg⟩ ((p + 1 : Nat) : Int) f' ∧ OwnR _ ⟨w.heap.size, 0, none⟩ f' ∧ Below w.heap.size w _ from ⟨_, HSTEP.out, hfin.1, (hbl.trans (hbl4.mono hbl.size)).trans (hfin.2.below (by have := hbl4.size; have := hbl.size; omega) (fun k hk => by have hk : k = w.heap.size := hk; omega))⟩)
            obtain ⟨t0, t1, t2, t3, t4, t5, t6, tj⟩ := how4.sevenL hp4
            have g0 := tj (p * 7)
            have g1 := tj (p * 7 + 1)
            have g2 := tj (p * 7 + 2)
            have g3 := tj (p * 7 + 3)
            have g4 := tj (p * 7 + 4)
            have g5 := tj (p * 7 + 5)
            have g6 := tj (p * 7 + 6)
            obtain ⟨s0, s1, s2, s3, s4, s5⟩ := hbx4.six (r := ⟨(p : Int), (p : Int) + 1, rp, 1, rfl', (rpg + ((p : Int) - (a0 : Int)))⟩)
            simp only at s0 s1 s2 s3 s4 s5
            clear how4 hfin hbl4 hbx4 tj how hbl hsp
            go_wp2
            go_roundw
            case rel => exact ⟨p + 1, by omega, by omega, by go_num, HFIN⟩
            case measure => simp [intOf]; omega
          · have hx : (⟨(a0 : Int), (b0 : Int), rp, rk, rfl', rpg⟩ : Rg).part (p : Int) ((p : Int) + 1) = ⟨(p : Int), (p : Int) + 1, rp, rk, rfl', rpg⟩ := by
              unfold Rg.part Rg.pgAt
              simp only
              rw [if_neg hk1]
            rw [hx] at HSTEP
            have hbl2 := (Below.refl wr.heap.size wr).alloc (Nat.le_refl _) (.cells #[.int .i64 (p : Int), .int .i64 ((p : Int) + 1), .int .i64 rp, .int .i64 rk, .int .i64 rfl', .int .i64 rpg] 29)
            have hbx := Blk.new wr 29 #[.int .i64 (p : Int), .int .i64 ((p : Int) + 1), .int .i64 rp, .int .i64 rk, .int .i64 rfl', .int .i64 rpg]
            obtain ⟨V, hV⟩ : ∃ V, wr.alloc (.cells #[.int .i64 (p : Int), .int .i64 ((p : Int) + 1), .int .i64 rp, .int .i64 rk, .int .i64 rfl', .int .i64 rpg] 29) = V := ⟨_, rfl⟩
            rw [hV] at hbl2 hbx
            have HV := Lib.hid hV
            clear hV hx
            have hk2 : (rk == 1) = false := by simpa using hk1
            have b3 := hbx.at_ 3 _ rfl
            have HB3 := Lib.hid (And.intro hbl2 hbx)
            clear hbl2 hbx
            go_upto_region 11 with fail
            rw [HV.out]
            clear y0 y1 y2 y3 y4 y5
            go_upto_region 13 with fail
            clear b3
            obtain ⟨hbl4, hbx4⟩ := HB3.out
            have how4 := how.below hbl4
            have hfin := how4.allL hp4 ⟨(p : Int), (p : Int) + 1, rp, rk, rfl', rpg⟩ true
            have HFIN := Lib.hid (show ∃ f', SpI (l.take i) ⟨(a0 : Int), (b0 : Int), rp, rk, rfl', rpg⟩ ((p + 1 : Nat) : Int) f' ∧ OwnR _ ⟨w.heap.size, 0, none⟩ f' ∧ Below w.heap.size w _ from ⟨_, HSTEP.out, hfin.1, (hbl.trans (hbl4.mono hbl.size)).trans (hfin.2.below (by have := hbl4.size; have := hbl.size; omega) (fun k hk => by have hk : k = w.heap.size := hk; omega))⟩)
            obtain ⟨t0, t1, t2, t3, t4, t5, t6, tj⟩ := how4.sevenL hp4
            have g0 := tj (p * 7)
            have g1 := tj (p * 7 + 1)
            have g2 := tj (p * 7 + 2)
            have g3 := tj (p * 7 + 3)
            have g4 := tj (p * 7 + 4)
            have g5 := tj (p * 7 + 5)
            have g6 := tj (p * 7 + 6)
            obtain ⟨s0, s1, s2, s3, s4, s5⟩ := hbx4.six (r := ⟨(p : Int), (p : Int) + 1, rp, rk, rfl', rpg⟩)
            simp only at s0 s1 s2 s3 s4 s5
            clear how4 hfin hbl4 hbx4 tj how hbl hsp
            go_wp2
            go_roundw
            case rel => exact ⟨p + 1, by omega, by omega, by go_num, HFIN⟩
            case measure => simp [intOf]; omega
        · obtain rfl : p = b0 := by omega
          obtain ⟨f, hsp, how, hbl⟩ := HP.out
          obtain ⟨y0, y1, y2, y3, y4, y5⟩ := HCELL.out wr hbl
          skip
          have HNX := Lib.hid (show ∃ f, SpO (l.take (i + 1)) f ∧ OwnR wr ⟨w.heap.size, 0, none⟩ f ∧ Below w.heap.size w wr from ⟨f, by rw [HTK.out]; exact hsp.close, how, hbl⟩)
          clear hsp how hbl
          go_wp2
          go_roundw
          case rel => exact ⟨i + 1, by omega, by go_num, HNX⟩
          case measure => simp [intOf]; omega
    · obtain rfl : i = n := by omega
      have hdn : l.take i = l := by rw [List.take_of_length_le]; rw [HN.out]; exact Nat.le_refl _
      have HI1 := HI.out
      rw [hdn] at HI1
      have HI2 := Lib.hid HI1
      clear HI1
      go_wp2
      go_ret
      obtain ⟨f, h1, h2, h3⟩ := HI2.out
      exact ⟨⟨w.heap.size, 0, none⟩, f, rfl, h2, h1, HADB.out, h3⟩
end Go.Proofs.Ytmknkdfdkanijaa
