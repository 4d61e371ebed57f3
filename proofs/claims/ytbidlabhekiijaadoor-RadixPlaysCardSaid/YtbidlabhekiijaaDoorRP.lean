/- Package radix: shrink. -/
import Derived.Test.YtbidlabhekiijaaDoorRM
import Derived.Test.YtbidlabhekiijaaDoorRO
namespace Go.Proofs.YtbidlabhekiijaaDoor
open Go.RowKit
set_option linter.unusedVariables false
set_option linter.unusedSimpArgs false

/-- The page of a frame that is held. -/
theorem byS_held {X : Pol} {f : Nat} (hf : f < X.H.length) (h : X.H.getD f 0 = 1) : X.byS f = X.S.getD f ⟨#[]⟩ := by
  unfold Pol.byS
  rw [if_pos (askE_getD hf (by rw [h]; decide))]
  rfl
theorem zfill : fillS ⟨#[]⟩ 64 = zsec := by decide +kernel

/-- An entry of a page's way is taken away. -/
theorem wipe_call {W : World} {t p h g : Nat} {X : Pol} {root : Int} {F : Nat → Nat → Nat} {P i : Nat} (a : Td W t p h g X root) (hlt : F i (pre P i) < X.H.length) (hi : i < 4) :
    Calls Tryd.prog 44 #[.pointer (some ⟨t, 0, none⟩), .agg #[.int .i64 (wayT F P 4 i), .int .i64 (digI P i)], .agg #[.bool false, .bool false, .bool false, .bool false, .int .i64 0]] W fun e w' =>
      (∃ r, e = .returned (.int .i64 r)) ∧ But (fun j => j = h ∨ j = g) W w' ∧ Td w' t p h g (X.stX (F i (pre P i) : Nat) ((8 * dig P i : Nat) : Int) 4 Sl.zero.pack) root := by
  rw [show wayT F P 4 i = ((F i (pre P i) : Nat) : Int) from if_pos hi]
  have hm := a.pl.len
  refine (twrite_any a _ (wf_i64 (by omega) (by omega)) (dig P i) (dig_lt P i) Sl.zero).mono ?_
  rintro e w' ⟨he, hb, ha⟩
  exact ⟨⟨_, he⟩, hb.mono fun _ e => .inr e, ha⟩

/-- What shrink is at: of a page's way all above level k is gone. -/
structure Shr (w wr : World) (t p h g : Nat) (X : Pol) (root : Nat) (M : Nat → Sl) (F : Nat → Nat → Nat) (R : Nat → Int) (RS : Nat → ByteArray) (P k : Nat) (Z : Pol) : Prop where
  cut : Cutting Z R RS M F P k
  len : Z.H.length = X.H.length
  way : Blk wr w.heap.size 80 (wayC (wayT F P 4) (digI P))
  bel : But (fun j => j = h ∨ j = g) w wr
  td : Td wr t p h g Z root

theorem beq_no7 {a b : ByteArray} (h : a ≠ b) : (a.toList == b.toList) = false := by
  have h2 : a.toList ≠ b.toList := fun e => h (by
    have h3 : a.data.toList = b.data.toList := by rw [← ByteArray.toList_eq, e, ByteArray.toList_eq]
    rw [← mkb_of a, h3, mkb_of])
  simpa using h2
section
variable {w wr : World} {t p h g : Nat} {X : Pol} {root : Nat} {M : Nat → Sl} {F : Nat → Nat → Nat} {R : Nat → Int} {RS : Nat → ByteArray} {P k : Nat} {Z : Pol}
theorem Shr.drew (S : Shr w wr t p h g X root M F R RS P k Z) : Shr w wr.drew t p h g X root M F R RS P k Z := ⟨S.cut, S.len, S.way.drew, S.bel.drew, S.td.drew⟩
theorem Shr.on (S : Shr w wr t p h g X root M F R RS P k Z) {v : World} (hb : Below wr.heap.size wr v) : Shr w v t p h g X root M F R RS P k Z := ⟨S.cut, S.len, S.way.below hb S.way.lt, S.bel.trans (But.of_below hb), S.td.on hb⟩
theorem shr_bytes (S : Shr w wr t p h g X root M F R RS P k Z) (hz : M P ≠ Sl.zero) (hP : P < 4096) (hk : k < 4) :
    Calls Tryd.prog 54 #[.pointer (some ⟨p, 0, none⟩), .int .i64 (wayT F P 4 k)] wr fun e w' => e = .returned (.tuple #[.string (Z.S.getD (F k (pre P k)) ⟨#[]⟩), .int .i64 0]) ∧ Below wr.heap.size wr w' := by
  have hin := way_cut (k := k) hz hP (Nat.le_refl k)
  have h1 := S.cut.lay.lt k _ hk hin
  have h2 := S.cut.lay.one k _ hk hin
  rw [show wayT F P 4 k = ((F k (pre P k) : Nat) : Int) from if_pos hk]
  refine (pgbytes_any S.td.pl _).mono ?_
  rintro e w' ⟨he, hb⟩
  rw [byS_held h1 h2, askE_getD h1 (by rw [h2]; decide)] at he
  exact ⟨he, hb⟩
theorem shr_drop (S : Shr w wr t p h g X root M F R RS P (k + 1) Z) (hz : M P ≠ Sl.zero) (hP : P < 4096) (hk : k + 1 < 4) (hd : ¬ live (setM M P Sl.zero) (k + 1) (pre P (k + 1))) :
    Calls Tryd.prog 48 #[.pointer (some ⟨p, 0, none⟩), .int .i64 (wayT F P 4 (k + 1))] wr fun e w' => e = .returned (.int .i64 0) ∧ But (fun j => j = h ∨ j = g) wr w' ∧ Td w' t p h g (Z.drF (F (k + 1) (pre P (k + 1)))) root := by
  obtain ⟨s1, s2, s3, s4⟩ := S.cut.step S.td.pl.fit hz hP hk hd
  rw [show wayT F P 4 (k + 1) = ((F (k + 1) (pre P (k + 1)) : Nat) : Int) from if_pos hk]
  refine (pdrop_any S.td.pl _).mono ?_
  rintro e w' ⟨he, hb, ha⟩
  rw [s2] at he
  rw [s1] at ha
  exact ⟨he, hb.mono fun _ e => .inl e, S.td.buth hb ha⟩
theorem shr_wipe (S : Shr w wr t p h g X root M F R RS P (k + 1) Z) (hz : M P ≠ Sl.zero) (hP : P < 4096) (hk : k + 1 < 4) (hd : ¬ live (setM M P Sl.zero) (k + 1) (pre P (k + 1))) {V : World} (a : Td V t p h g (Z.drF (F (k + 1) (pre P (k + 1)))) root)
    (hw : Blk V w.heap.size 80 (wayC (wayT F P 4) (digI P))) (hb : But (fun j => j = h ∨ j = g) w V) (hn : w.heap.size ≠ h ∧ w.heap.size ≠ g) :
    Calls Tryd.prog 44 #[.pointer (some ⟨t, 0, none⟩), .agg #[.int .i64 (wayT F P 4 k), .int .i64 (digI P k)], .agg #[.bool false, .bool false, .bool false, .bool false, .int .i64 0]] V fun e w' =>
      (∃ r, e = .returned (.int .i64 r)) ∧ ∃ Z', Shr w w' t p h g X root M F R RS P k Z' := by
  obtain ⟨s1, s2, s3, s4⟩ := S.cut.step S.td.pl.fit hz hP hk hd
  have hin := way_cut (k := k + 1) hz hP (show k ≤ k + 1 by omega)
  refine (wipe_call a (by simpa [Pol.drF] using S.cut.lay.lt k _ (by omega) hin) (by omega)).mono ?_
  rintro e w' ⟨he, hb', ha⟩
  rw [s3] at ha
  exact ⟨he, _, s4, by simpa [Pol.drF, Pol.stW] using S.len, hw.but hb' (by omega), hb.trans hb', ha⟩
end

set_option maxRecDepth 100000 in
set_option maxHeartbeats 6400000 in
theorem shrink_any {w : World} {t p h g : Nat} {X : Pol} {root : Nat} {M : Nat → Sl} {F : Nat → Nat → Nat} {R : Nat → Int} {RS : Nat → ByteArray} (a : Td w t p h g X root) (T : Own7 X root M F R RS) (P : Nat) (hP : P < 4096) (hz : M P ≠ Sl.zero) :
    Calls Tryd.prog 37 #[.pointer (some ⟨t, 0, none⟩), wayV (wayT F P 4) (digI P)] w fun e w' => e = .returned (.tuple #[]) ∧ Left7 w w' t p h g X root (setM M P Sl.zero) R RS := by
  have hlts := a.lts
  have j0 := Blk.new w 80 (wayC (wayT F P 4) (digI P))
  have a1 := a.alloc (.cells (wayC (wayT F P 4) (digI P)) 80)
  have hB := (But.refl (fun j => j = h ∨ j = g) w).alloc (.cells (wayC (wayT F P 4) (digI P)) 80)
  obtain ⟨s1, s2⟩ := Cutting.start T a.pl.fit hz hP
  have hE : ∀ i q, i ≤ 4 → (ent M F i q).Ok := fun i q hi => ent_ok T a.pl.len hi
  have HW3 := Lib.hid (wipe_call (i := 3) a1 (T.lay.lt 3 _ (by omega) (way_tabl hz hP 3)) (by omega))
  have hl3 : (X.stX (F 3 (pre P 3) : Nat) ((8 * dig P 3 : Nat) : Int) 4 Sl.zero.pack).H.length = X.H.length := by rw [s1]; rfl
  generalize X.stX (F 3 (pre P 3) : Nat) ((8 * dig P 3 : Nat) : Int) 4 Sl.zero.pack = X3 at *
  have HF := Lib.hid (fun W => fill_any ⟨#[]⟩ 64 W (by decide) (by decide) (by decide))
  rw [zfill] at HF
  have HQ := Lib.hid (And.intro T.ents (And.intro T.root (And.intro hE (And.intro hz hP))))
  have HN := Lib.hid (And.intro hlts (And.intro s2 hl3))
  have HJ := Lib.hid (And.intro j0 (And.intro hB a1.head))
  have jw := j0
  unfold wayC at jw
  have d1 := jw.at_ 6 _ rfl
  have d2 := jw.at_ 7 _ rfl
  clear jw
  unfold wayV
  unfold wayC
  clear hlts s1 s2 hE hl3 T hz hP a a1 j0 hB
  go_enter Tryd.func37, Tryd.ntmps37
  go_wp2_with fail
  go_step3
  go_wp2_with (go_at_call 44; (refine HW3.out.mono ?_); rintro e v1 ⟨⟨r1, rfl⟩, hb1, ha1⟩
               have HS := Lib.hid (Shr.mk (w := w) (X := X) HN.out.2.1 HN.out.2.2 (HJ.out.1.but hb1 (by have := HN.out.1; omega)) (HJ.out.2.1.trans hb1) ha1)
               clear d1 d2 hb1 ha1)
  go_step3
  go_wp2_with fail
  go_loopw [4] (fun kk wr => ∃ (k : Nat) (Z : Pol), k ≤ 3 ∧ kk = .int .i64 k ∧ Shr w wr t p h g X root M F R RS P k Z) (fun kk _ => (intOf kk).toNat)
  case atStart => exact ⟨3, X3, by omega, rfl, HS.out⟩
  case round =>
    obtain ⟨k, Z, hk3, rfl, hS⟩ := hrel
    clear HS
    have hcase : k = 0 ∨ k = 1 ∨ k = 2 ∨ k = 3 := by omega
    clear hk3
    rcases hcase with rfl | rfl | rfl | rfl
    · have HR : Hid (Left7 w wr t p h g X root (setM M P Sl.zero) R RS) := Lib.hid ⟨hS.bel, Z, F, hS.td, hS.len, hS.cut.done HQ.out.1 HQ.out.2.1 HQ.out.2.2.2.1 HQ.out.2.2.2.2 (by omega) (.inl rfl)⟩
      clear hS
      simp only [show ((0 : Nat) : Int) = 0 from rfl]
      go_wp2
      rw [Exit.noGoto_normal]
      go_wp2
      go_end0
      exact ⟨rfl, HR.out⟩
    · simp only [show ((1 : Nat) : Int) = 1 from rfl]
      have hm1 : IntKind.i64.wrap ((1 : Int) - 1) = 0 := by decide +kernel
      have hm2 : IntKind.i64.wrap 0 = 0 := by decide +kernel
      have hemp := hS.cut.empty hS.td.pl.fit HQ.out.2.2.1 HQ.out.2.2.2.1 HQ.out.2.2.2.2 (by omega)
      have c0 := hS.td.head.drew.at_ 0 _ rfl
      have jw := hS.way.drew
      unfold wayC at jw
      have c1 := jw.at_ 2 _ rfl
      clear jw
      have HBY := Lib.hid (shr_bytes hS.drew HQ.out.2.2.2.1 HQ.out.2.2.2.2 (by omega))
      by_cases hl : live (setM M P Sl.zero) 1 (pre P 1)
      · have hne : Z.S.getD (F 1 (pre P 1)) ⟨#[]⟩ ≠ zsec := fun e => hemp.1 e hl
        have HR : Hid (∀ v, Below wr.heap.size wr v → Left7 w v t p h g X root (setM M P Sl.zero) R RS) := Lib.hid fun v hb => ⟨hS.bel.trans (But.of_below hb), Z, F, hS.td.on hb, hS.len, hS.cut.done HQ.out.1 HQ.out.2.1 HQ.out.2.2.2.1 HQ.out.2.2.2.2 (by omega) (.inr hl)⟩
        have HW := Lib.hid (And.intro hS.way hS.td.head)
        generalize Z.S.getD (F 1 (pre P 1)) ⟨#[]⟩ = sv at *
        have hbq := beq_no7 hne
        have hsz : Hid (sv = sv) := Lib.hid rfl
        clear hS hemp hl hne
        go_wp2_with fail
        go_region_held3 (fun w' => w'.cell? ⟨t, 0, none⟩ = some (.pointer (some ⟨p, 0, none⟩)) ∧ w'.cell? ⟨w.heap.size, 2, none⟩ = some (.int .i64 (wayT F P 4 1)))
          (first | exact ⟨c0, c1⟩ | exact ⟨e0, e1⟩)
          (first
          | (go_at_call 54; (refine HBY.out.mono ?_); rintro e v2 ⟨rfl, hb2⟩
             have e0 := (HW.out.2.drew.below hb2 HW.out.2.lt).at_ 0 _ rfl
             have jw := HW.out.1.drew.below hb2 HW.out.1.lt
             unfold wayC at jw
             have e1 := jw.at_ 2 _ rfl
             clear jw
             have HB2 := Lib.hid ((Below.refl wr.heap.size wr).drew.trans hb2)
             clear hb2 c0 c1))
        all_goals
          go_wp2_with (go_at_call 55; (refine (HF.out _).mono ?_); rintro e v3 ⟨rfl, hb3⟩; have HB3 := Lib.hid (HB2.out.trans (hb3.mono HB2.out.size)); clear hb3)
          rw [Exit.noGoto_normal]
          go_wp2
          go_end0
          exact ⟨rfl, HR.out _ HB3.out⟩
      · have heq : Z.S.getD (F 1 (pre P 1)) ⟨#[]⟩ = zsec := hemp.2 hl
        rw [heq] at HBY
        have HS0 := Lib.hid hS
        have HL := Lib.hid hl
        have HW := Lib.hid (And.intro hS.way hS.td.head)
        have hbq : (zsec.toList == zsec.toList) = true := by simp
        clear hS hemp hl heq
        generalize zsec = zs at *
        go_wp2_with fail
        go_region_held3 (fun w' => w'.cell? ⟨t, 0, none⟩ = some (.pointer (some ⟨p, 0, none⟩)) ∧ w'.cell? ⟨w.heap.size, 2, none⟩ = some (.int .i64 (wayT F P 4 1)))
          (first | exact ⟨c0, c1⟩ | exact ⟨e0, e1⟩)
          (first
          | (go_at_call 54; (refine HBY.out.mono ?_); rintro e v2 ⟨rfl, hb2⟩
             have e0 := (HW.out.2.drew.below hb2 HW.out.2.lt).at_ 0 _ rfl
             have jw := HW.out.1.drew.below hb2 HW.out.1.lt
             unfold wayC at jw
             have e1 := jw.at_ 2 _ rfl
             clear jw
             have HB2 := Lib.hid ((Below.refl wr.heap.size wr).drew.trans hb2)
             clear hb2 c0 c1))
        all_goals
          go_wp2_with (go_at_call 55; (refine (HF.out _).mono ?_); rintro e v3 ⟨rfl, hb3⟩; have HS3 := Lib.hid ((HS0.out.on (HB2.out.trans (hb3.mono HB2.out.size))).drew); clear hb3)
          have g0 := HS3.out.td.head.at_ 0 _ rfl
          have jw := HS3.out.way
          unfold wayC at jw
          have g1 := jw.at_ 2 _ rfl
          have HD := Lib.hid (shr_drop HS3.out HQ.out.2.2.2.1 HQ.out.2.2.2.2 (by omega) HL.out)
          clear e0 e1 jw
          go_region_held3 (fun w' => w'.cell? ⟨t, 0, none⟩ = some (.pointer (some ⟨p, 0, none⟩)) ∧ w'.cell? ⟨w.heap.size, 2, none⟩ = some (.int .i64 (wayT F P 4 1)))
            (first | exact ⟨g0, g1⟩ | exact ⟨i0, i1⟩)
            (first
            | (go_at_call 48; (refine HD.out.mono ?_); rintro e v4 ⟨rfl, hb4, ha4⟩
               have HT4 := Lib.hid (And.intro ha4 (And.intro (HS3.out.way.but hb4 (by have := HN.out.1; omega)) (HS3.out.bel.trans hb4)))
               have i0 := HT4.out.1.head.at_ 0 _ rfl
               have jw := HT4.out.2.1
               unfold wayC at jw
               have i1 := jw.at_ 2 _ rfl
               have i2 := jw.at_ 0 _ rfl
               have i3 := jw.at_ 1 _ rfl
               have HWI := Lib.hid (shr_wipe HS3.out HQ.out.2.2.2.1 HQ.out.2.2.2.2 (by omega) HL.out HT4.out.1 HT4.out.2.1 HT4.out.2.2 (by have := HN.out.1; omega))
               clear hb4 ha4 jw g0 g1))
          all_goals
            go_wp2_with (go_at_call 44; (refine HWI.out.mono ?_); rintro e v5 ⟨⟨r5, rfl⟩, Z5, hS5⟩)
            go_roundw
            case rel => exact ⟨0, Z5, by omega, rfl, hS5⟩
            case measure => simp [intOf]
    · simp only [show ((2 : Nat) : Int) = 2 from rfl]
      have hm1 : IntKind.i64.wrap ((2 : Int) - 1) = 1 := by decide +kernel
      have hm2 : IntKind.i64.wrap 1 = 1 := by decide +kernel
      have hemp := hS.cut.empty hS.td.pl.fit HQ.out.2.2.1 HQ.out.2.2.2.1 HQ.out.2.2.2.2 (by omega)
      have c0 := hS.td.head.drew.at_ 0 _ rfl
      have jw := hS.way.drew
      unfold wayC at jw
      have c1 := jw.at_ 4 _ rfl
      clear jw
      have HBY := Lib.hid (shr_bytes hS.drew HQ.out.2.2.2.1 HQ.out.2.2.2.2 (by omega))
      by_cases hl : live (setM M P Sl.zero) 2 (pre P 2)
      · have hne : Z.S.getD (F 2 (pre P 2)) ⟨#[]⟩ ≠ zsec := fun e => hemp.1 e hl
        have HR : Hid (∀ v, Below wr.heap.size wr v → Left7 w v t p h g X root (setM M P Sl.zero) R RS) := Lib.hid fun v hb => ⟨hS.bel.trans (But.of_below hb), Z, F, hS.td.on hb, hS.len, hS.cut.done HQ.out.1 HQ.out.2.1 HQ.out.2.2.2.1 HQ.out.2.2.2.2 (by omega) (.inr hl)⟩
        have HW := Lib.hid (And.intro hS.way hS.td.head)
        generalize Z.S.getD (F 2 (pre P 2)) ⟨#[]⟩ = sv at *
        have hbq := beq_no7 hne
        have hsz : Hid (sv = sv) := Lib.hid rfl
        clear hS hemp hl hne
        go_wp2_with fail
        go_region_held3 (fun w' => w'.cell? ⟨t, 0, none⟩ = some (.pointer (some ⟨p, 0, none⟩)) ∧ w'.cell? ⟨w.heap.size, 4, none⟩ = some (.int .i64 (wayT F P 4 2)))
          (first | exact ⟨c0, c1⟩ | exact ⟨e0, e1⟩)
          (first
          | (go_at_call 54; (refine HBY.out.mono ?_); rintro e v2 ⟨rfl, hb2⟩
             have e0 := (HW.out.2.drew.below hb2 HW.out.2.lt).at_ 0 _ rfl
             have jw := HW.out.1.drew.below hb2 HW.out.1.lt
             unfold wayC at jw
             have e1 := jw.at_ 4 _ rfl
             clear jw
             have HB2 := Lib.hid ((Below.refl wr.heap.size wr).drew.trans hb2)
             clear hb2 c0 c1))
        all_goals
          go_wp2_with (go_at_call 55; (refine (HF.out _).mono ?_); rintro e v3 ⟨rfl, hb3⟩; have HB3 := Lib.hid (HB2.out.trans (hb3.mono HB2.out.size)); clear hb3)
          rw [Exit.noGoto_normal]
          go_wp2
          go_end0
          exact ⟨rfl, HR.out _ HB3.out⟩
      · have heq : Z.S.getD (F 2 (pre P 2)) ⟨#[]⟩ = zsec := hemp.2 hl
        rw [heq] at HBY
        have HS0 := Lib.hid hS
        have HL := Lib.hid hl
        have HW := Lib.hid (And.intro hS.way hS.td.head)
        have hbq : (zsec.toList == zsec.toList) = true := by simp
        clear hS hemp hl heq
        generalize zsec = zs at *
        go_wp2_with fail
        go_region_held3 (fun w' => w'.cell? ⟨t, 0, none⟩ = some (.pointer (some ⟨p, 0, none⟩)) ∧ w'.cell? ⟨w.heap.size, 4, none⟩ = some (.int .i64 (wayT F P 4 2)))
          (first | exact ⟨c0, c1⟩ | exact ⟨e0, e1⟩)
          (first
          | (go_at_call 54; (refine HBY.out.mono ?_); rintro e v2 ⟨rfl, hb2⟩
             have e0 := (HW.out.2.drew.below hb2 HW.out.2.lt).at_ 0 _ rfl
             have jw := HW.out.1.drew.below hb2 HW.out.1.lt
             unfold wayC at jw
             have e1 := jw.at_ 4 _ rfl
             clear jw
             have HB2 := Lib.hid ((Below.refl wr.heap.size wr).drew.trans hb2)
             clear hb2 c0 c1))
        all_goals
          go_wp2_with (go_at_call 55; (refine (HF.out _).mono ?_); rintro e v3 ⟨rfl, hb3⟩; have HS3 := Lib.hid ((HS0.out.on (HB2.out.trans (hb3.mono HB2.out.size))).drew); clear hb3)
          have g0 := HS3.out.td.head.at_ 0 _ rfl
          have jw := HS3.out.way
          unfold wayC at jw
          have g1 := jw.at_ 4 _ rfl
          have HD := Lib.hid (shr_drop HS3.out HQ.out.2.2.2.1 HQ.out.2.2.2.2 (by omega) HL.out)
          clear e0 e1 jw
          go_region_held3 (fun w' => w'.cell? ⟨t, 0, none⟩ = some (.pointer (some ⟨p, 0, none⟩)) ∧ w'.cell? ⟨w.heap.size, 4, none⟩ = some (.int .i64 (wayT F P 4 2)))
            (first | exact ⟨g0, g1⟩ | exact ⟨i0, i1⟩)
            (first
            | (go_at_call 48; (refine HD.out.mono ?_); rintro e v4 ⟨rfl, hb4, ha4⟩
               have HT4 := Lib.hid (And.intro ha4 (And.intro (HS3.out.way.but hb4 (by have := HN.out.1; omega)) (HS3.out.bel.trans hb4)))
               have i0 := HT4.out.1.head.at_ 0 _ rfl
               have jw := HT4.out.2.1
               unfold wayC at jw
               have i1 := jw.at_ 4 _ rfl
               have i2 := jw.at_ 2 _ rfl
               have i3 := jw.at_ 3 _ rfl
               have HWI := Lib.hid (shr_wipe HS3.out HQ.out.2.2.2.1 HQ.out.2.2.2.2 (by omega) HL.out HT4.out.1 HT4.out.2.1 HT4.out.2.2 (by have := HN.out.1; omega))
               clear hb4 ha4 jw g0 g1))
          all_goals
            go_wp2_with (go_at_call 44; (refine HWI.out.mono ?_); rintro e v5 ⟨⟨r5, rfl⟩, Z5, hS5⟩)
            go_roundw
            case rel => exact ⟨1, Z5, by omega, rfl, hS5⟩
            case measure => simp [intOf]
    · simp only [show ((3 : Nat) : Int) = 3 from rfl]
      have hm1 : IntKind.i64.wrap ((3 : Int) - 1) = 2 := by decide +kernel
      have hm2 : IntKind.i64.wrap 2 = 2 := by decide +kernel
      have hemp := hS.cut.empty hS.td.pl.fit HQ.out.2.2.1 HQ.out.2.2.2.1 HQ.out.2.2.2.2 (by omega)
      have c0 := hS.td.head.drew.at_ 0 _ rfl
      have jw := hS.way.drew
      unfold wayC at jw
      have c1 := jw.at_ 6 _ rfl
      clear jw
      have HBY := Lib.hid (shr_bytes hS.drew HQ.out.2.2.2.1 HQ.out.2.2.2.2 (by omega))
      by_cases hl : live (setM M P Sl.zero) 3 (pre P 3)
      · have hne : Z.S.getD (F 3 (pre P 3)) ⟨#[]⟩ ≠ zsec := fun e => hemp.1 e hl
        have HR : Hid (∀ v, Below wr.heap.size wr v → Left7 w v t p h g X root (setM M P Sl.zero) R RS) := Lib.hid fun v hb => ⟨hS.bel.trans (But.of_below hb), Z, F, hS.td.on hb, hS.len, hS.cut.done HQ.out.1 HQ.out.2.1 HQ.out.2.2.2.1 HQ.out.2.2.2.2 (by omega) (.inr hl)⟩
        have HW := Lib.hid (And.intro hS.way hS.td.head)
        generalize Z.S.getD (F 3 (pre P 3)) ⟨#[]⟩ = sv at *
        have hbq := beq_no7 hne
        have hsz : Hid (sv = sv) := Lib.hid rfl
        clear hS hemp hl hne
        go_wp2_with fail
        go_region_held3 (fun w' => w'.cell? ⟨t, 0, none⟩ = some (.pointer (some ⟨p, 0, none⟩)) ∧ w'.cell? ⟨w.heap.size, 6, none⟩ = some (.int .i64 (wayT F P 4 3)))
          (first | exact ⟨c0, c1⟩ | exact ⟨e0, e1⟩)
          (first
          | (go_at_call 54; (refine HBY.out.mono ?_); rintro e v2 ⟨rfl, hb2⟩
             have e0 := (HW.out.2.drew.below hb2 HW.out.2.lt).at_ 0 _ rfl
             have jw := HW.out.1.drew.below hb2 HW.out.1.lt
             unfold wayC at jw
             have e1 := jw.at_ 6 _ rfl
             clear jw
             have HB2 := Lib.hid ((Below.refl wr.heap.size wr).drew.trans hb2)
             clear hb2 c0 c1))
        all_goals
          go_wp2_with (go_at_call 55; (refine (HF.out _).mono ?_); rintro e v3 ⟨rfl, hb3⟩; have HB3 := Lib.hid (HB2.out.trans (hb3.mono HB2.out.size)); clear hb3)
          rw [Exit.noGoto_normal]
          go_wp2
          go_end0
          exact ⟨rfl, HR.out _ HB3.out⟩
      · have heq : Z.S.getD (F 3 (pre P 3)) ⟨#[]⟩ = zsec := hemp.2 hl
        rw [heq] at HBY
        have HS0 := Lib.hid hS
        have HL := Lib.hid hl
        have HW := Lib.hid (And.intro hS.way hS.td.head)
        have hbq : (zsec.toList == zsec.toList) = true := by simp
        clear hS hemp hl heq
        generalize zsec = zs at *
        go_wp2_with fail
        go_region_held3 (fun w' => w'.cell? ⟨t, 0, none⟩ = some (.pointer (some ⟨p, 0, none⟩)) ∧ w'.cell? ⟨w.heap.size, 6, none⟩ = some (.int .i64 (wayT F P 4 3)))
          (first | exact ⟨c0, c1⟩ | exact ⟨e0, e1⟩)
          (first
          | (go_at_call 54; (refine HBY.out.mono ?_); rintro e v2 ⟨rfl, hb2⟩
             have e0 := (HW.out.2.drew.below hb2 HW.out.2.lt).at_ 0 _ rfl
             have jw := HW.out.1.drew.below hb2 HW.out.1.lt
             unfold wayC at jw
             have e1 := jw.at_ 6 _ rfl
             clear jw
             have HB2 := Lib.hid ((Below.refl wr.heap.size wr).drew.trans hb2)
             clear hb2 c0 c1))
        all_goals
          go_wp2_with (go_at_call 55; (refine (HF.out _).mono ?_); rintro e v3 ⟨rfl, hb3⟩; have HS3 := Lib.hid ((HS0.out.on (HB2.out.trans (hb3.mono HB2.out.size))).drew); clear hb3)
          have g0 := HS3.out.td.head.at_ 0 _ rfl
          have jw := HS3.out.way
          unfold wayC at jw
          have g1 := jw.at_ 6 _ rfl
          have HD := Lib.hid (shr_drop HS3.out HQ.out.2.2.2.1 HQ.out.2.2.2.2 (by omega) HL.out)
          clear e0 e1 jw
          go_region_held3 (fun w' => w'.cell? ⟨t, 0, none⟩ = some (.pointer (some ⟨p, 0, none⟩)) ∧ w'.cell? ⟨w.heap.size, 6, none⟩ = some (.int .i64 (wayT F P 4 3)))
            (first | exact ⟨g0, g1⟩ | exact ⟨i0, i1⟩)
            (first
            | (go_at_call 48; (refine HD.out.mono ?_); rintro e v4 ⟨rfl, hb4, ha4⟩
               have HT4 := Lib.hid (And.intro ha4 (And.intro (HS3.out.way.but hb4 (by have := HN.out.1; omega)) (HS3.out.bel.trans hb4)))
               have i0 := HT4.out.1.head.at_ 0 _ rfl
               have jw := HT4.out.2.1
               unfold wayC at jw
               have i1 := jw.at_ 6 _ rfl
               have i2 := jw.at_ 4 _ rfl
               have i3 := jw.at_ 5 _ rfl
               have HWI := Lib.hid (shr_wipe HS3.out HQ.out.2.2.2.1 HQ.out.2.2.2.2 (by omega) HL.out HT4.out.1 HT4.out.2.1 HT4.out.2.2 (by have := HN.out.1; omega))
               clear hb4 ha4 jw g0 g1))
          all_goals
            go_wp2_with (go_at_call 44; (refine HWI.out.mono ?_); rintro e v5 ⟨⟨r5, rfl⟩, Z5, hS5⟩)
            go_roundw
            case rel => exact ⟨2, Z5, by omega, rfl, hS5⟩
            case measure => simp [intOf]
end Go.Proofs.YtbidlabhekiijaaDoor

/- Package radix: Drop. -/
namespace Go.Proofs.YtbidlabhekiijaaDoor
open Go.RowKit
set_option linter.unusedVariables false
set_option linter.unusedSimpArgs false

set_option maxRecDepth 100000 in
set_option maxHeartbeats 1600000 in
/-- The closure of entry where a page has one. -/
theorem entry1_drop {w : World} {t p h g : Nat} {X : Pol} {root : Nat} {M : Nat → Sl} {F : Nat → Nat → Nat} {R : Nat → Int} {RS : Nat → ByteArray} (a : Td w t p h g X root) (T : Own7 X root M F R RS) (P : Nat) (hP : P < 4096) (c1 c2 c3 : Nat)
    (k1 : Blk w c1 33 #[.pointer (some ⟨t, 0, none⟩)]) (k2 : Blk w c2 23 Sl.zero.cs) (k3 : Blk w c3 75 #[.func (.func 37) #[.pointer (some ⟨t, 0, none⟩)] #[]]) (n3 : c2 ≠ c3) (n4 : c2 ≠ h ∧ c2 ≠ g ∧ c2 ≠ t ∧ c2 ≠ p ∧ c2 ≠ 0) (hz : M P ≠ Sl.zero) :
    Calls Tryd.prog 51 #[wayV (wayT F P (kn M P)) (digI P), .int .i64 (kn M P : Nat), .pointer (some ⟨c1, 0, none⟩), .pointer (some ⟨c2, 0, none⟩), .pointer (some ⟨c3, 0, none⟩)] w fun e w' =>
      e = .returned (.int .i64 0) ∧ But (fun j => j = c2 ∨ j = h ∨ j = g) w w' ∧ Blk w' c2 23 (M P).cs ∧ ∃ Y G, Td w' t p h g Y root ∧ Y.H.length = X.H.length ∧ Own7 Y root (setM M P Sl.zero) G R RS := by
  have HG := Lib.hid (fun W (b : Td W t p h g X root) => shrink_any b T P hP hz)
  unfold wayV wayC at HG
  have T0 := Lib.hid T
  have h4 := kn_four hz
  have HE : Hid (∀ W, Calls Tryd.prog 53 #[(M P).v] W fun e w' => e = .returned (.bool false) ∧ Below W.heap.size W w') := Lib.hid fun W => (empty_any (M P) W).mono fun e w' ⟨he, hw⟩ => ⟨by rw [he, Sl.notZ_iff.2 hz], by rw [hw]; exact (Below.refl _ _).alloc (Nat.le_refl _) _⟩
  have h44 : ((kn M P : Nat) : Int) = 4 := by rw [h4]; rfl
  rw [h44]
  rw [h4]
  have hlt := k2.lt
  have hlts := a.lts
  have hB := (But.refl (· = c2) w).alloc (.cells (wayC (wayT F P 4) (digI P)) 80)
  have k2a := k2.alloc (.cells (wayC (wayT F P 4) (digI P)) 80)
  have hkw := Blk.new w 80 (wayC (wayT F P 4) (digI P))
  have k1a := k1.alloc (.cells (wayC (wayT F P 4) (digI P)) 80)
  have k3a := k3.alloc (.cells (wayC (wayT F P 4) (digI P)) 80)
  have a1 := a.alloc (.cells (wayC (wayT F P 4) (digI P)) 80)
  obtain ⟨W0, hW0⟩ : ∃ W0, w.alloc (.cells (wayC (wayT F P 4) (digI P)) 80) = W0 := ⟨_, rfl⟩
  rw [hW0] at hB k2a hkw k1a k3a a1
  have c0 := k1a.at_ 0 _ rfl
  have hrd := read_last a1 T.tbl P h4
  have HKW := Lib.hid hkw
  have e0 := (show Blk W0 w.heap.size 80 #[.int .i64 (wayT F P 4 0), .int .i64 (digI P 0), .int .i64 (wayT F P 4 1), .int .i64 (digI P 1), .int .i64 (wayT F P 4 2), .int .i64 (digI P 2), .int .i64 (wayT F P 4 3), .int .i64 (digI P 3)] from hkw).at_ 6 _ rfl
  have e1 := (show Blk W0 w.heap.size 80 #[.int .i64 (wayT F P 4 0), .int .i64 (digI P 0), .int .i64 (wayT F P 4 1), .int .i64 (digI P 1), .int .i64 (wayT F P 4 2), .int .i64 (digI P 2), .int .i64 (wayT F P 4 3), .int .i64 (digI P 3)] from hkw).at_ 7 _ rfl
  unfold wayV
  unfold wayC at hW0 ⊢
  obtain ⟨z, hzz⟩ : ∃ z, M P = z := ⟨_, rfl⟩
  rw [hzz] at HE hrd
  unfold Sl.v at HE hrd
  have HZ := Lib.hid hzz
  have HRD := Lib.hid hrd
  have HK := Lib.hid (And.intro k2a (And.intro hB (And.intro a1 (And.intro k3a hlt))))
  have HLT := Lib.hid (And.intro hlts n3)
  have HN4 := Lib.hid n4
  clear hrd k1 k2 k3 k2a k3a hB hkw a a1 T hz k1a h4 h44 hlt hlts n3
  obtain ⟨zh, zw, zc, zo, zn⟩ := z
  simp only at HE HRD
  go_enter Tryd.func51, Tryd.ntmps51
  go_wp2_with (first
    | (go_at_call 52; (refine HRD.out.mono ?_); rintro e v1 ⟨rfl, hb1⟩
       have h2 := HK.out.1.below hb1 HK.out.1.lt
       have hs := sl_set h2 ⟨zh, zw, zc, zo, zn⟩
       obtain ⟨f0, f1, f2, f3, f4⟩ := h2.sf
       obtain ⟨x0, x1, x2, x3, x4⟩ := h2.sl
       obtain ⟨y0, y1, y2, y3, y4⟩ := hs.sl
       have HS := Lib.hid (And.intro hs (And.intro (sl_set_but (HK.out.2.1.trans (But.of_below hb1)) (.inl rfl) ⟨zh, zw, zc, zo, zn⟩) (And.intro (sl_set_but (S := (· = c2)) (But.of_below (S := (· = c2)) hb1) (.inl rfl) ⟨zh, zw, zc, zo, zn⟩) (show w.heap.size < W0.heap.size from HKW.out.lt))))
       simp only at y0 y1 y2 y3 y4 HS
       simp only [Sl.zero] at x0 x1 x2 x3 x4
       clear hs h2 hb1)
    | (go_at_call 53; (refine (HE.out _).mono ?_); rintro e v2 ⟨rfl, hb2⟩
       clear x0 x1 x2 x3 x4 y0 y1 y2 y3 y4 f0 f1 f2 f3 f4 e0 e1 c0
       have h3 := (HK.out.2.2.2.1.but HS.out.2.2.1 (fun e => HLT.out.2 e.symm)).below hb2 (HK.out.2.2.2.1.but HS.out.2.2.1 (fun e => HLT.out.2 e.symm)).lt
       have hw := (HKW.out.but HS.out.2.2.1 (by have := HK.out.2.2.2.2; omega)).below hb2 (HKW.out.but HS.out.2.2.1 (by have := HK.out.2.2.2.2; omega)).lt
       have g0 := h3.at_ 0 _ rfl
       have hw' := hw
       unfold wayC at hw'
       have r0 := hw'.at_ 0 _ rfl
       have r1 := hw'.at_ 1 _ rfl
       have r2 := hw'.at_ 2 _ rfl
       have r3 := hw'.at_ 3 _ rfl
       have r4 := hw'.at_ 4 _ rfl
       have r5 := hw'.at_ 5 _ rfl
       have r6 := hw'.at_ 6 _ rfl
       have r7 := hw'.at_ 7 _ rfl
       have HS2 := Lib.hid (And.intro (HS.out.1.below hb2 HS.out.1.lt) (And.intro (HS.out.2.1.trans (But.of_below hb2)) (HS.out.2.2.1.trans (But.of_below hb2))))
       clear h3 hw hw' hb2)
    | (go_at_call 37; (refine (HG.out _ (HK.out.2.2.1.thru HS2.out.2.2 (by have := HN4.out; omega) (by have := HN4.out; omega) (by have := HN4.out; omega) (by have := HN4.out; omega) (by have := HN4.out; omega))).mono ?_); rintro e v3 ⟨rfl, hb3, hl3⟩
       have HS3 := Lib.hid (And.intro (HS2.out.1.but hb3 (by have := HN4.out; omega)) (And.intro ((HS2.out.2.1.mono (T := fun j => j = c2 ∨ j = h ∨ j = g) fun _ e => .inl e).trans (hb3.mono (T := fun j => j = c2 ∨ j = h ∨ j = g) fun _ e => .inr e)) hl3))
       clear hb3 hl3))
  go_ret
  exact ⟨rfl, HS3.out.2.1, by rw [HZ.out]; exact HS3.out.1, HS3.out.2.2⟩

/-- What with does for Drop. -/
theorem with_drop {w : World} {t p h g : Nat} {X : Pol} {root : Nat} {M : Nat → Sl} {F : Nat → Nat → Nat} {R : Nat → Int} {RS : Nat → ByteArray} (a : Td w t p h g X root) (T : Own7 X root M F R RS) (pg : Int) (c1 c2 c3 : Nat)
    (k1 : Blk w c1 33 #[.pointer (some ⟨t, 0, none⟩)]) (k2 : Blk w c2 23 Sl.zero.cs) (k3 : Blk w c3 75 #[.func (.func 37) #[.pointer (some ⟨t, 0, none⟩)] #[]]) (n3 : c2 ≠ c3) (n4 : c2 ≠ h ∧ c2 ≠ g ∧ c2 ≠ t ∧ c2 ≠ p ∧ c2 ≠ 0) :
    Calls Tryd.prog 41 #[.pointer (some ⟨t, 0, none⟩), .int .i64 pg, .func (.func 51) #[] #[.pointer (some ⟨c1, 0, none⟩), .pointer (some ⟨c2, 0, none⟩), .pointer (some ⟨c3, 0, none⟩)]] w fun e w' =>
      e = .returned (.int .i64 (gtE' M pg)) ∧ But (fun j => j = c2 ∨ j = h ∨ j = g) w w' ∧ Blk w' c2 23 (gtS' M pg).cs ∧ ∃ Y G, Td w' t p h g Y root ∧ Y.H.length = X.H.length ∧ Own7 Y root (if gtE' M pg = 0 then setM M pg.toNat Sl.zero else M) G R RS := by
  by_cases hin : 0 ≤ pg ∧ pg < 4096
  · obtain ⟨P, rfl⟩ : ∃ P : Nat, pg = P := ⟨pg.toNat, by omega⟩
    have hP : P < 4096 := by omega
    have e2 : gtS' M P = M P := by unfold gtS'; rw [if_pos hin]; rfl
    refine twith_entry a T.tbl P hP c1 c2 c3 _ (Lib.hid fun w1 hb => ?_)
    have a1 := a.on hb
    have j1 := k1.below hb k1.lt
    have j2 := k2.below hb k2.lt
    have j3 := k3.below hb k3.lt
    by_cases hz : M P = Sl.zero
    · have e1 : gtE' M P = 12 := by unfold gtE'; rw [if_pos hin, if_pos (by simpa using hz)]
      refine (entry1_none a1 T.tbl P c1 c2 c3 j1 j2 hz).mono fun e w' ⟨he, hb', hk⟩ => ⟨12, he, ?_⟩
      rw [e1, e2, hz, if_neg (by decide)]
      exact ⟨rfl, (But.of_below hb).trans (hb'.mono fun _ e => .inl e), hk, X, F, a1.thru hb' (by omega) (by omega) (by omega) (by omega) (by omega), rfl, T⟩
    · have e1 : gtE' M P = 0 := by unfold gtE'; rw [if_pos hin, if_neg (by simpa using hz)]
      refine (entry1_drop a1 T P hP c1 c2 c3 j1 j2 j3 n3 n4 hz).mono fun e w' ⟨he, hb', hk, hl⟩ => ⟨0, he, ?_⟩
      rw [e1, e2, if_pos rfl]
      exact ⟨rfl, (But.of_below hb).trans hb', hk, hl⟩
  · have e1 : gtE' M pg = 14 := by unfold gtE'; rw [if_neg hin]
    have e2 : gtS' M pg = Sl.zero := by unfold gtS'; rw [if_neg hin]
    rw [e1, e2, if_neg (by decide)]
    exact (twith_far t pg _ w (by omega)).mono fun e w' ⟨he, hw⟩ => by subst hw; exact ⟨he, But.refl _ _, k2, X, F, a, rfl, T⟩
set_option maxRecDepth 100000 in
set_option maxHeartbeats 1600000 in
theorem entry_drop_of (tp : Option Addr) (pg : Int) (w : World) (E : Int) (s : Sl) (S : Nat → Prop) (hS : Hid (∀ j, S j → j < w.heap.size)) (L : World → Prop)
    (hW : Hid (∀ W c1 c2 c3, Below w.heap.size w W → Blk W c1 33 #[.pointer tp] → Blk W c2 23 Sl.zero.cs → Blk W c3 75 #[.func (.func 37) #[.pointer tp] #[]] → c2 ≠ c3 → w.heap.size ≤ c2 →
      Calls Tryd.prog 41 #[.pointer tp, .int .i64 pg, .func (.func 51) #[] #[.pointer (some ⟨c1, 0, none⟩), .pointer (some ⟨c2, 0, none⟩), .pointer (some ⟨c3, 0, none⟩)]] W fun e w' =>
        e = .returned (.int .i64 E) ∧ But (fun j => j = c2 ∨ S j) W w' ∧ Blk w' c2 23 s.cs ∧ L w')) :
    Calls Tryd.prog 36 #[.pointer tp, .int .i64 pg, .func (.func 37) #[.pointer tp] #[]] w fun e w' => e = .returned (.tuple #[s.v, .int .i64 E]) ∧ But S w w' ∧ ∃ v c, L v ∧ w.heap.size ≤ c ∧ But (· = c) v w' := by
  have hmf : ∀ (fn : Fn) (first cap : Array Value) (w : World), (Instr.makeFunc fn first cap).run Tryd.prog w = .ok (.func fn first cap) w := fun _ _ _ _ => rfl
  obtain ⟨k0, k1, k2, k3, hB, hsz⟩ := entry_cells w (.pointer tp) (.func (.func 37) #[.pointer tp] #[]) 75
  obtain ⟨W0, hW0⟩ : ∃ W0, (((w.alloc (.cells #[.pointer tp] 33)).alloc (.cells #[.func (.func 37) #[.pointer tp] #[]] 75)).alloc (.cells Sl.zero.cs 23)).alloc (.cells Sl.zero.cs 23) = W0 := ⟨_, rfl⟩
  rw [hW0] at k0 k1 k2 k3 hB hsz
  obtain ⟨f0, f1, f2, f3, f4⟩ := k3.sf
  obtain ⟨x0, x1, x2, x3, x4⟩ := k3.sl
  have j0 := sl_set_far k0 (show w.heap.size ≠ w.heap.size + 1 + 1 + 1 by omega) Sl.zero
  have j1 := sl_set_far k1 (show w.heap.size + 1 ≠ w.heap.size + 1 + 1 + 1 by omega) Sl.zero
  have j2 := sl_set_far k2 (show w.heap.size + 2 ≠ w.heap.size + 1 + 1 + 1 by omega) Sl.zero
  have j3 := sl_set (show Blk W0 (w.heap.size + 1 + 1 + 1) 23 Sl.zero.cs from k3) Sl.zero
  have jB := sl_set_below hB (show w.heap.size ≤ w.heap.size + 1 + 1 + 1 by omega) Sl.zero
  obtain ⟨W1, hW1⟩ : ∃ W1, (((((W0.setCell ⟨w.heap.size + 1 + 1 + 1, 0, none⟩ (.bool Sl.zero.h)).setCell ⟨w.heap.size + 1 + 1 + 1, 1, none⟩ (.bool Sl.zero.w)).setCell ⟨w.heap.size + 1 + 1 + 1, 2, none⟩ (.bool Sl.zero.c)).setCell ⟨w.heap.size + 1 + 1 + 1, 3, none⟩ (.bool Sl.zero.o)).setCell ⟨w.heap.size + 1 + 1 + 1, 4, none⟩ (.int .i64 Sl.zero.n)) = W1 := ⟨_, rfl⟩
  rw [hW1] at j0 j1 j2 j3 jB
  have HU := Lib.hid (hW.out W1 w.heap.size (w.heap.size + 1 + 1 + 1) (w.heap.size + 1) jB j0 j3 j1 (by omega) (by omega))
  have c0 := j0.at_ 0 _ rfl
  have HK := Lib.hid (And.intro j2 jB)
  unfold Sl.zero at hW1 x0 x1 x2 x3 x4
  simp only at hW1 x0 x1 x2 x3 x4
  unfold Sl.cs Sl.zero at hW0
  simp only at hW0
  clear k0 k1 k2 k3 hB hW hsz j0 j1 j2 j3 jB
  obtain ⟨sh, sw, sc, so, sn⟩ := s
  go_enter Tryd.func36, Tryd.ntmps36
  go_wp2_with (go_at_call 41; (refine HU.out.mono ?_); rintro e v1 ⟨rfl, hb1, hs1, hL⟩
               obtain ⟨x0, x1, x2, x3, x4⟩ := hs1.sl
               simp only at x0 x1 x2 x3 x4
               have h2 := HK.out.1.but hb1 (fun e => e.elim (fun e => by omega) (fun e => by have := hS.out _ e; omega))
               obtain ⟨z0, z1, z2, z3, z4⟩ := h2.sl
               obtain ⟨f0, f1, f2, f3, f4⟩ := h2.sf
               have HR := Lib.hid (sl_set h2 ⟨sh, sw, sc, so, sn⟩)
               have HB := Lib.hid (And.intro (sl_set_but ((But.of_below (S := S) HK.out.2).thru hb1 (fun j e => e.elim (fun e => .inr (by omega)) .inl)) (.inr (show w.heap.size ≤ w.heap.size + 2 by omega)) ⟨sh, sw, sc, so, sn⟩) (sl_set_but (But.refl (· = w.heap.size + 2) v1) (.inl rfl) ⟨sh, sw, sc, so, sn⟩))
               have HLv := Lib.hid hL
               clear hb1 hs1 h2 hL)
  have hRf := HR.out
  have hBf := HB.out
  simp only [Sl.cs] at hRf hBf
  generalize World.setCell _ _ _ = W5 at *
  refine bodyPost_ret (results_cell_row_tmp rfl _ _ (w.heap.size + 2) 23 _ (0, 0) _ rfl hRf Tryd.underlying23 rfl (by kernel_rfl)) rfl ⟨rfl, hBf.1, v1, w.heap.size + 2, HLv.out, by omega, hBf.2⟩

set_option maxRecDepth 100000 in
set_option maxHeartbeats 1600000 in
theorem drop_of (tp : Option Addr) (pg : Int) (w : World) (E : Int) (s : Sl) (S : Nat → Prop) (hS : Hid (∀ j, S j → j < w.heap.size)) (L : World → Prop)
    (hW : Hid (∀ W, Below w.heap.size w W → Calls Tryd.prog 36 #[.pointer tp, .int .i64 pg, .func (.func 37) #[.pointer tp] #[]] W fun e w' => e = .returned (.tuple #[s.v, .int .i64 E]) ∧ But S W w' ∧ L w')) :
    Calls Tryd.prog 19 #[.pointer tp, .int .i64 pg] w fun e w' => e = .returned (.tuple #[s.v, .int .i64 E]) ∧ But S w w' ∧ ∃ v c, L v ∧ w.heap.size ≤ c ∧ But (· = c) v w' := by
  have hmf : ∀ (fn : Fn) (first cap : Array Value) (w : World), (Instr.makeFunc fn first cap).run Tryd.prog w = .ok (.func fn first cap) w := fun _ _ _ _ => rfl
  obtain ⟨k0, hB⟩ := get_cells w
  obtain ⟨W0, hW0⟩ : ∃ W0, w.alloc (.cells Sl.zero.cs 23) = W0 := ⟨_, rfl⟩
  rw [hW0] at k0 hB
  have HU := Lib.hid (hW.out W0 hB)
  have HK := Lib.hid (And.intro k0 hB)
  unfold Sl.cs Sl.zero at hW0
  simp only at hW0
  clear k0 hB hW
  obtain ⟨sh, sw, sc, so, sn⟩ := s
  unfold Sl.v at *
  simp only at *
  go_enter Tryd.func19, Tryd.ntmps19
  go_wp2_with (go_at_call 36; (refine HU.out.mono ?_); rintro e v1 ⟨rfl, hb1, hL⟩
               have h2 := HK.out.1.but hb1 (fun e => by have := hS.out _ e; omega)
               obtain ⟨z0, z1, z2, z3, z4⟩ := h2.sl
               obtain ⟨f0, f1, f2, f3, f4⟩ := h2.sf
               have HR := Lib.hid (sl_set h2 ⟨sh, sw, sc, so, sn⟩)
               have HB := Lib.hid (And.intro (sl_set_but ((But.of_below (S := S) HK.out.2).trans hb1) (.inr (Nat.le_refl _)) ⟨sh, sw, sc, so, sn⟩) (sl_set_but (But.refl (· = w.heap.size) v1) (.inl rfl) ⟨sh, sw, sc, so, sn⟩))
               have HLv := Lib.hid hL
               clear hb1 h2 hL)
  have hRf := HR.out
  have hBf := HB.out
  simp only [Sl.cs] at hRf hBf
  generalize World.setCell _ _ _ = W5 at *
  refine bodyPost_ret (results_cell_row_tmp rfl _ _ w.heap.size 23 _ (0, 0) _ rfl hRf Tryd.underlying23 rfl (by kernel_rfl)) rfl ⟨rfl, hBf.1, v1, w.heap.size, HLv.out, Nat.le_refl _, hBf.2⟩


theorem tdrop_any {w : World} {t p h g : Nat} {X : Pol} {root : Nat} {M : Nat → Sl} {F : Nat → Nat → Nat} {R : Nat → Int} {RS : Nat → ByteArray} (a : Td w t p h g X root) (T : Own7 X root M F R RS) (pg : Int) :
    Calls Tryd.prog 19 #[.pointer (some ⟨t, 0, none⟩), .int .i64 pg] w fun e w' => e = .returned (.tuple #[(gtS' M pg).v, .int .i64 (gtE' M pg)]) ∧ Left7 w w' t p h g X root (if gtE' M pg = 0 then setM M pg.toNat Sl.zero else M) R RS := by
  have hl := a.lts
  refine (drop_of (some ⟨t, 0, none⟩) pg w (gtE' M pg) (gtS' M pg) (fun j => j = h ∨ j = g) (Lib.hid fun j e => by omega) (fun v => ∃ Y G, Td v t p h g Y root ∧ Y.H.length = X.H.length ∧ Own7 Y root (if gtE' M pg = 0 then setM M pg.toNat Sl.zero else M) G R RS) (Lib.hid fun W hb => ?_)).mono ?_
  · have aW := a.on hb
    have hlW := aW.lts
    refine (entry_drop_of (some ⟨t, 0, none⟩) pg W (gtE' M pg) (gtS' M pg) (fun j => j = h ∨ j = g) (Lib.hid fun j e => by omega) (fun v => ∃ Y G, Td v t p h g Y root ∧ Y.H.length = X.H.length ∧ Own7 Y root (if gtE' M pg = 0 then setM M pg.toNat Sl.zero else M) G R RS) (Lib.hid fun V c1 c2 c3 hb' k1 k2 k3 n3 l2 => ?_)).mono ?_
    · exact with_drop (aW.on hb') T pg c1 c2 c3 k1 k2 k3 n3 (by omega)
    · rintro e w' ⟨he, hb', v, c, ⟨Y, G, h1, h2, h3⟩, hc, hx⟩
      exact ⟨he, hb', Y, G, h1.thru hx (by omega) (by omega) (by omega) (by omega) (by omega), h2, h3⟩
  · rintro e w' ⟨he, hb', v, c, ⟨Y, G, h1, h2, h3⟩, hc, hx⟩
    exact ⟨he, hb', Y, G, h1.thru hx (by omega) (by omega) (by omega) (by omega) (by omega), h2, h3⟩
theorem tdrop_nil (pg : Int) (w : World) : Calls Tryd.prog 19 #[.pointer none, .int .i64 pg] w fun e w' => e = .returned (.tuple #[Sl.zero.v, .int .i64 1]) ∧ Below w.heap.size w w' := by
  refine (drop_of none pg w 1 Sl.zero (fun _ => False) (Lib.hid fun j e => e.elim) (fun v => True) (Lib.hid fun W hb => ?_)).mono fun e w' ⟨he, hb, _⟩ => ⟨he, hb.below (Nat.le_refl _) (fun _ e => e.elim)⟩
  refine (entry_drop_of none pg W 1 Sl.zero (fun _ => False) (Lib.hid fun j e => e.elim) (fun v => True) (Lib.hid fun V c1 c2 c3 hb' k1 k2 k3 n3 l2 => ?_)).mono fun e w' ⟨he, hb, _⟩ => ⟨he, hb, trivial⟩
  exact (twith_nil pg _ V).mono fun e w' ⟨he, hw⟩ => by subst hw; exact ⟨he, But.refl _ _, k2, trivial⟩
end Go.Proofs.YtbidlabhekiijaaDoor
