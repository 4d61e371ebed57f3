/- Package radix: with, entry, Get. -/
import Derived.Test.YtbidlabhekiijaaDoorRG
namespace Go.Proofs.YtbidlabhekiijaaDoor
open Go.RowKit
set_option linter.unusedVariables false
set_option linter.unusedSimpArgs false

set_option maxHeartbeats 800000 in
theorem twith_nil (pg : Int) (f : Value) (w : World) : Calls Tryd.prog 41 #[.pointer none, .int .i64 pg, f] w fun e w' => e = .returned (.int .i64 1) ∧ w = w' := by
  go_enter Tryd.func41, Tryd.ntmps41
  go_wp2
  go_ret
  exact ⟨rfl, rfl⟩
set_option maxHeartbeats 800000 in
theorem twith_far (t : Nat) (pg : Int) (f : Value) (w : World) (h : pg < 0 ∨ 4096 ≤ pg) : Calls Tryd.prog 41 #[.pointer (some ⟨t, 0, none⟩), .int .i64 pg, f] w fun e w' => e = .returned (.int .i64 14) ∧ w = w' := by
  by_cases h0 : pg < 0
  · go_enter Tryd.func41, Tryd.ntmps41
    go_wp2
    go_ret
    exact ⟨rfl, rfl⟩
  · have h1 : 4096 ≤ pg := by omega
    clear h
    go_enter Tryd.func41, Tryd.ntmps41
    go_wp2
    go_ret
    exact ⟨rfl, rfl⟩
set_option maxHeartbeats 800000 in
theorem twith_closed (t : Nat) (P : Nat) (hP : P < 4096) (f : Value) (w : World) (hc : w.cell? ⟨t, 0, none⟩ = some (.pointer none)) : Calls Tryd.prog 41 #[.pointer (some ⟨t, 0, none⟩), .int .i64 (P : Nat), f] w fun e w' => e = .returned (.int .i64 13) ∧ w = w' := by
  have HC := Lib.hid (closed_zero t w hc)
  clear hc
  go_enter Tryd.func41, Tryd.ntmps41
  go_wp2_with (go_at_call 58; refine HC.out.mono ?_; rintro e w1 ⟨rfl, rfl⟩)
  go_ret
  exact ⟨rfl, rfl⟩

/-- What with does with a page's way: of Set's closure. -/
theorem with_part (T D : Nat → Int) : wayV T D = .agg #[.int .i64 (T 0), .int .i64 (D 0), .int .i64 (T 1), .int .i64 (D 1), .int .i64 (T 2), .int .i64 (D 2), .int .i64 (T 3), .int .i64 (D 3)] := rfl
set_option maxHeartbeats 1600000 in
theorem twith_set {w : World} {t p h g : Nat} {X : Pol} {root : Nat} {M : Nat → Sl} {F : Nat → Nat → Nat} (a : Td w t p h g X root) (T : Tbl X root M F) (P : Nat) (hP : P < 4096) (c1 c2 : Nat) (R : Ending → World → Prop)
    (hK : Hid (∀ w1, Below w.heap.size w w1 → Calls Tryd.prog 42 #[wayV (wayT F P (kn M P)) (digI P), .int .i64 (kn M P : Nat), .pointer (some ⟨c1, 0, none⟩), .pointer (some ⟨c2, 0, none⟩)] w1 fun e w' => ∃ r : Int, e = .returned (.int .i64 r) ∧ R (.returned (.int .i64 r)) w')) :
    Calls Tryd.prog 41 #[.pointer (some ⟨t, 0, none⟩), .int .i64 (P : Nat), .func (.func 42) #[] #[.pointer (some ⟨c1, 0, none⟩), .pointer (some ⟨c2, 0, none⟩)]] w R := by
  have HC := Lib.hid (closed_no a)
  have HS := Lib.hid (seek_any a T P hP)
  unfold wayV wayC at *
  clear a T
  go_enter Tryd.func41, Tryd.ntmps41
  go_wp2_with (first
    | (go_at_call 58; refine HC.out.mono ?_; rintro e w1 ⟨rfl, rfl⟩)
    | (go_at_call 59; refine HS.out.mono ?_; rintro e w1 ⟨rfl, hb1⟩; have HB1 := Lib.hid hb1; clear hb1)
    | (go_at_call 42; refine (hK.out _ HB1.out).mono ?_; rintro e w2 ⟨r, rfl, hR⟩))
  exact hR
set_option maxHeartbeats 1600000 in
theorem twith_entry {w : World} {t p h g : Nat} {X : Pol} {root : Nat} {M : Nat → Sl} {F : Nat → Nat → Nat} (a : Td w t p h g X root) (T : Tbl X root M F) (P : Nat) (hP : P < 4096) (c1 c2 c3 : Nat) (R : Ending → World → Prop)
    (hK : Hid (∀ w1, Below w.heap.size w w1 → Calls Tryd.prog 51 #[wayV (wayT F P (kn M P)) (digI P), .int .i64 (kn M P : Nat), .pointer (some ⟨c1, 0, none⟩), .pointer (some ⟨c2, 0, none⟩), .pointer (some ⟨c3, 0, none⟩)] w1 fun e w' => ∃ r : Int, e = .returned (.int .i64 r) ∧ R (.returned (.int .i64 r)) w')) :
    Calls Tryd.prog 41 #[.pointer (some ⟨t, 0, none⟩), .int .i64 (P : Nat), .func (.func 51) #[] #[.pointer (some ⟨c1, 0, none⟩), .pointer (some ⟨c2, 0, none⟩), .pointer (some ⟨c3, 0, none⟩)]] w R := by
  have HC := Lib.hid (closed_no a)
  have HS := Lib.hid (seek_any a T P hP)
  unfold wayV wayC at *
  clear a T
  go_enter Tryd.func41, Tryd.ntmps41
  go_wp2_with (first
    | (go_at_call 58; refine HC.out.mono ?_; rintro e w1 ⟨rfl, rfl⟩)
    | (go_at_call 59; refine HS.out.mono ?_; rintro e w1 ⟨rfl, hb1⟩; have HB1 := Lib.hid hb1; clear hb1)
    | (go_at_call 51; refine (hK.out _ HB1.out).mono ?_; rintro e w2 ⟨r, rfl, hR⟩))
  exact hR

theorem read_last {w : World} {t p h g : Nat} {X : Pol} {root : Nat} {M : Nat → Sl} {F : Nat → Nat → Nat} (a : Td w t p h g X root) (T : Tbl X root M F) (P : Nat) (hk : kn M P = 4) :
    Calls Tryd.prog 52 #[.pointer (some ⟨t, 0, none⟩), .agg #[.int .i64 (wayT F P 4 3), .int .i64 (digI P 3)]] w fun e w' => e = .returned (M P).v ∧ Below w.heap.size w w' := by
  have hq : tabl M 3 (pre P 3) := .inr (kn_live (by omega) (by omega))
  have e1 : wayT F P 4 3 = ((F 3 (pre P 3) : Nat) : Int) := if_pos (by omega)
  rw [e1]
  refine (tread_any a ((F 3 (pre P 3) : Nat) : Int) (by obtain ⟨hf, _⟩ := T.frame 3 _ (by omega) hq; have := a.pl.len; exact wf_i64 (by omega) (by omega)) (dig P 3) (dig_lt P 3)).mono ?_
  rintro e w' ⟨he, hb⟩
  exact ⟨by rw [he, tbl_read T a.pl.all a.pl.lenS a.pl.len (by omega) hq (dig_lt P 3), ← pre_succ P 3 (by omega), ent_page, pre_four], hb⟩

/-- Cells of an entry, one by one. -/
theorem Blk.sl {w : World} {g : Nat} {t : TypeId} {s : Sl} (h : Blk w g t s.cs) : w.cell? ⟨g, 0, none⟩ = some (.bool s.h) ∧ w.cell? ⟨g, 1, none⟩ = some (.bool s.w) ∧ w.cell? ⟨g, 2, none⟩ = some (.bool s.c) ∧ w.cell? ⟨g, 3, none⟩ = some (.bool s.o) ∧ w.cell? ⟨g, 4, none⟩ = some (.int .i64 s.n) :=
  ⟨h.at_ 0 _ rfl, h.at_ 1 _ rfl, h.at_ 2 _ rfl, h.at_ 3 _ rfl, h.at_ 4 _ rfl⟩
theorem Blk.sf {w : World} {g : Nat} {t : TypeId} {s : Sl} (h : Blk w g t s.cs) : w.frozen? ⟨g, 0, none⟩ = false ∧ w.frozen? ⟨g, 1, none⟩ = false ∧ w.frozen? ⟨g, 2, none⟩ = false ∧ w.frozen? ⟨g, 3, none⟩ = false ∧ w.frozen? ⟨g, 4, none⟩ = false :=
  ⟨h.frozen 0, h.frozen 1, h.frozen 2, h.frozen 3, h.frozen 4⟩

set_option maxRecDepth 100000 in
set_option maxHeartbeats 1600000 in
/-- The closure of entry where a page has no entry. -/
theorem entry1_none {w : World} {t p h g : Nat} {X : Pol} {root : Nat} {M : Nat → Sl} {F : Nat → Nat → Nat} (a : Td w t p h g X root) (T : Tbl X root M F) (P : Nat) (c1 c2 c3 : Nat)
    (k1 : Blk w c1 33 #[.pointer (some ⟨t, 0, none⟩)]) (k2 : Blk w c2 23 Sl.zero.cs) (hz : M P = Sl.zero) :
    Calls Tryd.prog 51 #[wayV (wayT F P (kn M P)) (digI P), .int .i64 (kn M P : Nat), .pointer (some ⟨c1, 0, none⟩), .pointer (some ⟨c2, 0, none⟩), .pointer (some ⟨c3, 0, none⟩)] w fun e w' =>
      e = .returned (.int .i64 12) ∧ But (· = c2) w w' ∧ Blk w' c2 23 Sl.zero.cs := by
  have HE : Hid (∀ W, Calls Tryd.prog 53 #[.agg #[.bool false, .bool false, .bool false, .bool false, .int .i64 0]] W fun e w' => e = .returned (.bool true) ∧ w' = W.alloc (.cells #[.bool false, .bool false, .bool false, .bool false, .int .i64 0] 23)) := Lib.hid (empty_any Sl.zero)
  have hB := (But.refl (· = c2) w).alloc (.cells (wayC (wayT F P (kn M P)) (digI P)) 80)
  have k2a := k2.alloc (.cells (wayC (wayT F P (kn M P)) (digI P)) 80)
  have hkw := Blk.new w 80 (wayC (wayT F P (kn M P)) (digI P))
  have k1a := k1.alloc (.cells (wayC (wayT F P (kn M P)) (digI P)) 80)
  have a1 := a.alloc (.cells (wayC (wayT F P (kn M P)) (digI P)) 80)
  obtain ⟨W0, hW0⟩ : ∃ W0, w.alloc (.cells (wayC (wayT F P (kn M P)) (digI P)) 80) = W0 := ⟨_, rfl⟩
  rw [hW0] at hB k2a hkw k1a a1
  have hr := kn_range M P
  have c0 := k1a.at_ 0 _ rfl
  obtain ⟨x0, x1, x2, x3, x4⟩ := k2a.sl
  by_cases h4 : kn M P = 4
  · have hrd := read_last a1 T P h4
    rw [hz] at hrd
    have h44 : ((kn M P : Nat) : Int) = 4 := by rw [h4]; rfl
    rw [h44]
    rw [h4] at hkw hW0 ⊢
    unfold wayV
    unfold wayC at hkw hW0 ⊢
    unfold Sl.v at hrd
    unfold Sl.zero at hrd x0 x1 x2 x3 x4
    simp only at hrd x0 x1 x2 x3 x4
    have HRD := Lib.hid hrd
    have HK := Lib.hid (And.intro k2a hB)
    have e0 := hkw.at_ 6 _ rfl
    have e1 := hkw.at_ 7 _ rfl
    clear hrd k2 k2a hB hkw a a1 T hz k1 k1a h4 h44 hr
    go_enter Tryd.func51, Tryd.ntmps51
    go_wp2_with (first
      | (go_at_call 52; (refine HRD.out.mono ?_); rintro e v1 ⟨rfl, hb1⟩
         have HK1 := Lib.hid (And.intro (HK.out.1.below hb1 HK.out.1.lt) (HK.out.2.trans (But.of_below hb1)))
         clear hb1 x0 x1 x2 x3 x4
         obtain ⟨x0, x1, x2, x3, x4⟩ := HK1.out.1.sl
         obtain ⟨f0, f1, f2, f3, f4⟩ := HK1.out.1.sf
         have hs := sl_set HK1.out.1 Sl.zero
         obtain ⟨y0, y1, y2, y3, y4⟩ := hs.sl
         have HS := Lib.hid (And.intro hs (sl_set_but HK1.out.2 (.inl rfl) Sl.zero))
         unfold Sl.zero at x0 x1 x2 x3 x4 y0 y1 y2 y3 y4
         simp only at x0 x1 x2 x3 x4 y0 y1 y2 y3 y4
         clear hs)
      | (go_at_call 53; (refine (HE.out _).mono ?_); rintro e v2 ⟨rfl, rfl⟩))
    go_ret
    exact ⟨rfl, HS.out.2.alloc _, HS.out.1.alloc _⟩
  · have hne : (((kn M P : Nat) : Int) == 4) = false := by simp; omega
    have HZ : Hid (M P = Sl.zero) := Lib.hid hz
    have HK := Lib.hid (And.intro k2a hB)
    generalize kn M P = kk at *
    generalize ((kk : Nat) : Int) = kz at *
    unfold wayV
    unfold wayC at hW0 ⊢
    unfold Sl.zero at x0 x1 x2 x3 x4
    simp only at x0 x1 x2 x3 x4
    clear k2 k2a hB hkw a a1 T hz k1 k1a h4 hr
    go_enter Tryd.func51, Tryd.ntmps51
    go_wp2_with (go_at_call 53; (refine (HE.out _).mono ?_); rintro e v2 ⟨rfl, rfl⟩)
    go_ret
    exact ⟨rfl, HK.out.2.alloc _, HK.out.1.alloc _⟩

set_option maxHeartbeats 400000 in
theorem get1_any (T D : Nat → Int) (w : World) : Calls Tryd.prog 39 #[wayV T D] w fun e w' => e = .returned (.tuple #[]) ∧ Below w.heap.size w w' := by
  unfold wayV wayC
  go_enter Tryd.func39, Tryd.ntmps39
  go_wp2
  go_end0
  exact ⟨rfl, (Below.refl _ _).alloc (Nat.le_refl _) _⟩
set_option maxRecDepth 100000 in
set_option maxHeartbeats 1600000 in
/-- The closure of entry where a page has one. -/
theorem entry1_get {w : World} {t p h g : Nat} {X : Pol} {root : Nat} {M : Nat → Sl} {F : Nat → Nat → Nat} (a : Td w t p h g X root) (T : Tbl X root M F) (P : Nat) (c1 c2 c3 : Nat)
    (k1 : Blk w c1 33 #[.pointer (some ⟨t, 0, none⟩)]) (k2 : Blk w c2 23 Sl.zero.cs) (k3 : Blk w c3 75 #[.func (.func 39) #[] #[]]) (n3 : c2 ≠ c3) (hz : M P ≠ Sl.zero) :
    Calls Tryd.prog 51 #[wayV (wayT F P (kn M P)) (digI P), .int .i64 (kn M P : Nat), .pointer (some ⟨c1, 0, none⟩), .pointer (some ⟨c2, 0, none⟩), .pointer (some ⟨c3, 0, none⟩)] w fun e w' =>
      e = .returned (.int .i64 0) ∧ But (· = c2) w w' ∧ Blk w' c2 23 (M P).cs := by
  have HG := Lib.hid (fun W => get1_any (wayT F P 4) (digI P) W)
  unfold wayV wayC at HG
  have h4 := kn_four hz
  have HE : Hid (∀ W, Calls Tryd.prog 53 #[(M P).v] W fun e w' => e = .returned (.bool false) ∧ Below W.heap.size W w') := Lib.hid fun W => (empty_any (M P) W).mono fun e w' ⟨he, hw⟩ => ⟨by rw [he, Sl.notZ_iff.2 hz], by rw [hw]; exact (Below.refl _ _).alloc (Nat.le_refl _) _⟩
  have h44 : ((kn M P : Nat) : Int) = 4 := by rw [h4]; rfl
  rw [h44]
  rw [h4]
  have hlt := k2.lt
  have hlts := a.lts
  have hB := (But.refl (· = c2) w).alloc (.cells (wayC (wayT F P 4) (digI P)) 80)
  have k2a := k2.alloc (.cells (wayC (wayT F P 4) (digI P)) 80)
  have hkw := Blk.new w 80 (wayC (wayT F P 4) (digI P))
  have k1a := k1.alloc (.cells (wayC (wayT F P 4) (digI P)) 80)
  have k3a := k3.alloc (.cells (wayC (wayT F P 4) (digI P)) 80)
  have a1 := a.alloc (.cells (wayC (wayT F P 4) (digI P)) 80)
  obtain ⟨W0, hW0⟩ : ∃ W0, w.alloc (.cells (wayC (wayT F P 4) (digI P)) 80) = W0 := ⟨_, rfl⟩
  rw [hW0] at hB k2a hkw k1a k3a a1
  have c0 := k1a.at_ 0 _ rfl
  have hrd := read_last a1 T P h4
  have HKW := Lib.hid hkw
  have e0 := (show Blk W0 w.heap.size 80 #[.int .i64 (wayT F P 4 0), .int .i64 (digI P 0), .int .i64 (wayT F P 4 1), .int .i64 (digI P 1), .int .i64 (wayT F P 4 2), .int .i64 (digI P 2), .int .i64 (wayT F P 4 3), .int .i64 (digI P 3)] from hkw).at_ 6 _ rfl
  have e1 := (show Blk W0 w.heap.size 80 #[.int .i64 (wayT F P 4 0), .int .i64 (digI P 0), .int .i64 (wayT F P 4 1), .int .i64 (digI P 1), .int .i64 (wayT F P 4 2), .int .i64 (digI P 2), .int .i64 (wayT F P 4 3), .int .i64 (digI P 3)] from hkw).at_ 7 _ rfl
  unfold wayV
  unfold wayC at hW0 ⊢
  obtain ⟨z, hzz⟩ : ∃ z, M P = z := ⟨_, rfl⟩
  rw [hzz] at HE hrd
  unfold Sl.v at HE hrd
  have HZ := Lib.hid hzz
  have HRD := Lib.hid hrd
  have HK := Lib.hid (And.intro k2a (And.intro hB (And.intro a1 (And.intro k3a hlt))))
  have HLT := Lib.hid (And.intro hlts n3)
  clear hrd k1 k2 k3 k2a k3a hB hkw a a1 T hz k1a h4 h44 hlt hlts n3
  obtain ⟨zh, zw, zc, zo, zn⟩ := z
  simp only at HE HRD
  go_enter Tryd.func51, Tryd.ntmps51
  go_wp2_with (first
    | (go_at_call 52; (refine HRD.out.mono ?_); rintro e v1 ⟨rfl, hb1⟩
       have h2 := HK.out.1.below hb1 HK.out.1.lt
       have hs := sl_set h2 ⟨zh, zw, zc, zo, zn⟩
       obtain ⟨f0, f1, f2, f3, f4⟩ := h2.sf
       obtain ⟨x0, x1, x2, x3, x4⟩ := h2.sl
       obtain ⟨y0, y1, y2, y3, y4⟩ := hs.sl
       have HS := Lib.hid (And.intro hs (And.intro (sl_set_but (HK.out.2.1.trans (But.of_below hb1)) (.inl rfl) ⟨zh, zw, zc, zo, zn⟩) (And.intro (sl_set_but (S := (· = c2)) (But.of_below (S := (· = c2)) hb1) (.inl rfl) ⟨zh, zw, zc, zo, zn⟩) (show w.heap.size < W0.heap.size from HKW.out.lt))))
       simp only at y0 y1 y2 y3 y4 HS
       simp only [Sl.zero] at x0 x1 x2 x3 x4
       clear hs h2 hb1)
    | (go_at_call 53; (refine (HE.out _).mono ?_); rintro e v2 ⟨rfl, hb2⟩
       clear x0 x1 x2 x3 x4 y0 y1 y2 y3 y4 f0 f1 f2 f3 f4 e0 e1 c0
       have h3 := (HK.out.2.2.2.1.but HS.out.2.2.1 (fun e => HLT.out.2 e.symm)).below hb2 (HK.out.2.2.2.1.but HS.out.2.2.1 (fun e => HLT.out.2 e.symm)).lt
       have hw := (HKW.out.but HS.out.2.2.1 (by have := HK.out.2.2.2.2; omega)).below hb2 (HKW.out.but HS.out.2.2.1 (by have := HK.out.2.2.2.2; omega)).lt
       have g0 := h3.at_ 0 _ rfl
       have hw' := hw
       unfold wayC at hw'
       have r0 := hw'.at_ 0 _ rfl
       have r1 := hw'.at_ 1 _ rfl
       have r2 := hw'.at_ 2 _ rfl
       have r3 := hw'.at_ 3 _ rfl
       have r4 := hw'.at_ 4 _ rfl
       have r5 := hw'.at_ 5 _ rfl
       have r6 := hw'.at_ 6 _ rfl
       have r7 := hw'.at_ 7 _ rfl
       have HS2 := Lib.hid (And.intro (HS.out.1.below hb2 HS.out.1.lt) (And.intro (HS.out.2.1.trans (But.of_below hb2)) (HS.out.2.2.1.trans (But.of_below hb2))))
       clear h3 hw hw' hb2)
    | (go_at_call 39; (refine (HG.out _).mono ?_); rintro e v3 ⟨rfl, hb3⟩; have HS3 := Lib.hid (And.intro (HS2.out.1.below hb3 HS2.out.1.lt) (HS2.out.2.1.trans (But.of_below hb3))); clear hb3))
  go_ret
  exact ⟨rfl, HS3.out.2, by rw [HZ.out]; exact HS3.out.1⟩
end Go.Proofs.YtbidlabhekiijaaDoor

/- Package radix: entry, Get. -/
namespace Go.Proofs.YtbidlabhekiijaaDoor
open Go.RowKit
set_option linter.unusedVariables false
set_option linter.unusedSimpArgs false

open Classical in
/-- What a page that is asked for tells: an error, its entry. -/
noncomputable def gtE' (M : Nat → Sl) (pg : Int) : Int := if 0 ≤ pg ∧ pg < 4096 then (if M pg.toNat = Sl.zero then 12 else 0) else 14
open Classical in
noncomputable def gtS' (M : Nat → Sl) (pg : Int) : Sl := if 0 ≤ pg ∧ pg < 4096 then M pg.toNat else Sl.zero

/-- The four cells that entry makes. -/
theorem entry_cells (w : World) (u f : Value) (ft : TypeId) : let W := (((w.alloc (.cells #[u] 33)).alloc (.cells #[f] ft)).alloc (.cells Sl.zero.cs 23)).alloc (.cells Sl.zero.cs 23)
    Blk W w.heap.size 33 #[u] ∧ Blk W (w.heap.size + 1) ft #[f] ∧ Blk W (w.heap.size + 2) 23 Sl.zero.cs ∧ Blk W (w.heap.size + 3) 23 Sl.zero.cs ∧ Below w.heap.size w W ∧ W.heap.size = w.heap.size + 4 := by
  intro W
  have k0 := (((Blk.new w 33 #[u]).alloc (.cells #[f] ft)).alloc (.cells Sl.zero.cs 23)).alloc (.cells Sl.zero.cs 23)
  have k1 := ((Blk.new (w.alloc (.cells #[u] 33)) ft #[f]).alloc (.cells Sl.zero.cs 23)).alloc (.cells Sl.zero.cs 23)
  have k2 := (Blk.new ((w.alloc (.cells #[u] 33)).alloc (.cells #[f] ft)) 23 Sl.zero.cs).alloc (.cells Sl.zero.cs 23)
  have k3 := Blk.new (((w.alloc (.cells #[u] 33)).alloc (.cells #[f] ft)).alloc (.cells Sl.zero.cs 23)) 23 Sl.zero.cs
  simp only [World.size_alloc] at k1 k2 k3
  exact ⟨k0, k1, k2, k3, ((((Below.refl _ w).alloc (Nat.le_refl _) _).alloc (by simp) _).alloc (by simp; omega) _).alloc (by simp; omega) _, by simp [W]⟩

/-- What with does for Get. -/
theorem with_get {w : World} {t p h g : Nat} {X : Pol} {root : Nat} {M : Nat → Sl} {F : Nat → Nat → Nat} (a : Td w t p h g X root) (T : Tbl X root M F) (pg : Int) (c1 c2 c3 : Nat)
    (k1 : Blk w c1 33 #[.pointer (some ⟨t, 0, none⟩)]) (k2 : Blk w c2 23 Sl.zero.cs) (k3 : Blk w c3 75 #[.func (.func 39) #[] #[]]) (n3 : c2 ≠ c3) :
    Calls Tryd.prog 41 #[.pointer (some ⟨t, 0, none⟩), .int .i64 pg, .func (.func 51) #[] #[.pointer (some ⟨c1, 0, none⟩), .pointer (some ⟨c2, 0, none⟩), .pointer (some ⟨c3, 0, none⟩)]] w fun e w' =>
      e = .returned (.int .i64 (gtE' M pg)) ∧ But (· = c2) w w' ∧ Blk w' c2 23 (gtS' M pg).cs := by
  by_cases hin : 0 ≤ pg ∧ pg < 4096
  · obtain ⟨P, rfl⟩ : ∃ P : Nat, pg = P := ⟨pg.toNat, by omega⟩
    have hP : P < 4096 := by omega
    have e2 : gtS' M P = M P := by unfold gtS'; rw [if_pos hin]; rfl
    refine twith_entry a T P hP c1 c2 c3 _ (Lib.hid fun w1 hb => ?_)
    have a1 := a.on hb
    have j1 := k1.below hb k1.lt
    have j2 := k2.below hb k2.lt
    have j3 := k3.below hb k3.lt
    by_cases hz : M P = Sl.zero
    · have e1 : gtE' M P = 12 := by unfold gtE'; rw [if_pos hin, if_pos (by simpa using hz)]
      refine (entry1_none a1 T P c1 c2 c3 j1 j2 hz).mono fun e w' ⟨he, hb', hk⟩ => ⟨12, he, ?_⟩
      rw [e1, e2, hz]
      exact ⟨rfl, (But.of_below hb).trans hb', hk⟩
    · have e1 : gtE' M P = 0 := by unfold gtE'; rw [if_pos hin, if_neg (by simpa using hz)]
      refine (entry1_get a1 T P c1 c2 c3 j1 j2 j3 n3 hz).mono fun e w' ⟨he, hb', hk⟩ => ⟨0, he, ?_⟩
      rw [e1, e2]
      exact ⟨rfl, (But.of_below hb).trans hb', hk⟩
  · have e1 : gtE' M pg = 14 := by unfold gtE'; rw [if_neg hin]
    have e2 : gtS' M pg = Sl.zero := by unfold gtS'; rw [if_neg hin]
    rw [e1, e2]
    exact (twith_far t pg _ w (by omega)).mono fun e w' ⟨he, hw⟩ => by subst hw; exact ⟨he, But.refl _ _, k2⟩

set_option maxRecDepth 100000 in
set_option maxHeartbeats 1600000 in
theorem entry_get_of (tp : Option Addr) (pg : Int) (w : World) (E : Int) (s : Sl)
    (hW : Hid (∀ W c1 c2 c3, Below w.heap.size w W → Blk W c1 33 #[.pointer tp] → Blk W c2 23 Sl.zero.cs → Blk W c3 75 #[.func (.func 39) #[] #[]] → c2 ≠ c3 →
      Calls Tryd.prog 41 #[.pointer tp, .int .i64 pg, .func (.func 51) #[] #[.pointer (some ⟨c1, 0, none⟩), .pointer (some ⟨c2, 0, none⟩), .pointer (some ⟨c3, 0, none⟩)]] W fun e w' =>
        e = .returned (.int .i64 E) ∧ But (· = c2) W w' ∧ Blk w' c2 23 s.cs)) :
    Calls Tryd.prog 36 #[.pointer tp, .int .i64 pg, .func (.func 39) #[] #[]] w fun e w' => e = .returned (.tuple #[s.v, .int .i64 E]) ∧ Below w.heap.size w w' := by
  have hmf : ∀ (fn : Fn) (first cap : Array Value) (w : World), (Instr.makeFunc fn first cap).run Tryd.prog w = .ok (.func fn first cap) w := fun _ _ _ _ => rfl
  obtain ⟨k0, k1, k2, k3, hB, hsz⟩ := entry_cells w (.pointer tp) (.func (.func 39) #[] #[]) 75
  obtain ⟨W0, hW0⟩ : ∃ W0, (((w.alloc (.cells #[.pointer tp] 33)).alloc (.cells #[.func (.func 39) #[] #[]] 75)).alloc (.cells Sl.zero.cs 23)).alloc (.cells Sl.zero.cs 23) = W0 := ⟨_, rfl⟩
  rw [hW0] at k0 k1 k2 k3 hB hsz
  obtain ⟨f0, f1, f2, f3, f4⟩ := k3.sf
  obtain ⟨x0, x1, x2, x3, x4⟩ := k3.sl
  have j0 := sl_set_far k0 (show w.heap.size ≠ w.heap.size + 1 + 1 + 1 by omega) Sl.zero
  have j1 := sl_set_far k1 (show w.heap.size + 1 ≠ w.heap.size + 1 + 1 + 1 by omega) Sl.zero
  have j2 := sl_set_far k2 (show w.heap.size + 2 ≠ w.heap.size + 1 + 1 + 1 by omega) Sl.zero
  have j3 := sl_set (show Blk W0 (w.heap.size + 1 + 1 + 1) 23 Sl.zero.cs from k3) Sl.zero
  have jB := sl_set_below hB (show w.heap.size ≤ w.heap.size + 1 + 1 + 1 by omega) Sl.zero
  obtain ⟨W1, hW1⟩ : ∃ W1, (((((W0.setCell ⟨w.heap.size + 1 + 1 + 1, 0, none⟩ (.bool Sl.zero.h)).setCell ⟨w.heap.size + 1 + 1 + 1, 1, none⟩ (.bool Sl.zero.w)).setCell ⟨w.heap.size + 1 + 1 + 1, 2, none⟩ (.bool Sl.zero.c)).setCell ⟨w.heap.size + 1 + 1 + 1, 3, none⟩ (.bool Sl.zero.o)).setCell ⟨w.heap.size + 1 + 1 + 1, 4, none⟩ (.int .i64 Sl.zero.n)) = W1 := ⟨_, rfl⟩
  rw [hW1] at j0 j1 j2 j3 jB
  have HU := Lib.hid (hW.out W1 w.heap.size (w.heap.size + 1 + 1 + 1) (w.heap.size + 1) jB j0 j3 j1 (by omega))
  have c0 := j0.at_ 0 _ rfl
  have HK := Lib.hid (And.intro j2 jB)
  unfold Sl.zero at hW1 x0 x1 x2 x3 x4
  simp only at hW1 x0 x1 x2 x3 x4
  unfold Sl.cs Sl.zero at hW0
  simp only at hW0
  clear k0 k1 k2 k3 hB hW hsz j0 j1 j2 j3 jB
  obtain ⟨sh, sw, sc, so, sn⟩ := s
  go_enter Tryd.func36, Tryd.ntmps36
  go_wp2_with (go_at_call 41; (refine HU.out.mono ?_); rintro e v1 ⟨rfl, hb1, hs1⟩
               obtain ⟨x0, x1, x2, x3, x4⟩ := hs1.sl
               simp only at x0 x1 x2 x3 x4
               have h2 := HK.out.1.but hb1 (by omega)
               obtain ⟨z0, z1, z2, z3, z4⟩ := h2.sl
               obtain ⟨f0, f1, f2, f3, f4⟩ := h2.sf
               have HR := Lib.hid (sl_set h2 ⟨sh, sw, sc, so, sn⟩)
               have HB := Lib.hid (sl_set_below (HK.out.2.trans (hb1.below HK.out.2.size (fun j e => by omega))) (show w.heap.size ≤ w.heap.size + 2 by omega) ⟨sh, sw, sc, so, sn⟩)
               clear hb1 hs1 h2)
  have hRf := HR.out
  have hBf := HB.out
  simp only [Sl.cs] at hRf hBf
  generalize World.setCell _ _ _ = W5 at *
  refine bodyPost_ret (results_cell_row_tmp rfl _ _ (w.heap.size + 2) 23 _ (0, 0) _ rfl hRf Tryd.underlying23 rfl (by kernel_rfl)) rfl ⟨rfl, hBf⟩

theorem get_cells (w : World) : Blk (w.alloc (.cells Sl.zero.cs 23)) w.heap.size 23 Sl.zero.cs ∧ Below w.heap.size w (w.alloc (.cells Sl.zero.cs 23)) := ⟨Blk.new _ _ _, (Below.refl _ _).alloc (Nat.le_refl _) _⟩
set_option maxRecDepth 100000 in
set_option maxHeartbeats 1600000 in
theorem get_of (tp : Option Addr) (pg : Int) (w : World) (E : Int) (s : Sl)
    (hW : Hid (∀ W, Below w.heap.size w W → Calls Tryd.prog 36 #[.pointer tp, .int .i64 pg, .func (.func 39) #[] #[]] W fun e w' => e = .returned (.tuple #[s.v, .int .i64 E]) ∧ Below W.heap.size W w')) :
    Calls Tryd.prog 21 #[.pointer tp, .int .i64 pg] w fun e w' => e = .returned (.tuple #[s.v, .int .i64 E]) ∧ Below w.heap.size w w' := by
  obtain ⟨k0, hB⟩ := get_cells w
  obtain ⟨W0, hW0⟩ : ∃ W0, w.alloc (.cells Sl.zero.cs 23) = W0 := ⟨_, rfl⟩
  rw [hW0] at k0 hB
  have HU := Lib.hid (hW.out W0 hB)
  have HK := Lib.hid (And.intro k0 hB)
  unfold Sl.cs Sl.zero at hW0
  simp only at hW0
  clear k0 hB hW
  obtain ⟨sh, sw, sc, so, sn⟩ := s
  unfold Sl.v at *
  simp only at *
  go_enter Tryd.func21, Tryd.ntmps21
  go_wp2_with (go_at_call 36; (refine HU.out.mono ?_); rintro e v1 ⟨rfl, hb1⟩
               have h2 := HK.out.1.below hb1 HK.out.1.lt
               obtain ⟨z0, z1, z2, z3, z4⟩ := h2.sl
               obtain ⟨f0, f1, f2, f3, f4⟩ := h2.sf
               have HR := Lib.hid (sl_set h2 ⟨sh, sw, sc, so, sn⟩)
               have HB := Lib.hid (sl_set_below (HK.out.2.trans (hb1.mono HK.out.2.size)) (Nat.le_refl _) ⟨sh, sw, sc, so, sn⟩)
               clear hb1 h2)
  have hRf := HR.out
  have hBf := HB.out
  simp only [Sl.cs] at hRf hBf
  generalize World.setCell _ _ _ = W5 at *
  refine bodyPost_ret (results_cell_row_tmp rfl _ _ w.heap.size 23 _ (0, 0) _ rfl hRf Tryd.underlying23 rfl (by kernel_rfl)) rfl ⟨rfl, hBf⟩

theorem tget_any {w : World} {t p h g : Nat} {X : Pol} {root : Nat} {M : Nat → Sl} {F : Nat → Nat → Nat} (a : Td w t p h g X root) (T : Tbl X root M F) (pg : Int) :
    Calls Tryd.prog 21 #[.pointer (some ⟨t, 0, none⟩), .int .i64 pg] w fun e w' => e = .returned (.tuple #[(gtS' M pg).v, .int .i64 (gtE' M pg)]) ∧ Below w.heap.size w w' :=
  get_of _ pg w _ _ (Lib.hid fun W hb => entry_get_of _ pg W _ _ (Lib.hid fun V c1 c2 c3 hb' k1 k2 k3 n3 => with_get ((a.on hb).on hb') T pg c1 c2 c3 k1 k2 k3 n3))
theorem tget_nil (pg : Int) (w : World) : Calls Tryd.prog 21 #[.pointer none, .int .i64 pg] w fun e w' => e = .returned (.tuple #[Sl.zero.v, .int .i64 1]) ∧ Below w.heap.size w w' :=
  get_of _ pg w _ _ (Lib.hid fun W hb => entry_get_of _ pg W _ _ (Lib.hid fun V c1 c2 c3 hb' k1 k2 k3 n3 => (twith_nil pg _ V).mono fun e w' ⟨he, hw⟩ => by subst hw; exact ⟨he, But.refl _ _, k2⟩))
theorem tget_closed (t : Nat) (r : Int) (P : Nat) (hP : P < 4096) (w : World) (hc : Blk w t 63 #[.pointer none, .int .i64 r]) : Calls Tryd.prog 21 #[.pointer (some ⟨t, 0, none⟩), .int .i64 (P : Nat)] w fun e w' => e = .returned (.tuple #[Sl.zero.v, .int .i64 13]) ∧ Below w.heap.size w w' :=
  get_of _ P w _ _ (Lib.hid fun W hb => entry_get_of _ P W _ _ (Lib.hid fun V c1 c2 c3 hb' k1 k2 k3 n3 => (twith_closed t P hP _ V (((hc.below hb hc.lt).below hb' (hc.below hb hc.lt).lt).at_ 0 _ rfl)).mono fun e w' ⟨he, hw⟩ => by subst hw; exact ⟨he, But.refl _ _, k2⟩))
end Go.Proofs.YtbidlabhekiijaaDoor
