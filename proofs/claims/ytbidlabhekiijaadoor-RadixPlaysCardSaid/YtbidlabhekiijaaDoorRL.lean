/- Package radix: grow. -/
import Derived.Test.YtbidlabhekiijaaDoorRJ
namespace Go.Proofs.YtbidlabhekiijaaDoor
open Go.RowKit
set_option linter.unusedVariables false
set_option linter.unusedSimpArgs false

theorem way_set_but {w : World} {g : Nat} (v0 v1 v2 v3 v4 v5 v6 v7 : Value) :
    But (· = g) w ((((((((w.setCell ⟨g, 0, none⟩ v0).setCell ⟨g, 1, none⟩ v1).setCell ⟨g, 2, none⟩ v2).setCell ⟨g, 3, none⟩ v3).setCell ⟨g, 4, none⟩ v4).setCell ⟨g, 5, none⟩ v5).setCell ⟨g, 6, none⟩ v6).setCell ⟨g, 7, none⟩ v7) :=
  ((((((((But.refl (· = g) w).setCell (p := ⟨g, 0, none⟩) (.inl rfl) _).setCell (p := ⟨g, 1, none⟩) (.inl rfl) _).setCell (p := ⟨g, 2, none⟩) (.inl rfl) _).setCell (p := ⟨g, 3, none⟩) (.inl rfl) _).setCell (p := ⟨g, 4, none⟩) (.inl rfl) _).setCell (p := ⟨g, 5, none⟩) (.inl rfl) _).setCell (p := ⟨g, 6, none⟩) (.inl rfl) _).setCell (p := ⟨g, 7, none⟩) (.inl rfl) _
/-- A table that was taken is given back. -/
theorem give_call {W : World} {t p h g : Nat} {X : Pol} {root : Int} {R : Nat → Int} {RS : Nat → ByteArray} {M : Nat → Sl} {F G : Nat → Nat → Nat} {P k i : Nat} (a : Td W t p h g X root) (T : Giving X R RS M F G P k i) (hK : kn M P ≤ k) (hi : k < i) (h4 : i ≤ 4) :
    Calls Tryd.prog 48 #[.pointer (some ⟨p, 0, none⟩), .int .i64 (wayT G P i k)] W fun e w' => e = .returned (.int .i64 0) ∧ But (fun j => j = h ∨ j = g) W w' ∧ ∃ Y, Td w' t p h g Y root ∧ Giving Y R RS M F G P (k + 1) i ∧ Y.H.length = X.H.length := by
  obtain ⟨s1, s2, s3⟩ := T.step hK hi h4
  rw [show wayT G P i k = ((G k (pre P k) : Nat) : Int) from if_pos hi]
  refine (pdrop_any a.pl _).mono ?_
  rintro e w' ⟨he, hb, hp⟩
  rw [s2] at he
  exact ⟨he, hb.mono fun _ e => .inl e, _, a.buth hb hp, s3, by rw [s1]; simp [Pol.drF]⟩
/-- The entry that leads to a new table is written. -/
theorem put_call {W : World} {t p h g : Nat} {X : Pol} {root : Int} {R : Nat → Int} {RS : Nat → ByteArray} {M : Nat → Sl} {F G : Nat → Nat → Nat} {P K i : Nat} (a : Td W t p h g X root) (T : Putting X R RS M F G P K (i + 1)) (hK : kn M P = K) (hP : P < 4096) (hi : K ≤ i + 1) (h4 : i + 1 < 4) :
    Calls Tryd.prog 44 #[.pointer (some ⟨t, 0, none⟩), .agg #[.int .i64 (wayT G P 4 i), .int .i64 (digI P i)], .agg #[.bool true, .bool false, .bool false, .bool false, .int .i64 (wayT G P 4 (i + 1))]] W fun e w' =>
      (∃ r, e = .returned (.int .i64 r)) ∧ But (fun j => j = h ∨ j = g) W w' ∧ ∃ Y, Td w' t p h g Y root ∧ Putting Y R RS M F G P K (i + 2) ∧ Y.H.length = X.H.length := by
  obtain ⟨s1, s2⟩ := T.step a.pl.fit hK hP hi h4
  rw [show wayT G P 4 i = ((G i (pre P i) : Nat) : Int) from if_pos (by omega), show wayT G P 4 (i + 1) = ((G (i + 1) (pre P (i + 1)) : Nat) : Int) from if_pos (by omega)]
  have hlt := T.lay.lt i _ (by omega) (grow_way hK hP (show i < 4 by omega))
  have hm := a.pl.len
  refine (twrite_any a _ (wf_i64 (by omega) (by omega)) (dig P i) (dig_lt P i) ⟨true, false, false, false, (G (i + 1) (pre P (i + 1)) : Nat)⟩).mono ?_
  rintro e w' ⟨he, hb, ha⟩
  exact ⟨⟨_, he⟩, hb.mono fun _ e => .inr e, _, ha, s2, by rw [s1]; rfl⟩

/-- What grow leaves. -/
def Grown (w : World) (t p h g : Nat) (X : Pol) (root : Nat) (M : Nat → Sl) (F : Nat → Nat → Nat) (R : Nat → Int) (RS : Nat → ByteArray) (P : Nat) (e : Ending) (w' : World) : Prop :=
  But (fun j => j = h ∨ j = g) w w' ∧ ∃ Y, Td w' t p h g Y root ∧ Y.H.length = X.H.length ∧
    ((4 - kn M P ≤ freeN X.H ∧ ∃ G, e = .returned (.tuple #[wayV (wayT G P 4) (digI P), .int .i64 0]) ∧ Putting Y R RS M F G P (kn M P) 4) ∨
     (¬ 4 - kn M P ≤ freeN X.H ∧ ∃ T D, e = .returned (.tuple #[wayV T D, .int .i64 18]) ∧ Own7 Y root M F R RS))

set_option maxRecDepth 100000 in
set_option maxHeartbeats 6400000 in
theorem grow_any {w : World} {t p h g : Nat} {X : Pol} {root : Nat} {M : Nat → Sl} {F : Nat → Nat → Nat} {R : Nat → Int} {RS : Nat → ByteArray} (a : Td w t p h g X root) (T : Own7 X root M F R RS) (P : Nat) (hP : P < 4096) :
    Calls Tryd.prog 43 #[.pointer (some ⟨t, 0, none⟩), wayV (wayT F P (kn M P)) (digI P), .int .i64 (kn M P : Nat)] w (Grown w t p h g X root M F R RS P) := by
  have hk := kn_range M P
  have hst := Taking.start T P (kn M P)
  have hfit := a.pl.fit
  have k0 := (Blk.new w 80 (wayC (wayT F P (kn M P)) (digI P))).alloc (.cells #[.int .i64 0, .int .i64 0, .int .i64 0, .int .i64 0, .int .i64 0, .int .i64 0, .int .i64 0, .int .i64 0] 80)
  have k1 := Blk.new (w.alloc (.cells (wayC (wayT F P (kn M P)) (digI P)) 80)) 80 #[.int .i64 0, .int .i64 0, .int .i64 0, .int .i64 0, .int .i64 0, .int .i64 0, .int .i64 0, .int .i64 0]
  have hB := ((But.refl (fun j => j = h ∨ j = g) w).alloc (.cells (wayC (wayT F P (kn M P)) (digI P)) 80)).alloc (.cells #[.int .i64 0, .int .i64 0, .int .i64 0, .int .i64 0, .int .i64 0, .int .i64 0, .int .i64 0, .int .i64 0] 80)
  have a2 := (a.alloc (.cells (wayC (wayT F P (kn M P)) (digI P)) 80)).alloc (.cells #[.int .i64 0, .int .i64 0, .int .i64 0, .int .i64 0, .int .i64 0, .int .i64 0, .int .i64 0, .int .i64 0] 80)
  rw [World.size_alloc] at k1
  have hlts := a.lts
  unfold Grown
  generalize hK : kn M P = K at *
  have HS := Lib.hid (And.intro hst (And.intro hfit (And.intro k0 (And.intro k1 (And.intro hB a2)))))
  have HT := Lib.hid (And.intro T (And.intro hK hP))
  have LT := Lib.hid hlts
  unfold wayV
  unfold wayC
  clear a T hst hfit k0 k1 hB a2 hlts hK
  go_enter Tryd.func43, Tryd.ntmps43
  go_wp2_with fail
  go_loopw [8] (fun ii wr => ∃ (i : Nat) (G : Nat → Nat → Nat) (Y : Pol), K ≤ i ∧ i ≤ 4 ∧ ii = .int .i64 i ∧ Taking Y R RS M F G P K i (freeN X.H) ∧ Fit Y ∧ Y.H.length = X.H.length ∧ Blk wr w.heap.size 80 (wayC (wayT G P i) (digI P)) ∧ Blk wr (w.heap.size + 1) 80 #[.int .i64 0, .int .i64 0, .int .i64 0, .int .i64 0, .int .i64 0, .int .i64 0, .int .i64 0, .int .i64 0] ∧ But (fun j => j = h ∨ j = g) w wr ∧ Td wr t p h g Y root) (fun ii _ => 4 - (intOf ii).toNat)
  case atStart => exact ⟨K, F, X, Nat.le_refl _, hk.2, rfl, HS.out.1, HS.out.2.1, rfl, HS.out.2.2.1, HS.out.2.2.2.1, HS.out.2.2.2.2.1, HS.out.2.2.2.2.2⟩
  case round =>
    obtain ⟨i, G, Y, hKi, hi4, rfl, hTk, hFt, hlen, hw0, hw1, hBr, hAr⟩ := hrel
    have htk := ptake_any hAr.pl
    have n1 := LT.out
    have hhd := hAr.head.at_ 0 _ rfl
    by_cases hlt : i < 4
    · by_cases hf : freeAt Y.H < Y.H.length
      · obtain ⟨s1, s2, s3⟩ := hTk.step hFt HT.out.2.1 hKi hlt hf
        rw [show tkV Y.H = freeAt Y.H by unfold tkV; rw [if_pos hf], show tkE Y.H = 0 by unfold tkE; rw [if_pos hf]] at htk
        have hlen' : Y.tkX.H.length = X.H.length := by unfold Pol.tkX; rw [if_pos hf]; simpa using hlen
        have HTK := Lib.hid htk
        have HQ := Lib.hid (And.intro s1 (And.intro s2 hlen'))
        have HW := Lib.hid (And.intro hw0 (And.intro hw1 (And.intro hBr hAr)))
        clear htk s1 s2 s3 hw0 hw1 hBr hAr hTk hFt hf hlen hlen'
        generalize freeAt Y.H = f at *
        generalize Y.tkX = Z at *
        have hcase : i = 1 ∨ i = 2 ∨ i = 3 := by omega
        clear hi4 hlt
        rcases hcase with rfl | rfl | rfl
        · go_wp2_with (go_at_call 35; (refine HTK.out.mono ?_); rintro e v1 ⟨rfl, hb1, ha1⟩
                       have HW1 := Lib.hid (And.intro (HW.out.1.but hb1 (by omega)) (And.intro (HW.out.2.1.but hb1 (by omega)) (And.intro (HW.out.2.2.1.trans hb1) (HW.out.2.2.2.but hb1 ha1))))
                       have j0 := HW1.out.1
                       unfold wayC at j0
                       have y0 := j0.at_ 2 _ rfl
                       have g0 := j0.frozen 2
                       clear hb1 ha1 j0)
          go_roundw
          case rel =>
            exact ⟨2, updF G 1 (pre P 1) f, Z, by omega, by omega, rfl, HQ.out.1, HQ.out.2.1, HQ.out.2.2, (HW1.out.1.set_ 2 _).cast (by simp [wayC, wayT, updF]), HW1.out.2.1.far (by show w.heap.size + 1 ≠ w.heap.size; omega) _, HW1.out.2.2.1.setCell (p := ⟨w.heap.size, _, none⟩) (.inr (Nat.le_refl _)) _, HW1.out.2.2.2.far (by show t < w.heap.size ∧ p < w.heap.size ∧ h < w.heap.size ∧ g < w.heap.size ∧ 0 < w.heap.size; exact n1) _⟩
          case measure => simp [intOf]
        · go_wp2_with (go_at_call 35; (refine HTK.out.mono ?_); rintro e v1 ⟨rfl, hb1, ha1⟩
                       have HW1 := Lib.hid (And.intro (HW.out.1.but hb1 (by omega)) (And.intro (HW.out.2.1.but hb1 (by omega)) (And.intro (HW.out.2.2.1.trans hb1) (HW.out.2.2.2.but hb1 ha1))))
                       have j0 := HW1.out.1
                       unfold wayC at j0
                       have y0 := j0.at_ 4 _ rfl
                       have g0 := j0.frozen 4
                       clear hb1 ha1 j0)
          go_roundw
          case rel =>
            exact ⟨3, updF G 2 (pre P 2) f, Z, by omega, by omega, rfl, HQ.out.1, HQ.out.2.1, HQ.out.2.2, (HW1.out.1.set_ 4 _).cast (by simp [wayC, wayT, updF]), HW1.out.2.1.far (by show w.heap.size + 1 ≠ w.heap.size; omega) _, HW1.out.2.2.1.setCell (p := ⟨w.heap.size, _, none⟩) (.inr (Nat.le_refl _)) _, HW1.out.2.2.2.far (by show t < w.heap.size ∧ p < w.heap.size ∧ h < w.heap.size ∧ g < w.heap.size ∧ 0 < w.heap.size; exact n1) _⟩
          case measure => simp [intOf]
        · go_wp2_with (go_at_call 35; (refine HTK.out.mono ?_); rintro e v1 ⟨rfl, hb1, ha1⟩
                       have HW1 := Lib.hid (And.intro (HW.out.1.but hb1 (by omega)) (And.intro (HW.out.2.1.but hb1 (by omega)) (And.intro (HW.out.2.2.1.trans hb1) (HW.out.2.2.2.but hb1 ha1))))
                       have j0 := HW1.out.1
                       unfold wayC at j0
                       have y0 := j0.at_ 6 _ rfl
                       have g0 := j0.frozen 6
                       clear hb1 ha1 j0)
          go_roundw
          case rel =>
            exact ⟨4, updF G 3 (pre P 3) f, Z, by omega, by omega, rfl, HQ.out.1, HQ.out.2.1, HQ.out.2.2, (HW1.out.1.set_ 6 _).cast (by simp [wayC, wayT, updF]), HW1.out.2.1.far (by show w.heap.size + 1 ≠ w.heap.size; omega) _, HW1.out.2.2.1.setCell (p := ⟨w.heap.size, _, none⟩) (.inr (Nat.le_refl _)) _, HW1.out.2.2.2.far (by show t < w.heap.size ∧ p < w.heap.size ∧ h < w.heap.size ∧ g < w.heap.size ∧ 0 < w.heap.size; exact n1) _⟩
          case measure => simp [intOf]
      · have hno : ¬ 4 - K ≤ freeN X.H := by
          have h1 := hTk.free
          have h2 : ¬ 0 < freeN Y.H := fun h => hf (freeN_some.2 h)
          omega
        rw [show tkV Y.H = 0 by unfold tkV; rw [if_neg hf], show tkE Y.H = 18 by unfold tkE; rw [if_neg hf], show Y.tkX = Y by unfold Pol.tkX; rw [if_neg hf]] at htk
        have hGv : Giving Y R RS M F G P K i := ⟨hTk.lay, hTk.agree⟩
        have HTK := Lib.hid htk
        have HQ := Lib.hid (And.intro hGv (And.intro hFt (And.intro hlen hno)))
        have HW := Lib.hid (And.intro hw0 (And.intro hw1 (And.intro hBr hAr)))
        clear htk hw0 hw1 hBr hAr hTk hFt hf hlen hno hGv
        have hcase : (K = 1 ∧ i = 1) ∨ (K = 1 ∧ i = 2) ∨ (K = 1 ∧ i = 3) ∨ (K = 2 ∧ i = 2) ∨ (K = 2 ∧ i = 3) ∨ (K = 3 ∧ i = 3) := by omega
        clear hi4 hlt hKi hk
        rcases hcase with ⟨rfl, rfl⟩ | ⟨rfl, rfl⟩ | ⟨rfl, rfl⟩ | ⟨rfl, rfl⟩ | ⟨rfl, rfl⟩ | ⟨rfl, rfl⟩
        · go_wp2_with (go_at_call 35; (refine HTK.out.mono ?_); rintro e v1 ⟨rfl, hb1, ha1⟩
                       have HW1 := Lib.hid (And.intro (HW.out.1.but hb1 (by omega)) (And.intro (HW.out.2.1.but hb1 (by omega)) (And.intro (HW.out.2.2.1.trans hb1) (HW.out.2.2.2.but hb1 ha1))))
                       clear hb1 ha1)
          go_loopw [33] (fun jj wx => ∃ (j : Nat) (Z : Pol), j ≤ 0 ∧ jj = .int .i64 j ∧ Giving Z R RS M F G P (1 + j) 1 ∧ Z.H.length = X.H.length ∧ Blk wx w.heap.size 80 (wayC (wayT G P 1) (digI P)) ∧ Blk wx (w.heap.size + 1) 80 #[.int .i64 0, .int .i64 0, .int .i64 0, .int .i64 0, .int .i64 0, .int .i64 0, .int .i64 0, .int .i64 0] ∧ But (fun j => j = h ∨ j = g) w wx ∧ Td wx t p h g Z root) (fun jj _ => 0 - (intOf jj).toNat)
          case atStart => exact ⟨0, Y, Nat.zero_le _, rfl, HQ.out.1, HQ.out.2.2.1, HW1.out⟩
          case round =>
            obtain ⟨j, Z, hjn, rfl, hGv, hlen, hw0, hw1, hBx, hAx⟩ := hrel
            clear HW1 HW HTK hhd
            have hhx := hAx.head.at_ 0 _ rfl
            have HQ2 := Lib.hid (And.intro hGv hlen)
            have HW := Lib.hid (And.intro hw0 (And.intro hw1 (And.intro hBx hAx)))
            clear hGv hlen hw1 hBx hAx
            unfold wayC at hw0
            have hj : j = 0 := by omega
            clear hjn
            rcases hj with rfl
            · have hk3 := HW.out.2.1
              have y0 := hw0.at_ 0 _ rfl
              have y1 := hw0.at_ 1 _ rfl
              have y2 := hw0.at_ 2 _ rfl
              have y3 := hw0.at_ 3 _ rfl
              have y4 := hw0.at_ 4 _ rfl
              have y5 := hw0.at_ 5 _ rfl
              have y6 := hw0.at_ 6 _ rfl
              have y7 := hw0.at_ 7 _ rfl
              have z0 := hk3.at_ 0 _ rfl
              have x0 := hk3.frozen 0
              have z1 := hk3.at_ 1 _ rfl
              have x1 := hk3.frozen 1
              have z2 := hk3.at_ 2 _ rfl
              have x2 := hk3.frozen 2
              have z3 := hk3.at_ 3 _ rfl
              have x3 := hk3.frozen 3
              have z4 := hk3.at_ 4 _ rfl
              have x4 := hk3.frozen 4
              have z5 := hk3.at_ 5 _ rfl
              have x5 := hk3.frozen 5
              have z6 := hk3.at_ 6 _ rfl
              have x6 := hk3.frozen 6
              have z7 := hk3.at_ 7 _ rfl
              have x7 := hk3.frozen 7
              clear hw0 hk3
              go_wp2
              have hRf := way_set HW.out.2.1 (.int .i64 (wayT G P 1 0)) (.int .i64 (digI P 0)) (.int .i64 (wayT G P 1 1)) (.int .i64 (digI P 1)) (.int .i64 (wayT G P 1 2)) (.int .i64 (digI P 2)) (.int .i64 (wayT G P 1 3)) (.int .i64 (digI P 3))
              have hBf := way_set_but (w := wr) (g := w.heap.size + 1) (.int .i64 (wayT G P 1 0)) (.int .i64 (digI P 0)) (.int .i64 (wayT G P 1 1)) (.int .i64 (digI P 1)) (.int .i64 (wayT G P 1 2)) (.int .i64 (digI P 2)) (.int .i64 (wayT G P 1 3)) (.int .i64 (digI P 3))
              have hTf := HW.out.2.2.2.thru hBf (by omega) (by omega) (by omega) (by omega) (by omega)
              have hBw := HW.out.2.2.1.thru hBf (fun j e => .inr (by omega))
              try rw [Exit.noGoto_ret]
              generalize World.setCell _ _ _ = W5 at *
              refine bodyPost_ret (results_cell_row_tmp rfl _ _ (w.heap.size + 1) 80 _ (0, 0) _ rfl hRf Tryd.underlying80 rfl (by kernel_rfl)) rfl ⟨hBw, Z, hTf, HQ2.out.2, .inr ⟨HQ.out.2.2.2, wayT G P 1, digI P, rfl, HQ2.out.1.done HT.out.1.ents HT.out.1.root⟩⟩
        · go_wp2_with (go_at_call 35; (refine HTK.out.mono ?_); rintro e v1 ⟨rfl, hb1, ha1⟩
                       have HW1 := Lib.hid (And.intro (HW.out.1.but hb1 (by omega)) (And.intro (HW.out.2.1.but hb1 (by omega)) (And.intro (HW.out.2.2.1.trans hb1) (HW.out.2.2.2.but hb1 ha1))))
                       clear hb1 ha1)
          go_loopw [33] (fun jj wx => ∃ (j : Nat) (Z : Pol), j ≤ 1 ∧ jj = .int .i64 j ∧ Giving Z R RS M F G P (1 + j) 2 ∧ Z.H.length = X.H.length ∧ Blk wx w.heap.size 80 (wayC (wayT G P 2) (digI P)) ∧ Blk wx (w.heap.size + 1) 80 #[.int .i64 0, .int .i64 0, .int .i64 0, .int .i64 0, .int .i64 0, .int .i64 0, .int .i64 0, .int .i64 0] ∧ But (fun j => j = h ∨ j = g) w wx ∧ Td wx t p h g Z root) (fun jj _ => 1 - (intOf jj).toNat)
          case atStart => exact ⟨0, Y, Nat.zero_le _, rfl, HQ.out.1, HQ.out.2.2.1, HW1.out⟩
          case round =>
            obtain ⟨j, Z, hjn, rfl, hGv, hlen, hw0, hw1, hBx, hAx⟩ := hrel
            clear HW1 HW HTK hhd
            have hhx := hAx.head.at_ 0 _ rfl
            have HQ2 := Lib.hid (And.intro hGv hlen)
            have HW := Lib.hid (And.intro hw0 (And.intro hw1 (And.intro hBx hAx)))
            clear hGv hlen hw1 hBx hAx
            unfold wayC at hw0
            have hj : j = 0 ∨ j = 1 := by omega
            clear hjn
            rcases hj with rfl | rfl
            · have c1 := hw0.at_ 2 _ rfl
              have c2 := hw0.at_ 3 _ rfl
              clear hw0
              have kA := Blk.new wr 78 #[.int .i64 (wayT G P 2 1), .int .i64 (digI P 1)]
              have tA := HW.out.2.2.2.alloc (.cells #[.int .i64 (wayT G P 2 1), .int .i64 (digI P 1)] 78)
              have bA := HW.out.2.2.1.alloc (.cells #[.int .i64 (wayT G P 2 1), .int .i64 (digI P 1)] 78)
              have w0A := HW.out.1.alloc (.cells #[.int .i64 (wayT G P 2 1), .int .i64 (digI P 1)] 78)
              have w1A := HW.out.2.1.alloc (.cells #[.int .i64 (wayT G P 2 1), .int .i64 (digI P 1)] 78)
              have ltr := HW.out.2.2.2.lts
              generalize hWA : wr.alloc (.cells #[.int .i64 (wayT G P 2 1), .int .i64 (digI P 1)] 78) = WA at *
              have d0 := tA.head.drew.at_ 0 _ rfl
              have d1 := kA.drew.at_ 0 _ rfl
              have HD := Lib.hid (give_call tA.drew HQ2.out.1 (by rw [HT.out.2.1]; omega) (by omega) (by omega))
              have HWA := Lib.hid (And.intro w0A (And.intro w1A (And.intro bA (And.intro kA (And.intro tA.head ltr)))))
              clear kA tA bA w0A w1A ltr
              go_wp2_with fail
              go_region_held3 (fun w' => w'.cell? ⟨t, 0, none⟩ = some (.pointer (some ⟨p, 0, none⟩)) ∧ w'.cell? ⟨wr.heap.size, 0, none⟩ = some (.int .i64 (wayT G P 2 1)))
                (first | exact ⟨d0, d1⟩ | exact ⟨e0, e1⟩)
                (first
                | (go_at_call 48; (refine HD.out.mono ?_); rintro e v2 ⟨rfl, hb2, Z2, ha2, hg2, hl2⟩
                   have e0 := ha2.head.at_ 0 _ rfl
                   have e1 := (HWA.out.2.2.2.1.drew.but hb2 (by have := HWA.out.2.2.2.2.2; omega)).at_ 0 _ rfl
                   have HN := Lib.hid (And.intro (HWA.out.1.drew.but hb2 (by omega)) (And.intro (HWA.out.2.1.drew.but hb2 (by omega)) (And.intro (HWA.out.2.2.1.drew.trans hb2) ha2)))
                   have HN2 := Lib.hid (And.intro hg2 (hl2.trans HQ2.out.2))
                   clear hb2 ha2 hg2 hl2 d0 d1))
              all_goals
                go_wp2
                go_roundw
                case rel => exact ⟨1, Z2, by omega, rfl, HN2.out.1, HN2.out.2, HN.out⟩
                case measure => simp [intOf]
            · have hk3 := HW.out.2.1
              have y0 := hw0.at_ 0 _ rfl
              have y1 := hw0.at_ 1 _ rfl
              have y2 := hw0.at_ 2 _ rfl
              have y3 := hw0.at_ 3 _ rfl
              have y4 := hw0.at_ 4 _ rfl
              have y5 := hw0.at_ 5 _ rfl
              have y6 := hw0.at_ 6 _ rfl
              have y7 := hw0.at_ 7 _ rfl
              have z0 := hk3.at_ 0 _ rfl
              have x0 := hk3.frozen 0
              have z1 := hk3.at_ 1 _ rfl
              have x1 := hk3.frozen 1
              have z2 := hk3.at_ 2 _ rfl
              have x2 := hk3.frozen 2
              have z3 := hk3.at_ 3 _ rfl
              have x3 := hk3.frozen 3
              have z4 := hk3.at_ 4 _ rfl
              have x4 := hk3.frozen 4
              have z5 := hk3.at_ 5 _ rfl
              have x5 := hk3.frozen 5
              have z6 := hk3.at_ 6 _ rfl
              have x6 := hk3.frozen 6
              have z7 := hk3.at_ 7 _ rfl
              have x7 := hk3.frozen 7
              clear hw0 hk3
              go_wp2
              have hRf := way_set HW.out.2.1 (.int .i64 (wayT G P 2 0)) (.int .i64 (digI P 0)) (.int .i64 (wayT G P 2 1)) (.int .i64 (digI P 1)) (.int .i64 (wayT G P 2 2)) (.int .i64 (digI P 2)) (.int .i64 (wayT G P 2 3)) (.int .i64 (digI P 3))
              have hBf := way_set_but (w := wr) (g := w.heap.size + 1) (.int .i64 (wayT G P 2 0)) (.int .i64 (digI P 0)) (.int .i64 (wayT G P 2 1)) (.int .i64 (digI P 1)) (.int .i64 (wayT G P 2 2)) (.int .i64 (digI P 2)) (.int .i64 (wayT G P 2 3)) (.int .i64 (digI P 3))
              have hTf := HW.out.2.2.2.thru hBf (by omega) (by omega) (by omega) (by omega) (by omega)
              have hBw := HW.out.2.2.1.thru hBf (fun j e => .inr (by omega))
              try rw [Exit.noGoto_ret]
              generalize World.setCell _ _ _ = W5 at *
              refine bodyPost_ret (results_cell_row_tmp rfl _ _ (w.heap.size + 1) 80 _ (0, 0) _ rfl hRf Tryd.underlying80 rfl (by kernel_rfl)) rfl ⟨hBw, Z, hTf, HQ2.out.2, .inr ⟨HQ.out.2.2.2, wayT G P 2, digI P, rfl, HQ2.out.1.done HT.out.1.ents HT.out.1.root⟩⟩
        · go_wp2_with (go_at_call 35; (refine HTK.out.mono ?_); rintro e v1 ⟨rfl, hb1, ha1⟩
                       have HW1 := Lib.hid (And.intro (HW.out.1.but hb1 (by omega)) (And.intro (HW.out.2.1.but hb1 (by omega)) (And.intro (HW.out.2.2.1.trans hb1) (HW.out.2.2.2.but hb1 ha1))))
                       clear hb1 ha1)
          go_loopw [33] (fun jj wx => ∃ (j : Nat) (Z : Pol), j ≤ 2 ∧ jj = .int .i64 j ∧ Giving Z R RS M F G P (1 + j) 3 ∧ Z.H.length = X.H.length ∧ Blk wx w.heap.size 80 (wayC (wayT G P 3) (digI P)) ∧ Blk wx (w.heap.size + 1) 80 #[.int .i64 0, .int .i64 0, .int .i64 0, .int .i64 0, .int .i64 0, .int .i64 0, .int .i64 0, .int .i64 0] ∧ But (fun j => j = h ∨ j = g) w wx ∧ Td wx t p h g Z root) (fun jj _ => 2 - (intOf jj).toNat)
          case atStart => exact ⟨0, Y, Nat.zero_le _, rfl, HQ.out.1, HQ.out.2.2.1, HW1.out⟩
          case round =>
            obtain ⟨j, Z, hjn, rfl, hGv, hlen, hw0, hw1, hBx, hAx⟩ := hrel
            clear HW1 HW HTK hhd
            have hhx := hAx.head.at_ 0 _ rfl
            have HQ2 := Lib.hid (And.intro hGv hlen)
            have HW := Lib.hid (And.intro hw0 (And.intro hw1 (And.intro hBx hAx)))
            clear hGv hlen hw1 hBx hAx
            unfold wayC at hw0
            have hj : j = 0 ∨ j = 1 ∨ j = 2 := by omega
            clear hjn
            rcases hj with rfl | rfl | rfl
            · have c1 := hw0.at_ 2 _ rfl
              have c2 := hw0.at_ 3 _ rfl
              clear hw0
              have kA := Blk.new wr 78 #[.int .i64 (wayT G P 3 1), .int .i64 (digI P 1)]
              have tA := HW.out.2.2.2.alloc (.cells #[.int .i64 (wayT G P 3 1), .int .i64 (digI P 1)] 78)
              have bA := HW.out.2.2.1.alloc (.cells #[.int .i64 (wayT G P 3 1), .int .i64 (digI P 1)] 78)
              have w0A := HW.out.1.alloc (.cells #[.int .i64 (wayT G P 3 1), .int .i64 (digI P 1)] 78)
              have w1A := HW.out.2.1.alloc (.cells #[.int .i64 (wayT G P 3 1), .int .i64 (digI P 1)] 78)
              have ltr := HW.out.2.2.2.lts
              generalize hWA : wr.alloc (.cells #[.int .i64 (wayT G P 3 1), .int .i64 (digI P 1)] 78) = WA at *
              have d0 := tA.head.drew.at_ 0 _ rfl
              have d1 := kA.drew.at_ 0 _ rfl
              have HD := Lib.hid (give_call tA.drew HQ2.out.1 (by rw [HT.out.2.1]; omega) (by omega) (by omega))
              have HWA := Lib.hid (And.intro w0A (And.intro w1A (And.intro bA (And.intro kA (And.intro tA.head ltr)))))
              clear kA tA bA w0A w1A ltr
              go_wp2_with fail
              go_region_held3 (fun w' => w'.cell? ⟨t, 0, none⟩ = some (.pointer (some ⟨p, 0, none⟩)) ∧ w'.cell? ⟨wr.heap.size, 0, none⟩ = some (.int .i64 (wayT G P 3 1)))
                (first | exact ⟨d0, d1⟩ | exact ⟨e0, e1⟩)
                (first
                | (go_at_call 48; (refine HD.out.mono ?_); rintro e v2 ⟨rfl, hb2, Z2, ha2, hg2, hl2⟩
                   have e0 := ha2.head.at_ 0 _ rfl
                   have e1 := (HWA.out.2.2.2.1.drew.but hb2 (by have := HWA.out.2.2.2.2.2; omega)).at_ 0 _ rfl
                   have HN := Lib.hid (And.intro (HWA.out.1.drew.but hb2 (by omega)) (And.intro (HWA.out.2.1.drew.but hb2 (by omega)) (And.intro (HWA.out.2.2.1.drew.trans hb2) ha2)))
                   have HN2 := Lib.hid (And.intro hg2 (hl2.trans HQ2.out.2))
                   clear hb2 ha2 hg2 hl2 d0 d1))
              all_goals
                go_wp2
                go_roundw
                case rel => exact ⟨1, Z2, by omega, rfl, HN2.out.1, HN2.out.2, HN.out⟩
                case measure => simp [intOf]
            · have c1 := hw0.at_ 4 _ rfl
              have c2 := hw0.at_ 5 _ rfl
              clear hw0
              have kA := Blk.new wr 78 #[.int .i64 (wayT G P 3 2), .int .i64 (digI P 2)]
              have tA := HW.out.2.2.2.alloc (.cells #[.int .i64 (wayT G P 3 2), .int .i64 (digI P 2)] 78)
              have bA := HW.out.2.2.1.alloc (.cells #[.int .i64 (wayT G P 3 2), .int .i64 (digI P 2)] 78)
              have w0A := HW.out.1.alloc (.cells #[.int .i64 (wayT G P 3 2), .int .i64 (digI P 2)] 78)
              have w1A := HW.out.2.1.alloc (.cells #[.int .i64 (wayT G P 3 2), .int .i64 (digI P 2)] 78)
              have ltr := HW.out.2.2.2.lts
              generalize hWA : wr.alloc (.cells #[.int .i64 (wayT G P 3 2), .int .i64 (digI P 2)] 78) = WA at *
              have d0 := tA.head.drew.at_ 0 _ rfl
              have d1 := kA.drew.at_ 0 _ rfl
              have HD := Lib.hid (give_call tA.drew HQ2.out.1 (by rw [HT.out.2.1]; omega) (by omega) (by omega))
              have HWA := Lib.hid (And.intro w0A (And.intro w1A (And.intro bA (And.intro kA (And.intro tA.head ltr)))))
              clear kA tA bA w0A w1A ltr
              go_wp2_with fail
              go_region_held3 (fun w' => w'.cell? ⟨t, 0, none⟩ = some (.pointer (some ⟨p, 0, none⟩)) ∧ w'.cell? ⟨wr.heap.size, 0, none⟩ = some (.int .i64 (wayT G P 3 2)))
                (first | exact ⟨d0, d1⟩ | exact ⟨e0, e1⟩)
                (first
                | (go_at_call 48; (refine HD.out.mono ?_); rintro e v2 ⟨rfl, hb2, Z2, ha2, hg2, hl2⟩
                   have e0 := ha2.head.at_ 0 _ rfl
                   have e1 := (HWA.out.2.2.2.1.drew.but hb2 (by have := HWA.out.2.2.2.2.2; omega)).at_ 0 _ rfl
                   have HN := Lib.hid (And.intro (HWA.out.1.drew.but hb2 (by omega)) (And.intro (HWA.out.2.1.drew.but hb2 (by omega)) (And.intro (HWA.out.2.2.1.drew.trans hb2) ha2)))
                   have HN2 := Lib.hid (And.intro hg2 (hl2.trans HQ2.out.2))
                   clear hb2 ha2 hg2 hl2 d0 d1))
              all_goals
                go_wp2
                go_roundw
                case rel => exact ⟨2, Z2, by omega, rfl, HN2.out.1, HN2.out.2, HN.out⟩
                case measure => simp [intOf]
            · have hk3 := HW.out.2.1
              have y0 := hw0.at_ 0 _ rfl
              have y1 := hw0.at_ 1 _ rfl
              have y2 := hw0.at_ 2 _ rfl
              have y3 := hw0.at_ 3 _ rfl
              have y4 := hw0.at_ 4 _ rfl
              have y5 := hw0.at_ 5 _ rfl
              have y6 := hw0.at_ 6 _ rfl
              have y7 := hw0.at_ 7 _ rfl
              have z0 := hk3.at_ 0 _ rfl
              have x0 := hk3.frozen 0
              have z1 := hk3.at_ 1 _ rfl
              have x1 := hk3.frozen 1
              have z2 := hk3.at_ 2 _ rfl
              have x2 := hk3.frozen 2
              have z3 := hk3.at_ 3 _ rfl
              have x3 := hk3.frozen 3
              have z4 := hk3.at_ 4 _ rfl
              have x4 := hk3.frozen 4
              have z5 := hk3.at_ 5 _ rfl
              have x5 := hk3.frozen 5
              have z6 := hk3.at_ 6 _ rfl
              have x6 := hk3.frozen 6
              have z7 := hk3.at_ 7 _ rfl
              have x7 := hk3.frozen 7
              clear hw0 hk3
              go_wp2
              have hRf := way_set HW.out.2.1 (.int .i64 (wayT G P 3 0)) (.int .i64 (digI P 0)) (.int .i64 (wayT G P 3 1)) (.int .i64 (digI P 1)) (.int .i64 (wayT G P 3 2)) (.int .i64 (digI P 2)) (.int .i64 (wayT G P 3 3)) (.int .i64 (digI P 3))
              have hBf := way_set_but (w := wr) (g := w.heap.size + 1) (.int .i64 (wayT G P 3 0)) (.int .i64 (digI P 0)) (.int .i64 (wayT G P 3 1)) (.int .i64 (digI P 1)) (.int .i64 (wayT G P 3 2)) (.int .i64 (digI P 2)) (.int .i64 (wayT G P 3 3)) (.int .i64 (digI P 3))
              have hTf := HW.out.2.2.2.thru hBf (by omega) (by omega) (by omega) (by omega) (by omega)
              have hBw := HW.out.2.2.1.thru hBf (fun j e => .inr (by omega))
              try rw [Exit.noGoto_ret]
              generalize World.setCell _ _ _ = W5 at *
              refine bodyPost_ret (results_cell_row_tmp rfl _ _ (w.heap.size + 1) 80 _ (0, 0) _ rfl hRf Tryd.underlying80 rfl (by kernel_rfl)) rfl ⟨hBw, Z, hTf, HQ2.out.2, .inr ⟨HQ.out.2.2.2, wayT G P 3, digI P, rfl, HQ2.out.1.done HT.out.1.ents HT.out.1.root⟩⟩
        · go_wp2_with (go_at_call 35; (refine HTK.out.mono ?_); rintro e v1 ⟨rfl, hb1, ha1⟩
                       have HW1 := Lib.hid (And.intro (HW.out.1.but hb1 (by omega)) (And.intro (HW.out.2.1.but hb1 (by omega)) (And.intro (HW.out.2.2.1.trans hb1) (HW.out.2.2.2.but hb1 ha1))))
                       clear hb1 ha1)
          go_loopw [33] (fun jj wx => ∃ (j : Nat) (Z : Pol), j ≤ 0 ∧ jj = .int .i64 j ∧ Giving Z R RS M F G P (2 + j) 2 ∧ Z.H.length = X.H.length ∧ Blk wx w.heap.size 80 (wayC (wayT G P 2) (digI P)) ∧ Blk wx (w.heap.size + 1) 80 #[.int .i64 0, .int .i64 0, .int .i64 0, .int .i64 0, .int .i64 0, .int .i64 0, .int .i64 0, .int .i64 0] ∧ But (fun j => j = h ∨ j = g) w wx ∧ Td wx t p h g Z root) (fun jj _ => 0 - (intOf jj).toNat)
          case atStart => exact ⟨0, Y, Nat.zero_le _, rfl, HQ.out.1, HQ.out.2.2.1, HW1.out⟩
          case round =>
            obtain ⟨j, Z, hjn, rfl, hGv, hlen, hw0, hw1, hBx, hAx⟩ := hrel
            clear HW1 HW HTK hhd
            have hhx := hAx.head.at_ 0 _ rfl
            have HQ2 := Lib.hid (And.intro hGv hlen)
            have HW := Lib.hid (And.intro hw0 (And.intro hw1 (And.intro hBx hAx)))
            clear hGv hlen hw1 hBx hAx
            unfold wayC at hw0
            have hj : j = 0 := by omega
            clear hjn
            rcases hj with rfl
            · have hk3 := HW.out.2.1
              have y0 := hw0.at_ 0 _ rfl
              have y1 := hw0.at_ 1 _ rfl
              have y2 := hw0.at_ 2 _ rfl
              have y3 := hw0.at_ 3 _ rfl
              have y4 := hw0.at_ 4 _ rfl
              have y5 := hw0.at_ 5 _ rfl
              have y6 := hw0.at_ 6 _ rfl
              have y7 := hw0.at_ 7 _ rfl
              have z0 := hk3.at_ 0 _ rfl
              have x0 := hk3.frozen 0
              have z1 := hk3.at_ 1 _ rfl
              have x1 := hk3.frozen 1
              have z2 := hk3.at_ 2 _ rfl
              have x2 := hk3.frozen 2
              have z3 := hk3.at_ 3 _ rfl
              have x3 := hk3.frozen 3
              have z4 := hk3.at_ 4 _ rfl
              have x4 := hk3.frozen 4
              have z5 := hk3.at_ 5 _ rfl
              have x5 := hk3.frozen 5
              have z6 := hk3.at_ 6 _ rfl
              have x6 := hk3.frozen 6
              have z7 := hk3.at_ 7 _ rfl
              have x7 := hk3.frozen 7
              clear hw0 hk3
              go_wp2
              have hRf := way_set HW.out.2.1 (.int .i64 (wayT G P 2 0)) (.int .i64 (digI P 0)) (.int .i64 (wayT G P 2 1)) (.int .i64 (digI P 1)) (.int .i64 (wayT G P 2 2)) (.int .i64 (digI P 2)) (.int .i64 (wayT G P 2 3)) (.int .i64 (digI P 3))
              have hBf := way_set_but (w := wr) (g := w.heap.size + 1) (.int .i64 (wayT G P 2 0)) (.int .i64 (digI P 0)) (.int .i64 (wayT G P 2 1)) (.int .i64 (digI P 1)) (.int .i64 (wayT G P 2 2)) (.int .i64 (digI P 2)) (.int .i64 (wayT G P 2 3)) (.int .i64 (digI P 3))
              have hTf := HW.out.2.2.2.thru hBf (by omega) (by omega) (by omega) (by omega) (by omega)
              have hBw := HW.out.2.2.1.thru hBf (fun j e => .inr (by omega))
              try rw [Exit.noGoto_ret]
              generalize World.setCell _ _ _ = W5 at *
              refine bodyPost_ret (results_cell_row_tmp rfl _ _ (w.heap.size + 1) 80 _ (0, 0) _ rfl hRf Tryd.underlying80 rfl (by kernel_rfl)) rfl ⟨hBw, Z, hTf, HQ2.out.2, .inr ⟨HQ.out.2.2.2, wayT G P 2, digI P, rfl, HQ2.out.1.done HT.out.1.ents HT.out.1.root⟩⟩
        · go_wp2_with (go_at_call 35; (refine HTK.out.mono ?_); rintro e v1 ⟨rfl, hb1, ha1⟩
                       have HW1 := Lib.hid (And.intro (HW.out.1.but hb1 (by omega)) (And.intro (HW.out.2.1.but hb1 (by omega)) (And.intro (HW.out.2.2.1.trans hb1) (HW.out.2.2.2.but hb1 ha1))))
                       clear hb1 ha1)
          go_loopw [33] (fun jj wx => ∃ (j : Nat) (Z : Pol), j ≤ 1 ∧ jj = .int .i64 j ∧ Giving Z R RS M F G P (2 + j) 3 ∧ Z.H.length = X.H.length ∧ Blk wx w.heap.size 80 (wayC (wayT G P 3) (digI P)) ∧ Blk wx (w.heap.size + 1) 80 #[.int .i64 0, .int .i64 0, .int .i64 0, .int .i64 0, .int .i64 0, .int .i64 0, .int .i64 0, .int .i64 0] ∧ But (fun j => j = h ∨ j = g) w wx ∧ Td wx t p h g Z root) (fun jj _ => 1 - (intOf jj).toNat)
          case atStart => exact ⟨0, Y, Nat.zero_le _, rfl, HQ.out.1, HQ.out.2.2.1, HW1.out⟩
          case round =>
            obtain ⟨j, Z, hjn, rfl, hGv, hlen, hw0, hw1, hBx, hAx⟩ := hrel
            clear HW1 HW HTK hhd
            have hhx := hAx.head.at_ 0 _ rfl
            have HQ2 := Lib.hid (And.intro hGv hlen)
            have HW := Lib.hid (And.intro hw0 (And.intro hw1 (And.intro hBx hAx)))
            clear hGv hlen hw1 hBx hAx
            unfold wayC at hw0
            have hj : j = 0 ∨ j = 1 := by omega
            clear hjn
            rcases hj with rfl | rfl
            · have c1 := hw0.at_ 4 _ rfl
              have c2 := hw0.at_ 5 _ rfl
              clear hw0
              have kA := Blk.new wr 78 #[.int .i64 (wayT G P 3 2), .int .i64 (digI P 2)]
              have tA := HW.out.2.2.2.alloc (.cells #[.int .i64 (wayT G P 3 2), .int .i64 (digI P 2)] 78)
              have bA := HW.out.2.2.1.alloc (.cells #[.int .i64 (wayT G P 3 2), .int .i64 (digI P 2)] 78)
              have w0A := HW.out.1.alloc (.cells #[.int .i64 (wayT G P 3 2), .int .i64 (digI P 2)] 78)
              have w1A := HW.out.2.1.alloc (.cells #[.int .i64 (wayT G P 3 2), .int .i64 (digI P 2)] 78)
              have ltr := HW.out.2.2.2.lts
              generalize hWA : wr.alloc (.cells #[.int .i64 (wayT G P 3 2), .int .i64 (digI P 2)] 78) = WA at *
              have d0 := tA.head.drew.at_ 0 _ rfl
              have d1 := kA.drew.at_ 0 _ rfl
              have HD := Lib.hid (give_call tA.drew HQ2.out.1 (by rw [HT.out.2.1]; omega) (by omega) (by omega))
              have HWA := Lib.hid (And.intro w0A (And.intro w1A (And.intro bA (And.intro kA (And.intro tA.head ltr)))))
              clear kA tA bA w0A w1A ltr
              go_wp2_with fail
              go_region_held3 (fun w' => w'.cell? ⟨t, 0, none⟩ = some (.pointer (some ⟨p, 0, none⟩)) ∧ w'.cell? ⟨wr.heap.size, 0, none⟩ = some (.int .i64 (wayT G P 3 2)))
                (first | exact ⟨d0, d1⟩ | exact ⟨e0, e1⟩)
                (first
                | (go_at_call 48; (refine HD.out.mono ?_); rintro e v2 ⟨rfl, hb2, Z2, ha2, hg2, hl2⟩
                   have e0 := ha2.head.at_ 0 _ rfl
                   have e1 := (HWA.out.2.2.2.1.drew.but hb2 (by have := HWA.out.2.2.2.2.2; omega)).at_ 0 _ rfl
                   have HN := Lib.hid (And.intro (HWA.out.1.drew.but hb2 (by omega)) (And.intro (HWA.out.2.1.drew.but hb2 (by omega)) (And.intro (HWA.out.2.2.1.drew.trans hb2) ha2)))
                   have HN2 := Lib.hid (And.intro hg2 (hl2.trans HQ2.out.2))
                   clear hb2 ha2 hg2 hl2 d0 d1))
              all_goals
                go_wp2
                go_roundw
                case rel => exact ⟨1, Z2, by omega, rfl, HN2.out.1, HN2.out.2, HN.out⟩
                case measure => simp [intOf]
            · have hk3 := HW.out.2.1
              have y0 := hw0.at_ 0 _ rfl
              have y1 := hw0.at_ 1 _ rfl
              have y2 := hw0.at_ 2 _ rfl
              have y3 := hw0.at_ 3 _ rfl
              have y4 := hw0.at_ 4 _ rfl
              have y5 := hw0.at_ 5 _ rfl
              have y6 := hw0.at_ 6 _ rfl
              have y7 := hw0.at_ 7 _ rfl
              have z0 := hk3.at_ 0 _ rfl
              have x0 := hk3.frozen 0
              have z1 := hk3.at_ 1 _ rfl
              have x1 := hk3.frozen 1
              have z2 := hk3.at_ 2 _ rfl
              have x2 := hk3.frozen 2
              have z3 := hk3.at_ 3 _ rfl
              have x3 := hk3.frozen 3
              have z4 := hk3.at_ 4 _ rfl
              have x4 := hk3.frozen 4
              have z5 := hk3.at_ 5 _ rfl
              have x5 := hk3.frozen 5
              have z6 := hk3.at_ 6 _ rfl
              have x6 := hk3.frozen 6
              have z7 := hk3.at_ 7 _ rfl
              have x7 := hk3.frozen 7
              clear hw0 hk3
              go_wp2
              have hRf := way_set HW.out.2.1 (.int .i64 (wayT G P 3 0)) (.int .i64 (digI P 0)) (.int .i64 (wayT G P 3 1)) (.int .i64 (digI P 1)) (.int .i64 (wayT G P 3 2)) (.int .i64 (digI P 2)) (.int .i64 (wayT G P 3 3)) (.int .i64 (digI P 3))
              have hBf := way_set_but (w := wr) (g := w.heap.size + 1) (.int .i64 (wayT G P 3 0)) (.int .i64 (digI P 0)) (.int .i64 (wayT G P 3 1)) (.int .i64 (digI P 1)) (.int .i64 (wayT G P 3 2)) (.int .i64 (digI P 2)) (.int .i64 (wayT G P 3 3)) (.int .i64 (digI P 3))
              have hTf := HW.out.2.2.2.thru hBf (by omega) (by omega) (by omega) (by omega) (by omega)
              have hBw := HW.out.2.2.1.thru hBf (fun j e => .inr (by omega))
              try rw [Exit.noGoto_ret]
              generalize World.setCell _ _ _ = W5 at *
              refine bodyPost_ret (results_cell_row_tmp rfl _ _ (w.heap.size + 1) 80 _ (0, 0) _ rfl hRf Tryd.underlying80 rfl (by kernel_rfl)) rfl ⟨hBw, Z, hTf, HQ2.out.2, .inr ⟨HQ.out.2.2.2, wayT G P 3, digI P, rfl, HQ2.out.1.done HT.out.1.ents HT.out.1.root⟩⟩
        · go_wp2_with (go_at_call 35; (refine HTK.out.mono ?_); rintro e v1 ⟨rfl, hb1, ha1⟩
                       have HW1 := Lib.hid (And.intro (HW.out.1.but hb1 (by omega)) (And.intro (HW.out.2.1.but hb1 (by omega)) (And.intro (HW.out.2.2.1.trans hb1) (HW.out.2.2.2.but hb1 ha1))))
                       clear hb1 ha1)
          go_loopw [33] (fun jj wx => ∃ (j : Nat) (Z : Pol), j ≤ 0 ∧ jj = .int .i64 j ∧ Giving Z R RS M F G P (3 + j) 3 ∧ Z.H.length = X.H.length ∧ Blk wx w.heap.size 80 (wayC (wayT G P 3) (digI P)) ∧ Blk wx (w.heap.size + 1) 80 #[.int .i64 0, .int .i64 0, .int .i64 0, .int .i64 0, .int .i64 0, .int .i64 0, .int .i64 0, .int .i64 0] ∧ But (fun j => j = h ∨ j = g) w wx ∧ Td wx t p h g Z root) (fun jj _ => 0 - (intOf jj).toNat)
          case atStart => exact ⟨0, Y, Nat.zero_le _, rfl, HQ.out.1, HQ.out.2.2.1, HW1.out⟩
          case round =>
            obtain ⟨j, Z, hjn, rfl, hGv, hlen, hw0, hw1, hBx, hAx⟩ := hrel
            clear HW1 HW HTK hhd
            have hhx := hAx.head.at_ 0 _ rfl
            have HQ2 := Lib.hid (And.intro hGv hlen)
            have HW := Lib.hid (And.intro hw0 (And.intro hw1 (And.intro hBx hAx)))
            clear hGv hlen hw1 hBx hAx
            unfold wayC at hw0
            have hj : j = 0 := by omega
            clear hjn
            rcases hj with rfl
            · have hk3 := HW.out.2.1
              have y0 := hw0.at_ 0 _ rfl
              have y1 := hw0.at_ 1 _ rfl
              have y2 := hw0.at_ 2 _ rfl
              have y3 := hw0.at_ 3 _ rfl
              have y4 := hw0.at_ 4 _ rfl
              have y5 := hw0.at_ 5 _ rfl
              have y6 := hw0.at_ 6 _ rfl
              have y7 := hw0.at_ 7 _ rfl
              have z0 := hk3.at_ 0 _ rfl
              have x0 := hk3.frozen 0
              have z1 := hk3.at_ 1 _ rfl
              have x1 := hk3.frozen 1
              have z2 := hk3.at_ 2 _ rfl
              have x2 := hk3.frozen 2
              have z3 := hk3.at_ 3 _ rfl
              have x3 := hk3.frozen 3
              have z4 := hk3.at_ 4 _ rfl
              have x4 := hk3.frozen 4
              have z5 := hk3.at_ 5 _ rfl
              have x5 := hk3.frozen 5
              have z6 := hk3.at_ 6 _ rfl
              have x6 := hk3.frozen 6
              have z7 := hk3.at_ 7 _ rfl
              have x7 := hk3.frozen 7
              clear hw0 hk3
              go_wp2
              have hRf := way_set HW.out.2.1 (.int .i64 (wayT G P 3 0)) (.int .i64 (digI P 0)) (.int .i64 (wayT G P 3 1)) (.int .i64 (digI P 1)) (.int .i64 (wayT G P 3 2)) (.int .i64 (digI P 2)) (.int .i64 (wayT G P 3 3)) (.int .i64 (digI P 3))
              have hBf := way_set_but (w := wr) (g := w.heap.size + 1) (.int .i64 (wayT G P 3 0)) (.int .i64 (digI P 0)) (.int .i64 (wayT G P 3 1)) (.int .i64 (digI P 1)) (.int .i64 (wayT G P 3 2)) (.int .i64 (digI P 2)) (.int .i64 (wayT G P 3 3)) (.int .i64 (digI P 3))
              have hTf := HW.out.2.2.2.thru hBf (by omega) (by omega) (by omega) (by omega) (by omega)
              have hBw := HW.out.2.2.1.thru hBf (fun j e => .inr (by omega))
              try rw [Exit.noGoto_ret]
              generalize World.setCell _ _ _ = W5 at *
              refine bodyPost_ret (results_cell_row_tmp rfl _ _ (w.heap.size + 1) 80 _ (0, 0) _ rfl hRf Tryd.underlying80 rfl (by kernel_rfl)) rfl ⟨hBw, Z, hTf, HQ2.out.2, .inr ⟨HQ.out.2.2.2, wayT G P 3, digI P, rfl, HQ2.out.1.done HT.out.1.ents HT.out.1.root⟩⟩
    · obtain rfl : i = 4 := by omega
      simp only [show ((4 : Nat) : Int) = 4 from rfl]
      have hyes : 4 - K ≤ freeN X.H := by have := hTk.free; omega
      have hpt := Putting.start hTk
      have HQ := Lib.hid (And.intro hpt (And.intro hlen hyes))
      have HW := Lib.hid (And.intro hw0 (And.intro hw1 (And.intro hBr hAr)))
      clear hpt hw0 hw1 hBr hAr hTk hFt hlen hyes htk hi4 hlt hKi hhd
      go_wp2_with fail
      go_loopw [13] (fun ii wx => ∃ (i : Nat) (Z : Pol), K ≤ i ∧ i ≤ 4 ∧ ii = .int .i64 i ∧ Putting Z R RS M F G P K i ∧ Z.H.length = X.H.length ∧ Blk wx w.heap.size 80 (wayC (wayT G P 4) (digI P)) ∧ Blk wx (w.heap.size + 1) 80 #[.int .i64 0, .int .i64 0, .int .i64 0, .int .i64 0, .int .i64 0, .int .i64 0, .int .i64 0, .int .i64 0] ∧ But (fun j => j = h ∨ j = g) w wx ∧ Td wx t p h g Z root) (fun ii _ => 4 - (intOf ii).toNat)
      case atStart => exact ⟨K, Y, Nat.le_refl _, hk.2, rfl, HQ.out.1, HQ.out.2.1, HW.out⟩
      case round =>
        obtain ⟨i, Z, hKi, hi4, rfl, hPt, hlen, hw0, hw1, hBx, hAx⟩ := hrel
        clear HW
        by_cases hlt : i < 4
        · have HQ2 := Lib.hid (And.intro hPt hlen)
          have HW := Lib.hid (And.intro hw0 (And.intro hw1 (And.intro hBx hAx)))
          clear hPt hlen hw1 hBx
          unfold wayC at hw0
          have d0 := hAx.head.drew.at_ 0 _ rfl
          have hcase : i = 1 ∨ i = 2 ∨ i = 3 := by omega
          clear hi4 hlt
          rcases hcase with rfl | rfl | rfl
          · simp only [show ((1 : Nat) : Int) = 1 from rfl]
            have hm1 : IntKind.i64.wrap ((1 : Int) - 1) = 0 := by decide +kernel
            have hm2 : IntKind.i64.wrap 0 = 0 := by decide +kernel
            have hm3 : wrap64 0 = 0 := by decide +kernel
            have c1 := hw0.drew.at_ 0 _ rfl
            have c2 := hw0.drew.at_ 1 _ rfl
            have c3 := hw0.drew.at_ 2 _ rfl
            have HD := Lib.hid (put_call hAx.drew HQ2.out.1 HT.out.2.1 HT.out.2.2 (by omega) (by omega))
            have hlx := Lib.hid hAx.lts
            clear hw0 hAx
            go_wp2_with fail
            go_region_held3 (fun w' => w'.cell? ⟨w.heap.size, 0, none⟩ = some (.int .i64 (wayT G P 4 0)) ∧ w'.cell? ⟨w.heap.size, 1, none⟩ = some (.int .i64 (digI P 0)) ∧ w'.cell? ⟨w.heap.size, 2, none⟩ = some (.int .i64 (wayT G P 4 1)))
              (first | exact ⟨c1, c2, c3⟩ | exact ⟨e1, e2, e3⟩)
              (first
              | (go_at_call 44; (refine HD.out.mono ?_); rintro e v2 ⟨⟨r2, rfl⟩, hb2, Z2, ha2, hg2, hl2⟩
                 have HN := Lib.hid (And.intro (HW.out.1.drew.but hb2 (by omega)) (And.intro (HW.out.2.1.drew.but hb2 (by omega)) (And.intro (HW.out.2.2.1.drew.trans hb2) ha2)))
                 have j0 := HN.out.1
                 unfold wayC at j0
                 have e1 := j0.at_ 0 _ rfl
                 have e2 := j0.at_ 1 _ rfl
                 have e3 := j0.at_ 2 _ rfl
                 have HN2 := Lib.hid (And.intro hg2 (hl2.trans HQ2.out.2))
                 clear hb2 ha2 hg2 hl2 d0 c1 c2 c3 j0))
            all_goals
              go_wp2
              go_roundw
              case rel => exact ⟨2, Z2, by omega, by omega, rfl, HN2.out.1, HN2.out.2, HN.out⟩
              case measure => simp [intOf]
          · simp only [show ((2 : Nat) : Int) = 2 from rfl]
            have hm1 : IntKind.i64.wrap ((2 : Int) - 1) = 1 := by decide +kernel
            have hm2 : IntKind.i64.wrap 1 = 1 := by decide +kernel
            have hm3 : wrap64 1 = 1 := by decide +kernel
            have c1 := hw0.drew.at_ 2 _ rfl
            have c2 := hw0.drew.at_ 3 _ rfl
            have c3 := hw0.drew.at_ 4 _ rfl
            have HD := Lib.hid (put_call hAx.drew HQ2.out.1 HT.out.2.1 HT.out.2.2 (by omega) (by omega))
            have hlx := Lib.hid hAx.lts
            clear hw0 hAx
            go_wp2_with fail
            go_region_held3 (fun w' => w'.cell? ⟨w.heap.size, 2, none⟩ = some (.int .i64 (wayT G P 4 1)) ∧ w'.cell? ⟨w.heap.size, 3, none⟩ = some (.int .i64 (digI P 1)) ∧ w'.cell? ⟨w.heap.size, 4, none⟩ = some (.int .i64 (wayT G P 4 2)))
              (first | exact ⟨c1, c2, c3⟩ | exact ⟨e1, e2, e3⟩)
              (first
              | (go_at_call 44; (refine HD.out.mono ?_); rintro e v2 ⟨⟨r2, rfl⟩, hb2, Z2, ha2, hg2, hl2⟩
                 have HN := Lib.hid (And.intro (HW.out.1.drew.but hb2 (by omega)) (And.intro (HW.out.2.1.drew.but hb2 (by omega)) (And.intro (HW.out.2.2.1.drew.trans hb2) ha2)))
                 have j0 := HN.out.1
                 unfold wayC at j0
                 have e1 := j0.at_ 2 _ rfl
                 have e2 := j0.at_ 3 _ rfl
                 have e3 := j0.at_ 4 _ rfl
                 have HN2 := Lib.hid (And.intro hg2 (hl2.trans HQ2.out.2))
                 clear hb2 ha2 hg2 hl2 d0 c1 c2 c3 j0))
            all_goals
              go_wp2
              go_roundw
              case rel => exact ⟨3, Z2, by omega, by omega, rfl, HN2.out.1, HN2.out.2, HN.out⟩
              case measure => simp [intOf]
          · simp only [show ((3 : Nat) : Int) = 3 from rfl]
            have hm1 : IntKind.i64.wrap ((3 : Int) - 1) = 2 := by decide +kernel
            have hm2 : IntKind.i64.wrap 2 = 2 := by decide +kernel
            have hm3 : wrap64 2 = 2 := by decide +kernel
            have c1 := hw0.drew.at_ 4 _ rfl
            have c2 := hw0.drew.at_ 5 _ rfl
            have c3 := hw0.drew.at_ 6 _ rfl
            have HD := Lib.hid (put_call hAx.drew HQ2.out.1 HT.out.2.1 HT.out.2.2 (by omega) (by omega))
            have hlx := Lib.hid hAx.lts
            clear hw0 hAx
            go_wp2_with fail
            go_region_held3 (fun w' => w'.cell? ⟨w.heap.size, 4, none⟩ = some (.int .i64 (wayT G P 4 2)) ∧ w'.cell? ⟨w.heap.size, 5, none⟩ = some (.int .i64 (digI P 2)) ∧ w'.cell? ⟨w.heap.size, 6, none⟩ = some (.int .i64 (wayT G P 4 3)))
              (first | exact ⟨c1, c2, c3⟩ | exact ⟨e1, e2, e3⟩)
              (first
              | (go_at_call 44; (refine HD.out.mono ?_); rintro e v2 ⟨⟨r2, rfl⟩, hb2, Z2, ha2, hg2, hl2⟩
                 have HN := Lib.hid (And.intro (HW.out.1.drew.but hb2 (by omega)) (And.intro (HW.out.2.1.drew.but hb2 (by omega)) (And.intro (HW.out.2.2.1.drew.trans hb2) ha2)))
                 have j0 := HN.out.1
                 unfold wayC at j0
                 have e1 := j0.at_ 4 _ rfl
                 have e2 := j0.at_ 5 _ rfl
                 have e3 := j0.at_ 6 _ rfl
                 have HN2 := Lib.hid (And.intro hg2 (hl2.trans HQ2.out.2))
                 clear hb2 ha2 hg2 hl2 d0 c1 c2 c3 j0))
            all_goals
              go_wp2
              go_roundw
              case rel => exact ⟨4, Z2, by omega, by omega, rfl, HN2.out.1, HN2.out.2, HN.out⟩
              case measure => simp [intOf]
        · obtain rfl : i = 4 := by omega
          have HQ2 := Lib.hid (And.intro hPt hlen)
          have HW := Lib.hid (And.intro hw0 (And.intro hw1 (And.intro hBx hAx)))
          have ltx := Lib.hid hAx.lts
          have hk3 := hw1
          unfold wayC at hw0
          have y0 := hw0.at_ 0 _ rfl
          have y1 := hw0.at_ 1 _ rfl
          have y2 := hw0.at_ 2 _ rfl
          have y3 := hw0.at_ 3 _ rfl
          have y4 := hw0.at_ 4 _ rfl
          have y5 := hw0.at_ 5 _ rfl
          have y6 := hw0.at_ 6 _ rfl
          have y7 := hw0.at_ 7 _ rfl
          have z0 := hk3.at_ 0 _ rfl
          have x0 := hk3.frozen 0
          have z1 := hk3.at_ 1 _ rfl
          have x1 := hk3.frozen 1
          have z2 := hk3.at_ 2 _ rfl
          have x2 := hk3.frozen 2
          have z3 := hk3.at_ 3 _ rfl
          have x3 := hk3.frozen 3
          have z4 := hk3.at_ 4 _ rfl
          have x4 := hk3.frozen 4
          have z5 := hk3.at_ 5 _ rfl
          have x5 := hk3.frozen 5
          have z6 := hk3.at_ 6 _ rfl
          have x6 := hk3.frozen 6
          have z7 := hk3.at_ 7 _ rfl
          have x7 := hk3.frozen 7
          clear hw0 hk3 hPt hlen hw1 hBx hAx hlt hi4 hKi
          go_wp2
          have hRf := way_set HW.out.2.1 (.int .i64 (wayT G P 4 0)) (.int .i64 (digI P 0)) (.int .i64 (wayT G P 4 1)) (.int .i64 (digI P 1)) (.int .i64 (wayT G P 4 2)) (.int .i64 (digI P 2)) (.int .i64 (wayT G P 4 3)) (.int .i64 (digI P 3))
          have hBf := way_set_but (w := wr) (g := w.heap.size + 1) (.int .i64 (wayT G P 4 0)) (.int .i64 (digI P 0)) (.int .i64 (wayT G P 4 1)) (.int .i64 (digI P 1)) (.int .i64 (wayT G P 4 2)) (.int .i64 (digI P 2)) (.int .i64 (wayT G P 4 3)) (.int .i64 (digI P 3))
          have hTf := HW.out.2.2.2.thru hBf (by omega) (by omega) (by omega) (by omega) (by omega)
          have hBw := HW.out.2.2.1.thru hBf (fun j e => .inr (by omega))
          try rw [Exit.noGoto_ret]
          generalize World.setCell _ _ _ = W5 at *
          refine bodyPost_ret (results_cell_row_tmp rfl _ _ (w.heap.size + 1) 80 _ (0, 0) _ rfl hRf Tryd.underlying80 rfl (by kernel_rfl)) rfl ⟨hBw, Z, hTf, HQ2.out.2, .inl ⟨HQ.out.2.2, G, rfl, HQ2.out.1⟩⟩
end Go.Proofs.YtbidlabhekiijaaDoor
