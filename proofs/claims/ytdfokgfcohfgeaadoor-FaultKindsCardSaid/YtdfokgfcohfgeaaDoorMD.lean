/- Package fault: Steps, walked. -/
import Derived.Test.YtdfokgfcohfgeaaDoorMC
namespace Go.Proofs.YtdfokgfcohfgeaaDoor
open Go.RowKit
set_option linter.unusedVariables false
set_option linter.unusedSimpArgs false

def lenV : Value → Nat
  | .slice _ n _ => n
  | _ => 0

set_option maxHeartbeats 3200000 in
set_option maxRecDepth 100000 in
theorem steps_any (r : Rg) (th : Bool) (s : Sl) (u n : Int) (w : World) (hT : Askd w) :
    Calls Tryd.prog 12 #[.agg r.cs, .bool th, s.v, .int .i64 u, .int .i64 n] w (IntsT w (seqM r th s u n)) := by
  have HD := Lib.hid (fun (s' : Sl) (n' : Int) (v : World) (h : Askd v) => decide_any r th s' u n' v h)
  have HE := Lib.hid (fun (a : Int) (v : World) => entry_any r a 0 v)
  have HLAST := Lib.hid (seqM_last r th s u n)
  have HRNG := Lib.hid (seqM_range r th s u n)
  have HQ0 := Lib.hid (show ToM (alM r th u) (hasM r.p 2) r.k u (seqM r th s u n) [] s n from ⟨by simp, rfl⟩)
  have HTT := Lib.hid (fun W (h : Below w.heap.size w W) => hT.on h)
  have HST0 := Lib.hid (show StM w r s (.slice (some ⟨w.heap.size + 2, 0, none⟩) 0 0) [] (((w.alloc (.cells r.cs 23)).alloc (.cells s.cs 25)).alloc (.cells #[] 3)) from by
    refine ⟨((Blk.new _ _ _).alloc _).alloc _, ?_, ?_, (((Below.refl _ w).alloc (Nat.le_refl _) _).alloc (by simp) _).alloc (by simp; omega) _⟩
    · have := (Blk.new (w.alloc (.cells r.cs 23)) 25 s.cs).alloc (.cells #[] 3)
      simpa using this
    · have := World.ownsRow_lit (base := w.heap.size + 2) (e := 3) (size := 1) ((w.alloc (.cells r.cs 23)).alloc (.cells s.cs 25)) #[] 0 (by simp) (by unfold maxLen; omega) rfl
      simpa using this)
  obtain ⟨i0, hi, hz0, hz1, hz2⟩ := info_parts infoIntM
  clear hT
  generalize seqM r th s u n = Q at *
  generalize alM r th u = al at *
  generalize hasM r.p 2 = wb at *
  obtain ⟨f, t, p, k, fl, pg⟩ := r
  obtain ⟨h, sw, c, o, sn⟩ := s
  unfold Sl.v Sl.cs Rg.cs at *
  simp only at *
  go_enter Tryd.func12, Tryd.ntmps12
  go_upto_region 2 with fail
  go_step3
  go_wp2_with fail
  go_step3
  go_wp2_with fail
  go_loopw [4, 11] (fun nv tv wr => ∃ (L : List Int) (s' : Sl) (n' : Int) (A : Option Addr) (cp : Nat), nv = .int .i64 n' ∧ tv = .slice A L.length cp ∧ Hid (ToM al wb k u Q L s' n') ∧ Hid (StM w ⟨f, t, p, k, fl, pg⟩ s' tv L wr)) (fun _ tv _ => 4 - lenV tv)
  case atStart => exact ⟨[], _, _, _, _, rfl, rfl, HQ0, HST0⟩
  case round =>
    clear HQ0 HST0
    obtain ⟨L, ⟨h', sw', c', o', sn'⟩, n', A, cp, rfl, rfl, HQ, HS⟩ := hrel
    have HDs := Lib.hid (HD.out ⟨h', sw', c', o', sn'⟩ n')
    have HT1 := Lib.hid (HTT.out _ HS.out.below)
    have HSTOP := Lib.hid (HQ.out.stop)
    have HGO := Lib.hid (HQ.out.go HLAST.out)
    have hL4 : L.length < 4 := HQ.out.1
    have hkr := HS.out.br
    have hks := HS.out.bs
    unfold Rg.cs at hkr
    unfold Sl.cs at hks
    simp only at hkr hks
    have r0 := hkr.at_ 0 _ rfl
    have r1 := hkr.at_ 1 _ rfl
    have r2 := hkr.at_ 2 _ rfl
    have r3 := hkr.at_ 3 _ rfl
    have r4 := hkr.at_ 4 _ rfl
    have r5 := hkr.at_ 5 _ rfl
    have s0 := hks.at_ 0 _ rfl
    have s1 := hks.at_ 1 _ rfl
    have s2 := hks.at_ 2 _ rfl
    have s3 := hks.at_ 3 _ rfl
    have s4 := hks.at_ 4 _ rfl
    clear hkr hks HD HQ
    simp only at HDs HSTOP HGO
    generalize actM al k ⟨h', sw', c', o', sn'⟩ u n' = a at *
    by_cases a1 : a = 1
    · subst a1
      go_wp2_with (first
      | (go_at_call 16; (with_reducible refine (HDs.out _ HT1.out).mono ?_); rintro e v1 ⟨rfl, hb⟩
         have S1 := Lib.hid (HS.out.on hb)
         clear hb)
      | (at_builtin; refine wpList_append_own _ rfl _ _ 31 rfl (w.heap.size + 2) 3 i0 (.int .i64 0) 1 8 Tryd.underlying31 hi hz0 hz1 hz2 rfl (by decide) (.slice A L.length cp) L.length (L.map (Value.int .i64)) rfl (S1.out.own.alloc _) ⟨v1.heap.size, 0, none⟩ 1 1 [.int .i64 1] rfl rfl (cell_oneM _ _ _) (ints_oneCell .i64 [1]) (by unfold maxLen; omega) (by omega) (by have := S1.out.size; simp; omega) ?_; intro v' w2 hown2 hgrow2 _
         obtain ⟨A2, c2, rfl⟩ := own_sliceM hown2
         have S2 := Lib.hid ((S1.out.alloc (.cells #[.int .i64 1] 3)).push hown2 hgrow2)
         have hk2 := S2.out.br
         unfold Rg.cs at hk2
         simp only at hk2
         clear r0 r1 r2 r3 r4 r5
         have r0 := hk2.at_ 0 _ rfl
         have r1 := hk2.at_ 1 _ rfl
         have r2 := hk2.at_ 2 _ rfl
         have r3 := hk2.at_ 3 _ rfl
         have r4 := hk2.at_ 4 _ rfl
         have r5 := hk2.at_ 5 _ rfl
         clear hown2 hgrow2 hk2)
      | (go_at_call 15; (with_reducible refine (HE.out _ _).mono ?_); rintro e v3 ⟨rfl, hb⟩
         have S3 := Lib.hid (S2.out.on hb)
         have hk3 := S3.out.bs
         unfold Sl.cs at hk3
         simp only at hk3
         have f0 := hk3.frozen 0
         have f1 := hk3.frozen 1
         have f2 := hk3.frozen 2
         have f3 := hk3.frozen 3
         have f4 := hk3.frozen 4
         have z0 := hk3.at_ 0 _ rfl
         have z1 := hk3.at_ 1 _ rfl
         have z2 := hk3.at_ 2 _ rfl
         have z3 := hk3.at_ 3 _ rfl
         have z4 := hk3.at_ 4 _ rfl
         have S4 := Lib.hid (S3.out.set_ (entM wb 1 0))
         clear hb hk3))
      try rw [Exit.noGoto_ret]
      go_ret
      rw [HSTOP.out rfl] at S2
      exact S2.out.told HRNG.out
    by_cases a2 : a = 2
    · subst a2
      go_wp2_with (first
      | (go_at_call 16; (with_reducible refine (HDs.out _ HT1.out).mono ?_); rintro e v1 ⟨rfl, hb⟩
         have S1 := Lib.hid (HS.out.on hb)
         clear hb)
      | (at_builtin; refine wpList_append_own _ rfl _ _ 31 rfl (w.heap.size + 2) 3 i0 (.int .i64 0) 1 8 Tryd.underlying31 hi hz0 hz1 hz2 rfl (by decide) (.slice A L.length cp) L.length (L.map (Value.int .i64)) rfl (S1.out.own.alloc _) ⟨v1.heap.size, 0, none⟩ 1 1 [.int .i64 2] rfl rfl (cell_oneM _ _ _) (ints_oneCell .i64 [2]) (by unfold maxLen; omega) (by omega) (by have := S1.out.size; simp; omega) ?_; intro v' w2 hown2 hgrow2 _
         obtain ⟨A2, c2, rfl⟩ := own_sliceM hown2
         have S2 := Lib.hid ((S1.out.alloc (.cells #[.int .i64 2] 3)).push hown2 hgrow2)
         have hk2 := S2.out.br
         unfold Rg.cs at hk2
         simp only at hk2
         clear r0 r1 r2 r3 r4 r5
         have r0 := hk2.at_ 0 _ rfl
         have r1 := hk2.at_ 1 _ rfl
         have r2 := hk2.at_ 2 _ rfl
         have r3 := hk2.at_ 3 _ rfl
         have r4 := hk2.at_ 4 _ rfl
         have r5 := hk2.at_ 5 _ rfl
         clear hown2 hgrow2 hk2)
      | (go_at_call 15; (with_reducible refine (HE.out _ _).mono ?_); rintro e v3 ⟨rfl, hb⟩
         have S3 := Lib.hid (S2.out.on hb)
         have hk3 := S3.out.bs
         unfold Sl.cs at hk3
         simp only at hk3
         have f0 := hk3.frozen 0
         have f1 := hk3.frozen 1
         have f2 := hk3.frozen 2
         have f3 := hk3.frozen 3
         have f4 := hk3.frozen 4
         have z0 := hk3.at_ 0 _ rfl
         have z1 := hk3.at_ 1 _ rfl
         have z2 := hk3.at_ 2 _ rfl
         have z3 := hk3.at_ 3 _ rfl
         have z4 := hk3.at_ 4 _ rfl
         have S4 := Lib.hid (S3.out.set_ (entM wb 2 0))
         clear hb hk3))
      try rw [Exit.noGoto_ret]
      go_ret
      rw [HSTOP.out rfl] at S2
      exact S2.out.told HRNG.out
    by_cases a3 : a = 3
    · subst a3
      go_wp2_with (first
      | (go_at_call 16; (with_reducible refine (HDs.out _ HT1.out).mono ?_); rintro e v1 ⟨rfl, hb⟩
         have S1 := Lib.hid (HS.out.on hb)
         clear hb)
      | (at_builtin; refine wpList_append_own _ rfl _ _ 31 rfl (w.heap.size + 2) 3 i0 (.int .i64 0) 1 8 Tryd.underlying31 hi hz0 hz1 hz2 rfl (by decide) (.slice A L.length cp) L.length (L.map (Value.int .i64)) rfl (S1.out.own.alloc _) ⟨v1.heap.size, 0, none⟩ 1 1 [.int .i64 3] rfl rfl (cell_oneM _ _ _) (ints_oneCell .i64 [3]) (by unfold maxLen; omega) (by omega) (by have := S1.out.size; simp; omega) ?_; intro v' w2 hown2 hgrow2 _
         obtain ⟨A2, c2, rfl⟩ := own_sliceM hown2
         have S2 := Lib.hid ((S1.out.alloc (.cells #[.int .i64 3] 3)).push hown2 hgrow2)
         have hk2 := S2.out.br
         unfold Rg.cs at hk2
         simp only at hk2
         clear r0 r1 r2 r3 r4 r5
         have r0 := hk2.at_ 0 _ rfl
         have r1 := hk2.at_ 1 _ rfl
         have r2 := hk2.at_ 2 _ rfl
         have r3 := hk2.at_ 3 _ rfl
         have r4 := hk2.at_ 4 _ rfl
         have r5 := hk2.at_ 5 _ rfl
         clear hown2 hgrow2 hk2)
      | (go_at_call 15; (with_reducible refine (HE.out _ _).mono ?_); rintro e v3 ⟨rfl, hb⟩
         have S3 := Lib.hid (S2.out.on hb)
         have hk3 := S3.out.bs
         unfold Sl.cs at hk3
         simp only at hk3
         have f0 := hk3.frozen 0
         have f1 := hk3.frozen 1
         have f2 := hk3.frozen 2
         have f3 := hk3.frozen 3
         have f4 := hk3.frozen 4
         have z0 := hk3.at_ 0 _ rfl
         have z1 := hk3.at_ 1 _ rfl
         have z2 := hk3.at_ 2 _ rfl
         have z3 := hk3.at_ 3 _ rfl
         have z4 := hk3.at_ 4 _ rfl
         have S4 := Lib.hid (S3.out.set_ (entM wb 3 0))
         clear hb hk3))
      go_roundw
      case rel => exact ⟨L ++ [3], _, _, A2, c2, rfl, by rw [List.length_append]; rfl, Lib.hid (HGO.out rfl), S4⟩
      case measure => simp [lenV]; omega
    · have q1 : (a == 1) = false := by simpa using a1
      have q2 : (a == 2) = false := by simpa using a2
      have q3 : (a == 3) = false := by simpa using a3
      have HEN := Lib.hid (show endM a = false from by unfold endM; rw [q1, q2]; rfl)
      have HNX := Lib.hid (show nextM a = 1 from by unfold nextM; rw [if_neg a3])
      go_wp2_with (first
      | (go_at_call 16; (with_reducible refine (HDs.out _ HT1.out).mono ?_); rintro e v1 ⟨rfl, hb⟩
         have S1 := Lib.hid (HS.out.on hb)
         clear hb)
      | (at_builtin; refine wpList_append_own _ rfl _ _ 31 rfl (w.heap.size + 2) 3 i0 (.int .i64 0) 1 8 Tryd.underlying31 hi hz0 hz1 hz2 rfl (by decide) (.slice A L.length cp) L.length (L.map (Value.int .i64)) rfl (S1.out.own.alloc _) ⟨v1.heap.size, 0, none⟩ 1 1 [.int .i64 a] rfl rfl (cell_oneM _ _ _) (ints_oneCell .i64 [a]) (by unfold maxLen; omega) (by omega) (by have := S1.out.size; simp; omega) ?_; intro v' w2 hown2 hgrow2 _
         obtain ⟨A2, c2, rfl⟩ := own_sliceM hown2
         have S2 := Lib.hid ((S1.out.alloc (.cells #[.int .i64 a] 3)).push hown2 hgrow2)
         have hk2 := S2.out.br
         unfold Rg.cs at hk2
         simp only at hk2
         clear r0 r1 r2 r3 r4 r5
         have r0 := hk2.at_ 0 _ rfl
         have r1 := hk2.at_ 1 _ rfl
         have r2 := hk2.at_ 2 _ rfl
         have r3 := hk2.at_ 3 _ rfl
         have r4 := hk2.at_ 4 _ rfl
         have r5 := hk2.at_ 5 _ rfl
         clear hown2 hgrow2 hk2)
      | (go_at_call 15; (with_reducible refine (HE.out _ _).mono ?_); rintro e v3 ⟨rfl, hb⟩
         have S3 := Lib.hid (S2.out.on hb)
         have hk3 := S3.out.bs
         unfold Sl.cs at hk3
         simp only at hk3
         have f0 := hk3.frozen 0
         have f1 := hk3.frozen 1
         have f2 := hk3.frozen 2
         have f3 := hk3.frozen 3
         have f4 := hk3.frozen 4
         have z0 := hk3.at_ 0 _ rfl
         have z1 := hk3.at_ 1 _ rfl
         have z2 := hk3.at_ 2 _ rfl
         have z3 := hk3.at_ 3 _ rfl
         have z4 := hk3.at_ 4 _ rfl
         have S4 := Lib.hid (S3.out.set_ (entM wb a 0))
         clear hb hk3))
      go_roundw
      case rel => exact ⟨L ++ [a], _, _, A2, c2, rfl, by rw [List.length_append]; rfl, by have := HGO.out HEN.out; rw [HNX.out] at this; exact Lib.hid this, S4⟩
      case measure => simp [lenV]; omega
end Go.Proofs.YtdfokgfcohfgeaaDoor
