/- The reference of layer 11: Read. -/
import Derived.Test.YtpkjaacklfiblaaZD
namespace Go.Proofs.Ytpkjaacklfiblaa
open Go.RowKit
set_option linter.unusedVariables false
set_option linter.unusedSimpArgs false

/-- A number within a part of a text. -/
theorem getN_part (s : ByteArray) (F Z : Nat) (a w : Nat) (h : F + Z ≤ s.size) (h1 : 1 ≤ w) (h8 : w ≤ 8) (ha : a + w ≤ Z) : getN (s.extract F (F + Z)) (a : Int) (w : Int) = getN s ((F : Int) + (a : Int)) (w : Int) := by
  have hz : (s.extract F (F + Z)).size = Z := by rw [extract_mkb, mkb_size, List.length_take, List.length_drop, len_data]; omega
  have e1 : hol (s.extract F (F + Z)).size a w = true := by rw [hol_iff, hz]; omega
  have e2 : hol s.size ((F : Int) + (a : Int)) w = true := by rw [hol_iff]; omega
  unfold getN
  rw [if_pos e1, if_pos e2]
  congr 2
  unfold partL
  rw [extract_mkb, mkb_data, Int.toNat_natCast, Int.toNat_natCast, show ((F : Int) + (a : Int)).toNat = F + a by omega, List.drop_take, List.take_take, List.drop_drop, show min w (F + Z - F - a) = w by omega]
theorem inn_none {q all : Int} (h0 : 0 ≤ q) (h1 : q < 18446744073709551616) (ha : all ≤ 1000000) (h : all < q ∨ all - q < 8) : inn (wrap64 q) 8 all = false := by
  cases e : inn (wrap64 q) 8 all
  · rfl
  · rw [inn_iff] at e
    unfold wrap64 at e
    omega
theorem may_cases (p z1 z2 a all : Int) (hi : inn p 8 all = true) (h2 : 0 ≤ z2) (q mm : Bool) (hq : (⟨p, z1, z2, a⟩ : Rl).asks = q) (hm : (⟨p, z1, z2, a⟩ : Rl).may all = mm) :
    (mm = true ∧ q = true ∧ 0 < z2) ∨ (mm = true ∧ q = false ∧ ((z1 == 8) = true ∧ (z1 != 8) = false) ∧ ¬ 0 < z2) ∨ (mm = false ∧ q = true ∧ ¬ 0 < z2) ∨ (mm = false ∧ q = false ∧ ((z1 == 8) = true ∧ (z1 != 8) = false) ∧ 0 < z2) ∨ (mm = false ∧ q = false ∧ (z1 == 8) = false ∧ (z1 != 8) = true) := by
  unfold Rl.may Rl.asks at *
  simp only [hi, Bool.and_true] at hm
  simp only at hq
  by_cases h8 : z1 = 8
  · subst h8
    rw [if_pos rfl] at hm
    obtain rfl : q = false := by rw [← hq]; rfl
    by_cases h : 0 < z2
    · right; right; right; left
      exact ⟨by rw [← hm]; simp; omega, rfl, ⟨rfl, rfl⟩, h⟩
    · right; left
      exact ⟨by rw [← hm]; simp; omega, rfl, ⟨rfl, rfl⟩, h⟩
  · rw [if_neg h8, hq] at hm
    have e : (z1 == 8) = false := by simpa using h8
    cases q
    · right; right; right; right
      exact ⟨by rw [← hm]; rfl, rfl, e, by simpa using h8⟩
    · by_cases h : 0 < z2
      · left
        exact ⟨by rw [← hm]; simp [h], rfl, h⟩
      · right; right; left
        exact ⟨by rw [← hm]; simp; omega, rfl, h⟩

theorem relET_noneR {w w' : World} {er : Int} {e : Ending} (he : e = .returned (.tuple #[.slice none 0 0, .int .i64 er])) (hb : Below w.heap.size w w') : RelET w [] er e w' := ⟨none, 0, he, fun i hi => absurd hi (by simp), hb⟩

set_option maxRecDepth 100000 in
set_option maxHeartbeats 3200000 in
theorem rread_anyZ (s : ByteArray) (d : Dyn) (v : Value) (w : World) (hd : d.wf) (hs : s.size ≤ 1000000) :
    Calls Try.prog 19 #[.string s, .agg (d.cs v)] w (RelET w (relL s (d.f 5) (d.f 6)) (relE s (d.f 5) (d.f 6))) := by
  unfold Dyn.cs
  have w5 := hd.num 5
  have w6 := hd.num 6
  generalize d.f 1 = d1 at *
  generalize d.f 2 = d2 at *
  generalize d.f 3 = d3 at *
  generalize d.f 4 = d4 at *
  generalize d.f 5 = f at *
  generalize d.f 6 = z at *
  generalize d.f 7 = d7 at *
  generalize d.f 8 = d8 at *
  clear hd
  obtain ⟨z1, z2⟩ := bounds_i64 w6
  have HIN := Lib.hid (fun u => rpart_any s f z u w5 w6 (by omega))
  obtain ⟨R, hR⟩ : ∃ R, w.heap.size = R := ⟨_, rfl⟩
  obtain ⟨W, hW⟩ : ∃ W, w.alloc (.cells #[v, .int .i64 d1, .int .i64 d2, .int .i64 d3, .int .i64 d4, .int .i64 f, .int .i64 z, .int .i64 d7, .int .i64 d8] 37) = W := ⟨_, rfl⟩
  have hq : Blk W R 37 #[v, .int .i64 d1, .int .i64 d2, .int .i64 d3, .int .i64 d4, .int .i64 f, .int .i64 z, .int .i64 d7, .int .i64 d8] := by rw [← hW, ← hR]; exact Blk.new _ _ _
  have hB : Below R w W := by rw [← hW, ← hR]; exact (Below.refl _ _).alloc (Nat.le_refl _) _
  have hWs : W.heap.size = R + 1 := by rw [← hW, ← hR]; simp
  have c5 : W.cell? ⟨R, 5, none⟩ = some (.int .i64 f) := hq.at_ 5 _ rfl
  have c6 : W.cell? ⟨R, 6, none⟩ = some (.int .i64 z) := hq.at_ 6 _ rfl
  have HW := Lib.hid hW
  have HV := Lib.hid (fun u (h : Below (R + 1) W u) => show Below w.heap.size w u from by rw [hR]; exact hB.trans (h.mono (by omega)))
  have HB0 := Lib.hid (show Below w.heap.size w W from by rw [hR]; exact hB)
  have HR := Lib.hid hR
  have HWS := Lib.hid hWs
  clear hW hq hB hR hWs
  by_cases hz0 : z = 0
  · subst hz0
    obtain ⟨e1, e2⟩ := rel_zero s f
    rw [e1, e2]
    clear e1 e2
    go_enter Try.func19, Try.ntmps19
    go_upto_region 1 with fail
    rw [HW.out]
    try rw [HR.out]
    go_wp2
    go_ret2
    exact relET_noneR rfl HB0.out
  · have hzb : (z == 0) = false := by simpa using hz0
    cases hin : inn f z s.size
    case false =>
      obtain ⟨e1, e2⟩ := rel_no (s := s) (f := f) hz0 (fun h => by rw [hin] at h; exact absurd h.2.1 (by simp))
      rw [hin] at HIN
      rw [e1, e2]
      clear e1 e2
      generalize partS s f z = V at *
      go_enter Try.func19, Try.ntmps19
      go_upto_region 1 with fail
      rw [HW.out]
      try rw [HR.out]
      go_wp2_with (go_at_call 28; refine (HIN.out _).mono ?_; rintro e w' ⟨rfl, rfl⟩)
      go_ret2
      exact relET_noneR rfl HB0.out
    case true =>
      obtain ⟨i1, i2, i3, i4⟩ := inn_iff.1 hin
      have hpart : partS s f z = s.extract f.toNat (f.toNat + z.toNat) := by unfold partS; rw [if_pos hin]
      rw [hin] at HIN
      have hVs : (partS s f z).size = z.toNat := by rw [hpart, extract_mkb, mkb_size, List.length_take, List.length_drop, len_data]; omega
      obtain ⟨Z, hZ⟩ : ∃ Z : Nat, z.toNat = Z := ⟨_, rfl⟩
      obtain ⟨F, hF⟩ : ∃ F : Nat, f.toNat = F := ⟨_, rfl⟩
      rw [hZ] at hVs hpart
      rw [hF] at hpart
      by_cases hT0 : Z % 24 = 0
      case neg =>
        obtain ⟨e1, e2⟩ := rel_no (s := s) (f := f) hz0 (fun h => hT0 (by have := h.1; omega))
        rw [e1, e2]
        have ht : ((Z : Int).tmod 24 == 0) = false := by
          rw [Int.tmod_eq_emod_of_nonneg (by omega)]
          simp only [beq_eq_false_iff_ne, ne_eq]
          omega
        obtain ⟨T, hT⟩ : ∃ T, (Z : Int).tmod 24 = T := ⟨_, rfl⟩
        rw [hT] at ht
        have hTe : (Z : Int) % 24 = T := by rw [← hT, Int.tmod_eq_emod_of_nonneg (by omega)]
        clear e1 e2
        generalize partS s f z = V at *
        clear hZ hF hpart i3 i4 hT0
        have HVS := Lib.hid hVs
        clear hVs
        go_enter Try.func19, Try.ntmps19
        go_upto_region 1 with fail
        rw [HW.out]
        try rw [HR.out]
        go_upto_region 4 with (go_at_call 28; refine (HIN.out _).mono ?_; rintro e w' ⟨rfl, rfl⟩)
        have hvs := HVS.out
        have hlen : (V.size : Int) = (Z : Int) := by omega
        go_wp2
        go_ret2
        exact relET_noneR rfl HB0.out
      case pos =>
        have hz24 : z % 24 = 0 := by omega
        have hno := fun h => rel_no (s := s) (f := f) hz0 h
        have hyes := rel_yes (s := s) hz24 hin
        obtain ⟨N, hN⟩ : ∃ N : Nat, (z / 24).toNat = N := ⟨_, rfl⟩
        rw [hN] at hno hyes
        have hNZ : Z = 24 * N := by omega
        have hfit : F + Z ≤ s.size := by omega
        have hNb : N ≤ 1000000 := by omega
        have hfF : f = (F : Int) := by omega
        have HGP := Lib.hid (fun (a w : Nat) (h1 : 1 ≤ w) (h8 : w ≤ 8) (ha : a + w ≤ Z) => show getN (partS s f z) (a : Int) (w : Int) = getN s (f + (a : Int)) (w : Int) from by rw [hpart, hfF]; exact getN_part s F Z a w hfit h1 h8 ha)
        generalize relL s f z = L at *
        generalize relE s f z = E at *
        have HNO := Lib.hid (fun (h : rlOk s f N = false) => hno (fun x => by rw [h] at x; exact absurd x.2.2 (by simp)))
        have HYES := Lib.hid hyes
        have HGET := Lib.hid (fun (a n : Nat) (w : World) (ha : a ≤ 2000000000) (hn : n ≤ 8) => rget_any (partS s f z) a n w (WalkArith.wf_i64 (by omega)) (WalkArith.wf_i64 (by omega)) (by rw [hVs]; omega))
        generalize hV : partS s f z = V at *
        have ht : (24 * (N : Int)).tmod 24 = 0 := by rw [Int.tmod_eq_emod_of_nonneg (by omega)]; omega
        have ht2 : (24 * (N : Int)) % 24 = 0 := by omega
        have hsz : (V.size : Int) = 24 * (N : Int) := by omega
        have HNZ := Lib.hid (And.intro hNZ hVs)
        clear hpart hV hno hyes hin hN hz24 hT0 hZ hF hVs i1 i2 i3 i4 hfF hNZ
        obtain ⟨i0, hi, hz0', hz1, hz2⟩ := info_parts infoRel
        go_enter Try.func19, Try.ntmps19
        go_upto_region 1 with fail
        rw [HW.out]
        try rw [HR.out]
        go_wp2_with (go_at_call 28; refine (HIN.out _).mono ?_; rintro e w' ⟨rfl, rfl⟩)
        clear HIN c5 c6 HW HR ht ht2
        have hS0 := Lib.hid (Below.refl (R + 1) W)
        have hO0 := Lib.hid (show W.ownsRow (R + 1) 23 4 (.slice none 0 0) 0 (rlCells (rlsAt s f 0)) from World.ownsRow_nil _ _ _ _)
        go_loopw [8, 9] (fun lv i wr => ∃ (k : Nat), k ≤ N ∧ i = .int .i64 (24 * (k : Int)) ∧ Hid (rlOk s f k = true) ∧ Hid (Below (R + 1) W wr) ∧ Hid (wr.ownsRow (R + 1) 23 4 lv k (rlCells (rlsAt s f k)))) (fun _ i _ => (24 * (N : Int) - intOf i).toNat)
        case atStart => exact ⟨0, Nat.zero_le _, rfl, Lib.hid rfl, hS0, hO0⟩
        case round =>
          clear hS0 hO0
          obtain ⟨k, hk, rfl, HOK, HS, HO⟩ := hrel
          by_cases hlt : k < N
          · obtain ⟨P, hP⟩ : ∃ P : Int, 24 * (k : Int) = P := ⟨_, rfl⟩
            have HG0 := Lib.hid (show ∀ u, Calls Try.prog 29 #[.string V, .int .i64 P, .int .i64 8] u fun e w' => e = .returned (.tuple #[.int .u64 (getN s (f + (k : Int) * 24) 8), .bool (hol V.size P 8)]) ∧ u = w' from fun u => by
              have := HGET.out (24 * k + 0) 8 u (by omega) (by omega)
              rw [HGP.out (24 * k + 0) 8 (by omega) (by omega) (by have := HNZ.out.1; omega), show f + ((24 * k + 0 : Nat) : Int) = f + (k : Int) * 24 by omega, show ((24 * k + 0 : Nat) : Int) = P by omega] at this
              exact this)
            have HG1 := Lib.hid (show ∀ u, Calls Try.prog 29 #[.string V, .int .i64 (P + 8), .int .i64 4] u fun e w' => e = .returned (.tuple #[.int .u64 (getN s (f + (k : Int) * 24 + 8) 4), .bool (hol V.size (P + 8) 4)]) ∧ u = w' from fun u => by
              have := HGET.out (24 * k + 8) 4 u (by omega) (by omega)
              rw [HGP.out (24 * k + 8) 4 (by omega) (by omega) (by have := HNZ.out.1; omega), show f + ((24 * k + 8 : Nat) : Int) = f + (k : Int) * 24 + 8 by omega, show ((24 * k + 8 : Nat) : Int) = P + 8 by omega] at this
              exact this)
            have HG2 := Lib.hid (show ∀ u, Calls Try.prog 29 #[.string V, .int .i64 (P + 12), .int .i64 4] u fun e w' => e = .returned (.tuple #[.int .u64 (getN s (f + (k : Int) * 24 + 12) 4), .bool (hol V.size (P + 12) 4)]) ∧ u = w' from fun u => by
              have := HGET.out (24 * k + 12) 4 u (by omega) (by omega)
              rw [HGP.out (24 * k + 12) 4 (by omega) (by omega) (by have := HNZ.out.1; omega), show f + ((24 * k + 12 : Nat) : Int) = f + (k : Int) * 24 + 12 by omega, show ((24 * k + 12 : Nat) : Int) = (P + 12) by omega] at this
              exact this)
            have HG3 := Lib.hid (show ∀ u, Calls Try.prog 29 #[.string V, .int .i64 (P + 16), .int .i64 8] u fun e w' => e = .returned (.tuple #[.int .u64 (getN s (f + (k : Int) * 24 + 16) 8), .bool (hol V.size (P + 16) 8)]) ∧ u = w' from fun u => by
              have := HGET.out (24 * k + 16) 8 u (by omega) (by omega)
              rw [HGP.out (24 * k + 16) 8 (by omega) (by omega) (by have := HNZ.out.1; omega), show f + ((24 * k + 16 : Nat) : Int) = f + (k : Int) * 24 + 16 by omega, show ((24 * k + 16 : Nat) : Int) = (P + 16) by omega] at this
              exact this)
            have hrl : rlAt s (f + (k : Int) * 24) = ⟨wrap64 (getN s (f + (k : Int) * 24) 8), getN s (f + (k : Int) * 24 + 8) 4, getN s (f + (k : Int) * 24 + 12) 4, wrap64 (getN s (f + (k : Int) * 24 + 16) 8)⟩ := rfl
            have g0 := getN_inZ s (f + (k : Int) * 24) 8 (by omega)
            have g1 := getN_in4 s (f + (k : Int) * 24 + 8)
            have g2 := getN_in4 s (f + (k : Int) * 24 + 12)
            rw [show ((8 : Nat) : Int) = 8 from rfl, show ((256 ^ 8 : Nat) : Int) = 18446744073709551616 from rfl] at g0
            have hok := rlOk_succ s f k
            rw [HOK.out, Bool.true_and, hrl] at hok
            have hsucc : rlCells (rlsAt s f (k + 1)) = rlCells (rlsAt s f k) ++ [.int .i64 (wrap64 (getN s (f + (k : Int) * 24) 8)), .int .i64 (getN s (f + (k : Int) * 24 + 8) 4), .int .i64 (getN s (f + (k : Int) * 24 + 12) 4), .int .i64 (wrap64 (getN s (f + (k : Int) * 24 + 16) 8))] := by
              rw [rlsAt_succ, rlCells_snoc, hrl]
            have hPb : 0 ≤ P ∧ P ≤ 100000000 := by omega
            have HAK := Lib.hid (fun u => rasks_any ⟨wrap64 (getN s (f + (k : Int) * 24) 8), getN s (f + (k : Int) * 24 + 8) 4, getN s (f + (k : Int) * 24 + 12) 4, wrap64 (getN s (f + (k : Int) * 24 + 16) 8)⟩ u)
            unfold Rl.cs at HAK
            simp only at HAK
            have x3 : IntKind.i64.wrap (getN s (f + (k : Int) * 24 + 16) 8) = wrap64 (getN s (f + (k : Int) * 24 + 16) 8) := IntWalk.i64_left _
            generalize hol V.size P 8 = l0 at *
            generalize hol V.size (P + 8) 4 = l1 at *
            generalize hol V.size (P + 12) 4 = l2 at *
            generalize hol V.size (P + 16) 8 = l3 at *
            generalize getN s (f + (k : Int) * 24) 8 = y0 at *
            generalize getN s (f + (k : Int) * 24 + 8) 4 = y1 at *
            generalize getN s (f + (k : Int) * 24 + 12) 4 = y2 at *
            obtain ⟨m3, hm3⟩ : ∃ m, wrap64 (getN s (f + (k : Int) * 24 + 16) 8) = m := ⟨_, rfl⟩
            rw [hm3] at hok hsucc HAK x3 hrl
            generalize getN s (f + (k : Int) * 24 + 16) 8 = y3 at *
            have xs : IntKind.u64.wrap (s.size : Int) = s.size := IntWalk.u64_in _ (by omega)
            have HGA := Lib.hid (And.intro HG0 (And.intro HG1 (And.intro HG2 HG3)))
            have HX := Lib.hid hP
            have hVl : P < (V.size : Int) := by omega
            rw [hP]
            clear hrl hsz hP
            by_cases hA : (s.size : Int) < y0
            · have hbad := inn_none g0.1 g0.2 (by omega : (s.size : Int) ≤ 1000000) (.inl hA)
              have hnok : rlOk s f (k + 1) = false := by rw [hok]; unfold Rl.may; simp only; rw [hbad, Bool.and_false]
              have HE := Lib.hid (HNO.out (rlOk_le s f (k := k + 1) (by omega) hnok))
              have hbw := HV.out _ HS.out
              clear hok hsucc hbad hnok HOK
              go_wp2_with (first
                | (go_at_call 29; with_reducible refine (HG0.out _).mono ?_; rintro e w' ⟨rfl, rfl⟩)
                | (go_at_call 29; with_reducible refine (HG1.out _).mono ?_; rintro e w' ⟨rfl, rfl⟩)
                | (go_at_call 29; with_reducible refine (HG2.out _).mono ?_; rintro e w' ⟨rfl, rfl⟩)
                | (go_at_call 29; with_reducible refine (HG3.out _).mono ?_; rintro e w' ⟨rfl, rfl⟩))
              go_ret2
              rw [HE.out.1, HE.out.2]
              exact relET_noneR rfl hbw
            · have xi0 : IntKind.i64.wrap y0 = y0 := IntWalk.i64_in _ (by omega)
              have xw0 : wrap64 y0 = y0 := IntWalk.wrap64_in _ (by omega)
              by_cases hBB : (s.size : Int) - y0 < 8
              · have hbad := inn_none g0.1 g0.2 (by omega : (s.size : Int) ≤ 1000000) (.inr hBB)
                have hnok : rlOk s f (k + 1) = false := by rw [hok]; unfold Rl.may; simp only; rw [hbad, Bool.and_false]
                have HE := Lib.hid (HNO.out (rlOk_le s f (k := k + 1) (by omega) hnok))
                have hbw := HV.out _ HS.out
                clear hok hsucc hbad hnok HOK
                go_wp2_with (first
                  | (go_at_call 29; with_reducible refine (HG0.out _).mono ?_; rintro e w' ⟨rfl, rfl⟩)
                  | (go_at_call 29; with_reducible refine (HG1.out _).mono ?_; rintro e w' ⟨rfl, rfl⟩)
                  | (go_at_call 29; with_reducible refine (HG2.out _).mono ?_; rintro e w' ⟨rfl, rfl⟩)
                  | (go_at_call 29; with_reducible refine (HG3.out _).mono ?_; rintro e w' ⟨rfl, rfl⟩))
                go_ret2
                rw [HE.out.1, HE.out.2]
                exact relET_noneR rfl hbw
              · have hii : inn y0 8 s.size = true := by rw [inn_iff]; omega
                rw [xw0] at hok hsucc HAK
                obtain ⟨q, hq⟩ : ∃ q, (⟨y0, y1, y2, m3⟩ : Rl).asks = q := ⟨_, rfl⟩
                obtain ⟨mm, hmm⟩ : ∃ q, (⟨y0, y1, y2, m3⟩ : Rl).may s.size = q := ⟨_, rfl⟩
                have hcs := may_cases y0 y1 y2 m3 s.size hii g2.1 q mm hq hmm
                rw [hq] at HAK
                rw [hmm] at hok
                clear hq hmm hii
                have xi1 : IntKind.i64.wrap y1 = y1 := IntWalk.i64_in _ (by omega)
                have xw1 : wrap64 y1 = y1 := IntWalk.wrap64_in _ (by omega)
                have xi2 : IntKind.i64.wrap y2 = y2 := IntWalk.i64_in _ (by omega)
                have xw2 : wrap64 y2 = y2 := IntWalk.wrap64_in _ (by omega)
                obtain ⟨X, hX⟩ : ∃ X, wr.alloc (.cells #[.int .i64 y0, .int .i64 y1, .int .i64 y2, .int .i64 m3] 23) = X := ⟨_, rfl⟩
                obtain ⟨G, hG⟩ : ∃ G, wr.heap.size = G := ⟨_, rfl⟩
                have hGR : R + 1 ≤ G := by rw [← hG, ← HWS.out]; exact HS.out.size
                have HX1 := Lib.hid (show Blk X G 23 #[.int .i64 y0, .int .i64 y1, .int .i64 y2, .int .i64 m3] from by rw [← hX, ← hG]; exact Blk.new _ _ _)
                have HX2 := Lib.hid (show Below (R + 1) W X from by rw [← hX]; exact HS.out.alloc (by omega) _)
                have HX3 := Lib.hid (show X.ownsRow (R + 1) 23 4 u8 k (rlCells (rlsAt s f k)) from by rw [← hX]; exact HO.out.alloc _)
                have HX4 := Lib.hid hX
                have HX5 := Lib.hid hG
                have b0 : X.cell? ⟨G, 0, none⟩ = some (.int .i64 y0) := HX1.out.at_ 0 _ rfl
                have b1 : X.cell? ⟨G, 1, none⟩ = some (.int .i64 y1) := HX1.out.at_ 1 _ rfl
                have b2 : X.cell? ⟨G, 2, none⟩ = some (.int .i64 y2) := HX1.out.at_ 2 _ rfl
                have b3 : X.cell? ⟨G, 3, none⟩ = some (.int .i64 m3) := HX1.out.at_ 3 _ rfl
                have HCS := Lib.hid hcs
                have HOK2 := Lib.hid hok
                have HSU := Lib.hid hsucc
                clear hX hG HS HO hcs hok hsucc HOK
                go_upto_region 17 with (first
                  | (go_at_call 29; with_reducible refine (HG0.out _).mono ?_; rintro e w' ⟨rfl, rfl⟩)
                  | (go_at_call 29; with_reducible refine (HG1.out _).mono ?_; rintro e w' ⟨rfl, rfl⟩)
                  | (go_at_call 29; with_reducible refine (HG2.out _).mono ?_; rintro e w' ⟨rfl, rfl⟩)
                  | (go_at_call 29; with_reducible refine (HG3.out _).mono ?_; rintro e w' ⟨rfl, rfl⟩))
                rw [HX4.out, HX5.out]
                clear HG0 HG1 HG2 HG3 HGA xi0 xw0 xi1 xw1 xi2 xw2 x3 xs
                go_upto_region 18 with (go_at_call 15; refine (HAK.out _).mono ?_; rintro e v1 ⟨rfl, hb⟩; have HY1 := Lib.hid (HX1.out.below hb HX1.out.lt); have HY2 := Lib.hid (HX2.out.trans (hb.mono (by have := HX1.out.lt; omega))); have HY3 := Lib.hid (own_below HX3.out hb); clear hb)
                clear b0 b1 b2 b3
                have b0 : v1.cell? ⟨G, 0, none⟩ = some (.int .i64 y0) := HY1.out.at_ 0 _ rfl
                have b1 : v1.cell? ⟨G, 1, none⟩ = some (.int .i64 y1) := HY1.out.at_ 1 _ rfl
                have b2 : v1.cell? ⟨G, 2, none⟩ = some (.int .i64 y2) := HY1.out.at_ 2 _ rfl
                have b3 : v1.cell? ⟨G, 3, none⟩ = some (.int .i64 m3) := HY1.out.at_ 3 _ rfl
                have HBAD := Lib.hid (fun (h : mm = false) => show (L = [] ∧ E = 17) ∧ Below w.heap.size w v1 from ⟨HNO.out (rlOk_le s f (k := k + 1) (by omega) (by rw [HOK2.out, h])), HV.out _ HY2.out⟩)
                have HZ3 := Lib.hid (HY3.out.alloc (.cells #[.int .i64 y0, .int .i64 y1, .int .i64 y2, .int .i64 m3] 23))
                have hsz1 : R + 1 ≤ v1.heap.size := by have := HY1.out.lt; omega
                obtain ⟨cz, hcz⟩ : ∃ cz, rlCells (rlsAt s f k) = cz := ⟨_, rfl⟩
                rw [hcz] at HZ3 HSU HY3
                clear hcz HX1 HX2 HX3 HX4 HX5 HAK
                have HAPP := Lib.hid (fun (gg cap : Nat) (w1 : World) (h1 : w1.ownsRow (R + 1) 23 4 (.slice (some ⟨gg, 0, none⟩) (k + 1) cap) (k + 1) (cz ++ [.int .i64 y0, .int .i64 y1, .int .i64 y2, .int .i64 m3])) (hgrow : (v1.alloc (.cells #[.int .i64 y0, .int .i64 y1, .int .i64 y2, .int .i64 m3] 23)).grownBy w1 u8.ownBlock) =>
                  show Below (R + 1) W w1 ∧ w1.ownsRow (R + 1) 23 4 (.slice (some ⟨gg, 0, none⟩) (k + 1) cap) (k + 1) (rlCells (rlsAt s f (k + 1))) from
                  ⟨(HY2.out.alloc (by omega) (.cells #[.int .i64 y0, .int .i64 y1, .int .i64 y2, .int .i64 m3] 23)).grown hgrow (by simp; omega) (fun j e => (HY3.out.lt j e).1), by rw [HSU.out]; exact h1⟩)
                clear HY1 HY2 HY3 HSU HNO
                rcases HCS.out with ⟨rfl, rfl, hz⟩ | ⟨rfl, rfl, ⟨h8, h9⟩, hz⟩ | ⟨rfl, rfl, hz⟩ | ⟨rfl, rfl, ⟨h8, h9⟩, hz⟩ | ⟨rfl, rfl, h8, h9⟩
                case inl =>
                  clear HCS HBAD
                  have hzd : decide (0 < y2) = true := decide_eq_true hz
                  go_upto_region 20 with fail
                  go_upto_region 9 with (refine wpList_append_lies _ (by rfl) (.tmp 111) (.tmp 113) _ (by rfl) (R + 1) 23 i0 _ 4 32 Try.underlying32 hi hz0' hz1 hz2 rfl (by omega) u8 k cz (by rfl) HZ3.out ⟨v1.heap.size, 0, none⟩ 1 1 [.int .i64 y0, .int .i64 y1, .int .i64 y2, .int .i64 m3] (by rfl) (by rfl) (World.news_of_block (cs := #[.int .i64 y0, .int .i64 y1, .int .i64 y2, .int .i64 m3]) (t := 23) (fr := (0, 0)) (heap_alloc_new v1 _)) (by simp [Value.oneCell']) (by omega) (by unfold maxLen; omega) (by omega) (by simp; omega) (v1.heap.size + 1) (by simp) ?_; intro gg cap w1 hown1 hgrow hat hlt1)
                  obtain ⟨k2, k3⟩ := HAPP.out gg cap w1 hown1 hgrow
                  have k2 := Lib.hid k2
                  have k3 := Lib.hid k3
                  clear hown1 hgrow hat hlt1 HZ3 b0 b1 b2 b3 HAPP
                  go_wp2_with fail
                  go_roundw
                  case rel => exact ⟨k + 1, by omega, by have := HX.out; go_num, Lib.hid HOK2.out, k2, k3⟩
                  case measure => have := HX.out; simp [intOf]; omega
                case inr.inl =>
                  clear HCS HBAD
                  obtain rfl : y2 = 0 := by omega
                  clear hz g2
                  go_upto_region 20 with fail
                  go_upto_region 9 with (refine wpList_append_lies _ (by rfl) (.tmp 111) (.tmp 113) _ (by rfl) (R + 1) 23 i0 _ 4 32 Try.underlying32 hi hz0' hz1 hz2 rfl (by omega) u8 k cz (by rfl) HZ3.out ⟨v1.heap.size, 0, none⟩ 1 1 [.int .i64 y0, .int .i64 y1, .int .i64 0, .int .i64 m3] (by rfl) (by rfl) (World.news_of_block (cs := #[.int .i64 y0, .int .i64 y1, .int .i64 0, .int .i64 m3]) (t := 23) (fr := (0, 0)) (heap_alloc_new v1 _)) (by simp [Value.oneCell']) (by omega) (by unfold maxLen; omega) (by omega) (by simp; omega) (v1.heap.size + 1) (by simp) ?_; intro gg cap w1 hown1 hgrow hat hlt1)
                  obtain ⟨k2, k3⟩ := HAPP.out gg cap w1 hown1 hgrow
                  have k2 := Lib.hid k2
                  have k3 := Lib.hid k3
                  clear hown1 hgrow hat hlt1 HZ3 b0 b1 b2 b3 HAPP
                  go_wp2_with fail
                  go_roundw
                  case rel => exact ⟨k + 1, by omega, by have := HX.out; go_num, Lib.hid HOK2.out, k2, k3⟩
                  case measure => have := HX.out; simp [intOf]; omega
                case inr.inr.inl =>
                  clear HCS HAPP
                  have HE := Lib.hid (HBAD.out rfl)
                  clear HBAD
                  obtain rfl : y2 = 0 := by omega
                  clear hz g2
                  go_wp2
                  go_ret2
                  rw [HE.out.1.1, HE.out.1.2]
                  exact relET_noneR rfl HE.out.2
                case inr.inr.inr.inl =>
                  clear HCS HAPP
                  have HE := Lib.hid (HBAD.out rfl)
                  clear HBAD
                  have hzd : decide (0 < y2) = true := decide_eq_true hz
                  go_wp2
                  go_ret2
                  rw [HE.out.1.1, HE.out.1.2]
                  exact relET_noneR rfl HE.out.2
                case inr.inr.inr.inr =>
                  clear HCS HAPP
                  have HE := Lib.hid (HBAD.out rfl)
                  clear HBAD
                  go_wp2
                  go_ret2
                  rw [HE.out.1.1, HE.out.1.2]
                  exact relET_noneR rfl HE.out.2
          · obtain rfl : k = N := by omega
            obtain ⟨e1, e2⟩ := HYES.out HOK.out
            have HE := Lib.hid (And.intro e1 e2)
            clear e1 e2
            obtain ⟨hkl, A, c, rfl, hrow, -⟩ := RlRow.of_own HO.out (rlsAt_wf s f k)
            have hbw := HV.out wr HS.out
            have HFIN := Lib.hid (And.intro hrow hbw)
            have hrl : (rlsAt s f k).length = k := rlsAt_length s f k
            have HRL := Lib.hid hrl
            try rw [hrl]
            clear hrow hbw HO HS hkl hrl
            go_wp2_with fail
            go_ret2
            rw [HE.out.1, HE.out.2]
            exact ⟨A, c, by rw [HRL.out]; rfl, HFIN.out⟩
end Go.Proofs.Ytpkjaacklfiblaa
