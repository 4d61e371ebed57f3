/- Package reloc: Read. -/
import Derived.Test.YtpkjaacklfiblaaZD
namespace Go.Proofs.Ytpkjaacklfiblaa
open Go.RowKit
set_option linter.unusedVariables false
set_option linter.unusedSimpArgs false

theorem relET_none {w w' : World} {er : Int} {e : Ending} (he : e = .returned (.tuple #[.slice none 0 0, .int .i64 er])) (hb : Below w.heap.size w w') : RelET w [] er e w' := ⟨none, 0, he, fun i hi => absurd hi (by simp), hb⟩

set_option maxRecDepth 100000 in
set_option maxHeartbeats 3200000 in
theorem read_anyZ (s : ByteArray) (d : Dyn) (v : Value) (w : World) (hd : d.wf) (hs : s.size ≤ 1000000) :
    Calls Try.prog 18 #[.string s, .agg (d.cs v)] w (RelET w (relL s (d.f 5) (d.f 6)) (relE s (d.f 5) (d.f 6))) := by
  have hmf : ∀ (fn : Fn) (first cap : Array Value) (w : World), (Instr.makeFunc fn first cap).run Try.prog w = .ok (.func fn first cap) w := fun _ _ _ _ => rfl
  unfold Dyn.cs
  have w5 := hd.num 5
  have w6 := hd.num 6
  generalize d.f 1 = d1 at *
  generalize d.f 2 = d2 at *
  generalize d.f 3 = d3 at *
  generalize d.f 4 = d4 at *
  generalize d.f 5 = f at *
  generalize d.f 6 = z at *
  generalize d.f 7 = d7 at *
  generalize d.f 8 = d8 at *
  clear hd
  obtain ⟨z1, z2⟩ := bounds_i64 w6
  have HIN := Lib.hid (fun u => within_any f z s.size u w5 w6 (by omega))
  obtain ⟨R, hR⟩ : ∃ R, w.heap.size = R := ⟨_, rfl⟩
  obtain ⟨W, hW⟩ : ∃ W, (w.alloc (.cells #[.string s] 9)).alloc (.cells #[v, .int .i64 d1, .int .i64 d2, .int .i64 d3, .int .i64 d4, .int .i64 f, .int .i64 z, .int .i64 d7, .int .i64 d8] 37) = W := ⟨_, rfl⟩
  have hk : Blk W R 9 #[.string s] := by rw [← hW, ← hR]; exact (Blk.new _ _ _).alloc _
  have hq : Blk W (R + 1) 37 #[v, .int .i64 d1, .int .i64 d2, .int .i64 d3, .int .i64 d4, .int .i64 f, .int .i64 z, .int .i64 d7, .int .i64 d8] := by
    rw [← hW, ← hR]; have := Blk.new (w.alloc (.cells #[.string s] 9)) 37 #[v, .int .i64 d1, .int .i64 d2, .int .i64 d3, .int .i64 d4, .int .i64 f, .int .i64 z, .int .i64 d7, .int .i64 d8]; simpa using this
  have hB : Below R w W := by rw [← hW, ← hR]; exact ((Below.refl _ _).alloc (Nat.le_refl _) _).alloc (by simp) _
  have hWs : W.heap.size = R + 2 := by rw [← hW, ← hR]; simp
  have c0 : W.cell? ⟨R, 0, none⟩ = some (.string s) := hk.at_ 0 _ rfl
  have c5 : W.cell? ⟨R + 1, 5, none⟩ = some (.int .i64 f) := hq.at_ 5 _ rfl
  have c6 : W.cell? ⟨R + 1, 6, none⟩ = some (.int .i64 z) := hq.at_ 6 _ rfl
  have HW := Lib.hid hW
  have HV := Lib.hid (fun u (h : Below (R + 2) W u) => show u.cell? ⟨R, 0, none⟩ = some (.string s) ∧ u.cell? ⟨R + 1, 5, none⟩ = some (.int .i64 f) ∧ Below w.heap.size w u from
    ⟨(hk.below h (by omega)).at_ 0 _ rfl, (hq.below h (by omega)).at_ 5 _ rfl, by rw [hR]; exact hB.trans (h.mono (by omega))⟩)
  have HB0 := Lib.hid (show Below w.heap.size w W from by rw [hR]; exact hB)
  have HR := Lib.hid hR
  have HWS := Lib.hid hWs
  clear hW hk hq hB hR hWs
  by_cases hz0 : z = 0
  · subst hz0
    obtain ⟨e1, e2⟩ := rel_zero s f
    rw [e1, e2]
    clear e1 e2
    go_enter Try.func18, Try.ntmps18
    go_upto_region 1 with fail
    rw [HW.out]
    try rw [HR.out]
    go_step3
    go_wp2
    go_ret2
    exact relET_none rfl HB0.out
  · have ht : z.tmod 24 = 0 ↔ z % 24 = 0 := ⟨fun h => Int.emod_eq_zero_of_dvd (Int.dvd_of_tmod_eq_zero h), fun h => Int.tmod_eq_zero_of_dvd (Int.dvd_of_emod_eq_zero h)⟩
    obtain ⟨T, hT⟩ : ∃ T, z.tmod 24 = T := ⟨_, rfl⟩
    have hTb : -24 < T ∧ T < 24 := by rw [← hT]; exact ⟨Int.lt_tmod_of_pos z (by omega), Int.tmod_lt_of_pos z (by omega)⟩
    have t1 : wrap64 T = T := IntWalk.wrap64_in _ (by omega)
    have t2 : IntKind.i64.wrap T = T := IntWalk.i64_in _ (by omega)
    rw [hT] at ht
    have hzb : (z == 0) = false := by simpa using hz0
    by_cases hT0 : T = 0
    case neg =>
      obtain ⟨e1, e2⟩ := rel_no (s := s) (f := f) hz0 (fun h => hT0 (ht.2 h.1))
      rw [e1, e2]
      have hTb : (T == 0) = false := by simpa using hT0
      clear e1 e2 ht
      go_enter Try.func18, Try.ntmps18
      go_upto_region 1 with fail
      rw [HW.out]
      try rw [HR.out]
      go_step3
      go_wp2
      go_ret2
      exact relET_none rfl HB0.out
    case pos =>
      have hz24 := ht.1 hT0
      subst hT0
      clear ht t1 t2
      cases hin : inn f z s.size
      case false =>
        obtain ⟨e1, e2⟩ := rel_no (s := s) (f := f) hz0 (fun h => by rw [hin] at h; exact absurd h.2.1 (by simp))
        rw [hin] at HIN
        rw [e1, e2]
        clear e1 e2
        go_enter Try.func18, Try.ntmps18
        go_upto_region 1 with fail
        rw [HW.out]
        try rw [HR.out]
        go_step3
        go_wp2_with (go_at_call 24; refine (HIN.out _).mono ?_; rintro e w' ⟨rfl, rfl⟩)
        go_ret2
        exact relET_none rfl HB0.out
      case true =>
        have hno := fun h => rel_no (s := s) (f := f) hz0 h
        have hyes := rel_yes (s := s) hz24 hin
        rw [hin] at HIN
        obtain ⟨i1, i2, i3, i4⟩ := inn_iff.1 hin
        obtain ⟨N, hN⟩ : ∃ N : Nat, (z / 24).toNat = N := ⟨_, rfl⟩
        rw [hN] at hno hyes
        generalize relL s f z = L at *
        generalize relE s f z = E at *
        have hdiv : z.tdiv 24 = (N : Int) := by rw [Int.tdiv_eq_ediv_of_nonneg i2]; omega
        have hNz : z = 24 * (N : Int) := by omega
        have hNb : (N : Int) ≤ 1000000 := by omega
        have n1 : wrap64 (N : Int) = N := IntWalk.wrap64_in _ (by omega)
        have n2 : IntKind.i64.wrap (N : Int) = N := IntWalk.i64_in _ (by omega)
        have HNO := Lib.hid (fun (h : rlOk s f N = false) => hno (fun x => by rw [h] at x; exact absurd x.2.2 (by simp)))
        have HYES := Lib.hid hyes
        have HFB := Lib.hid (And.intro i1 (And.intro i3 (And.intro i4 hNz)))
        clear hno hyes hin i3 i4 hN hNz hz24 hTb
        obtain ⟨i0, hi, hz0', hz1, hz2⟩ := info_parts infoRel
        go_enter Try.func18, Try.ntmps18
        go_upto_region 1 with fail
        rw [HW.out]
        try rw [HR.out]
        go_step3
        go_wp2_with (go_at_call 24; refine (HIN.out _).mono ?_; rintro e w' ⟨rfl, rfl⟩)
        have hS : Below (R + 2) W (W.alloc (.cells #[] 23)) := (Below.refl _ _).alloc (by rw [HWS.out]; exact Nat.le_refl _) _
        have hO : (W.alloc (.cells #[] 23)).ownsRow (R + 2) 23 4 (.slice (some ⟨R + 2, 0, none⟩) 0 0) 0 (rlCells (rlsAt s f 0)) := by
          have := World.ownsRow_lit (base := R + 2) (e := 23) (size := 4) W #[] 0 (by rw [HWS.out]; exact Nat.le_refl _) (by unfold maxLen; omega) rfl
          rw [HWS.out] at this
          exact this
        have hO0 := Lib.hid hO
        have hS0 := Lib.hid hS
        rw [HWS.out]
        have c6' : (W.alloc (.cells #[] 23)).cell? ⟨R + 1, 6, none⟩ = some (.int .i64 z) := (hS.cell (by simp)).trans c6
        clear hO hS HIN c0 c5 c6 HW HR
        generalize W.alloc (.cells #[] 23) = W1 at *
        go_step3
        go_wp2_with fail
        clear c6'
        go_loopw [7, 8, 33] (fun lv b i wr => ∃ (k : Nat), k ≤ N ∧ i = .int .i64 k ∧ b = .bool false ∧ Hid (rlOk s f k = true) ∧ Hid (Below (R + 2) W wr) ∧ Hid (wr.ownsRow (R + 2) 23 4 lv k (rlCells (rlsAt s f k)))) (fun _ _ i _ => N - (intOf i).toNat)
        case atStart => exact ⟨0, Nat.zero_le _, rfl, rfl, Lib.hid rfl, hS0, hO0⟩
        case round =>
          clear hS0 hO0
          obtain ⟨k, hk, rfl, rfl, HOK, HS, HO⟩ := hrel
          by_cases hlt : k < N
          · obtain ⟨i1', i3', i4', hNz'⟩ := HFB.out
            obtain ⟨c0, c5, hbw⟩ := HV.out wr HS.out
            have hkN : f + 24 * (k : Int) + 24 ≤ s.size := by omega
            clear hNz'
            obtain ⟨P, hP⟩ : ∃ P : Int, f + (k : Int) * 24 = P := ⟨_, rfl⟩
            have hrl : rlAt s (f + (k : Int) * 24) = ⟨wrap64 (getN s P 8), getN s (P + 8) 4, getN s (P + 12) 4, wrap64 (getN s (P + 16) 8)⟩ := by rw [hP]; rfl
            have g1 := getN_in4 s (P + 8)
            have g2 := getN_in4 s (P + 12)
            have HN0 := Lib.hid (show ∀ u, u.cell? ⟨R, 0, none⟩ = some (.string s) → u.cell? ⟨R + 1, 5, none⟩ = some (.int .i64 f) → Calls Try.prog 25 #[.int .i64 (k : Int), .int .i64 0, .int .i64 8, .pointer (some ⟨R, 0, none⟩), .pointer (some ⟨R + 1, 0, none⟩)] u fun e w' => e = .returned (.int .u64 (getN s P 8)) ∧ u = w' from fun u h1 h2 => by
              have := number_anyZ R (R + 1) s f k 0 8 u (by omega) h1 h2 (by omega) (by omega) (by omega) (by omega) (by omega)
              rw [hP, show P + ((0 : Nat) : Int) = P by simp] at this
              exact this)
            have HN1 := Lib.hid (show ∀ u, u.cell? ⟨R, 0, none⟩ = some (.string s) → u.cell? ⟨R + 1, 5, none⟩ = some (.int .i64 f) → Calls Try.prog 25 #[.int .i64 (k : Int), .int .i64 8, .int .i64 4, .pointer (some ⟨R, 0, none⟩), .pointer (some ⟨R + 1, 0, none⟩)] u fun e w' => e = .returned (.int .u64 (getN s (P + 8) 4)) ∧ u = w' from fun u h1 h2 => by
              have := number_anyZ R (R + 1) s f k 8 4 u (by omega) h1 h2 (by omega) (by omega) (by omega) (by omega) (by omega)
              rw [hP] at this
              exact this)
            have HN2 := Lib.hid (show ∀ u, u.cell? ⟨R, 0, none⟩ = some (.string s) → u.cell? ⟨R + 1, 5, none⟩ = some (.int .i64 f) → Calls Try.prog 25 #[.int .i64 (k : Int), .int .i64 12, .int .i64 4, .pointer (some ⟨R, 0, none⟩), .pointer (some ⟨R + 1, 0, none⟩)] u fun e w' => e = .returned (.int .u64 (getN s (P + 12) 4)) ∧ u = w' from fun u h1 h2 => by
              have := number_anyZ R (R + 1) s f k 12 4 u (by omega) h1 h2 (by omega) (by omega) (by omega) (by omega) (by omega)
              rw [hP] at this
              exact this)
            have HN3 := Lib.hid (show ∀ u, u.cell? ⟨R, 0, none⟩ = some (.string s) → u.cell? ⟨R + 1, 5, none⟩ = some (.int .i64 f) → Calls Try.prog 25 #[.int .i64 (k : Int), .int .i64 16, .int .i64 8, .pointer (some ⟨R, 0, none⟩), .pointer (some ⟨R + 1, 0, none⟩)] u fun e w' => e = .returned (.int .u64 (getN s (P + 16) 8)) ∧ u = w' from fun u h1 h2 => by
              have := number_anyZ R (R + 1) s f k 16 8 u (by omega) h1 h2 (by omega) (by omega) (by omega) (by omega) (by omega)
              rw [hP] at this
              exact this)
            have hok := rlOk_succ s f k
            rw [HOK.out, Bool.true_and, hrl] at hok
            have hsucc : rlCells (rlsAt s f (k + 1)) = rlCells (rlsAt s f k) ++ [.int .i64 (wrap64 (getN s P 8)), .int .i64 (getN s (P + 8) 4), .int .i64 (getN s (P + 12) 4), .int .i64 (wrap64 (getN s (P + 16) 8))] := by
              rw [rlsAt_succ, rlCells_snoc, hrl]
            have HM := Lib.hid (fun u => may_any ⟨wrap64 (getN s P 8), getN s (P + 8) 4, getN s (P + 12) 4, wrap64 (getN s (P + 16) 8)⟩ s.size u (by rw [← hrl]; exact rlAt_wf _ _) (by omega))
            unfold Rl.cs at HM
            simp only at HM
            have x0 : IntKind.i64.wrap (getN s P 8) = wrap64 (getN s P 8) := IntWalk.i64_left _
            have x3 : IntKind.i64.wrap (getN s (P + 16) 8) = wrap64 (getN s (P + 16) 8) := IntWalk.i64_left _
            obtain ⟨m0, hm0⟩ : ∃ m, wrap64 (getN s P 8) = m := ⟨_, rfl⟩
            obtain ⟨m3, hm3⟩ : ∃ m, wrap64 (getN s (P + 16) 8) = m := ⟨_, rfl⟩
            rw [hm0] at hok hsucc HM x0
            rw [hm3] at hok hsucc HM x3
            generalize getN s P 8 = z0 at *
            generalize getN s (P + 8) 4 = z1 at *
            generalize getN s (P + 12) 4 = z2 at *
            generalize getN s (P + 16) 8 = z3 at *
            have y1 : wrap64 z1 = z1 := IntWalk.wrap64_in _ (by omega)
            have y2 : wrap64 z2 = z2 := IntWalk.wrap64_in _ (by omega)
            have x1 : IntKind.i64.wrap z1 = z1 := IntWalk.i64_in _ (by omega)
            have x2 : IntKind.i64.wrap z2 = z2 := IntWalk.i64_in _ (by omega)
            generalize hmm : (⟨m0, z1, z2, m3⟩ : Rl).may s.size = mm at *
            obtain ⟨X, hX⟩ : ∃ X, wr.alloc (.cells #[.int .i64 m0, .int .i64 z1, .int .i64 z2, .int .i64 m3] 23) = X := ⟨_, rfl⟩
            obtain ⟨G, hG⟩ : ∃ G, wr.heap.size = G := ⟨_, rfl⟩
            have hGR : R + 2 ≤ G := by rw [← hG, ← HWS.out]; exact HS.out.size
            have HX1 := Lib.hid (show Blk X G 23 #[.int .i64 m0, .int .i64 z1, .int .i64 z2, .int .i64 m3] from by rw [← hX, ← hG]; exact Blk.new _ _ _)
            have HX2 := Lib.hid (show Below (R + 2) W X from by rw [← hX]; exact HS.out.alloc (by omega) _)
            have HX3 := Lib.hid (show X.ownsRow (R + 2) 23 4 u7 k (rlCells (rlsAt s f k)) from by rw [← hX]; exact HO.out.alloc _)
            have HX4 := Lib.hid hX
            have HX5 := Lib.hid hG
            clear hX hG hbw hmm
            obtain ⟨a0, a5, -⟩ := HV.out X HX2.out
            have b0 : X.cell? ⟨G, 0, none⟩ = some (.int .i64 m0) := HX1.out.at_ 0 _ rfl
            have b1 : X.cell? ⟨G, 1, none⟩ = some (.int .i64 z1) := HX1.out.at_ 1 _ rfl
            have b2 : X.cell? ⟨G, 2, none⟩ = some (.int .i64 z2) := HX1.out.at_ 2 _ rfl
            have b3 : X.cell? ⟨G, 3, none⟩ = some (.int .i64 m3) := HX1.out.at_ 3 _ rfl
            clear HS HO hrl hP g1 g2
            go_upto_region 11 with (first
              | (go_at_call 25; with_reducible refine (HN0.out _ (by assumption) (by assumption)).mono ?_; rintro e w' ⟨rfl, rfl⟩)
              | (go_at_call 25; with_reducible refine (HN1.out _ (by assumption) (by assumption)).mono ?_; rintro e w' ⟨rfl, rfl⟩)
              | (go_at_call 25; with_reducible refine (HN2.out _ (by assumption) (by assumption)).mono ?_; rintro e w' ⟨rfl, rfl⟩)
              | (go_at_call 25; with_reducible refine (HN3.out _ (by assumption) (by assumption)).mono ?_; rintro e w' ⟨rfl, rfl⟩))
            rw [HX4.out, HX5.out]
            clear HN0 HN1 HN2 HN3 x0 x1 x2 x3 y1 y2
            have HGX := Lib.hid (show G < X.heap.size from HX1.out.lt)
            cases mm
            case false =>
              have hno := HNO.out (rlOk_le s f (k := k + 1) (by omega) hok)
              obtain ⟨e1, e2⟩ := hno
              have HE := Lib.hid (And.intro e1 e2)
              clear e1 e2 hok hsucc HOK
              go_wp2_with (go_at_call 27; refine (HM.out _).mono ?_; rintro e v1 ⟨rfl, hb⟩)
              try rw [Exit.noGoto_ret]
              have hbw := (HV.out v1 (HX2.out.trans (hb.mono (by have := HGX.out; omega)))).2.2
              go_ret2
              rw [HE.out.1, HE.out.2]
              exact relET_none rfl hbw
            case true =>
              have HSU := Lib.hid hsucc
              have HOK2 := Lib.hid hok
              clear hok hsucc HOK
              go_upto_region 13 with (go_at_call 27; refine (HM.out _).mono ?_; rintro e v1 ⟨rfl, hb⟩; have HY1 := Lib.hid (HX1.out.below hb HX1.out.lt); have HY2 := Lib.hid (HX2.out.trans (hb.mono (by have := HGX.out; omega))); have HY3 := Lib.hid (own_below HX3.out hb); clear hb)
              have b0 : v1.cell? ⟨G, 0, none⟩ = some (.int .i64 m0) := HY1.out.at_ 0 _ rfl
              have b1 : v1.cell? ⟨G, 1, none⟩ = some (.int .i64 z1) := HY1.out.at_ 1 _ rfl
              have b2 : v1.cell? ⟨G, 2, none⟩ = some (.int .i64 z2) := HY1.out.at_ 2 _ rfl
              have b3 : v1.cell? ⟨G, 3, none⟩ = some (.int .i64 m3) := HY1.out.at_ 3 _ rfl
              have HZ3 := Lib.hid (HY3.out.alloc (.cells #[.int .i64 m0, .int .i64 z1, .int .i64 z2, .int .i64 m3] 23))
              have hsz1 : R + 2 ≤ v1.heap.size := by have := HY1.out.lt; omega
              obtain ⟨cz, hcz⟩ : ∃ cz, rlCells (rlsAt s f k) = cz := ⟨_, rfl⟩
              rw [hcz] at HZ3 HSU HY3
              clear hcz HX1 HX2 HX3 HX4 HX5 a0 a5 c0 c5
              go_upto_region 14 with (refine wpList_append_lies _ (by rfl) (.tmp 58) (.tmp 60) _ (by rfl) (R + 2) 23 i0 _ 4 32 Try.underlying32 hi hz0' hz1 hz2 rfl (by omega) u7 k cz (by rfl) HZ3.out ⟨v1.heap.size, 0, none⟩ 1 1 [.int .i64 m0, .int .i64 z1, .int .i64 z2, .int .i64 m3] (by rfl) (by rfl) (World.news_of_block (cs := #[.int .i64 m0, .int .i64 z1, .int .i64 z2, .int .i64 m3]) (t := 23) (fr := (0, 0)) (heap_alloc_new v1 _)) (by simp [Value.oneCell']) (by omega) (by unfold maxLen; omega) (by omega) (by simp; omega) (v1.heap.size + 1) (by simp) ?_; intro gg cap w1 hown1 hgrow hat hlt1)
              have k2 := Lib.hid ((HY2.out.alloc (by omega) (.cells #[.int .i64 m0, .int .i64 z1, .int .i64 z2, .int .i64 m3] 23)).grown hgrow (by simp; omega) (fun j e => (HY3.out.lt j e).1))
              rw [← HSU.out] at hown1
              have k3 := Lib.hid hown1
              clear hown1 hgrow hat hlt1 HY1 HY2 HY3 HZ3 b0 b1 b2 b3
              go_wp2_with fail
              go_roundw
              case rel => exact ⟨k + 1, by omega, by go_num, rfl, Lib.hid HOK2.out, k2, k3⟩
              case measure => simp [intOf]; omega
          · obtain rfl : k = N := by omega
            obtain ⟨e1, e2⟩ := HYES.out HOK.out
            have HE := Lib.hid (And.intro e1 e2)
            clear e1 e2
            obtain ⟨hkl, A, c, rfl, hrow, -⟩ := RlRow.of_own HO.out (rlsAt_wf s f k)
            have hbw := (HV.out wr HS.out).2.2
            have HFIN := Lib.hid (And.intro hrow hbw)
            have hrl : (rlsAt s f k).length = k := rlsAt_length s f k
            try rw [hrl]
            have HRL := Lib.hid hrl
            clear hrow hbw HO HS hkl hrl
            go_wp2_with fail
            try rw [Exit.noGoto_ret]
            go_ret2
            rw [HE.out.1, HE.out.2]
            exact ⟨A, c, by rw [HRL.out]; rfl, HFIN.out⟩
end Go.Proofs.Ytpkjaacklfiblaa
