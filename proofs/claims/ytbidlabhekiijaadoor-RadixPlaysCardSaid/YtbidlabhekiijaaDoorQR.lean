/- The reference of layer 7: Set, of what With tells. -/
import Derived.Test.YtbidlabhekiijaaDoorQO
import Derived.Laws.AppendOwnNone
namespace Go.Proofs.YtbidlabhekiijaaDoor
open Go.RowKit
set_option linter.unusedVariables false
set_option linter.unusedSimpArgs false

/-- What With tells. -/
def RWith (r B : Nat) (M : Nat → Sl) (P : Nat) (s : Sl) : Prop := ∀ (V : World) (v : Value), Blk V r 40 #[v] → SRow V B v (spotsF M) →
  Calls Tryd.prog 45 #[.pointer (some ⟨r, 0, none⟩), .int .i64 (P : Nat), s.v] V fun e w' => ∃ v', e = .returned v' ∧ w'.ownsRow V.heap.size 47 6 v' (spotsF (setM M P s)).length ((spotsF (setM M P s)).flatMap spC) ∧ Below V.heap.size V w'
/-- What Set of the reference leaves. -/
def RSet (w : World) (r B : Nat) (M : Nat → Sl) (pg : Int) (s : Sl) (F0 : Nat) (e : Ending) (w' : World) : Prop :=
  e = .returned (.int .i64 (stE' M F0 pg s)) ∧ But (· = r) w w' ∧ ∃ v', Blk w' r 40 #[v'] ∧ SRow w' B v' (spotsF (stM' M F0 pg s))
set_option maxRecDepth 100000 in
set_option maxHeartbeats 800000 in
theorem rset_in {w : World} {r B : Nat} {v : Value} {M : Nat → Sl} (hM : Ents M) (hr : Blk w r 40 #[v]) (h : SRow w B v (spotsF M)) (hB : B ≤ w.heap.size) (hrB : r < B) {P : Nat} (hP : P < 4096) {s : Sl} (hs : s.may = true) (F0 : Nat) (hF : F0 ≤ 100000) (hW : RWith r B M P s) :
    Calls Tryd.prog 25 #[.pointer (some ⟨r, 0, none⟩), .int .i64 (P : Nat), s.v, .int .i64 (F0 : Nat)] w (RSet w r B M (P : Nat) s F0) := by
  unfold RSet
  have hkr := kn_range M P
  have hcs := cnt7_set (M := M) hP (Sl.may_ne hs)
  have hlv : cnt7 M ≤ 1000 := by
    have := lvN_le M 1
    have := lvN_le M 2
    have := lvN_le M 3
    unfold cnt7
    omega
  have hE : stE' M F0 (P : Nat) s = if 4 - kn M P ≤ F0 then 0 else 18 := by unfold stE'; rw [if_pos (by omega), if_pos hs]; rfl
  have hMs : stM' M F0 (P : Nat) s = if 4 - kn M P ≤ F0 then setM M P s else M := by
    unfold stM'
    rw [hE]
    by_cases hc : 4 - kn M P ≤ F0
    · rw [if_pos hc, if_pos rfl, if_pos hc]; rfl
    · rw [if_neg hc, if_neg (by decide), if_neg hc]
  have hM2 : Ents (setM M P s) := hM.setM hP (.inr hs)
  have b0 := (Below.refl w.heap.size w).alloc (Nat.le_refl _) (.cells s.cs 23)
  have k0 := Blk.new w 23 s.cs
  have r0 := hr.alloc (.cells s.cs 23)
  have h0 := h.alloc (.cells s.cs 23)
  have HH := Lib.hid (And.intro h hr)
  obtain ⟨W0, hW0⟩ : ∃ W0, w.alloc (.cells s.cs 23) = W0 := ⟨_, rfl⟩
  rw [hW0] at b0 k0 r0 h0
  have HMY := Lib.hid (refMay_any s)
  rw [hs] at HMY
  have HK := Lib.hid (And.intro k0 (And.intro b0 (And.intro r0 h0)))
  have HWI := Lib.hid hW
  unfold RWith at HWI
  have hlt := hr.lt
  obtain ⟨C1, hC1⟩ : ∃ C1, cnt7 M = C1 := ⟨_, rfl⟩
  obtain ⟨C2, hC2⟩ : ∃ C2, cnt7 (setM M P s) = C2 := ⟨_, rfl⟩
  rw [hC1] at hcs hlv
  rw [hC2] at hcs
  have HN1 := Lib.hid (fun (V : World) (B' : Nat) (v' : Value) (hx : SRow V B' v' (spotsF M)) => (rnodes_any hM hx).mono (R' := fun e w' => e = .returned (.int .i64 (C1 : Nat)) ∧ Below V.heap.size V w') fun e w' ⟨he, hb⟩ => ⟨by rw [he, hC1], hb⟩)
  have HN2 := Lib.hid (fun (V : World) (B' : Nat) (v' : Value) (hx : SRow V B' v' (spotsF (setM M P s))) => (rnodes_any hM2 hx).mono (R' := fun e w' => e = .returned (.int .i64 (C2 : Nat)) ∧ Below V.heap.size V w') fun e w' ⟨he, hb⟩ => ⟨by rw [he, hC2], hb⟩)
  have HEM := Lib.hid (And.intro hE hMs)
  obtain ⟨sa, sb, sc, sd, sn⟩ := s
  have x0 := k0.at_ 0 _ rfl
  have x1 := k0.at_ 1 _ rfl
  have x2 := k0.at_ 2 _ rfl
  have x3 := k0.at_ 3 _ rfl
  have x4 := k0.at_ 4 _ rfl
  unfold Sl.v Sl.cs at *
  simp only at *
  have d1 : ¬ (P : Int) < 0 := by omega
  have d2 : ¬ (4095 : Int) < (P : Int) := by omega
  have d3 : decide ((P : Int) < 0) = false := decide_eq_false d1
  have d4 : decide ((4095 : Int) < (P : Int)) = false := decide_eq_false d2
  clear hE hMs hr h b0 k0 r0 h0 hW hC1 hC2 hs hM hM2
  go_enter Tryd.func25, Tryd.ntmps25
  go_upto_region 7 with (first
    | (go_at_call 11; refine (HMY.out _).mono ?_; rintro e v1 ⟨rfl, hb1⟩
       have kk := HK.out.1.below hb1 HK.out.1.lt
       clear x0 x1 x2 x3 x4
       have x0 := kk.at_ 0 _ rfl
       have x1 := kk.at_ 1 _ rfl
       have x2 := kk.at_ 2 _ rfl
       have x3 := kk.at_ 3 _ rfl
       have x4 := kk.at_ 4 _ rfl
       have HK1 := Lib.hid (And.intro (HK.out.2.1.trans (hb1.mono HK.out.2.1.size)) (And.intro (HK.out.2.2.1.below hb1 HK.out.2.2.1.lt) (HK.out.2.2.2.below hb1)))
       clear kk hb1)
    | (go_at_call 45; refine (HWI.out _ _ HK1.out.2.1 HK1.out.2.2).mono ?_; rintro e v2 ⟨v', rfl, ho, hb2⟩
       obtain ⟨A', c', rfl⟩ := own_sl7 ho
       have HK2 := Lib.hid (And.intro ho (And.intro (HK1.out.1.trans (hb2.mono HK1.out.1.size)) (And.intro (HK1.out.2.1.below hb2 HK1.out.2.1.lt) (And.intro (HK1.out.2.2.below hb2) HK1.out.1.size))))
       clear ho hb2))
  have hd := (Below.refl v2.heap.size v2).drew
  have KR := Lib.hid (HK2.out.2.2.1.below hd HK2.out.2.2.1.lt)
  have KO := Lib.hid (HK2.out.2.2.2.1.below hd)
  have KS := Lib.hid ((SRow.of_own HK2.out.1).below hd)
  have KB := Lib.hid (HK2.out.2.1.trans (hd.mono HK2.out.2.1.size))
  have cz := HK2.out.2.2.1.at_ 0 _ rfl
  have c0 := KR.out.at_ 0 _ rfl
  clear hd
  clear HK2
  go_region_held3 (fun w' => w'.cell? ⟨r, 0, none⟩ = some v)
    (first | exact c0 | exact cz)
    (first
     | (go_at_call 26; (with_reducible refine (HN2.out _ _ _ KS.out).mono ?_); rintro e v3 ⟨rfl, hb⟩
        have KRn := Lib.hid (KR.out.below hb KR.out.lt)
        have KOn := Lib.hid (KO.out.below hb)
        have KSn := Lib.hid (KS.out.below hb)
        have KBn := Lib.hid (KB.out.trans (hb.mono KB.out.size))
        clear c0 KR KO KS KB hb
        have KR := KRn
        have KO := KOn
        have KS := KSn
        have KB := KBn
        clear KRn KOn KSn KBn
        have c0 := KR.out.at_ 0 _ rfl)
     | (go_at_call 26; (with_reducible refine (HN1.out _ _ _ KO.out).mono ?_); rintro e v3 ⟨rfl, hb⟩
        have KRn := Lib.hid (KR.out.below hb KR.out.lt)
        have KOn := Lib.hid (KO.out.below hb)
        have KSn := Lib.hid (KS.out.below hb)
        have KBn := Lib.hid (KB.out.trans (hb.mono KB.out.size))
        clear c0 KR KO KS KB hb
        have KR := KRn
        have KO := KOn
        have KS := KSn
        have KB := KBn
        clear KRn KOn KSn KBn
        have c0 := KR.out.at_ 0 _ rfl))
  all_goals
    obtain ⟨D, hD⟩ : ∃ D, 4 - kn M P = D := ⟨_, rfl⟩
    have HEM2 := HEM.out
    have hD4 : D ≤ 4 := by omega
    rw [hD] at HEM2 ⊢
    have HE := Lib.hid HEM2
    have e1 : IntKind.i64.wrap ((C1 : Int) + (D : Int) - (C1 : Int)) = (D : Int) := by rw [show (C1 : Int) + (D : Int) - (C1 : Int) = (D : Int) by omega]; exact IntWalk.i64_in _ (by omega)
    rw [e1]
    have hsz := HK1.out.1.size
    clear HEM HEM2 hcs HN1 HN2 hD
    by_cases hc : D ≤ F0
    · have hq : decide ((F0 : Int) < (D : Int)) = false := decide_eq_false (by omega)
      rw [hq]
      have g0 := KR.out.frozen 0
      have krX : Blk _ _ _ #[.slice A' _ c'] := KR.out.set_ 0 (.slice A' (spotsF (setM M P ⟨sa, sb, sc, sd, sn⟩)).length c')
      have hbut := (But.of_below (S := (· = r)) KB.out).setCell (p := ⟨r, 0, none⟩) (.inl rfl) (.slice A' (spotsF (setM M P ⟨sa, sb, sc, sd, sn⟩)).length c')
      have hrow := (KS.out.but ((But.refl (· = r) v3).setCell (p := ⟨r, 0, none⟩) (.inl rfl) (.slice A' (spotsF (setM M P ⟨sa, sb, sc, sd, sn⟩)).length c')) (fun g hg e => by omega)).weaken (show B ≤ v1.heap.size by omega)
      have HF := Lib.hid (And.intro hbut (And.intro krX hrow))
      clear krX hbut hrow
      go_wp2
      go_ret
      refine ⟨?_, HF.out.1, _, HF.out.2.1, ?_⟩
      · rw [HE.out.1, if_pos hc]; rfl
      · rw [HE.out.2, if_pos hc]; exact HF.out.2.2
    · have hq : decide ((F0 : Int) < (D : Int)) = true := decide_eq_true (by omega)
      rw [hq]
      go_wp2
      go_ret
      refine ⟨?_, But.of_below KB.out, _, KR.out, ?_⟩
      · rw [HE.out.1, if_neg hc]; rfl
      · rw [HE.out.2, if_neg hc]; exact KO.out
end Go.Proofs.YtbidlabhekiijaaDoor

/- The reference of layer 7: Set's two other ways: a page out of range, and what may not be. -/
namespace Go.Proofs.YtbidlabhekiijaaDoor
open Go.RowKit
set_option linter.unusedVariables false
set_option linter.unusedSimpArgs false

set_option maxRecDepth 100000 in
theorem rset_may {w : World} {r : Nat} {P : Nat} (hP : P < 4096) {s : Sl} (hs : s.may = false) (F0 : Nat) :
    Calls Tryd.prog 25 #[.pointer (some ⟨r, 0, none⟩), .int .i64 (P : Nat), s.v, .int .i64 (F0 : Nat)] w fun e w' => e = .returned (.int .i64 1) ∧ Below w.heap.size w w' := by
  have b0 := (Below.refl w.heap.size w).alloc (Nat.le_refl _) (.cells s.cs 23)
  have k0 := Blk.new w 23 s.cs
  obtain ⟨W0, hW0⟩ : ∃ W0, w.alloc (.cells s.cs 23) = W0 := ⟨_, rfl⟩
  rw [hW0] at b0 k0
  have HMY := Lib.hid (refMay_any s)
  rw [hs] at HMY
  have HB := Lib.hid b0
  obtain ⟨sa, sb, sc, sd, sn⟩ := s
  have x0 := k0.at_ 0 _ rfl
  have x1 := k0.at_ 1 _ rfl
  have x2 := k0.at_ 2 _ rfl
  have x3 := k0.at_ 3 _ rfl
  have x4 := k0.at_ 4 _ rfl
  unfold Sl.v Sl.cs at *
  simp only at *
  have d1 : ¬ (P : Int) < 0 := by omega
  have d2 : ¬ (4095 : Int) < (P : Int) := by omega
  have d3 : decide ((P : Int) < 0) = false := decide_eq_false d1
  have d4 : decide ((4095 : Int) < (P : Int)) = false := decide_eq_false d2
  clear b0 k0 hs
  go_enter Tryd.func25, Tryd.ntmps25
  go_wp2_with (go_at_call 11; refine (HMY.out _).mono ?_; rintro e v1 ⟨rfl, hb1⟩; have HB1 := Lib.hid (HB.out.trans (hb1.mono HB.out.size)); clear hb1)
  go_ret
  exact ⟨rfl, HB1.out⟩

set_option maxRecDepth 100000 in
theorem rset_out {w : World} {r : Nat} {pg : Int} (hP : pg < 0 ∨ 4095 < pg) {s : Sl} (F0 : Nat) :
    Calls Tryd.prog 25 #[.pointer (some ⟨r, 0, none⟩), .int .i64 pg, s.v, .int .i64 (F0 : Nat)] w fun e w' => e = .returned (.int .i64 14) ∧ Below w.heap.size w w' := by
  have HB := Lib.hid ((Below.refl w.heap.size w).alloc (Nat.le_refl _) (.cells s.cs 23))
  obtain ⟨sa, sb, sc, sd, sn⟩ := s
  unfold Sl.v Sl.cs at *
  simp only at *
  by_cases hq : pg < 0
  · have d3 : decide (pg < 0) = true := decide_eq_true hq
    clear hP
    go_enter Tryd.func25, Tryd.ntmps25
    go_wp2
    go_ret
    exact ⟨rfl, HB.out⟩
  · have d3 : decide (pg < 0) = false := decide_eq_false hq
    have h5 : 4095 < pg := by omega
    have d4 : decide ((4095 : Int) < pg) = true := decide_eq_true h5
    clear hP
    go_enter Tryd.func25, Tryd.ntmps25
    go_wp2
    go_ret
    exact ⟨rfl, HB.out⟩
end Go.Proofs.YtbidlabhekiijaaDoor

/- The reference of layer 7: With: the pages but one, with that one where it comes in. -/
namespace Go.Proofs.YtbidlabhekiijaaDoor
open Go.RowKit
set_option linter.unusedVariables false
set_option linter.unusedSimpArgs false

theorem spC_flat : ∀ L : List (Nat × Sl), (L.flatMap spC).length = L.length * 6
  | [] => rfl
  | x :: L => by rw [List.flatMap_cons, List.length_append, spC_flat L, List.length_cons]; simp [spC]; omega
theorem spC_one (L : List (Nat × Sl)) : ∀ u ∈ L.flatMap spC, u.oneCell' = true := fun u hu => by
  obtain ⟨x, _, hx⟩ := List.mem_flatMap.1 hu
  simp [spC] at hx
  rcases hx with rfl | rfl | rfl | rfl | rfl | rfl <;> rfl
theorem spC_take (L : List (Nat × Sl)) (K j : Nat) (u : Value) (h : ((L.take K).flatMap spC)[j]? = some u) : (L.flatMap spC)[j]? = some u := by
  rw [← List.take_append_drop K L, List.flatMap_append, List.getElem?_append_left (List.getElem?_eq_some_iff.1 h).1]
  exact h
theorem spC_drop {L : List (Nat × Sl)} {K : Nat} (hK : K ≤ L.length) (j : Nat) (u : Value) (h : ((L.drop K).flatMap spC)[j]? = some u) : (L.flatMap spC)[K * 6 + j]? = some u := by
  have e : ((L.take K).flatMap spC).length = K * 6 := by rw [spC_flat, List.length_take]; omega
  rw [← List.take_append_drop K L, List.flatMap_append, List.getElem?_append_right (by omega), e, show K * 6 + j - K * 6 = j by omega]
  exact h

/-- What stands behind the third append. -/
theorem with_end {w : World} {B B' k P : Nat} {v : Value} {s : Sl} {L : List (Nat × Sl)} {xs : List Value} {n : Nat} (h : w.ownsRow B 47 6 v n xs) (hn : n = k + 1 + (L.length - k)) (hx : xs = ((L.take k).flatMap spC ++ spC (P, s)) ++ (L.drop k).flatMap spC) (hk : k ≤ L.length) (hB : B' ≤ B) :
    w.ownsRow B' 47 6 v (L.take k ++ (P, s) :: L.drop k).length ((L.take k ++ (P, s) :: L.drop k).flatMap spC) := by
  have e : (L.take k ++ (P, s) :: L.drop k).length = n := by
    rw [List.length_append, List.length_cons, List.length_take, List.length_drop]
    omega
  rw [e, List.flatMap_append, List.flatMap_cons, ← List.append_assoc, ← hx]
  exact own_weaken h hB
theorem addr_zero (g j : Nat) : (⟨g, 0, none⟩ : Addr).add j = ⟨g, j, none⟩ := by unfold Addr.add; split <;> simp_all
theorem addr_off (g k j : Nat) : (⟨g, k, none⟩ : Addr).add j = ⟨g, k + j, none⟩ := by unfold Addr.add; split <;> simp_all

set_option maxRecDepth 100000 in
set_option maxHeartbeats 800000 in
theorem rwith_any {V : World} {r B : Nat} {v : Value} {M : Nat → Sl} (hr : Blk V r 40 #[v]) (h : SRow V B v (spotsF M)) {P : Nat} (hP : P < 4096) {s : Sl} (hs : s ≠ Sl.zero) :
    Calls Tryd.prog 45 #[.pointer (some ⟨r, 0, none⟩), .int .i64 (P : Nat), s.v] V fun e w' => ∃ v', e = .returned v' ∧ w'.ownsRow V.heap.size 47 6 v' (spotsF (setM M P s)).length ((spotsF (setM M P s)).flatMap spC) ∧ Below V.heap.size V w' := by
  obtain ⟨i0, hi, hz0, hz1, hz2⟩ := info_parts infoSpot7
  obtain ⟨K, hK, hlow, hspl⟩ := spotsF_set (M := M) hP hs
  rw [hspl]
  have b0 := (Below.refl V.heap.size V).alloc (Nat.le_refl _) (.cells s.cs 23)
  have k0 := Blk.new V 23 s.cs
  have r0 := hr.alloc (.cells s.cs 23)
  have h0 := h.alloc (.cells s.cs 23)
  obtain ⟨W0, hW0⟩ : ∃ W0, V.alloc (.cells s.cs 23) = W0 := ⟨_, rfl⟩
  rw [hW0] at b0 k0 r0 h0
  have HWO := Lib.hid (rwithout_any r0 h0 (spotsF_len M) (P : Nat))
  have hLen : (woL (spotsF M) (P : Nat)).length ≤ 10000 := Nat.le_trans (List.length_filter_le _ _) (spotsF_len M)
  have HK := Lib.hid (And.intro k0 b0)
  generalize woL (spotsF M) (P : Nat) = L at *
  obtain ⟨sa, sb, sc, sd, sn⟩ := s
  unfold Sl.v
  unfold Sl.cs at *
  simp only at *
  have HLOW := Lib.hid hlow
  clear hr h b0 k0 r0 h0 hspl hlow hs
  go_enter Tryd.func45, Tryd.ntmps45
  go_wp2_with (first
    | (go_at_call 38; refine HWO.out.mono ?_; rintro e v1 ⟨v', rfl, ho, hb⟩
       obtain ⟨A', c', rfl⟩ := own_sl7 ho
       have HO := Lib.hid ho
       have HB := Lib.hid (And.intro (HK.out.1.below hb HK.out.1.lt) (HK.out.2.trans (hb.mono (Nat.le_of_lt HK.out.1.lt))))
       have hsz := hb.size
       have hsv := HK.out.1.lt
       clear ho hb))
  go_loopw [8] (fun ii wx => ∃ k : Nat, k ≤ K ∧ ii = .int .i64 k ∧ wx = v1) (fun ii _ => K - (intOf ii).toNat)
  case atStart => exact ⟨0, Nat.zero_le _, rfl, rfl⟩
  case round =>
    obtain ⟨k, hk, rfl, rfl⟩ := hrel
    by_cases hlt : k < K
    · have hkl : k < L.length := by omega
      obtain ⟨g, o, R, rfl, _, hg, hR, x0, _⟩ := (SRow.of_own HO.out).at_ (i := k) hkl
      have hp := (HLOW.out k hkl).2 hlt
      generalize L[k].1 = pk at *
      have hk8 : (k : Int) < (L.length : Int) := by omega
      have hp8 : (pk : Int) < (P : Int) := by omega
      go_wp2
      go_roundw
      case rel => exact ⟨k + 1, by omega, by go_num, by first | rfl | trivial⟩
      case measure => simp [intOf]; omega
    · obtain rfl : k = K := by omega
      have hcell : ∀ (A : Option Addr) (n c : Nat) (L : List (Nat × Sl)) (V : World) (g : Nat), SRow V 0 (.slice (some ⟨g, 0, none⟩) L.length c) L → ∀ (k : Nat) (h : k < L.length), V.cell? ⟨g, k * 6, none⟩ = some (.int .i64 (L[k].1 : Nat)) := fun A n c L V g hr k h => by
        obtain ⟨g', o, R, e', _, _, hR, x0, _⟩ := hr.at_ (i := k) h
        cases e'
        rw [show k * 6 = R by omega]
        exact x0
      rcases HO.out.2 with ⟨e, _⟩ | ⟨g, cap, cur, e, hBg, hheap, hle, hmax, hcs, hcur⟩
      · simp only [Value.slice.injEq] at e
        obtain ⟨rfl, hl, rfl⟩ := e
        obtain rfl : L = [] := List.length_eq_zero_iff.1 hl
        obtain rfl : k = 0 := by simpa using hK
        clear hl hcell
        have hb0 := Below.refl wr.heap.size wr
        go_wp2_with (at_builtin; refine Hid.out ?_)
        refine Lib.hid ?_
        refine wpList_append_own_none rfl _ _ 38 rfl wr.heap.size 47 i0 6 Tryd.underlying38 hi (.slice none 0 0) 0 [] rfl (World.ownsRow_nil _ _ _ _) rfl ?_
        have x0 := HB.out.1.at_ 0 _ rfl
        have x1 := HB.out.1.at_ 1 _ rfl
        have x2 := HB.out.1.at_ 2 _ rfl
        have x3 := HB.out.1.at_ 3 _ rfl
        have x4 := HB.out.1.at_ 4 _ rfl
        have HB1 := Lib.hid (hb0.alloc (Nat.le_refl _) (.cells #[.int .i64 (P : Nat), .bool sa, .bool sb, .bool sc, .bool sd, .int .i64 sn] 47))
        clear hb0
        go_wp2_with (at_builtin; refine Hid.out ?_)
        refine Lib.hid ?_
        refine wpList_append_own _ rfl _ _ 38 rfl wr.heap.size 47 i0 _ 6 24 Tryd.underlying38 hi hz0 hz1 hz2 rfl (by decide) (.slice none 0 0) 0 [] rfl (World.ownsRow_nil _ _ _ _) ⟨wr.heap.size, 0, none⟩ 1 1 [.int .i64 (P : Nat), .bool sa, .bool sb, .bool sc, .bool sd, .int .i64 sn] rfl (by rfl)
          (fun j u hj => by rw [addr_zero]; exact (Blk.new wr 47 #[.int .i64 (P : Nat), .bool sa, .bool sb, .bool sc, .bool sd, .int .i64 sn]).at_ j u (by simpa using hj))
          (fun u hu => by simp at hu; rcases hu with rfl | rfl | rfl | rfl | rfl | rfl <;> rfl) (by unfold maxLen; omega) (by omega) HB1.out.size ?_
        intro vo2 w2 hown2 hgrow2 _
        have hb2 := HB1.out.grown hgrow2 HB1.out.size (fun k e => by cases e)
        have HO2 := Lib.hid hown2
        have HF := Lib.hid (And.intro (with_end (L := []) (k := 0) (P := P) (s := ⟨sa, sb, sc, sd, sn⟩) hown2 rfl rfl (Nat.zero_le _) (show V.heap.size ≤ wr.heap.size by omega)) (HB.out.2.trans (hb2.mono (by omega))))
        clear hown2 hgrow2 hb2 x0 x1 x2 x3 x4
        go_wp2_with (at_builtin; refine Hid.out ?_)
        refine Lib.hid ?_
        refine wpList_append_own_none rfl _ _ 38 rfl wr.heap.size 47 i0 6 Tryd.underlying38 hi vo2 _ _ rfl HO2.out rfl ?_
        go_wp2
        go_ret
        exact ⟨_, rfl, HF.out⟩
      · simp only [Value.slice.injEq] at e
        obtain ⟨rfl, _, rfl⟩ := e
        clear hcur hcs hmax hheap
        have hr0 := (SRow.of_own HO.out).weaken (Nat.zero_le _)
        have hck2 : k ≤ c' := by omega
        have hck3 : (k : Int) ≤ (c' : Int) := by omega
        have hck4 : (0 : Int) ≤ (k : Int) := by omega
        have hck5 : (k : Int) ≤ (L.length : Int) := by omega
        by_cases hkl : k < L.length
        all_goals first
          | (have x0 := hcell none 0 _ _ _ _ hr0 k hkl
             have hp : ¬ L[k].1 < P := fun h => by have := (HLOW.out k hkl).1 h; omega
             generalize L[k].1 = pk at *
             have hk8 : (k : Int) < (L.length : Int) := by omega
             have hp8 : ¬ (pk : Int) < (P : Int) := by omega
             clear hcell hr0 hp
             go_upto_region 5 with fail
             clear hp8 x0)
          | (have hk8 : ¬ (k : Int) < (L.length : Int) := by omega
             clear hcell hr0
             go_upto_region 5 with fail)
        all_goals
          have hkl2 : k ≤ 10000 := by omega
          have hgl : g < wr.heap.size := (HO.out.lt g rfl).2
          have hb0 := Below.refl wr.heap.size wr
          clear hk8
          go_wp2_with (at_builtin; refine Hid.out ?_)
          refine Lib.hid ?_
          refine wpList_append_own _ rfl _ _ 38 rfl wr.heap.size 47 i0 _ 6 24 Tryd.underlying38 hi hz0 hz1 hz2 rfl (by decide) (.slice none 0 0) 0 [] rfl (World.ownsRow_nil _ _ _ _) ⟨g, 0, none⟩ k c' ((L.take k).flatMap spC) rfl (by rw [spC_flat, List.length_take]; omega)
            (fun j u hj => by rw [addr_zero, HO.out.cellAt j (by have := (List.getElem?_eq_some_iff.1 hj).1; rw [spC_flat, List.length_take] at this; omega)]; exact spC_take L k j u hj)
            (spC_one _) (by unfold maxLen; omega) (by omega) (Nat.le_refl _) ?_
          intro vo w1 hown1 hgrow1 _
          rw [Nat.zero_add, List.nil_append] at hown1
          have hb1 := hb0.grown hgrow1 (Nat.le_refl _) (fun k e => by cases e)
          obtain ⟨A1, c1, rfl⟩ := own_sl7 hown1
          have kb := HB.out.1.below hb1 (by omega)
          have x0 := kb.at_ 0 _ rfl
          have x1 := kb.at_ 1 _ rfl
          have x2 := kb.at_ 2 _ rfl
          have x3 := kb.at_ 3 _ rfl
          have x4 := kb.at_ 4 _ rfl
          have hs1 := hb1.size
          have HO1 := Lib.hid (own_below hown1 ((Below.refl _ _).alloc (Nat.le_refl _) (.cells #[.int .i64 (P : Nat), .bool sa, .bool sb, .bool sc, .bool sd, .int .i64 sn] 47)))
          have HB1 := Lib.hid (hb1.alloc hs1 (.cells #[.int .i64 (P : Nat), .bool sa, .bool sb, .bool sc, .bool sd, .int .i64 sn] 47))
          clear hown1 hgrow1 hb1 kb hb0
          go_wp2_with (at_builtin; refine Hid.out ?_)
          refine Lib.hid ?_
          refine wpList_append_own _ rfl _ _ 38 rfl wr.heap.size 47 i0 _ 6 24 Tryd.underlying38 hi hz0 hz1 hz2 rfl (by decide) (.slice A1 k c1) k _ rfl HO1.out ⟨w1.heap.size, 0, none⟩ 1 1 [.int .i64 (P : Nat), .bool sa, .bool sb, .bool sc, .bool sd, .int .i64 sn] rfl (by rfl)
            (fun j u hj => by rw [addr_zero]; exact (Blk.new w1 47 #[.int .i64 (P : Nat), .bool sa, .bool sb, .bool sc, .bool sd, .int .i64 sn]).at_ j u (by simpa using hj))
            (fun u hu => by simp at hu; rcases hu with rfl | rfl | rfl | rfl | rfl | rfl <;> rfl) (by unfold maxLen; omega) (by omega) (by have := HB1.out.size; exact this) ?_
          intro vo2 w2 hown2 hgrow2 _
          have hb2 := HB1.out.grown hgrow2 HB1.out.size (fun k e => own_ge HO1.out e)
          obtain ⟨A2, c2, rfl⟩ := own_sl7 hown2
          have HO2 := Lib.hid hown2
          have HB2 := Lib.hid hb2
          have HL2 := Lib.hid (own_below HO.out hb2)
          clear hown2 hgrow2 hb2 x0 x1 x2 x3 x4
          by_cases hck : c' = k
          · have hkL := Lib.hid (show L.length ≤ k by omega)
            have hck' := hck.symm
            clear hck
            subst hck'
            clear hle hck2 hck3 hck5
            go_wp2_with (at_builtin; refine Hid.out ?_)
            refine Lib.hid ?_
            refine wpList_append_own _ rfl _ _ 38 rfl wr.heap.size 47 i0 _ 6 24 Tryd.underlying38 hi hz0 hz1 hz2 rfl (by decide) (.slice A2 (k + 1) c2) (k + 1) _ rfl HO2.out ⟨g, 0, none⟩ (L.length - k) _ ((L.drop k).flatMap spC) rfl (by rw [spC_flat, List.length_drop])
              (fun j u hj => by rw [List.drop_eq_nil_of_le hkL.out] at hj; cases hj)
              (spC_one _) (by unfold maxLen; omega) (by omega) HB2.out.size ?_
            intro vo3 w3 hown3 hgrow3 _
            have hb3 := HB2.out.grown hgrow3 HB2.out.size (fun k e => own_ge HO2.out e)
            have HF := Lib.hid (And.intro (with_end (P := P) (s := ⟨sa, sb, sc, sd, sn⟩) hown3 rfl rfl hK (show V.heap.size ≤ wr.heap.size by omega)) (HB.out.2.trans (hb3.mono (by omega))))
            clear hown3 hgrow3 hb3
            go_wp2
            go_ret
            exact ⟨_, rfl, HF.out⟩
          · go_wp2_with (at_builtin; refine Hid.out ?_)
            refine Lib.hid ?_
            refine wpList_append_own _ rfl _ _ 38 rfl wr.heap.size 47 i0 _ 6 24 Tryd.underlying38 hi hz0 hz1 hz2 rfl (by decide) (.slice A2 (k + 1) c2) (k + 1) _ rfl HO2.out ⟨g, k * 6, none⟩ (L.length - k) _ ((L.drop k).flatMap spC) rfl (by rw [spC_flat, List.length_drop])
              (fun j u hj => by rw [addr_off, HL2.out.cellAt (k * 6 + j) (by have := (List.getElem?_eq_some_iff.1 hj).1; rw [spC_flat, List.length_drop] at this; omega)]; exact spC_drop hK j u hj)
              (spC_one _) (by unfold maxLen; omega) (by omega) HB2.out.size ?_
            intro vo3 w3 hown3 hgrow3 _
            have hb3 := HB2.out.grown hgrow3 HB2.out.size (fun k e => own_ge HO2.out e)
            have HF := Lib.hid (And.intro (with_end (P := P) (s := ⟨sa, sb, sc, sd, sn⟩) hown3 rfl rfl hK (show V.heap.size ≤ wr.heap.size by omega)) (HB.out.2.trans (hb3.mono (by omega))))
            clear hown3 hgrow3 hb3
            go_wp2
            go_ret
            exact ⟨_, rfl, HF.out⟩
end Go.Proofs.YtbidlabhekiijaaDoor

/- RadixPlays: the table and the document's, side by side. -/
namespace Go.Proofs.YtbidlabhekiijaaDoor
open Go.RowKit
set_option linter.unusedVariables false
set_option linter.unusedSimpArgs false

theorem Ents.st {M : Nat → Sl} (h : Ents M) (F0 : Nat) (pg : Int) (s : Sl) : Ents (stM' M F0 pg s) := by
  unfold stM'
  split
  · rename_i e
    have hr : (0 ≤ pg ∧ pg < 4096) ∧ s.may = true := by
      unfold stE' at e
      by_cases hin : 0 ≤ pg ∧ pg < 4096
      · refine ⟨hin, ?_⟩
        rw [if_pos hin] at e
        cases hm : s.may
        · rw [hm, if_neg (by decide)] at e
          cases e
        · rfl
      · rw [if_neg hin] at e
        cases e
    exact h.setM (by omega) (.inr hr.2)
  · exact h
theorem Ents.dr {M : Nat → Sl} (h : Ents M) (pg : Int) : Ents (drM7 M pg) := by
  unfold drM7
  split
  · rename_i e
    have hr : 0 ≤ pg ∧ pg < 4096 := Classical.byContradiction fun hc => by
      unfold gtE' at e
      rw [if_neg hc] at e
      cases e
    exact h.setM (by omega) (.inl rfl)
  · exact h
theorem spotsF_none : spotsF m0 = [] := by
  unfold spotsF
  rw [List.map_eq_nil_iff, List.eq_nil_iff_forall_not_mem]
  intro p hp
  exact (mem_pagesF.1 hp).2.1 rfl

/-- The table lies at t, its pool at p (h, g); the document's lies at r, its row from B on. -/
structure Re (w cur : World) (t p h g r B N : Nat) (M M2 : Nat → Sl) : Prop where
  tw : Tw w cur t p h g N M
  wr : w.heap.size ≤ r
  lt : t < B ∧ p < B ∧ h < B ∧ g < B ∧ r < B
  ne : r ≠ t ∧ r ≠ p ∧ r ≠ h ∧ r ≠ g
  le : B ≤ cur.heap.size
  en : Ents M2
  row : ∃ v, Blk cur r 40 #[v] ∧ SRow cur B v (spotsF M2)
section
variable {w cur nxt : World} {t p h g r B N : Nat} {M M2 : Nat → Sl}
theorem Re.start {v : World} (s : Tw w v t p h g N m0) : Re w (v.alloc (.cells #[.slice none 0 0] 40)) t p h g v.heap.size (v.heap.size + 1) N m0 m0 := by
  have hl := s.lts
  have hb := s.bel.size
  refine ⟨s.alloc _, hb, by omega, by omega, by simp, Ents.none, _, Blk.new _ _ _, none, 0, ?_, ?_⟩
  · rw [spotsF_none]; rfl
  · intro i hi
    rw [spotsF_none] at hi
    exact absurd hi (Nat.not_lt_zero _)
theorem Re.on (s : Re w cur t p h g r B N M M2) (hb : Below cur.heap.size cur nxt) : Re w nxt t p h g r B N M M2 := by
  obtain ⟨v, hk, hr⟩ := s.row
  exact ⟨s.tw.on hb, s.wr, s.lt, s.ne, Nat.le_trans s.le hb.size, s.en, v, hk.below hb hk.lt, hr.below hb⟩
theorem Re.alloc (s : Re w cur t p h g r B N M M2) (o : Obj) : Re w (cur.alloc o) t p h g r B N M M2 := s.on ((Below.refl _ _).alloc (Nat.le_refl _) o)
theorem Re.drewN (s : Re w cur t p h g r B N M M2) (n : Nat) : Re w (cur.drewN n) t p h g r B N M M2 := by
  obtain ⟨v, hk, hr⟩ := s.row
  exact ⟨s.tw.drewN n, s.wr, s.lt, s.ne, s.le, s.en, v, hk, hr⟩
theorem Re.drew (s : Re w cur t p h g r B N M M2) : Re w cur.drew t p h g r B N M M2 := s.drewN 1
/-- What is written lies elsewhere. -/
theorem Re.thru {S : Nat → Prop} (s : Re w cur t p h g r B N M M2) (hb : But S cur nxt) (hS : ∀ j, S j → w.heap.size ≤ j ∧ j ≠ t ∧ j ≠ p ∧ j ≠ h ∧ j ≠ g ∧ j ≠ r) (v : Value) (hv : cur.cell? ⟨r, 0, none⟩ = some v) (hrow : SRow nxt B v (spotsF M2)) : Re w nxt t p h g r B N M M2 := by
  obtain ⟨v', hk, _⟩ := s.row
  have e : v' = v := by
    have := hk.at_ 0 _ rfl
    rw [hv] at this
    injection this with this
    exact this.symm
  subst e
  exact ⟨s.tw.thru hb (fun j hj => by have := hS j hj; omega), s.wr, s.lt, s.ne, Nat.le_trans s.le hb.size, s.en, v', hk.but hb (fun hc => (hS r hc).2.2.2.2.2 rfl), hrow⟩
theorem Re.at_ (s : Re w cur t p h g r B N M M2) : ∃ v, cur.cell? ⟨r, 0, none⟩ = some v ∧ SRow cur B v (spotsF M2) := by
  obtain ⟨v, hk, hr⟩ := s.row
  exact ⟨v, hk.at_ 0 _ rfl, hr⟩
theorem Re.row_lt (s : Re w cur t p h g r B N M M2) : r < cur.heap.size := by
  obtain ⟨v, hk, _⟩ := s.row
  exact hk.lt
theorem Re.of_cell (s : Re w cur t p h g r B N M M2) {v : Value} (hv : cur.cell? ⟨r, 0, none⟩ = some v) : SRow cur B v (spotsF M2) := by
  obtain ⟨v', hk, hr⟩ := s.row
  have := hk.at_ 0 _ rfl
  rw [hv] at this
  injection this with this
  subst this
  exact hr
/-- The program's table was written. -/
theorem Re.prog (s : Re w cur t p h g r B N M M2) {M' : Nat → Sl} (hT : Tw w nxt t p h g N M') (hb : But (fun j => j = h ∨ j = g) cur nxt) : Re w nxt t p h g r B N M' M2 := by
  obtain ⟨v, hk, hr⟩ := s.row
  have hl := s.lt
  have hn := s.ne
  exact ⟨hT, s.wr, s.lt, s.ne, Nat.le_trans s.le hb.size, s.en, v, hk.but hb (by omega), hr.but hb (fun j hj => by omega)⟩
/-- The document's was written. -/
theorem Re.ref (s : Re w cur t p h g r B N M M2) {M' : Nat → Sl} (he : Ents M') (hb : But (· = r) cur nxt) (hr : ∃ v, Blk nxt r 40 #[v] ∧ SRow nxt B v (spotsF M')) : Re w nxt t p h g r B N M M' := by
  have hl := s.lt
  have hn := s.ne
  have hw := s.wr
  exact ⟨s.tw.thru hb (fun j hj => by subst hj; omega), s.wr, s.lt, s.ne, Nat.le_trans s.le hb.size, he, hr⟩

theorem re_drop (s : Re w cur t p h g r B N M M2) (pg : Int) : Calls Tryd.prog 19 #[.pointer (some ⟨t, 0, none⟩), .int .i64 pg] cur fun e v' =>
    e = .returned (.tuple #[(gtS' M pg).v, .int .i64 (gtE' M pg)]) ∧ Re w v' t p h g r B N (drM7 M pg) M2 :=
  (tw_drop s.tw pg).mono fun e v' ⟨he, hT, hb⟩ => ⟨he, s.prog hT hb⟩
theorem re_rdrop (s : Re w cur t p h g r B N M M2) (pg : Int) : Calls Tryd.prog 20 #[.pointer (some ⟨r, 0, none⟩), .int .i64 pg] cur fun e v' =>
    e = .returned (.tuple #[(gtS' M2 pg).v, .int .i64 (gtE' M2 pg)]) ∧ Re w v' t p h g r B N M (drM7 M2 pg) ∧ But (· = r) cur v' := by
  obtain ⟨v, hk, hr⟩ := s.row
  have hl := s.lt
  refine (rdrop_any hk hr s.le (by omega) pg).mono ?_
  rintro e v' ⟨he, hb, hrow⟩
  exact ⟨he, s.ref (s.en.dr pg) hb hrow, hb⟩
theorem re_get (s : Re w cur t p h g r B N M M2) (pg : Int) : Calls Tryd.prog 21 #[.pointer (some ⟨t, 0, none⟩), .int .i64 pg] cur fun e v' =>
    e = .returned (.tuple #[(gtS' M pg).v, .int .i64 (gtE' M pg)]) ∧ Re w v' t p h g r B N M M2 :=
  (tw_get s.tw pg).mono fun e v' ⟨he, hb⟩ => ⟨he, s.on hb⟩
theorem re_rget (s : Re w cur t p h g r B N M M2) (pg : Int) : Calls Tryd.prog 22 #[.pointer (some ⟨r, 0, none⟩), .int .i64 pg] cur fun e v' =>
    e = .returned (.tuple #[(gtS' M2 pg).v, .int .i64 (gtE' M2 pg)]) ∧ Re w v' t p h g r B N M M2 ∧ Below cur.heap.size cur v' := by
  obtain ⟨v, hk, hr⟩ := s.row
  exact (rget_any hk hr pg).mono fun e v' ⟨he, hb⟩ => ⟨he, s.on hb, hb⟩
theorem re_set (s : Re w cur t p h g r B N M M2) (pg : Int) (x : Sl) : Calls Tryd.prog 24 #[.pointer (some ⟨t, 0, none⟩), .int .i64 pg, x.v] cur fun e v' =>
    e = .returned (.int .i64 (stE7 M N pg x)) ∧ Re w v' t p h g r B N (stM7 M N pg x) M2 ∧ But (fun j => j = h ∨ j = g) cur v' :=
  (tw_set s.tw pg x).mono fun e v' ⟨he, hT, hb⟩ => ⟨he, s.prog hT hb, hb⟩
theorem re_rset (s : Re w cur t p h g r B N M M2) (hN : N ≤ 1000) (pg : Int) (x : Sl) : Calls Tryd.prog 25 #[.pointer (some ⟨r, 0, none⟩), .int .i64 pg, x.v, .int .i64 (N - cnt7 M2 : Nat)] cur fun e v' =>
    e = .returned (.int .i64 (stE7 M2 N pg x)) ∧ Re w v' t p h g r B N M (stM7 M2 N pg x) ∧ But (· = r) cur v' := by
  obtain ⟨v, hk, hr⟩ := s.row
  have hl := s.lt
  have hsame : ∀ {nx : World}, Below cur.heap.size cur nx → stM7 M2 N pg x = M2 → Re w nx t p h g r B N M (stM7 M2 N pg x) ∧ But (· = r) cur nx := fun {nx} hb e => by
    rw [e]
    exact ⟨s.on hb, But.of_below hb⟩
  by_cases hin : 0 ≤ pg ∧ pg < 4096
  · obtain ⟨P, rfl⟩ : ∃ P : Nat, pg = P := ⟨pg.toNat, by omega⟩
    cases hm : x.may
    · refine (rset_may (by omega) hm (N - cnt7 M2)).mono ?_
      rintro e v' ⟨he, hb⟩
      have hE : stE7 M2 N (P : Nat) x = 1 := by unfold stE7 stE'; rw [if_pos hin, hm, if_neg (by decide)]
      have hM : stM7 M2 N (P : Nat) x = M2 := by unfold stM7 stM'; unfold stE7 at hE; rw [hE, if_neg (by decide)]
      exact ⟨by rw [hE, he], hsame hb hM⟩
    · refine (rset_in s.en hk hr s.le (by omega) (by omega) hm (N - cnt7 M2) (by omega) (fun V v' hk' hr' => rwith_any hk' hr' (by omega) (Sl.may_ne hm))).mono ?_
      rintro e v' ⟨he, hb, hrow⟩
      exact ⟨he, s.ref (s.en.st _ _ _) hb hrow, hb⟩
  · refine (rset_out (by omega) (N - cnt7 M2)).mono ?_
    rintro e v' ⟨he, hb⟩
    have hE : stE7 M2 N pg x = 14 := by unfold stE7 stE'; rw [if_neg hin]
    have hM : stM7 M2 N pg x = M2 := by unfold stM7 stM'; unfold stE7 at hE; rw [hE, if_neg (by decide)]
    exact ⟨by rw [hE, he], hsame hb hM⟩
theorem re_nodes (s : Re w cur t p h g r B N M M2) : Calls Tryd.prog 29 #[.pointer (some ⟨t, 0, none⟩)] cur fun e v' => e = .returned (.int .i64 (cnt7 M : Nat)) ∧ Re w v' t p h g r B N M M2 ∧ Below cur.heap.size cur v' :=
  (tw_nodes s.tw).mono fun e v' ⟨he, hb⟩ => ⟨he, s.on hb, hb⟩
theorem re_rnodes (s : Re w cur t p h g r B N M M2) {v : Value} (hv : cur.cell? ⟨r, 0, none⟩ = some v) : Calls Tryd.prog 26 #[v] cur fun e v' => e = .returned (.int .i64 (cnt7 M2 : Nat)) ∧ Re w v' t p h g r B N M M2 ∧ Below cur.heap.size cur v' :=
  (rnodes_any s.en (s.of_cell hv)).mono fun e v' ⟨he, hb⟩ => ⟨he, s.on hb, hb⟩
theorem re_free (s : Re w cur t p h g r B N M M2) : Calls Tryd.prog 30 #[.pointer (some ⟨p, 0, none⟩)] cur fun e v' => e = .returned (.int .i64 (N - cnt7 M : Nat)) ∧ cur = v' := tw_free s.tw
theorem re_all (s : Re w cur t p h g r B N M M2) : Calls Tryd.prog 28 #[.pointer (some ⟨t, 0, none⟩)] cur fun e v' => ∃ v, e = .returned v ∧ SRow v' cur.heap.size v (spotsF M) ∧ Re w v' t p h g r B N M M2 ∧ Below cur.heap.size cur v' :=
  (tw_all s.tw).mono fun e v' hh => by
    obtain ⟨v, he, hr, hb⟩ := hh.row
    exact ⟨v, he, hr, s.on hb, hb⟩
end

/-- What the first page from pg on is, among those from q on. -/
def FrFrom (M : Nat → Sl) (pg : Int) (q : Nat) (x : Int) (z : Sl) (fb : Bool) : Prop :=
  (fb = false ∧ x = 0 ∧ z = Sl.zero ∧ ∀ j (hj : j < (pagesF M 0).length), q ≤ j → (((pagesF M 0)[j] : Nat) : Int) < pg) ∨
  (fb = true ∧ ∃ i, ∃ hi : i < (pagesF M 0).length, q ≤ i ∧ x = ((pagesF M 0)[i] : Nat) ∧ z = M (pagesF M 0)[i] ∧ pg ≤ (((pagesF M 0)[i] : Nat) : Int) ∧ ∀ j (hj : j < (pagesF M 0).length), q ≤ j → j < i → (((pagesF M 0)[j] : Nat) : Int) < pg)
theorem FrFrom.same {M : Nat → Sl} {pg : Int} {q : Nat} {x y : Int} {z u : Sl} {a b : Bool} (h : FrFrom M pg q x z a) (k : FrFrom M pg q y u b) : x = y ∧ z = u ∧ a = b := by
  rcases h with ⟨rfl, rfl, rfl, h⟩ | ⟨rfl, i, hi, hq, rfl, rfl, h1, h2⟩ <;> rcases k with ⟨rfl, rfl, rfl, k⟩ | ⟨rfl, i', hi', hq', rfl, rfl, k1, k2⟩
  · exact ⟨rfl, rfl, rfl⟩
  · have := h i' hi' hq'; omega
  · have := k i hi hq; omega
  · have e : i = i' := by
      rcases Nat.lt_trichotomy i i' with h3 | h3 | h3
      · have := k2 i hi hq h3; omega
      · exact h3
      · have := h2 i' hi' hq' h3; omega
    subst e
    exact ⟨rfl, rfl, rfl⟩
theorem FrFrom.start (M : Nat → Sl) (pg : Int) : FrFrom M pg (pagesF M 0).length 0 Sl.zero false := .inl ⟨rfl, rfl, rfl, fun j hj h => by omega⟩
theorem FrFrom.skip {M : Nat → Sl} {pg : Int} {q : Nat} {x : Int} {z : Sl} {fb : Bool} (h : FrFrom M pg (q + 1) x z fb) (hq : q < (pagesF M 0).length) (hp : (((pagesF M 0)[q] : Nat) : Int) < pg) : FrFrom M pg q x z fb := by
  rcases h with ⟨rfl, rfl, rfl, h⟩ | ⟨rfl, i, hi, hqi, rfl, rfl, h1, h2⟩
  · refine .inl ⟨rfl, rfl, rfl, fun j hj hqj => ?_⟩
    rcases Nat.lt_or_ge q j with h3 | h3
    · exact h j hj h3
    · obtain rfl : j = q := by omega
      exact hp
  · refine .inr ⟨rfl, i, hi, by omega, rfl, rfl, h1, fun j hj hqj hji => ?_⟩
    rcases Nat.lt_or_ge q j with h3 | h3
    · exact h2 j hj h3 hji
    · obtain rfl : j = q := by omega
      exact hp
theorem FrFrom.take {M : Nat → Sl} {pg : Int} {q : Nat} (hq : q < (pagesF M 0).length) (hp : pg ≤ (((pagesF M 0)[q] : Nat) : Int)) : FrFrom M pg q ((pagesF M 0)[q] : Nat) (M (pagesF M 0)[q]) true :=
  .inr ⟨rfl, q, hq, Nat.le_refl _, rfl, rfl, hp, fun j hj h1 h2 => by omega⟩
theorem pagesF_filter_any (M : Nat → Sl) (low : Int) : pagesF M low = (pagesF M 0).filter fun p : Nat => decide (low ≤ ((p : Nat) : Int)) := by
  unfold pagesF lvl
  rw [List.filter_filter]
  refine List.filter_congr fun r _ => ?_
  by_cases h : live M 4 r <;> simp [h] <;> omega
theorem fr_is (M : Nat → Sl) (pg : Int) : ∃ (x : Int) (z : Sl) (fb : Bool), FrFrom M pg 0 x z fb ∧ frC M pg = #[.int .i64 x, .bool z.h, .bool z.w, .bool z.c, .bool z.o, .int .i64 z.n] ∧ frB M pg = fb := by
  rcases first_or pg.toNat (pagesF M 0) with h | ⟨i, hi, h1, h2⟩
  · by_cases h0 : 0 < pg
    · obtain ⟨e1, e2⟩ := fr_end (M := M) (low := pg) (by omega) (fun j hj => by have := h j hj; omega)
      exact ⟨0, Sl.zero, false, .inl ⟨rfl, rfl, rfl, fun j hj _ => by have := h j hj; omega⟩, e1, e2⟩
    · have hn : pagesF M 0 = [] := by
        rw [List.eq_nil_iff_length_eq_zero]
        refine Classical.byContradiction fun hc => ?_
        have := h 0 (by omega)
        omega
      refine ⟨0, Sl.zero, false, .inl ⟨rfl, rfl, rfl, fun j hj _ => by have := h j hj; omega⟩, ?_, ?_⟩
      · unfold frC; rw [pagesF_filter_any, hn]; rfl
      · unfold frB; rw [pagesF_filter_any, hn]; rfl
  · refine ⟨_, _, true, .inr ⟨rfl, i, hi, Nat.zero_le _, rfl, rfl, by omega, fun j hj _ hji => by have := h2 j hji; omega⟩, ?_⟩
    have e : pagesF M pg = (pagesF M 0).drop i := by
      rw [pagesF_filter_any]
      exact filter_drop (pagesF_sorted M 0) hi (fun j hj => by have := h2 j hj; omega) (by omega)
    unfold frC frB
    rw [e, List.drop_eq_getElem_cons hi]
    exact ⟨rfl, rfl⟩
theorem re_from {w cur : World} {t p h g r B N : Nat} {M M2 : Nat → Sl} (s : Re w cur t p h g r B N M M2) (pg : Int) (hpg : -9223372036854775808 ≤ pg ∧ pg < 9223372036854775808) : Calls Tryd.prog 23 #[.pointer (some ⟨t, 0, none⟩), .int .i64 pg] cur fun e v' =>
    ∃ (x : Int) (a b c d : Bool) (n : Int) (fb : Bool), FrFrom M pg 0 x ⟨a, b, c, d, n⟩ fb ∧ e = .returned (.tuple #[.agg #[.int .i64 x, .bool a, .bool b, .bool c, .bool d, .int .i64 n], .bool fb]) ∧ Re w v' t p h g r B N M M2 := by
  obtain ⟨x, ⟨a, b, c, d, n⟩, fb, hf, e1, e2⟩ := fr_is M pg
  refine (tw_from s.tw pg hpg).mono ?_
  rintro e v' ⟨he, hb⟩
  exact ⟨x, a, b, c, d, n, fb, hf, by rw [he, e1, e2], s.on hb⟩
/-- A spot is laid over six cells. -/
theorem sp6_set {w : World} {g : Nat} {t : TypeId} {c0 c1 c2 c3 c4 c5 : Value} (h : Blk w g t #[c0, c1, c2, c3, c4, c5]) (u0 u1 u2 u3 u4 u5 : Value) :
    Blk ((((((w.setCell ⟨g, 0, none⟩ u0).setCell ⟨g, 1, none⟩ u1).setCell ⟨g, 2, none⟩ u2).setCell ⟨g, 3, none⟩ u3).setCell ⟨g, 4, none⟩ u4).setCell ⟨g, 5, none⟩ u5) g t #[u0, u1, u2, u3, u4, u5] := by
  simpa using (((((h.set_ 0 u0).set_ 1 u1).set_ 2 u2).set_ 3 u3).set_ 4 u4).set_ 5 u5
theorem sp6_set_but {S : Nat → Prop} {v w : World} {g : Nat} (h : But S v w) (hg : S g ∨ v.heap.size ≤ g) (u0 u1 u2 u3 u4 u5 : Value) :
    But S v ((((((w.setCell ⟨g, 0, none⟩ u0).setCell ⟨g, 1, none⟩ u1).setCell ⟨g, 2, none⟩ u2).setCell ⟨g, 3, none⟩ u3).setCell ⟨g, 4, none⟩ u4).setCell ⟨g, 5, none⟩ u5) :=
  (((((h.setCell (p := ⟨g, 0, none⟩) hg _).setCell (p := ⟨g, 1, none⟩) hg _).setCell (p := ⟨g, 2, none⟩) hg _).setCell (p := ⟨g, 3, none⟩) hg _).setCell (p := ⟨g, 4, none⟩) hg _).setCell (p := ⟨g, 5, none⟩) hg _
end Go.Proofs.YtbidlabhekiijaaDoor
