/- Package place: places: what it hands back, and what that promises. -/
import Derived.Test.YtfoapghjloblnabIm
import Derived.Test.YtfoapghjloblnabRng
namespace Go.Proofs.Ytfoapghjloblnab
open Go.RowKit Go.ChangeShapes Go.WideShapes Go.Deep Go.Shelf
set_option linter.unusedVariables false
set_option linter.unusedSimpArgs false
attribute [local go_sem] Oper.semAt_some

theorem places_any (rb : Nat) (x : Int × Int) (w : World) : Calls Try.prog 12 #[.pointer (some ⟨rb, 0, none⟩), .agg #[.int .i64 x.1, .int .i64 x.2]] w fun e w' => e = .returned (.func (.func 21) #[] #[.pointer (some ⟨w.heap.size, 0, none⟩), .pointer (some ⟨w.heap.size + 1, 0, none⟩)]) ∧ w' = (w.alloc (.cells #[.pointer (some ⟨rb, 0, none⟩)] 36)).alloc (.cells #[.int .i64 x.1, .int .i64 x.2] 27) := by
  have hmf : ∀ (fn : Fn) (first cap : Array Value) (w : World), (Instr.makeFunc fn first cap).run Try.prog w = .ok (.func fn first cap) w := fun _ _ _ _ => rfl
  go_enter Try.func12, Try.ntmps12
  go_wp2
  go_ret
  exact ⟨rfl, rfl⟩

/-- The first gap that is great enough: where it begins. -/
def FgI (m : Nat) (E G : Nat → Int) (n : Int) (fg : Option Int) : Prop := (fg = none ∧ ∀ k, k < m → G k < n) ∨ ∃ k, k < m ∧ fg = some (E k - G k) ∧ n ≤ G k ∧ ∀ j, j < k → G j < n
theorem fgI (m : Nat) (E G : Nat → Int) (n : Int) : ∃ fg, FgI m E G n fg := by
  by_cases h : ∃ k, k < m ∧ n ≤ G k
  · obtain ⟨k, h1, h2, h3⟩ := least_I m h
    exact ⟨_, .inr ⟨k, h1, rfl, h2, fun j hj => by have := h3 j hj; omega⟩⟩
  · exact ⟨none, .inl ⟨rfl, fun k hk => by
      by_cases h2 : n ≤ G k
      · exact absurd ⟨k, hk, h2⟩ h
      · omega⟩⟩
/-- It is the least place that may be. -/
theorem FgI.free {P : List (Int × Int)} {low high : Int} {m : Nat} {E G : Nat → Int} {n : Int} {fg : Option Int} (h : FgI m E G n fg) (hg : Gap P low high m E G) (hP : WholeP P low high) (hl : low % 64 = 0) (hn : 0 < n) : freeP P low high n = fg := by
  rcases h with ⟨rfl, h⟩ | ⟨k, hk, rfl, h1, h2⟩
  · rw [freeP_none hP hl hn]
    intro p
    rw [Bool.eq_false_iff]
    intro hp
    obtain ⟨i, hi, a, b⟩ := (hg.free p n hn).1 hp
    have := h i hi
    omega
  · rw [freeP_some hP hl hn]
    refine ⟨(hg.free _ n hn).2 ⟨k, hk, by omega, by omega⟩, fun p hp => ?_⟩
    obtain ⟨i, hi, a, b⟩ := (hg.free p n hn).1 hp
    have hgi : n ≤ G i := by omega
    rcases Nat.lt_trichotomy i k with e | e | e
    · have := h2 i e; omega
    · subst e; omega
    · have := hg.apart k i e hi (by omega) (by omega)
      omega
/-- The places that are tried. -/
def trI (low high : Int) (x : Int × Int) (fg : Option Int) : List Int := (if likeR low high x = true then [x.2] else []) ++ fg.toList
def encI2 (L : List Int) (k : Fin L.length) : Array Value := #[.int .i64 L[k.1]]
theorem RoomS.kp {W W' : World} {rb eb tb : Nat} {low high : Int} {m ce D : Nat} {E : Nat → Int} {P : List (Int × Int)} {T G : Nat → Int} (h : RoomS W rb eb tb low high m ce D E P T G) (hb : KpC (fun _ => False) W W') : RoomS W' rb eb tb low high m ce D E P T G := by
  obtain ⟨cs, e1, e2⟩ := h.room.ends
  exact ⟨⟨hb _ _ _ (fun e => e) h.room.head, ⟨cs, hb _ _ _ (fun e => e) e1, e2⟩, hb _ _ _ (fun e => e) h.room.tree, h.room.ne1, h.room.ne2, h.room.ne3⟩, h.tree, h.gap, h.leaf, h.zero⟩

set_option maxRecDepth 100000 in
set_option maxHeartbeats 800000 in
theorem places_in (n0 : Nat) (hn0 : 1 ≤ n0) (l bt bl rb eb tb : Nat) (low high : Int) (m ce D : Nat) (E : Nat → Int) (P : List (Int × Int)) (T G : Nat → Int) (x : Int × Int) (W : World) (hbt : Blk W bt 36 #[.pointer (some ⟨rb, 0, none⟩)]) (hbl : Blk W bl 27 #[.int .i64 x.1, .int .i64 x.2])
    (hS : RoomS W rb eb tb low high m ce D E P T G) (hb : BndI low high) (hm : m ≤ 2 ^ D) (hH : 2 ^ D ≤ 1000000) (hx : thingP x = true) (fg : Option Int) (hfg : FgI m E G (rndP x.1) fg) (L : List Int) (hL : L = trI low high x fg) (J Jx : List (Fin L.length) → World → Prop)
    (hJ : AbidesFrom W.heap.size J)
    (hY : ∀ pre y W1, J pre W1 → pre.length < L.length → YieldAt Fence.wide (n0 - 1) Try.prog l (encI2 L y) W1 fun e W' =>
      (e = .returned (.bool true) ∧ J (pre ++ [y]) W' ∧ KpC (fun _ => False) W1 W') ∨ (e = .returned (.bool false) ∧ Jx (pre ++ [y]) W')) (h0 : J [] W) :
    CallsIn Fence.wide n0 Try.prog 21 #[.func (.yield l) #[] #[], .pointer (some ⟨bt, 0, none⟩), .pointer (some ⟨bl, 0, none⟩)] W fun e W' => (∃ v, e = .returned v) ∧
      ((∃ ys, ys = List.finRange L.length ∧ J ys W') ∨ (∃ pre, (∃ k, k ≤ L.length ∧ pre = upF L.length k) ∧ Jx pre W')) := by
  have hbnd := thing_bounds hx
  have hrn := rndP_pos hbnd.1 hbnd.2.1
  have HJ := Lib.hid (fun pre A B (hb : Below A.heap.size A B) hj => hJ pre A B none hj (grown_none hb) (fun r e => by cases e))
  have HLK := Lib.hid (fun v cs (h : Blk v rb 42 cs) h0 h1 => liked_any rb low high cs x v h h0 h1 hb hx)
  have HRO := Lib.hid (fun v => pround_any x.1 v (wf_I (by omega) (by omega)))
  have HSS := Lib.hid (fun v (hv : KpC (fun _ => False) W v) => And.intro (hS.kp hv) (And.intro (hv _ _ _ (fun e => e) hbt) (hv _ _ _ (fun e => e) hbl)))
  obtain ⟨n, hn⟩ : ∃ n, rndP x.1 = n := ⟨_, rfl⟩
  rw [hn] at HRO hfg hrn
  -- find's answer
  obtain ⟨fr, hfr⟩ : ∃ fr : Option Nat, (fr = none ∧ fg = none ∨ ∃ k, fr = some k ∧ fg = some (E k - G k) ∧ k < m) ∧
      ∀ V, RoomS V rb eb tb low high m ce D E P T G → Calls Try.prog 19 #[.pointer (some ⟨rb, 0, none⟩), .int .i64 0, .int .i64 n] V fun e w' => e = .returned (.tuple #[.int .i64 (((fr.getD 0 : Nat)) : Int), .bool fr.isSome]) ∧ w' = V := by
    have hG0 := hS.gap
    have hlf := hS.leaf
    have hzr := hS.zero
    rcases hfg with ⟨e, h1⟩ | ⟨k, hk, e, h1, h2⟩
    · refine ⟨none, .inl ⟨rfl, e⟩, fun V hV => (find_anyI rb eb tb low high m ce D E T 0 n V hV.room hV.tree (p2pos D) hH).mono fun e w' ⟨hf, hw⟩ => ⟨?_, hw⟩⟩
      rcases hf with ⟨k, rfl, f1, f2, f3, f4⟩ | ⟨f0, f1⟩
      · exfalso
        rcases Nat.lt_or_ge k m with q | q
        · have := h1 k q; rw [hlf k q] at f3; omega
        · rw [hzr k q f2] at f3; omega
      · exact f0
    · refine ⟨some k, .inr ⟨k, rfl, e, hk⟩, fun V hV => (find_anyI rb eb tb low high m ce D E T 0 n V hV.room hV.tree (p2pos D) hH).mono fun e w' ⟨hf, hw⟩ => ⟨?_, hw⟩⟩
      rcases hf with ⟨k', rfl, f1, f2, f3, f4⟩ | ⟨f0, f1⟩
      · have : k' = k := by
          rcases Nat.lt_trichotomy k' k with q | q | q
          · have := h2 k' q; rw [hlf k' (by omega)] at f3; omega
          · exact q
          · have := f4 k (by omega) q; rw [hlf k hk] at this; omega
        rw [this]
        rfl
      · have := f1 k (by omega) (by omega)
        rw [hlf k hk] at this
        omega
  have HFI := Lib.hid hfr.2
  have hfr1 := hfr.1
  have HFR := Lib.hid (fun k (hk : k < m) V (hV : RoomS V rb eb tb low high m ce D E P T G) => by
    have h1 := hS.gap.ends k hk
    have h2 := hS.gap.size k hk
    have h3 := hb
    unfold BndI at h3
    have := from_any rb eb tb low high m ce (2 ^ D) E T k V hV.room hk hm hH (by rw [hS.leaf k hk]; omega)
    rw [hS.leaf k hk] at this
    exact this)
  have hlk : ∃ lk, likeR low high x = lk := ⟨_, rfl⟩
  obtain ⟨lk, hlk⟩ := hlk
  unfold trI at hL
  rw [hlk] at hL HLK
  have hSW := hS.room
  have c0 := hbt.cell 0
  have c1 := hbl.cell 0
  have c2 := hbl.cell 1
  obtain ⟨x1, x2⟩ := x
  clear hfr hb hm hH hx hfg hbt hbl hS hJ hlk hbnd hn hrn
  refine callsIn_of_wp Try.func21 rfl trivial ?_ rfl
  simp only [Try.ntmps21, List.size_toArray, List.length_cons, List.length_nil, Nat.reduceAdd, Nat.reduceSub, Array.replicate_succ, Array.replicate_zero, List.push_toArray, List.append_toArray, List.nil_append, List.cons_append]
  have HL0 := Lib.hid (HLK.out W _ hSW.head rfl rfl)
  cases lk with
  | false =>
    gi_wp2_with (refine ⟨trivial, ?_⟩; gi_at_call 14; refine (callsIn_wide.2 HL0.out).mono ?_; rintro e v1 ⟨rfl, hb1⟩)
    have hk1 := KpC.of_below (S := fun _ => False) hb1
    obtain ⟨s1, s2, s3⟩ := HSS.out v1 hk1
    have d0 := s2.cell 0
    have d1 := s3.cell 0
    have hj1 := HJ.out _ _ _ hb1 h0
    have HV := Lib.hid (And.intro s1 (And.intro hk1 hj1))
    have HFQ := Lib.hid (fun q => HFI.out (v1.drewN q) (s1.drewN q))
    clear s1 s2 s3 hk1 hj1 hb1 c0 c1 c2 HL0 HLK hSW h0
    refine ⟨by rintro _ ⟨⟩, ?_⟩
    gi_wp2
    refine wpIn_wide.2 ?_
    go_quiet ((first
      | (go_at_call 13; with_reducible exact Calls.quiet_of_same (HRO.out _))
      | (go_at_call 19; with_reducible exact Calls.quiet_of_same (HFQ.out _))))
    clear d1
    have hAll : ∀ q V, v1.drewN q = V → RoomS V rb eb tb low high m ce D E P T G ∧ J [] V ∧ V.cell? ⟨bt, 0, none⟩ = some (.pointer (some ⟨rb, 0, none⟩)) := fun q V e => by
      subst e
      exact ⟨HV.out.1.drewN q, HJ.out _ _ (v1.drewN q) (belowD (Below.refl _ _) q) HV.out.2.2, d0⟩
    generalize hVV : World.drewN v1 _ = V
    obtain ⟨hV2, hJ2, e0⟩ := hAll _ V hVV
    clear hAll hVV d0 HFQ HV
    rcases hfr1 with ⟨rfl, rfl⟩ | ⟨k, rfl, rfl, hk⟩
    · have HFN := Lib.hid (show List.finRange L.length = [] from by rw [hL]; rfl)
      clear hL
      gi_wp2
      go_end0
      exact ⟨⟨_, rfl⟩, .inl ⟨_, rfl, by rw [HFN.out]; exact hJ2⟩⟩
    · have hL1 : L.length = 1 := by rw [hL]; rfl
      obtain ⟨y0, hy0, hy1, hy2⟩ : ∃ y : Fin L.length, L[y.1] = E k - G k ∧ [y] = List.finRange L.length ∧ [y] = upF L.length 1 := by subst hL; exact ⟨⟨0, Nat.one_pos⟩, rfl, rfl, rfl⟩
      have hYY := fun V hj => hY [] y0 V hj (by rw [hL1]; exact Nat.one_pos)
      unfold encI2 at hYY
      simp only [hy0, List.nil_append] at hYY
      have HU := Lib.hid (And.intro hy1 hy2)
      have HYY := Lib.hid hYY
      have HL1 := Lib.hid hL1
      have HJ2 := Lib.hid hJ2
      have HFRW := Lib.hid (HFR.out k hk V hV2)
      clear hYY hY hJ2 hV2 hL hL1 hy0 hy1 hy2
      gi_wp2_with (refine ⟨trivial, ?_⟩; gi_at_call 20; refine (callsIn_wide.2 HFRW.out).mono ?_; rintro e v2 ⟨rfl, q2, rfl⟩; obtain ⟨fn, tmps, assign, body, hy, hR⟩ := HYY.out _ (HJ.out _ _ _ (belowD (Below.refl _ _) q2) HJ2.out))
      refine hR.mono ?_
      clear hR hy
      rintro e W3 (⟨rfl, hJ3, hk3⟩ | ⟨rfl, hJx3⟩)
      · gi_wp2
        go_end0
        exact ⟨⟨_, rfl⟩, .inl ⟨_, rfl, by rw [← HU.out.1]; exact hJ3⟩⟩
      · gi_wp2
        go_end0
        exact ⟨⟨_, rfl⟩, .inr ⟨_, ⟨1, by rw [HL1.out]; exact Nat.le_refl _, HU.out.2⟩, hJx3⟩⟩
  | true =>
    have hL1 : 0 < L.length := by rw [hL]; simp
    obtain ⟨y0, hy0, hy1⟩ : ∃ y : Fin L.length, L[y.1] = x2 ∧ [y] = upF L.length 1 := by
      refine ⟨⟨0, hL1⟩, by subst hL; rfl, ?_⟩
      have := upF_succ (n := L.length) (k := 0) hL1
      rw [this, upF_zero]
      rfl
    have hYY := fun V hj => hY [] y0 V hj hL1
    unfold encI2 at hYY
    simp only [hy0, List.nil_append] at hYY
    have HYY := Lib.hid hYY
    have HY := Lib.hid hY
    have HU := Lib.hid hy1
    have HL1 := Lib.hid hL1
    have HLE := Lib.hid hL
    clear hYY hY hL1 hy1 hL
    gi_wp2_with (refine ⟨trivial, ?_⟩; gi_at_call 14; refine (callsIn_wide.2 HL0.out).mono ?_; rintro e v1 ⟨rfl, hb1⟩; have hk1 := KpC.of_below (S := fun _ => False) hb1; obtain ⟨s1, s2, s3⟩ := HSS.out v1 hk1; have d2 := s3.cell 1; obtain ⟨fn, tmps, assign, body, hy, hR⟩ := HYY.out _ (HJ.out _ _ _ hb1 h0))
    refine hR.mono ?_
    have HK1 := Lib.hid hk1
    clear hR hy hb1 hk1 s1 s2 s3 d2 c0 c1 c2 HL0 HLK hSW h0
    rintro e W3 (⟨rfl, hJ3, hk3⟩ | ⟨rfl, hJx3⟩)
    · have hk4 := HK1.out.trans hk3
      obtain ⟨s1, s2, s3⟩ := HSS.out W3 hk4
      have d0 := s2.cell 0
      have d1 := s3.cell 0
      have HV := Lib.hid (And.intro s1 hJ3)
      have HFQ := Lib.hid (fun q => HFI.out (W3.drewN q) (s1.drewN q))
      clear s1 s2 s3 hk4 hk3 hJ3 HK1 HYY
      gi_wp2
      refine wpIn_wide.2 ?_
      go_quiet ((first
        | (go_at_call 13; with_reducible exact Calls.quiet_of_same (HRO.out _))
        | (go_at_call 19; with_reducible exact Calls.quiet_of_same (HFQ.out _))))
      clear d1
      have hAll : ∀ q V, W3.drewN q = V → RoomS V rb eb tb low high m ce D E P T G ∧ J [y0] V ∧ V.cell? ⟨bt, 0, none⟩ = some (.pointer (some ⟨rb, 0, none⟩)) := fun q V e => by
        subst e
        exact ⟨HV.out.1.drewN q, HJ.out _ _ (W3.drewN q) (belowD (Below.refl _ _) q) HV.out.2, d0⟩
      generalize hVV : World.drewN W3 _ = V
      obtain ⟨hV2, hJ2, e0⟩ := hAll _ V hVV
      clear hAll hVV d0 HFQ HV
      rcases hfr1 with ⟨rfl, rfl⟩ | ⟨k, rfl, rfl, hk⟩
      · have HFN := Lib.hid (show List.finRange L.length = [y0] from by
          rw [HU.out, ← upF_full, show L.length = 1 from by rw [HLE.out]; rfl])
        gi_wp2
        go_end0
        exact ⟨⟨_, rfl⟩, .inl ⟨_, rfl, by rw [HFN.out]; exact hJ2⟩⟩
      · have hL2 : L.length = 2 := by rw [HLE.out]; rfl
        obtain ⟨y1, hz0, hz1, hz2⟩ : ∃ y : Fin L.length, L[y.1] = E k - G k ∧ [y0] ++ [y] = List.finRange L.length ∧ [y0] ++ [y] = upF L.length 2 := by
          have h1 := upF_succ (n := L.length) (k := 1) (by omega)
          have h2 : upF L.length 2 = List.finRange L.length := by rw [← upF_full, hL2]
          refine ⟨⟨1, by omega⟩, ?_, by rw [HU.out, ← h1, ← h2], by rw [HU.out, ← h1]⟩
          have := HLE.out
          subst this
          rfl
        have hYY := fun V hj => HY.out [y0] y1 V hj (show 1 < L.length by omega)
        unfold encI2 at hYY
        simp only [hz0] at hYY
        have HU2 := Lib.hid (And.intro hz1 hz2)
        have HYY := Lib.hid hYY
        have HL2 := Lib.hid hL2
        have HJ2 := Lib.hid hJ2
        have HFRW := Lib.hid (HFR.out k hk V hV2)
        clear hYY hJ2 hV2 hL2 hz0 hz1 hz2 HLE HY
        gi_wp2_with (refine ⟨trivial, ?_⟩; gi_at_call 20; refine (callsIn_wide.2 HFRW.out).mono ?_; rintro e v2 ⟨rfl, q2, rfl⟩; obtain ⟨fn, tmps, assign, body, hy, hR⟩ := HYY.out _ (HJ.out _ _ _ (belowD (Below.refl _ _) q2) HJ2.out))
        refine hR.mono ?_
        clear hR hy
        rintro e W3 (⟨rfl, hJ3, hk3⟩ | ⟨rfl, hJx3⟩)
        · gi_wp2
          go_end0
          exact ⟨⟨_, rfl⟩, .inl ⟨_, rfl, by rw [← HU2.out.1]; exact hJ3⟩⟩
        · gi_wp2
          go_end0
          exact ⟨⟨_, rfl⟩, .inr ⟨_, ⟨2, by rw [HL2.out]; exact Nat.le_refl _, HU2.out.2⟩, hJx3⟩⟩
    · gi_wp2
      refine bodyPost_ret (results_none rfl _ _ _) rfl ?_
      exact ⟨⟨_, rfl⟩, .inr ⟨_, ⟨1, HL1.out, HU.out⟩, hJx3⟩⟩
end Go.Proofs.Ytfoapghjloblnab
