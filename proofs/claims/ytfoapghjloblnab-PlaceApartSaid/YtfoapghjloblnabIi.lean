/- Package place: newRoom. -/
import Derived.Test.YtfoapghjloblnabIj
namespace Go.Proofs.Ytfoapghjloblnab
open Go.RowKit Go.ChangeShapes Go.WideShapes Go.Deep Go.Sort
set_option linter.unusedVariables false
set_option linter.unusedSimpArgs false

/-- The room, its ends laid, while its tree's size is doubled. -/
structure Nw2 (w0 w : World) (R g : Nat) (low high : Int) (m c : Nat) (E : Nat → Int) (H : Nat) : Prop where
  blk : Blk w (R + 1) 42 #[.int .i64 low, .int .i64 high, .slice (some ⟨g, 0, none⟩) m c, .slice none 0 0, .int .i64 H]
  ends : ∃ cs, Blk w g 3 cs ∧ ∀ k, k < m → cs[k]? = some (.int .i64 (E k))
  ne : g ≠ R + 1
  le : R ≤ g
  bel : Below R w0 w
theorem Nw2.twice {w0 w : World} {R g : Nat} {low high : Int} {m c : Nat} {E : Nat → Int} {H : Nat} (h : Nw2 w0 w R g low high m c E H) (H' : Nat) : Nw2 w0 (w.setCell ⟨R + 1, 4, none⟩ (.int .i64 H')) R g low high m c E H' := by
  obtain ⟨cs, e1, e2⟩ := h.ends
  refine ⟨h.blk.set_ 4 _, ⟨cs, e1.far (p := ⟨R + 1, 4, none⟩) h.ne _, e2⟩, h.ne, h.le, ?_⟩
  exact h.bel.trans ((But.setCell (But.refl (fun k => k = R + 1) w) (p := ⟨R + 1, 4, none⟩) (.inl rfl) _).below (by have := h.blk.lt; omega) (fun k hk => by have hk : k = R + 1 := hk; omega))
theorem Nw2.drewN {w0 w : World} {R g : Nat} {low high : Int} {m c : Nat} {E : Nat → Int} {H : Nat} (h : Nw2 w0 w R g low high m c E H) (n : Nat) : Nw2 w0 (w.drewN n) R g low high m c E H :=
  ⟨h.blk.drewN n, h.ends, h.ne, h.le, belowD h.bel n⟩
def halfI (R : Nat) (w : World) : Nat := match w.cell? ⟨R + 1, 4, none⟩ with
  | some (.int _ n) => n.toNat
  | _ => 0
theorem halfI_eq {R : Nat} {w : World} {n : Nat} (h : w.cell? ⟨R + 1, 4, none⟩ = some (.int .i64 n)) : halfI R w = n := by
  unfold halfI
  rw [h]
  simp
/-- What newRoom tells. -/
structure NewR (w0 w : World) (rb eb tb : Nat) (low high : Int) (m ce D : Nat) (E T G : Nat → Int) (l : List (Int × Int)) : Prop where
  room : RoomS w rb eb tb low high m ce D E [] T G
  le : m ≤ 2 ^ D
  few : 2 ^ D ≤ 1000000
  at_ : ∀ x ∈ l, likeR low high x = true → ∃ k, k < m ∧ E k = x.2
  bel : Below w0.heap.size w0 w
  old : w0.heap.size ≤ rb ∧ w0.heap.size ≤ eb ∧ w0.heap.size ≤ tb

set_option maxRecDepth 100000 in
set_option maxHeartbeats 6400000 in
theorem newRoom_any (l : List (Int × Int)) (A : Option Addr) (c : Nat) (low high : Int) (w : World) (hr : WRow w A l) (hl : l.length ≤ 100) (hb : BndI low high) (ht : l.all thingP = true) :
    Calls Try.prog 9 #[.slice A l.length c, .int .i64 low, .int .i64 high] w fun e w' => ∃ rb eb tb m ce D E T G, e = .returned (.pointer (some ⟨rb, 0, none⟩)) ∧ NewR w w' rb eb tb low high m ce D E T G l := by
  obtain ⟨R, hR⟩ : ∃ R, w.heap.size = R := ⟨_, rfl⟩
  obtain ⟨i0, hi, hz0, hz1, hz2⟩ := info_parts infoInt
  have HINF := Lib.hid (And.intro hi (And.intro hz0 (And.intro hz1 hz2)))
  obtain ⟨W, hW⟩ : ∃ W, (w.alloc (.cells #[.int .i64 high] 3)).alloc (.cells #[.int .i64 low, .int .i64 high, .slice (some ⟨R, 0, none⟩) 1 1, .slice none 0 0, .int .i64 1] 42) = W := ⟨_, rfl⟩
  have hN0 : NwI w W R low high (some ⟨R, 0, none⟩) 1 (slotsI low high (l.take 0)) := by
    have b0 := Blk.new w 3 #[.int .i64 high]
    have b1 := Blk.new (w.alloc (.cells #[.int .i64 high] 3)) 42 #[.int .i64 low, .int .i64 high, .slice (some ⟨R, 0, none⟩) 1 1, .slice none 0 0, .int .i64 1]
    have hB1 : Below w.heap.size w ((w.alloc (.cells #[.int .i64 high] 3)).alloc (.cells #[.int .i64 low, .int .i64 high, .slice (some ⟨R, 0, none⟩) 1 1, .slice none 0 0, .int .i64 1] 42)) := ((Below.refl _ w).alloc (Nat.le_refl _) _).alloc (by simp) _
    have b2 := b0.alloc (.cells #[.int .i64 low, .int .i64 high, .slice (some ⟨R, 0, none⟩) 1 1, .slice none 0 0, .int .i64 1] 42)
    rw [hW] at b1 b2 hB1
    rw [World.size_alloc] at b1
    rw [hR] at b1 b2 hB1
    have e0 : slotsI low high (l.take 0) = [high] := rfl
    rw [e0]
    exact ⟨b1, ⟨by simp, .inr ⟨R, 1, _, rfl, Nat.le_refl _, b2, by simp, by decide, by simp, by simp⟩⟩, fun ad e => by cases e; simp, hB1⟩
  have HW := Lib.hid hW
  have HN0 := Lib.hid hN0
  have HR := Lib.hid hr
  have HSZ := Lib.hid hR
  have HAT := Lib.hid (fun k (h : k < l.length) => slotsI_take (low := low) (high := high) h)
  have HTH := Lib.hid (fun k (h : k < l.length) => List.all_eq_true.1 ht l[k] (List.getElem_mem h))
  have HGN := Lib.hid (gap_newI hb ht)
  have HLE := Lib.hid (fun k => show (slotsI low high (l.take k)).length ≤ 101 from by
    have := slotsI_length low high (l.take k)
    have := List.length_take_le k l
    have := List.length_take_le' k l
    omega)
  have HB := Lib.hid hb
  obtain ⟨n, hn⟩ : ∃ n, l.length = n := ⟨_, rfl⟩
  have HN := Lib.hid hn
  rw [hn] at hl ⊢
  clear hN0 hW hr hb ht hn hi hz0 hz1 hz2
  go_enter Try.func9, Try.ntmps9
  go_upto_region 2 with fail
  rw [HW.out]
  clear hR
  go_wp2_with fail
  go_loopw [18] (fun z wr => ∃ (k : Nat) (A1 : Option Addr) (c1 : Nat), k ≤ n ∧ z = .int .i64 k ∧ Hid (NwI w wr R low high A1 c1 (slotsI low high (l.take k)))) (fun z _ => n - (intOf z).toNat)
  case atStart => exact ⟨0, _, _, Nat.zero_le _, rfl, HN0⟩
  case round =>
    obtain ⟨k, A1, c1, hk, rfl, HNW⟩ := hrel
    by_cases hlt : k < n
    · have hk1 : k < l.length := by rw [HN.out]; exact hlt
      obtain ⟨ad, rfl, hblo, wf0, wf1, c0, c1'⟩ := (HR.out.below HSZ.out.symm HNW.out.bel).at_ hk1
      have hk0 : (0 : Int) ≤ (k : Int) := by omega
      have hk2 : (k : Int) < (n : Int) := by omega
      have hthing := HTH.out k hk1
      have hsl := HAT.out k hk1
      have hlen := HLE.out k
      generalize l[k] = x at c0 c1' wf0 wf1 hthing hsl
      obtain ⟨V, hV⟩ : ∃ V, wr.alloc (.cells #[.int .i64 x.1, .int .i64 x.2] 27) = V := ⟨_, rfl⟩
      have hb1 := Blk.new wr 27 #[.int .i64 x.1, .int .i64 x.2]
      have hb2 : Below wr.heap.size wr (wr.alloc (.cells #[.int .i64 x.1, .int .i64 x.2] 27)) := (Below.refl _ _).alloc (Nat.le_refl _) _
      rw [hV] at hb1 hb2
      have hsz1 := HNW.out.blk.lt
      have hN1 := HNW.out.below (by omega) hb2
      have HLK := Lib.hid (liked_any (R + 1) low high _ x V hN1.blk rfl rfl HB.out hthing)
      have HBW := Lib.hid (And.intro hb1 hN1)
      have HV := Lib.hid hV
      have HSL := Lib.hid (And.intro hsl (And.intro hlen hsz1))
      obtain ⟨x1, x2⟩ := x
      obtain ⟨lk, hlk⟩ : ∃ b, likeR low high (x1, x2) = b := ⟨_, rfl⟩
      rw [hlk] at HLK HSL
      clear hthing hsl hlen hb1 hb2 hN1 hV hlk hk1 hsz1
      go_upto_region 5 with fail
      rw [HV.out]
      have g0 := HBW.out.1.cell 0
      have g1 := HBW.out.1.cell 1
      go_upto_if 24 with (go_at_call 14; refine HLK.out.mono ?_; rintro e v5 ⟨rfl, hb5⟩; have HB5 := Lib.hid hb5; clear hb5)
      cases lk with
      | false =>
        have HS2 := Lib.hid (show NwI w v5 R low high A1 c1 (slotsI low high (l.take (k + 1))) from by
          rw [HSL.out.1, if_neg (by decide)]
          refine HBW.out.2.below ?_ HB5.out
          have := HBW.out.1.lt
          have := HSL.out.2.2
          omega)
        go_wp2_with fail
        go_roundw
        case rel => exact ⟨k + 1, A1, c1, by omega, by go_num, HS2⟩
        case measure => simp [intOf]; omega
      | true =>
        have HN5 := Lib.hid (show NwI w v5 R low high A1 c1 (slotsI low high (l.take k)) from by
          refine HBW.out.2.below ?_ HB5.out
          have := HBW.out.1.lt
          have := HSL.out.2.2
          omega)
        have g5 := (HBW.out.1.below HB5.out HBW.out.1.lt).cell 1
        clear g0 g1 c0 c1'
        have HSN := Lib.hid (show slotsI low high (l.take (k + 1)) = slotsI low high (l.take k) ++ [x2] from by rw [HSL.out.1, if_pos rfl])
        obtain ⟨L, hL⟩ : ∃ L, slotsI low high (l.take k) = L := ⟨_, rfl⟩
        rw [hL] at HN5 HSN HSL
        obtain ⟨q, hq⟩ : ∃ q, L.length = q := ⟨_, rfl⟩
        have hql : q ≤ 101 := by rw [← hq]; exact HSL.out.2.1
        have y0 := HN5.out.blk.cell 2
        have HOA := Lib.hid HN5.out.row
        have HLA := Lib.hid HN5.out.blk.lt
        rw [hq] at y0 HOA
        have y0a := cellAI y0 (.cells #[.int .i64 x2] 3)
        have HQ := Lib.hid hq
        obtain ⟨hi, hz0, hz1, hz2⟩ := HINF.out
        clear hL hq HBW HSL HB5 HLK
        go_upto_region 6 with fail
        go_region_law (first
          | (refine step_append_lies _ (by rfl) _ _ _ (by rfl) R 3 i0 _ 1 8 Try.underlying28 hi hz0 hz1 hz2 rfl (by decide) (.slice A1 q c1) q (L.map (Value.int .i64)) (by rfl) (HOA.out.alloc (.cells #[.int .i64 x2] 3)) ⟨v5.heap.size, 0, none⟩ 1 1 [.int .i64 x2] (by rfl) (by rfl) (World.news_of_block (cs := #[.int .i64 x2]) (t := 3) (fr := (0, 0)) (heap_alloc_new v5 (.cells #[.int .i64 x2] 3))) (by simp [Value.oneCell']) (by omega) (by unfold maxLen; omega) (by omega) (by have := HLA.out; simp; omega) (v5.heap.size + 1) (by simp) ?_
             intro g2 cap2 w2 hown2 hgrow2 hat2 hlt2
             obtain ⟨p1, p2, p3⟩ := HN5.out.push (x := x2) (by rw [HQ.out]; exact hown2) (by rw [HQ.out]; exact hgrow2) (by rw [HQ.out]; exact hat2)
             rw [HQ.out] at p1 p2
             have HPU := Lib.hid p1
             clear p1 hown2 hgrow2 hat2))
        all_goals
          have hs2 := HPU.out
          rw [← HSN.out] at hs2
          have HS2 := Lib.hid hs2
          clear hs2 HPU
          go_wp2_with fail
          go_roundw
          case rel => exact ⟨k + 1, _, _, by omega, by go_num, HS2⟩
          case measure => simp [intOf]; omega
    · obtain rfl : k = n := by omega
      obtain ⟨m, m0, m1, m2, hgap, hat⟩ := HGN.out
      have hN := HNW.out
      rw [show l.take k = l from by rw [← HN.out]; exact List.take_length] at hN
      have hLl := slotsI_length low high l
      have hLne : slotsI low high l ≠ [] := by unfold slotsI; simp
      obtain ⟨L, hL⟩ : ∃ L, slotsI low high l = L := ⟨_, rfl⟩
      rw [hL] at hN m2 hgap hat hLl hLne
      obtain ⟨E, hE⟩ : ∃ E : Nat → Int, (fun k => (endsI L).getD k 0) = E := ⟨_, rfl⟩
      rw [hE] at hgap
      have hat2 : ∀ x ∈ l, likeR low high x = true → ∃ k, k < m ∧ E k = x.2 := by rw [← hE]; exact hat
      have hEk : ∀ k, (endsI L).getD k 0 = E k := fun k => by rw [← hE]
      rw [HN.out] at hLl m1
      rcases hN.row.2 with ⟨e0, e1⟩ | ⟨g, cap, cur, hv, hbg, hh, a1, a2, a3, a4⟩
      · exfalso
        exact hLne (List.length_eq_zero_iff.1 e1)
      · injection hv with hv1 hv2 hv3
        subst hv1 hv3
        have hne : g ≠ R + 1 := hN.ne _ rfl
        rw [Nat.mul_one] at a4
        have hso := sortedI L g c1 cur wr hh a4 (by omega) a1 (by omega)
        have hSl : (L.mergeSort fun x y => decide (x ≤ y)).length = L.length := (List.mergeSort_perm L _).length_eq
        have hCL : (Lib.compact (L.mergeSort fun x y => decide (x ≤ y))) = endsI L := rfl
        obtain ⟨S, hS⟩ : ∃ S, (L.mergeSort fun x y => decide (x ≤ y)) = S := ⟨_, rfl⟩
        rw [hS] at hso hSl hCL
        have hco := fun v cur' (h1 : Blk v g 3 cur') (h2 : cur'.size = c1) (h3 : cur'.toList.take L.length = S.map (Value.int .i64)) => compactedI S g c1 cur' v h1 (by rw [hSl]; exact h3) h2 (by omega) (by omega)
        rw [hSl] at hco
        rw [hCL, ← m2] at hco
        simp only [hEk] at hco
        obtain ⟨q, hq⟩ : ∃ q, L.length = q := ⟨_, rfl⟩
        rw [hq] at hso hco
        have HSO := Lib.hid hso
        have HCO := Lib.hid hco
        have hbh := hN.blk
        rw [hq] at hbh
        have HBH := Lib.hid (And.intro hbh (And.intro hN.bel hne))
        have HGP := Lib.hid (And.intro hgap hat2)
        have HM := Lib.hid (show 0 < m ∧ m ≤ 101 ∧ R ≤ g from ⟨m0, by omega, hbg⟩)
        have y2 := hbh.cell 2
        clear hgap hat hat2 hN hLl hLne hL hE hEk hh a1 a2 a3 a4 hv2 hso hSl hCL hS hco hbh HNW HLE HAT HGN hbg m0 m1 m2
        go_upto_region 9 with (go_at_call 15; refine HSO.out.mono ?_; rintro e v1 ⟨rfl, hg1, cur1, hb1, hs1, ht1⟩)
        have hbh1 := HBH.out.1.grown hg1 (by intro e; injection e with e; exact HBH.out.2.2 e.symm)
        have hbel1 : Below R w v1 := HBH.out.2.1.trans ⟨hg1.os, hg1.tape, hg1.output, hg1.size, fun j hj => hg1.block j (by have := HBH.out.1.lt; omega) (by have := HM.out; intro e; injection e with e; omega)⟩
        have z2 := hbh1.cell 2
        have f2 := hbh1.frozen 2
        have HC1 := Lib.hid (HCO.out v1 cur1 hb1 hs1 ht1)
        have HB1 := Lib.hid (And.intro hbh1 hbel1)
        clear y2 hg1 hb1 hs1 ht1 hbh1 hbel1 HSO HCO
        go_upto_region 10 with (go_at_call 16; refine HC1.out.mono ?_; rintro e v2 ⟨rfl, hg2, cur2, hb2, hc2⟩; have hbh2 := HB1.out.1.grown hg2 (by intro e; injection e with e; exact HBH.out.2.2 e.symm); have hbel2 : Below R w v2 := HB1.out.2.trans ⟨hg2.os, hg2.tape, hg2.output, hg2.size, fun j hj => hg2.block j (by have := HB1.out.1.lt; omega) (by have := HM.out; intro e; injection e with e; omega)⟩; have z3 := hbh2.cell 2; have f3 := hbh2.frozen 2)
        have h2 : Nw2 w (v2.setCell ⟨R + 1, 2, none⟩ (.slice (some ⟨g, 0, none⟩) m c1)) R g low high m c1 E (2 ^ 0) := by
          refine ⟨hbh2.set_ 2 _, ⟨cur2, hb2.far (p := ⟨R + 1, 2, none⟩) HBH.out.2.2 _, hc2⟩, HBH.out.2.2, HM.out.2.2, ?_⟩
          exact hbel2.trans ((But.setCell (But.refl (fun k => k = R + 1) v2) (p := ⟨R + 1, 2, none⟩) (.inl rfl) _).below (by have := hbh2.lt; omega) (fun k hk => by have hk : k = R + 1 := hk; omega))
        generalize hV3 : v2.setCell ⟨R + 1, 2, none⟩ (.slice (some ⟨g, 0, none⟩) m c1) = V3 at h2 ⊢
        have H2 := Lib.hid h2
        clear hV3 h2 hb2 hc2 hbh2 hbel2 z2 z3 f2 f3 HC1 HB1 HBH HN0
        go_loopw [] (fun wr2 => ∃ d : Nat, 2 ^ d ≤ 2 * m ∧ Hid (Nw2 w wr2 R g low high m c1 E (2 ^ d))) (fun wr2 => m - halfI R wr2)
        case atStart => exact ⟨0, by have := HM.out; simp; omega, H2⟩
        case round =>
          obtain ⟨d, hd, HW2⟩ := hrel
          have y2 := HW2.out.blk.cell 2
          have y4 := HW2.out.blk.cell 4
          have f4 := HW2.out.blk.frozen 4
          have hmm := HM.out
          obtain ⟨h, hh⟩ : ∃ h : Nat, 2 ^ d = h := ⟨_, rfl⟩
          have hpos : 0 < h := by rw [← hh]; exact p2pos d
          rw [hh] at hd y4
          have HH := Lib.hid hh
          have hh0 : (0 : Int) ≤ (h : Int) := by omega
          by_cases hlt : h < m
          · have hlt' : (h : Int) < (m : Int) := by omega
            obtain ⟨h2, hh2⟩ : ∃ h2 : Nat, h * 2 = h2 := ⟨_, rfl⟩
            have e1 : (h : Int) * 2 = (h2 : Int) := by omega
            have hb2 : (0 : Int) ≤ (h2 : Int) ∧ (h2 : Int) ≤ 4611686018427387904 := by omega
            have HTW := Lib.hid (HW2.out.twice h2)
            have HPW := Lib.hid (show 2 ^ (d + 1) = h2 ∧ h2 ≤ 2 * m ∧ h < h2 ∧ h < m from ⟨by rw [p2, hh]; omega, by omega, by omega, hlt⟩)
            have hhf := halfI_eq y4
            have HHF := Lib.hid hhf
            obtain ⟨e2, e3⟩ := wrapsI hb2.1 hb2.2
            clear hh hhf hb2 hh2 hmm hd hpos
            go_wp2_with fail
            go_region
            all_goals
              go_wp2_with fail
              go_roundw
              case rel => exact ⟨d + 1, by rw [HPW.out.1]; exact HPW.out.2.1, Lib.hid (by rw [HPW.out.1]; exact HTW.out.drewN _)⟩
              case measure =>
                rw [show halfI R (wr.setCell ⟨R + 1, 4, none⟩ (.int .i64 h2)).drew = h2 from halfI_eq (HTW.out.blk.cell 4), HHF.out]
                have h5 := HPW.out
                clear e2 e3 e1
                omega
          · have hb2 := HW2.out
            obtain ⟨n2, hn2⟩ : ∃ n2 : Nat, 2 * h = n2 := ⟨_, rfl⟩
            obtain ⟨mm, hmm2⟩ : ∃ mm : Nat, m - 1 = mm := ⟨_, rfl⟩
            have e1 : (2 : Int) * (h : Int) = (n2 : Int) := by omega
            have e4 : (m : Int) - 1 = (mm : Int) := by omega
            have hbb := HB.out
            unfold BndI at hbb
            have hbn : (0 : Int) ≤ (n2 : Int) ∧ (n2 : Int) ≤ 4611686018427387904 ∧ (0 : Int) ≤ (mm : Int) ∧ (mm : Int) ≤ 4611686018427387904 ∧ 0 ≤ high - low ∧ high - low ≤ 4611686018427387904 := by omega
            obtain ⟨hi, hz0, hz1, hz2⟩ := HINF.out
            have hmk := fun v => run_make_ints (P := Try.prog) 28 3 i0 Try.underlying28 hi hz0 hz1 hz2 n2 (by omega) v
            clear hi hz0 hz1 hz2
            have hsz := hb2.blk.lt
            obtain ⟨cs3, hcs3, hck3⟩ := hb2.ends
            have hrm : Rm ((wr.alloc (.cells (icells (List.replicate n2 0)) 3)).setCell ⟨R + 1, 3, none⟩ (.slice (some ⟨wr.heap.size, 0, none⟩) n2 n2)) (R + 1) g wr.heap.size low high m c1 (2 ^ d) E (fun _ => 0) := by
              have b1 := (hb2.blk.alloc (.cells (icells (List.replicate n2 0)) 3)).set_ 3 (.slice (some ⟨wr.heap.size, 0, none⟩) n2 n2)
              have b2 := (hcs3.alloc (.cells (icells (List.replicate n2 0)) 3)).far (p := ⟨R + 1, 3, none⟩) hb2.ne (.slice (some ⟨wr.heap.size, 0, none⟩) n2 n2)
              have b3 := (Blk.new wr 3 (icells (List.replicate n2 0))).far (p := ⟨R + 1, 3, none⟩) (by show wr.heap.size ≠ R + 1; omega) (.slice (some ⟨wr.heap.size, 0, none⟩) n2 n2)
              rw [hh]
              rw [hh] at b1
              refine ⟨by rw [hn2]; exact b1, ⟨cs3, b2, hck3⟩, ?_, fun e => hb2.ne e.symm, by omega, by have := hcs3.lt; omega⟩
              rw [hn2, show tcells n2 (fun _ => 0) = icells (List.replicate n2 0) from by unfold tcells icells; congr 1; simp [List.map_const']]
              exact b3
            have hbe : Below w.heap.size w ((wr.alloc (.cells (icells (List.replicate n2 0)) 3)).setCell ⟨R + 1, 3, none⟩ (.slice (some ⟨wr.heap.size, 0, none⟩) n2 n2)) := by
              rw [HSZ.out]
              exact (hb2.bel.alloc (by omega) _).trans ((But.setCell (But.refl (fun k => k = R + 1) _) (p := ⟨R + 1, 3, none⟩) (.inl rfl) _).below (by simp; omega) (fun k hk => by have hk : k = R + 1 := hk; omega))
            have HRM := Lib.hid (And.intro hrm (And.intro hbe (show R ≤ wr.heap.size by omega)))
            have f3 := hb2.blk.frozen 3
            have f3a := (hb2.blk.alloc (.cells (icells (List.replicate n2 0)) 3)).frozen 3
            have y3 := hb2.blk.cell 3
            have y3a := (hb2.blk.alloc (.cells (icells (List.replicate n2 0)) 3)).cell 3
            have hset := fun V (hV : Rm V (R + 1) g wr.heap.size low high m c1 (2 ^ d) E (fun _ => 0)) => set_anyI (R + 1) g wr.heap.size low high m c1 d E (fun _ => 0) (m - 1) (high - low) V hV (fun k _ _ => by simp) (by rw [hh]; omega) (by rw [hh]; omega)
            have HSET := Lib.hid hset
            rw [hmm2] at HSET
            have HBD := Lib.hid (show m ≤ 2 ^ d ∧ 2 ^ d ≤ 1000000 ∧ R ≤ g ∧ mm = m - 1 ∧ 0 < m by rw [hh]; omega)
            obtain ⟨w1, w2⟩ := wrapsI hbn.1 hbn.2.1
            obtain ⟨w3, w4⟩ := wrapsI hbn.2.2.1 hbn.2.2.2.1
            obtain ⟨w5, w6⟩ := wrapsI hbn.2.2.2.2.1 hbn.2.2.2.2.2
            clear hb2 hset hrm hbe hsz hcs3 hck3 hbn hbb hmm2 hh hd hmm hn2 hpos
            go_wp2_with fail
            go_region
            all_goals
              go_upto_region 13 with fail
              generalize hX : World.setCell _ _ _ = X
              rw [hX] at HRM
              have x2 := HRM.out.1.head.cell 2
              clear hX hmk y2 y4 f4 f3 f3a y3 y3a
              go_wp2_with (go_at_call 17; refine (HSET.out _ (by first | exact HRM.out.1 | exact HRM.out.1.drew | exact HRM.out.1.drewN _)).mono ?_; rintro e v9 ⟨rfl, T9, hs9⟩)
              go_ret
              refine ⟨_, _, _, m, c1, d, E, T9, _, rfl, ⟨⟨hs9.room, hs9.tree, HGP.out.1, fun k hk => ?_, fun k hk1 hk2 => ?_⟩, HBD.out.1, HBD.out.2.1, HGP.out.2, ?_, ?_⟩⟩
              · rw [hs9.leaf _ (Nat.le_add_right ..)]
                unfold updT
                have := HBD.out.2.2.2.1
                by_cases ek : k = m - 1
                · rw [if_pos (by rw [this, ek]), if_pos ek]
                · rw [if_neg (by rw [this]; exact fun e => ek (Nat.add_left_cancel e)), if_neg ek]
              · rw [hs9.leaf _ (Nat.le_add_right ..)]
                unfold updT
                have := HBD.out.2.2.2
                have h9 : k ≠ mm := by clear w1 w2 w3 w4 w5 w6; omega
                rw [if_neg (fun e => h9 (Nat.add_left_cancel e))]
              · refine (HRM.out.2.1.drew).trans (hs9.but.below HRM.out.2.1.size (fun k hk => ?_))
                have hk : k = wr.heap.size := hk
                have h1 := HRM.out.2.2
                have h2 := HSZ.out
                clear w1 w2 w3 w4 w5 w6
                omega
              · have h1 := HRM.out.2.2
                have h2 := HSZ.out
                have h3 := HBD.out.2.2.1
                clear w1 w2 w3 w4 w5 w6
                omega
end Go.Proofs.Ytfoapghjloblnab
