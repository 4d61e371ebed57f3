/- Package elf: read. -/
import Derived.Test.YtakmmphjdkapeaaDoorEL
namespace Go.Proofs.YtakmmphjdkapeaaDoor
open Go.RowKit
set_option linter.unusedVariables false
set_option linter.unusedSimpArgs false

theorem getL_lt16 (s : ByteArray) (a : Nat) : 0 ≤ getN s a 2 ∧ getN s a 2 < 65536 := by
  unfold getN
  split
  · have h := getL_lt (partL s (a : Int).toNat (2 : Int).toNat)
    have h2 : (partL s (a : Int).toNat (2 : Int).toNat).length ≤ 2 := by unfold partL; rw [List.length_take]; exact Nat.min_le_left _ _
    have h3 : 256 ^ (partL s (a : Int).toNat (2 : Int).toNat).length ≤ 256 ^ 2 := Nat.pow_le_pow_right (by omega) h2
    omega
  · omega
theorem numS_two (s : ByteArray) (a : Nat) : 0 ≤ numS s a 2 ∧ numS s a 2 < 65536 := by
  have h := getL_lt16 s a
  unfold numS
  rw [show ((2 : Nat) : Int) = 2 from rfl, IntWalk.wrap64_in _ (by omega)]
  exact h

theorem own_butE {S : Nat → Prop} {w w' : World} {B e size n : Nat} {v : Value} {xs : List Value} (h : w.ownsRow B e size v n xs) (hb : But S w w') (hS : ∀ k, v.ownBlock = some k → ¬ S k) : w'.ownsRow B e size v n xs := by
  obtain ⟨h1, h2⟩ := h
  refine ⟨h1, ?_⟩
  rcases h2 with h2 | ⟨g, cap, cur, rfl, hB, hg, r⟩
  · exact .inl h2
  · exact .inr ⟨g, cap, cur, rfl, hB, (hb.block g (Array.getElem?_eq_some_iff.1 hg).1 (hS g rfl)).trans hg, r⟩
theorem own_setCell {w : World} {B e size n : Nat} {v : Value} {xs : List Value} (h : w.ownsRow B e size v n xs) {p : Addr} (hp : p.block < B) (u : Value) : (w.setCell p u).ownsRow B e size v n xs :=
  own_butE h ((But.refl (· = p.block) w).setCell (.inl rfl) u) (fun k hk e => by have := (h.lt k hk).1; omega)
/-- An image's block, stored whole. -/
theorem img_set {w : World} {g : Nat} {cs : Array Value} (h : Blk w g 24 cs) (h3 : cs.size = 3) (a b c : Value) : Blk (((w.setCell ⟨g, 0, none⟩ a).setCell ⟨g, 1, none⟩ b).setCell ⟨g, 2, none⟩ c) g 24 #[a, b, c] := by
  have h1 := ((h.set_ 0 a).set_ 1 b).set_ 2 c
  obtain ⟨l⟩ := cs
  match l, h3 with
  | [x, y, z], _ => simpa using h1
/-- An image was told. -/
def ImgT (w : World) (x : Img) (e : Ending) (w' : World) : Prop := ∃ A c, e = .returned (x.v A c) ∧ SegRow w' A x.segs ∧ (∀ ad, A = some ad → w.heap.size ≤ ad.block) ∧ Below w.heap.size w w'

set_option maxRecDepth 100000 in
set_option maxHeartbeats 6400000 in
theorem read_any (s : ByteArray) (w : World) (hT : ETab w) (hs : s.size ≤ 281474976710656) : Calls Tryd.prog 41 #[.string s] w (ImgT w (readS s)) := by
  obtain ⟨hm0, hm1⟩ := numS_two s 56
  obtain ⟨K, hK⟩ : ∃ K : Nat, manyS s = K := ⟨_, rfl⟩
  have hK17 : K ≤ 17 := by rw [← hK]; unfold manyS; exact Nat.min_le_right _ _
  have hKm : min (numS s 56 2) 17 = (K : Int) := by rw [← hK]; unfold manyS; omega
  have HN := Lib.hid (fun (a n : Nat) (ha : a ≤ 1000000000000) (hn : n ≤ 100) w => number_any s a n w ha hn hs)
  have HN1 := Lib.hid (show ∀ w, Calls Tryd.prog 52 #[.string s, .int .i64 16, .int .i64 2] w fun e w' => e = .returned (.int .i64 (numS s 16 2)) ∧ w = w' from fun w => HN.out 16 2 (by omega) (by omega) w)
  have HN2 := Lib.hid (show ∀ w, Calls Tryd.prog 52 #[.string s, .int .i64 24, .int .i64 8] w fun e w' => e = .returned (.int .i64 (numS s 24 8)) ∧ w = w' from fun w => HN.out 24 8 (by omega) (by omega) w)
  have HN3 := Lib.hid (show ∀ w, Calls Tryd.prog 52 #[.string s, .int .i64 56, .int .i64 2] w fun e w' => e = .returned (.int .i64 (numS s 56 2)) ∧ w = w' from fun w => HN.out 56 2 (by omega) (by omega) w)
  have HRD := Lib.hid (show readS s = ⟨numS s 16 2, numS s 24 8, segsAt s K⟩ from by unfold readS; rw [hK])
  have HKM := Lib.hid hKm
  clear hK hKm
  generalize numS s 16 2 = kind at *
  generalize numS s 24 8 = entry at *
  generalize numS s 56 2 = many at *
  obtain ⟨B, hBdef⟩ : ∃ B, w.heap.size + 1 = B := ⟨_, rfl⟩
  have HS := Lib.hid (fun (W0 : World) (hW0 : (w.alloc (.cells #[.int .i64 0, .int .i64 0, .slice none 0 0] 24)).alloc (.cells #[.int .i64 kind, .int .i64 entry, .slice none 0 0] 24) = W0) =>
    show Blk W0 B 24 #[.int .i64 kind, .int .i64 entry, .slice none 0 0] ∧ Below w.heap.size w W0 ∧ Blk W0 w.heap.size 24 #[.int .i64 0, .int .i64 0, .slice none 0 0] ∧ B ≤ W0.heap.size from by
    subst hBdef
    subst hW0
    refine ⟨?_, ((Below.refl _ _).alloc (Nat.le_refl _) _).alloc (by simp) _, (Blk.new w _ _).alloc _, by simp⟩
    have := Blk.new (w.alloc (.cells #[.int .i64 0, .int .i64 0, .slice none 0 0] 24)) 24 #[.int .i64 kind, .int .i64 entry, .slice none 0 0]
    simpa using this)
  have HBD := Lib.hid hBdef
  have hBlt : w.heap.size < B := by omega
  have hpos : 1 < B := by have := hT.pos; omega
  clear hBdef
  obtain ⟨i0, hi, hz0, hz1, hz2⟩ := info_parts infoSeg
  go_enter Tryd.func41, Tryd.ntmps41
  go_wp2_with (first
    | (go_at_call 52; with_reducible refine (HN1.out _).mono ?_; rintro e v1 ⟨rfl, rfl⟩)
    | (go_at_call 52; with_reducible refine (HN2.out _).mono ?_; rintro e v1 ⟨rfl, rfl⟩))
  rw [HBD.out]
  generalize hW : (w.alloc (.cells #[.int .i64 0, .int .i64 0, .slice none 0 0] 24)).alloc (.cells #[.int .i64 kind, .int .i64 entry, .slice none 0 0] 24) = W0
  obtain ⟨hX0, hBW, hR0, hB0⟩ := HS.out W0 hW
  clear hW HS
  have HR0 := Lib.hid hR0
  have HTT := Lib.hid (fun v (hv : Below B W0 v) => (hT.on hBW).below hv hpos)
  have HBW := Lib.hid hBW
  clear hT hR0 hBW
  have ho0 := World.ownsRow_nil W0 B 47 7
  have hk := HKM.out
  go_wp2_with (go_at_call 52; with_reducible refine (HN3.out _).mono ?_; rintro e v1 ⟨rfl, rfl⟩)
  clear hk hm0 hm1 HKM HN1 HN2 HN3
  go_loopw [5, 18] (fun at_ i wr => ∃ (k P : Nat) (v : Value), k ≤ K ∧ i = .int .i64 k ∧ at_ = .int .i64 P ∧ Hid (64 + 56 * k = P) ∧ Below B W0 wr ∧ Blk wr B 24 #[.int .i64 kind, .int .i64 entry, v] ∧ wr.ownsRow B 47 7 v k (segCells (segsAt s k)) ∧ v.ownBlock ≠ some B) (fun _ i _ => K - (intOf i).toNat)
  case atStart => exact ⟨0, 64, _, Nat.zero_le _, rfl, rfl, Lib.hid rfl, Below.refl _ _, hX0, ho0, by simp [Value.ownBlock]⟩
  case round =>
    clear hX0 ho0
    obtain ⟨k, P, v, hk, rfl, rfl, HP, hbe, hX, hown, hvq⟩ := hrel
    by_cases hlt : k < K
    · obtain ⟨g, hg⟩ : ∃ g, wr.heap.size = g := ⟨_, rfl⟩
      have hPle : P ≤ 2000 := by have := HP.out; omega
      obtain ⟨W1, hW1⟩ : ∃ W1, wr.alloc (.cells #[.int .i64 0, .int .i64 0, .int .i64 0, .int .i64 0, .int .i64 0, .int .i64 0, .int .i64 0, .int .i64 0] 72) = W1 := ⟨_, rfl⟩
      have hgB : B ≤ g := by rw [← hg]; exact Nat.le_trans hB0 hbe.size
      have HX1 := Lib.hid (show Blk W1 g 72 (numRow (numAt s P) 0) from by rw [numRow_zero, ← hW1, ← hg]; exact Blk.new _ _ _)
      have HX2 := Lib.hid (show Below B W0 W1 from by rw [← hW1]; exact hbe.alloc (by omega) _)
      have HX3 := Lib.hid (show Blk W1 B 24 #[.int .i64 kind, .int .i64 entry, v] from by rw [← hW1]; exact hX.alloc _)
      have HX4 := Lib.hid (show W1.ownsRow B 47 7 v k (segCells (segsAt s k)) from by rw [← hW1]; exact hown.alloc _)
      have HX5 := Lib.hid (show v.ownBlock ≠ some g ∧ B ≠ g from by
        rw [← hg]
        exact ⟨fun e => absurd (hown.lt _ e).2 (Nat.lt_irrefl _), fun e => absurd hX.lt (by omega)⟩)
      have HX6 := Lib.hid (show W1.heap.size = g + 1 from by rw [← hW1, ← hg]; simp)
      obtain ⟨wt, -⟩ := HTT.out _ HX2.out
      have c0 : W1.cell? ⟨0, 0, none⟩ = some (.int .i64 4) := wt 0 (by omega)
      have c1 : W1.cell? ⟨0, 1, none⟩ = some (.int .i64 4) := wt 1 (by omega)
      have c2 : W1.cell? ⟨0, 2, none⟩ = some (.int .i64 8) := wt 2 (by omega)
      have c3 : W1.cell? ⟨0, 3, none⟩ = some (.int .i64 8) := wt 3 (by omega)
      have c4 : W1.cell? ⟨0, 4, none⟩ = some (.int .i64 8) := wt 4 (by omega)
      have c5 : W1.cell? ⟨0, 5, none⟩ = some (.int .i64 8) := wt 5 (by omega)
      have c6 : W1.cell? ⟨0, 6, none⟩ = some (.int .i64 8) := wt 6 (by omega)
      have c7 : W1.cell? ⟨0, 7, none⟩ = some (.int .i64 8) := wt 7 (by omega)
      rw [← hW1] at c0 c1 c2 c3 c4 c5 c6 c7
      have HW1 := Lib.hid hW1
      have HG := Lib.hid hg
      clear hbe hX hown wt hW1 hg
      go_wp2_with fail
      rw [HW1.out, HG.out]
      clear c0 c1 c2 c3 c4 c5 c6 c7 HW1
      go_loopw [5, 22] (fun at_ j w2 => ∃ q p : Nat, q ≤ 8 ∧ j = .int .i64 q ∧ at_ = .int .i64 p ∧ Hid (p = P + offL.getD q 0) ∧ Blk w2 g 72 (numRow (numAt s P) q) ∧ But (· = g) W1 w2) (fun _ j _ => 8 - (intOf j).toNat)
      case atStart => exact ⟨0, P, Nat.zero_le _, rfl, rfl, Lib.hid rfl, HX1.out, But.refl _ _⟩
      case round =>
        obtain ⟨q, p, hq, rfl, rfl, hp, hb, hbut⟩ := hrel
        by_cases hq8 : q < 8
        · obtain ⟨o1, o2, o3, o4⟩ := wid_off hq8
          have hix := run_index8 widA _ _ hq8 o1
          unfold widA at hix
          obtain ⟨wd, hwd⟩ : ∃ wd, wdL.getD q 0 = wd := ⟨_, rfl⟩
          have hnum := fun w => HN.out p wd (by have := hp.out; omega) (by omega) w
          have hval : numS s p wd = numAt s P q := by unfold numAt; rw [hp.out, hwd]
          have hset := hb.set_ q (.int .i64 (numAt s P q))
          rw [numRow_set _ hq8] at hset
          rw [hval] at hnum
          have hcell := hb.at_ q _ (numRow_at _ hq8)
          have hfr := hb.frozen q
          have HNU := Lib.hid hnum
          have HSET := Lib.hid hset
          have HBT := Lib.hid (hbut.setCell (p := ⟨g, q, none⟩) (.inl rfl) (.int .i64 (numAt s P q)))
          have HP2 := Lib.hid (show p + wd = P + offL.getD (q + 1) 0 from by have := hp.out; omega)
          rw [hwd] at hix o3
          have hple : p ≤ 3000 := by have := hp.out; omega
          clear o1 o2 hnum hval hset hb hbut hwd o4
          generalize numAt s P q = z at *
          go_wp2_with (go_at_call 52; with_reducible refine (HNU.out _).mono ?_; rintro e v1 ⟨rfl, rfl⟩)
          go_roundw
          case rel => exact ⟨q + 1, p + wd, by omega, by go_num, by go_num, Lib.hid HP2.out, by simpa using HSET.out, HBT.out⟩
          case measure => simp [intOf]; omega
        · obtain rfl : q = 8 := by omega
          rw [show ((8 : Nat) : Int) = 8 from rfl]
          have hX := HX3.out.but hbut (fun e => HX5.out.2 e)
          have hown := own_butE HX4.out hbut (fun j e1 e2 => by subst e2; exact HX5.out.1 e1)
          have hbe := HX2.out.trans (hbut.below (by rw [HX6.out]; omega) (fun j e => by omega))
          have hgs : g < wr.heap.size := hb.lt
          rw [numRow_full] at hb
          have hsucc : segCells (segsAt s (k + 1)) = segCells (segsAt s k) ++ [.int .i64 (numAt s P 0), .int .i64 (numAt s P 1), .int .i64 (numAt s P 2), .int .i64 (numAt s P 3), .int .i64 (numAt s P 5), .int .i64 (numAt s P 6), .int .i64 (numAt s P 7)] := by
            rw [segsAt_succ, segCells_snoc, HP.out]
            rfl
          have hpos2 : 64 + 56 * (k + 1) = p := by have := HP.out; have := hp.out; simp [offL] at this; omega
          obtain ⟨cz, hcz⟩ : ∃ cz, segCells (segsAt s k) = cz := ⟨_, rfl⟩
          rw [hcz] at hown hsucc
          generalize numAt s P 0 = z0 at *
          generalize numAt s P 1 = z1 at *
          generalize numAt s P 2 = z2 at *
          generalize numAt s P 3 = z3 at *
          generalize numAt s P 4 = z4 at *
          generalize numAt s P 5 = z5 at *
          generalize numAt s P 6 = z6 at *
          generalize numAt s P 7 = z7 at *
          have HSG := Lib.hid (fun w => segment_any z0 z1 z2 z3 z4 z5 z6 z7 w)
          have hq : wr.cell? ⟨B, 2, none⟩ = some v := hX.at_ 2 _ rfl
          have y0 : wr.cell? ⟨g, 0, none⟩ = some (.int .i64 z0) := hb.at_ 0 _ rfl
          have y1 : wr.cell? ⟨g, 1, none⟩ = some (.int .i64 z1) := hb.at_ 1 _ rfl
          have y2 : wr.cell? ⟨g, 2, none⟩ = some (.int .i64 z2) := hb.at_ 2 _ rfl
          have y3 : wr.cell? ⟨g, 3, none⟩ = some (.int .i64 z3) := hb.at_ 3 _ rfl
          have y4 : wr.cell? ⟨g, 4, none⟩ = some (.int .i64 z4) := hb.at_ 4 _ rfl
          have y5 : wr.cell? ⟨g, 5, none⟩ = some (.int .i64 z5) := hb.at_ 5 _ rfl
          have y6 : wr.cell? ⟨g, 6, none⟩ = some (.int .i64 z6) := hb.at_ 6 _ rfl
          have y7 : wr.cell? ⟨g, 7, none⟩ = some (.int .i64 z7) := hb.at_ 7 _ rfl
          have HSU := Lib.hid hsucc
          have HP2 := Lib.hid hpos2
          have HX := Lib.hid hX
          have HO := Lib.hid hown
          have HBE := Lib.hid hbe
          have hBs : B ≤ wr.heap.size := by omega
          clear HX1 HX2 HX3 HX4 HX5 HX6 hX hown hbe hb hbut hsucc hpos2 hcz hp
          go_wp2_with (fail)
          go_region_law (first
            | (go_simp; go_at_call 53; refine (HSG.out _).mono ?_; rintro e v5 ⟨rfl, hb5⟩
               have HB5 := Lib.hid hb5
               have q5 := (hb5.cell (p := ⟨B, 2, none⟩) HX.out.lt).trans hq
               have s5 : B < v5.heap.size := Nat.lt_of_lt_of_le HX.out.lt hb5.size
               have HX5 := Lib.hid (HX.out.drew.below hb5 HX.out.lt)
               have HO5 := Lib.hid (own_below (w := wr.drew) HO.out hb5)
               clear hb5)
            | (refine step_append_lies _ (by rfl) _ _ _ (by rfl) B 47 i0 _ 7 56 Tryd.underlying22 hi hz0 hz1 hz2 rfl (by omega) v k cz (by rfl) (HO5.out.alloc _)
                 ⟨v5.heap.size, 0, none⟩ 1 1 [.int .i64 z0, .int .i64 z1, .int .i64 z2, .int .i64 z3, .int .i64 z5, .int .i64 z6, .int .i64 z7] (by rfl) (by rfl) (World.news_of_block (cs := #[.int .i64 z0, .int .i64 z1, .int .i64 z2, .int .i64 z3, .int .i64 z5, .int .i64 z6, .int .i64 z7]) (t := 47) (fr := (0, 0)) (heap_alloc_new v5 _)) (by simp [Value.oneCell'])
                 (by omega) (by unfold maxLen; omega) (by omega) (by simp; omega) (v5.heap.size + 1) (by simp) ?_; intro gg cap w1 hown1 hgrow hat hlt1
               have HX7 := Lib.hid ((HX5.out.alloc _).grown hgrow (by exact fun e => hvq e.symm))
               have q1 := HX7.out.at_ 2 _ rfl
               have f1 := HX7.out.frozen 2
               have HO1 := Lib.hid hown1
               have HG1 := Lib.hid hgrow
               have HA1 := Lib.hid hat
               clear hown1 hgrow hat))
          all_goals
            have hne : gg ≠ B := by
              rcases HA1.out with h | h
              · rintro rfl
                exact hvq h
              · omega
            have k1 : Below B W0 v5 := HBE.out.drew.trans (HB5.out.mono (by simpa using hBs))
            have k2 := (k1.alloc (by omega) (.cells #[.int .i64 z0, .int .i64 z1, .int .i64 z2, .int .i64 z3, .int .i64 z5, .int .i64 z6, .int .i64 z7] 47)).grown HG1.out (by simp; omega) (fun j e => (HO.out.lt j e).1)
            have k3 := Lib.hid (k2.setCell (p := ⟨B, 2, none⟩) (Nat.le_refl _) (.slice (some ⟨gg, 0, none⟩) (k + 1) cap))
            have hset := HX7.out.set_ 2 (.slice (some ⟨gg, 0, none⟩) (k + 1) cap)
            have HSET := Lib.hid hset
            have hkeep := HO1.out.kept (w' := w1.setCell ⟨B, 2, none⟩ (.slice (some ⟨gg, 0, none⟩) (k + 1) cap)) (row := some B) ⟨rfl, rfl, rfl, by simp, fun j _ hj => Below.heap_setCell _ _ _ _ (fun e => hj (by rw [e]))⟩ (.inr (by simp [Value.ownBlock]; exact hne))
            rw [← HSU.out] at hkeep
            have HKP := Lib.hid hkeep
            clear hset hkeep k1 k2
            go_wp2_with fail
            go_roundw
            case rel => exact ⟨k + 1, p, _, by omega, by go_num, rfl, Lib.hid HP2.out, k3.out, by simpa using HSET.out, HKP.out, by simp [Value.ownBlock]; exact hne⟩
            case measure => simp [intOf]; omega
    · obtain rfl : k = K := by omega
      have hR := HR0.out.below hbe hBlt
      have r0 := hR.at_ 0 _ rfl
      have r1 := hR.at_ 1 _ rfl
      have r2 := hR.at_ 2 _ rfl
      have f0 := hR.frozen 0
      have f1 := hR.frozen 1
      have f2 := hR.frozen 2
      have x0 : wr.cell? ⟨B, 0, none⟩ = some (.int .i64 kind) := hX.at_ 0 _ rfl
      have x1 : wr.cell? ⟨B, 1, none⟩ = some (.int .i64 entry) := hX.at_ 1 _ rfl
      have x2 : wr.cell? ⟨B, 2, none⟩ = some v := hX.at_ 2 _ rfl
      obtain ⟨A0, c0, hv0, -⟩ := SegRow.of_own hown (segsAt_wf s k)
      rw [segsAt_length] at hv0
      have hfin := img_set hR rfl (.int .i64 kind) (.int .i64 entry) v
      have hB1 : Below w.heap.size w (((wr.setCell ⟨w.heap.size, 0, none⟩ (.int .i64 kind)).setCell ⟨w.heap.size, 1, none⟩ (.int .i64 entry)).setCell ⟨w.heap.size, 2, none⟩ v) :=
        (((HBW.out.trans (hbe.mono (by omega))).setCell (p := ⟨w.heap.size, 0, none⟩) (Nat.le_refl _) _).setCell (p := ⟨w.heap.size, 1, none⟩) (Nat.le_refl _) _).setCell (p := ⟨w.heap.size, 2, none⟩) (Nat.le_refl _) _
      have ho3 := own_setCell (own_setCell (own_setCell hown (p := ⟨w.heap.size, 0, none⟩) hBlt (.int .i64 kind)) (p := ⟨w.heap.size, 1, none⟩) hBlt (.int .i64 entry)) (p := ⟨w.heap.size, 2, none⟩) hBlt v
      have hrow := SegRow.of_own ho3 (segsAt_wf s k)
      rw [segsAt_length] at hrow
      subst hv0
      have HF := Lib.hid (And.intro hfin (And.intro hB1 hrow))
      clear hfin hB1 ho3 hrow hX hown hR hbe
      go_wp2_with fail
      obtain ⟨hRf, hBf, A, c, hv, hrow, hlow⟩ := HF.out
      clear HF
      generalize World.setCell _ _ _ = W5 at *
      refine bodyPost_ret (results_cell_row rfl _ _ w.heap.size 24 _ (0, 0) _ rfl hRf Tryd.underlying24 rfl (by kernel_rfl)) rfl ⟨A, c, ?_, ?_, fun ad e => Nat.le_of_lt (Nat.lt_of_lt_of_le hBlt (hlow ad e)), hBf⟩
      · rw [HRD.out]
        unfold Img.v
        rw [segsAt_length, ← hv]
      · rw [HRD.out]
        exact hrow
end Go.Proofs.YtakmmphjdkapeaaDoor
