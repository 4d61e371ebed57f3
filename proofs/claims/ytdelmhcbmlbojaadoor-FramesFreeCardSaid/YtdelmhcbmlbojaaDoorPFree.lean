/- FramesFree: for any numbers (forty at most): a frame that was dropped as often as it was held is free, and comes again, empty. -/
import Derived.Test.YtdelmhcbmlbojaaDoorPH
import Derived.Test.YtdelmhcbmlbojaaDoorPG
import Derived.Test.YtdelmhcbmlbojaaDoorBits
import Derived.Test.YtdelmhcbmlbojaaDoorOpen
import Derived.Deep.CutRange
import Derived.BigQuiet
namespace Go.Proofs.YtdelmhcbmlbojaaDoor.lawFree
open Go.ChangeShapes Go.WideShapes Go.ChangeAt Go.RowKit
set_option linter.unusedVariables false

theorem openInts {H : Type} {enc : TypeId × Value → H} {w : World} {base : Nat} {spare : Nat → Bool} {held : Bool} {r : Reach} {b0 : Nat} {v : Value} {d : DataW H} {ps : List MemPlace}
    (hv : Value.okWide Tryd.prog w r b0 44 v) (h : DataW.Trod enc Tryd.prog w base spare held 44 v d ps) : ∃ A zs c, v = .slice A (List.length zs) c ∧ zs.length ≤ maxLen ∧ IntRow w A zs :=
  open_int_row Tryd.underlying44 Tryd.underlying3 (by kernel_rfl) hv h

/-- How often frames are held: four of them, at most so often. -/
structure Lg (X : Pol) (n : Nat) : Prop where
  len : X.H.length = 4
  lenS : X.S.length = 4
  lo : ∀ k (hk : k < X.H.length), 0 ≤ X.H[k] ∧ X.H[k] ≤ n

theorem Lg.step {X Y : Pol} {n : Nat} (l : Lg X n) (f : Nat) (x : Int) (hH : Y.H = X.H.set f x) (hS : Y.S.length = 4) (h0 : 0 ≤ x) (h1 : x ≤ (n : Int) + 1) : Lg Y (n + 1) := by
  refine ⟨by rw [hH, List.length_set, l.len], hS, fun k hk => ?_⟩
  simp only [hH, List.length_set] at hk ⊢
  rw [List.getElem_set]
  split
  · exact ⟨h0, by omega⟩
  · have := l.lo k hk
    omega
theorem Lg.more {X : Pol} {n : Nat} (l : Lg X n) : Lg X (n + 1) := ⟨l.len, l.lenS, fun k hk => by have := l.lo k hk; omega⟩

/-- The pool behind a Take that is OK. -/
structure Tk (X Y : Pol) (f : Nat) : Prop where
  H : Y.H = X.H.set f 1
  lenS : Y.S.length = 4
  wd : wdE Y.H f 0 4 = 0
  ld : ldV Y.H Y.S f 0 4 = 0
section
variable {w v : World} {p h g b : Nat} {t : TypeId} {cs : Array Value} {X Y : Pol} {n f : Nat}
theorem st_take (s : Mm w v p h g b t cs X) (l : Lg X n) (hf : freeAt X.H = f) (h4 : f < 4) : Calls Tryd.prog 14 #[.pointer (some ⟨p, 0, none⟩)] v fun e v' => e = .returned (.tuple #[.int .i64 f, .int .i64 0]) ∧ ∃ Y, Mm w v' p h g b t cs Y ∧ Tk X Y f :=
  (mm_take s).mono fun e v' ⟨he, hs⟩ => by
    have hl := l.len
    have hS := l.lenS
    have hX : X.tkX = ⟨X.H.set f 1, X.S.set f zsec⟩ := by unfold Pol.tkX; rw [hf, if_pos (by omega)]
    refine ⟨by rw [he, tkV, tkE, hf, if_pos (by omega), if_pos (by omega)], _, hs, ?_⟩
    rw [hX]
    have e0 : askE (X.H.set f 1) f = 0 := by
      rw [askE_in (by rw [List.length_set]; omega)]
      simp
    have e1 : wdE (X.H.set f 1) f 0 4 = 0 := by unfold wdE; rw [if_pos e0]; decide
    refine ⟨rfl, by simpa using hS, e1, ?_⟩
    unfold ldV
    rw [if_pos e1]
    simp only [Int.toNat_natCast, List.getD, List.getElem?_set_self (show f < X.S.length by omega), Option.getD_some]
    decide +kernel
theorem st_full (s : Mm w v p h g b t cs X) (l : Lg X n) (hf : freeAt X.H = 4) : Calls Tryd.prog 14 #[.pointer (some ⟨p, 0, none⟩)] v fun e v' => e = .returned (.tuple #[.int .i64 0, .int .i64 18]) ∧ Mm w v' p h g b t cs X :=
  (mm_take s).mono fun e v' ⟨he, hs⟩ => by
    have hl := l.len
    have hX : X.tkX = X := by unfold Pol.tkX; rw [hf, if_neg (by omega)]
    rw [hX] at hs
    exact ⟨by rw [he, tkV, tkE, hf, if_neg (by omega), if_neg (by omega)], hs⟩
theorem st_load (s : Mm w v p h g b t cs Y) (k : Tk X Y f) : Calls Tryd.prog 25 #[.pointer (some ⟨p, 0, none⟩), .int .i64 f, .int .i64 0, .int .i64 4] v fun e v' => e = .returned (.tuple #[.int .u64 0, .int .i64 0]) ∧ Mm w v' p h g b t cs Y :=
  (mm_load s f 0 4 (by decide) (by decide)).mono fun e v' ⟨he, hs⟩ => ⟨by rw [he, k.ld, k.wd], hs⟩
theorem st_store (s : Mm w v p h g b t cs Y) (l : Lg X n) (k : Tk X Y f) : Calls Tryd.prog 27 #[.pointer (some ⟨p, 0, none⟩), .int .i64 f, .int .i64 0, .int .i64 4, .int .u64 18446744073709551615] v fun e v' => e = .returned (.int .i64 0) ∧ ∃ Z : Pol, Mm w v' p h g b t cs Z ∧ Z.H = X.H.set f 1 ∧ Lg Z (n + 1) :=
  (mm_store s f 0 4 18446744073709551615 (by decide) (by decide) (by decide)).mono fun e v' ⟨he, hs⟩ => by
    have hH : (Y.stX f 0 4 18446744073709551615).H = X.H.set f 1 := by rw [Pol.stX_H, k.H]
    refine ⟨by rw [he, k.wd], _, hs, hH, l.step f 1 hH ?_ (by omega) (by omega)⟩
    unfold Pol.stX
    split
    · simpa using k.lenS
    · exact k.lenS
theorem st_hold (s : Mm w v p h g b t cs X) (l : Lg X n) (hn : n ≤ 100) (hf : f < 4) (d x : Int) (hx : X.H[f]? = some x) (hd : d = 1 ∨ d = -1) (h0 : 0 ≤ x + d ∨ x = 0) :
    (X.addX f d).H = (if x = 0 then X.H else X.H.set f (x + d)) ∧ Lg (X.addX f d) (n + 1) ∧ askE X.H f = if x = 0 then 13 else 0 := by
  obtain ⟨hk, rfl⟩ := List.getElem?_eq_some_iff.1 hx
  have hl := l.lo f hk
  have ha := askE_in hk
  by_cases hz : X.H[f] = 0
  · have e : X.addX f d = X := Pol.addX_no (by rw [ha, if_pos hz]; decide) d
    rw [e, if_pos hz]
    exact ⟨rfl, l.more, ha⟩
  · have e := Pol.addX_in hk hz d
    have ew : wrap64 (X.H[f] + d) = X.H[f] + d := IntWalk.wrap64_in _ (by rcases hd with rfl | rfl <;> omega)
    rw [ew] at e
    rw [if_neg hz, e]
    refine ⟨rfl, l.step f (X.H[f] + d) rfl l.lenS ?_ ?_, ha⟩
    · rcases h0 with h0 | h0
      · exact h0
      · exact absurd h0 hz
    · rcases hd with rfl | rfl <;> omega
end
theorem full_ne {H : List Int} (hf : freeAt H = 4) (hl : H.length = 4) {k : Nat} (hk : k < 4) : ∃ x, H[k]? = some x ∧ x ≠ 0 := by
  have hk' : k < H.length := by omega
  refine ⟨H[k], List.getElem?_eq_getElem hk', fun e => ?_⟩
  have := freeAt_hit hk' (by omega) e
  omega

set_option maxRecDepth 100000 in
set_option maxHeartbeats 6400000 in
theorem walk (A : Option Addr) (l : List Int) (c : Nat) (w : World) (hm : l.length ≤ maxLen) (hz : IntRow w A l) (hT : Tab w) :
    Calls Tryd.prog 6 #[.slice A l.length c] w fun e w' => e = .returned (.bool true) ∧ Below w.heap.size w w' := by
  unfold maxLen at hm
  have HA := Lib.hid (fun w hT => awake6_any w hT)
  have HN := Lib.hid (fun v (hb : Below w.heap.size w v) (hT' : Tab v) => pw_new hb hT' hT.pos 4 (by omega) (by omega))
  have HZ := Lib.hid hz
  have HB := Lib.hid (Below.refl w.heap.size w)
  clear hz
  go_enter Tryd.func6, Tryd.ntmps6
  go_wp2_with (first
    | (go_at_call 10; refine (HA.out _ hT).mono ?_; rintro e v0 ⟨rfl, hb⟩; have hB := HB.out.trans hb; replace hT := hT.below hb hT.pos; clear hb)
    | (go_at_call 11; refine (HN.out _ hB hT).mono ?_; rintro e v1 ⟨p, h, g, rfl, hS⟩; clear hB))
  have hM := Mm.new hS 59 (icells [0, 0, 0, 0])
  have hL : Lg (newP 4) 1 := ⟨rfl, rfl, by decide +kernel⟩
  obtain ⟨b, hb⟩ : ∃ b, v1.heap.size = b := ⟨_, rfl⟩
  rw [hb] at hM ⊢
  have hH : (newP 4).H = [0, 0, 0, 0] := rfl
  rw [← hH] at hM
  have HM := Lib.hid hM
  have HL := Lib.hid hL
  clear hM hL hS hT HN hb hH
  go_loopw [6, 7, 8, 9, 10, 11, 12, 13] (fun i _ _ _ _ _ _ _ wr => ∃ (k : Nat) (X : Pol), k ≤ l.length ∧ k ≤ 40 ∧ i = .int .i64 k ∧ Mm w wr p h g b 59 (icells X.H) X ∧ Lg X (k + 1)) (fun i _ _ _ _ _ _ _ _ => l.length - (intOf i).toNat)
  case atStart => exact ⟨0, _, Nat.zero_le _, by omega, rfl, HM.out, HL.out⟩
  case round =>
    clear HM HL
    obtain ⟨k, X, hk, hk40, rfl, hM, hL⟩ := hrel
    by_cases hlt : k < l.length ∧ k < 40
    · obtain ⟨hk1, hk2⟩ := hlt
      have d40 : decide ((k : Int) < 40) = true := decide_eq_true (by omega)
      obtain ⟨ad, rfl, hab, hc0, _⟩ := HZ.out k hk1
      replace hc0 := (hM.sw.bel.cell (p := ad.add k) (by rw [show (ad.add k).block = ad.block by unfold Addr.add; split <;> rfl]; exact hab)).trans hc0
      generalize l[k] = x at *
      have h3 : ∀ y : Int, bits .and .i64 y 3 = y % 4 := fun y => i64_and_mask y 2 3 (by omega) (by decide)
      obtain ⟨m, hm, hm0, hm4⟩ : ∃ m : Int, x % 4 = m ∧ 0 ≤ m ∧ m < 4 := ⟨_, rfl, by omega, by omega⟩
      obtain ⟨j, hj, hj4⟩ : ∃ j : Nat, x / 4 % 4 = j ∧ j < 4 := ⟨(x / 4 % 4).toNat, by omega, by omega⟩
      go_upto_region 10 with fail
      first | go_values | go_skip | go_guarded | go_step | go_upon | go_back | go_simp
      first | go_values | go_skip | go_guarded | go_step | go_upon | go_back | go_simp
      first | go_values | go_skip | go_guarded | go_step | go_upon | go_back | go_simp
      first | go_values | go_skip | go_guarded | go_step | go_upon | go_back | go_simp
      first | go_values | go_skip | go_guarded | go_step | go_upon | go_back | go_simp
      first | go_values | go_skip | go_guarded | go_step | go_upon | go_back | go_simp
      first | go_values | go_skip | go_guarded | go_step | go_upon | go_back | go_simp
      first | go_values | go_skip | go_guarded | go_step | go_upon | go_back | go_simp
      first | go_values | go_skip | go_guarded | go_step | go_upon | go_back | go_simp
      first | go_values | go_skip | go_guarded | go_step | go_upon | go_back | go_simp
      first | go_values | go_skip | go_guarded | go_step | go_upon | go_back | go_simp
      first | go_values | go_skip | go_guarded | go_step | go_upon | go_back | go_simp
      first | go_values | go_skip | go_guarded | go_step | go_upon | go_back | go_simp
      first | go_values | go_skip | go_guarded | go_step | go_upon | go_back | go_simp
      first | go_values | go_skip | go_guarded | go_step | go_upon | go_back | go_simp
      first | go_values | go_skip | go_guarded | go_step | go_upon | go_back | go_simp
      first | go_values | go_skip | go_guarded | go_step | go_upon | go_back | go_simp
      first | go_values | go_skip | go_guarded | go_step | go_upon | go_back | go_simp
      first | go_values | go_skip | go_guarded | go_step | go_upon | go_back | go_simp
      have HM := Lib.hid hM
      have HL := Lib.hid hL
      clear hM hL hc0 hab
      go_cut [8, 9, 10, 11] from 39 to 128 (fun _ _ _ _ wx => ∃ Y : Pol, Mm w wx p h g b 59 (icells Y.H) Y ∧ Lg Y (k + 1 + 1))
      case first =>
        by_cases hm0' : m = 0
        · subst hm0'
          obtain ⟨f, hf⟩ : ∃ f, freeAt X.H = f := ⟨_, rfl⟩
          by_cases h4 : f < 4
          · have hfl : f < X.H.length := by rw [HL.out.len]; exact h4
            have hz : (icells X.H)[f]? = some (.int .i64 0) := by
              rw [icells_at hfl]
              subst hf
              rw [freeAt_zero hfl]
            have HX := Lib.hid hz
            have HG := Lib.hid (st_take HM.out HL.out hf h4)
            have hfm : (f : Int) % 4 = f := by omega
            clear hz hf hfl
            go_wp2_with (first
              | (go_at_call 14; refine HG.out.mono ?_; rintro e v3 ⟨rfl, Y, hM3, hY⟩)
              | (go_at_call 25; refine (st_load hM3 hY).mono ?_; rintro e v4 ⟨rfl, hM4⟩; have c4 := hM4.blk.at_ f _ HX.out; have f4 := hM4.blk.frozen f; have hM5 := Lib.hid (hM4.store f (.int .i64 1)); clear hM3 hM4)
              | (go_at_call 27; refine (st_store hM5.out HL.out hY).mono ?_; rintro e v6 ⟨rfl, Z, hM6, hZ6, hL6⟩; clear hM5 c4 f4))
            go_meet
            rw [icells_set] at hM6
            exact ⟨Z, by rw [hZ6]; exact hM6, hL6⟩
          · have hf4 : freeAt X.H = 4 := by have := freeAt_le X.H; have := HL.out.len; omega
            obtain ⟨x0, y0, z0⟩ := full_ne hf4 HL.out.len (k := 0) (by omega)
            obtain ⟨x1, y1, z1⟩ := full_ne hf4 HL.out.len (k := 1) (by omega)
            obtain ⟨x2, y2, z2⟩ := full_ne hf4 HL.out.len (k := 2) (by omega)
            obtain ⟨x3, y3, z3⟩ := full_ne hf4 HL.out.len (k := 3) (by omega)
            have HY : Hid ((icells X.H)[0]? = some (.int .i64 x0) ∧ (icells X.H)[1]? = some (.int .i64 x1) ∧ (icells X.H)[2]? = some (.int .i64 x2) ∧ (icells X.H)[3]? = some (.int .i64 x3)) := by
              show _ ∧ _ ∧ _ ∧ _
              simp [icells, y0, y1, y2, y3]
            have b0 : (x0 == 0) = false := by simpa using z0
            have b1 : (x1 == 0) = false := by simpa using z1
            have b2 : (x2 == 0) = false := by simpa using z2
            have b3 : (x3 == 0) = false := by simpa using z3
            have HG := Lib.hid (st_full HM.out HL.out hf4)
            clear hf hf4 h4 y0 y1 y2 y3 z0 z1 z2 z3
            go_wp2_with (first
              | (go_at_call 14; refine HG.out.mono ?_; rintro e v3 ⟨rfl, hM3⟩; have c0 := hM3.blk.at_ 0 _ HY.out.1; have c1 := hM3.blk.at_ 1 _ HY.out.2.1; have c2 := hM3.blk.at_ 2 _ HY.out.2.2.1; have c3 := hM3.blk.at_ 3 _ HY.out.2.2.2; have HM3 := Lib.hid hM3; clear hM3))
            go_meet
            exact ⟨X, HM3.out, HL.out.more⟩
        · have hz0 : (m == 0) = false := by simpa using hm0'
          have hjl : j < X.H.length := by rw [HL.out.len]; exact hj4
          obtain ⟨y, hy⟩ : ∃ y, X.H[j]? = some y := ⟨_, List.getElem?_eq_getElem hjl⟩
          have hyc : (icells X.H)[j]? = some (.int .i64 y) := by simp [icells, hy]
          have HYC := Lib.hid hyc
          have hy0 : 0 ≤ y ∧ y ≤ 41 := by
            obtain ⟨h1, h2⟩ := List.getElem?_eq_some_iff.1 hy
            have := HL.out.lo j h1
            omega
          obtain ⟨yl, yh⟩ := hy0
          have jI0 : (0 : Int) ≤ (j : Int) := by omega
          have jI1 : (j : Int) < 4 := by omega
          by_cases hm1 : m = 1
          · subst hm1
            obtain ⟨q1, q2, q3⟩ := st_hold HM.out HL.out (by omega) hj4 1 y hy (.inl rfl) (.inl (by omega))
            have hg0 := fun (v : World) (s : Mm w v p h g b 59 (icells X.H) X) => mm_hold s (j : Int)
            rw [q3] at hg0
            have HG := Lib.hid hg0
            have Q1 := Lib.hid q1
            have Q2 := Lib.hid q2
            clear hg0 q1 q2 q3 hyc hy hjl
            have a0 := HM.out.drew.blk.at_ j _ HYC.out
            by_cases hy0 : y = 0
            · subst hy0
              rw [if_pos rfl] at HG Q1
              go_wp2
              go_region_held3 (fun w' => w'.cell? ⟨b, j, none⟩ = some (.int .i64 0))
                (first | exact a0)
                ((go_at_call 16; refine (HG.out _ HM.out.drew).mono ?_; rintro e v5 ⟨rfl, hM5⟩; clear a0; have a0 := hM5.blk.at_ j _ HYC.out; have HM5 := Lib.hid hM5; clear hM5))
              go_wp2
              go_meet
              have hq := Q1.out
              exact ⟨_, by rw [hq]; exact HM5.out, Q2.out⟩
            · have hyp : 0 < y := by omega
              rw [if_neg hy0] at HG Q1
              clear hy0
              go_wp2
              go_region_held3 (fun w' => w'.cell? ⟨b, j, none⟩ = some (.int .i64 y))
                (first | exact a0)
                ((go_at_call 16; refine (HG.out _ HM.out.drew).mono ?_; rintro e v5 ⟨rfl, hM5⟩; clear a0; have a0 := hM5.blk.at_ j _ HYC.out; have f5 := hM5.blk.frozen j; have HM5 := Lib.hid hM5; clear hM5))
              go_wp2
              go_meet
              have hq := Q1.out
              have hM6 := HM5.out.store j (.int .i64 (y + 1))
              rw [icells_set] at hM6
              exact ⟨_, by rw [hq]; exact hM6, Q2.out⟩
          · have hz1 : (m == 1) = false := by simpa using hm1
            by_cases hy0 : y = 0
            · obtain ⟨q1, q2, q3⟩ := st_hold HM.out HL.out (by omega) hj4 (-1) y hy (.inr rfl) (.inr hy0)
              have hg0 := fun (v : World) (s : Mm w v p h g b 59 (icells X.H) X) => mm_drop s (j : Int)
              rw [q3] at hg0
              have HG := Lib.hid hg0
              have Q1 := Lib.hid q1
              have Q2 := Lib.hid q2
              clear hg0 q1 q2 q3 hyc hy hjl
              have a0 := HM.out.drew.blk.at_ j _ HYC.out
              subst hy0
              rw [if_pos rfl] at HG Q1
              go_wp2
              go_region_held3 (fun w' => w'.cell? ⟨b, j, none⟩ = some (.int .i64 0))
                (first | exact a0)
                ((go_at_call 18; refine (HG.out _ HM.out.drew).mono ?_; rintro e v5 ⟨rfl, hM5⟩; clear a0; have a0 := hM5.blk.at_ j _ HYC.out; have HM5 := Lib.hid hM5; clear hM5))
              go_wp2
              go_meet
              have hq := Q1.out
              exact ⟨_, by rw [hq]; exact HM5.out, Q2.out⟩
            · have hyp : 0 < y := by omega
              obtain ⟨q1, q2, q3⟩ := st_hold HM.out HL.out (by omega) hj4 (-1) y hy (.inr rfl) (.inl (by omega))
              have hg0 := fun (v : World) (s : Mm w v p h g b 59 (icells X.H) X) => mm_drop s (j : Int)
              rw [q3] at hg0
              have HG := Lib.hid hg0
              have Q1 := Lib.hid q1
              have Q2 := Lib.hid q2
              clear hg0 q1 q2 q3 hyc hy hjl
              have a0 := HM.out.drew.blk.at_ j _ HYC.out
              rw [if_neg hy0] at HG Q1
              clear hy0
              go_wp2
              go_region_held3 (fun w' => w'.cell? ⟨b, j, none⟩ = some (.int .i64 y))
                (first | exact a0)
                ((go_at_call 18; refine (HG.out _ HM.out.drew).mono ?_; rintro e v5 ⟨rfl, hM5⟩; clear a0; have a0 := hM5.blk.at_ j _ HYC.out; have f5 := hM5.blk.frozen j; have HM5 := Lib.hid hM5; clear hM5))
              go_wp2
              go_meet
              have hq := Q1.out
              have hM6 := HM5.out.store j (.int .i64 (y - 1))
              rw [icells_set] at hM6
              exact ⟨_, by rw [hq]; exact hM6, Q2.out⟩
      case rest =>
        obtain ⟨Y, hM2, hL2⟩ := hcut
        clear HM HL
        generalize wc = W2 at *
        have HM2 := Lib.hid hM2
        have HL2 := Lib.hid hL2
        clear hM2 hL2
        go_wp2_with fail
        go_loopw [12, 13] (fun u i wx => ∃ t : Nat, t ≤ 4 ∧ i = .int .i64 t ∧ u = .int .i64 (freeN (Y.H.take t)) ∧ Mm w wx p h g b 59 (icells Y.H) Y) (fun _ i _ => 4 - (intOf i).toNat)
        case atStart => exact ⟨0, by omega, rfl, rfl, HM2.out⟩
        case round =>
          clear HM2
          obtain ⟨t, ht, rfl, rfl, hM3⟩ := hrel
          by_cases ht4 : t < 4
          · have htl : t < Y.H.length := by rw [HL2.out.len]; exact ht4
            have hs := freeN_succ Y.H htl
            have c1 := hM3.blk.at_ t _ (icells_at htl)
            have hh := fun m => (pheld_any (hM3.sw.pl.drewN m) (t : Int)).mono fun _ _ ⟨he, hw⟩ => (⟨he, hw.symm⟩ : _ ∧ _)
            have e : heldI Y.H t = Y.H[t] := by unfold heldI; simp [htl]
            rw [e] at hh
            have hle : freeN (Y.H.take t) ≤ 4 := by have h1 := freeN_le (Y.H.take t); have h2 := HL2.out.len; rw [List.length_take] at h1; omega
            obtain ⟨y, hy⟩ : ∃ y, y = Y.H[t] := ⟨_, rfl⟩
            rw [← hy] at hs c1 hh
            generalize freeN (Y.H.take t) = u at *
            have HS := Lib.hid hs
            have HH := Lib.hid hh
            have HM3 := Lib.hid hM3
            clear hs hh hM3 hy e
            by_cases hy0 : y = 0
            · subst hy0
              rw [if_pos rfl] at HS
              go_wp2
              go_quiet ((go_at_call 31; exact Calls.quiet_of_same (HH.out _)))
              go_wp2
              go_roundw
              case rel => exact ⟨t + 1, by omega, by go_num, by rw [HS.out]; go_num, HM3.out.drewN _⟩
              case measure => simp [intOf]; omega
            · have hyb : (y == 0) = false := by simpa using hy0
              rw [if_neg hy0] at HS
              go_wp2
              go_quiet ((go_at_call 31; exact Calls.quiet_of_same (HH.out _)))
              go_wp2
              go_roundw
              case rel => exact ⟨t + 1, by omega, by go_num, by rw [HS.out]; go_num, HM3.out.drewN _⟩
              case measure => simp [intOf]; omega
          · obtain rfl : t = 4 := by omega
            have e : Y.H.take 4 = Y.H := List.take_of_length_le (by rw [HL2.out.len]; exact Nat.le_refl _)
            rw [e]
            have HU := Lib.hid (pfreeN_any hM3.sw.pl)
            have HM3 := Lib.hid hM3
            generalize freeN Y.H = u at *
            clear e hM3
            go_wp2_with (go_at_call 29; refine HU.out.mono ?_; rintro e v8 ⟨rfl, rfl⟩)
            go_roundw
            case rel => exact ⟨k + 1, Y, by omega, by omega, by go_num, HM3.out, HL2.out⟩
            case measure => simp [intOf]; omega
    · have HM := Lib.hid hM
      have hl2 : (k < l.length ∧ ¬ k < 40) ∨ ¬ k < l.length := by omega
      clear hlt hM hL
      rcases hl2 with ⟨h1, h2⟩ | h1
      all_goals
        go_wp2
        go_ret
        exact ⟨rfl, HM.out.sw.bel⟩

set_option maxRecDepth 100000 in
theorem lifted (os : Os) (started : os.Started) (H : Type) (enc : TypeId × Value → H) :
    ReturnsInHanded {} Tryd.checked os 6 .any (fun w args => (Rows.framesFreeSpec.pre enc Tryd.prog Tryd.f6 Rows.framesFreeRow.domain false w args ∧ laidMet Tryd.prog Rows.framesFreeRow.laid w) ∧ sizedMet enc Tryd.prog Tryd.f6 (OpenSpec.ofChange Rows.framesFreeSpec) false w args) (Rows.framesFreeSpec.post enc Tryd.prog Tryd.f6 false true false false) := by
  refine returnsInHanded_of_change_and (C := Tryd.checked) (X := fun w _ => laidMet Tryd.prog Rows.framesFreeRow.laid w) (fun _ _ _ hh h => h.of_heap hh) own started (by kernel_rfl) Tryd.func6
    (ChangeSpec.witness_at (enc := enc) (C := Tryd.checked) (os := os) (X := fun w _ => laidMet Tryd.prog Rows.framesFreeRow.laid w) false (laidWorld os) #[.slice none 0 0] 8 rfl (by kernel_rfl) (by kernel_rfl) (by kernel_rfl) (by kernel_rfl) (by kernel_rfl) (laid_met os _)) ?_
  intro W base args ds gs before hval0 hW hcnd _ hL _
  have hval : ∀ (j : Nat) t v, Tryd.f6.params[j]? = some t → args[j]? = some v → Value.okWide Tryd.prog W .any base t v := hval0
  have hW' := hW
  obtain ⟨p, q, hA0, hV, rfl, hfz, hnd⟩ := hW
  have hA : DataW.TrodAll enc Tryd.prog W 0 (fun _ => true) true Tryd.f6.params.toList args.toList ds p := hA0
  rw [Tryd.params6] at hA hval
  obtain ⟨v0, vs0, d0, ds0, p0, q0, hargs, rfl, rfl, h0, r0⟩ := trodAll_cons hA
  obtain ⟨rfl, rfl, rfl⟩ := trodAll_nil r0
  obtain rfl : args = #[v0] := by cases args; simp_all
  obtain ⟨rfl, rfl⟩ := trodVars_none hV
  have k0 := h0
  have lt0 : ∀ x ∈ p0, x.block < W.heap.size := by obtain ⟨m, hm⟩ := k0; exact DataW.trod_lt m _ _ _ hm
  obtain ⟨LA0, Ll0, Lc0, rfl, Lm0, Lr0⟩ := openInts (hval 0 44 v0 rfl rfl) h0
  clear hA0 hval0
  refine (walk LA0 Ll0 Lc0 W Lm0 Lr0 (tab_of_laid hL)).mono fun e W' ⟨he, bel⟩ => ?_
  subst he
  exact ⟨_, rfl, _, _, _, [], _, [], hW', trodAll_mk1 (shut_bool Tryd.underlying4 _), (trodAll_cons_mk (Below.trod laidOut (by kernel_rfl) (of_decide_eq_true (by kernel_rfl)) k0 bel lt0) trodAll_mk0), rfl, bel.frame _, fun h => by cases h⟩
theorem over : Rows.framesFreeRow.holds Tryd.pinned (OpenSpec.ofChange Rows.framesFreeSpec) :=
  OpenClaim.holds_of_wide 6 Tryd.f6 rfl rfl rfl rfl rfl rfl rfl ⟨rfl, rfl, rfl, rfl, rfl⟩ rfl rfl rfl rfl rfl (by kernel_rfl) Tryd.func6 (by kernel_rfl)
    (of_decide_eq_true (by kernel_rfl)) (by unfold Func.isWrapper; first | (rw [if_pos (by decide +kernel)]; kernel_rfl) | (rw [if_neg (by decide +kernel)]; exact ⟨rfl, rfl⟩))
    (fun os started H enc _ => lifted os started H enc)
/-- The statement. -/
theorem proved : Rows.FramesFreeCardSaid :=
  Claim7.holds_tied_plain_at .later [] [.data] true _ false over (fun _ h => by cases h) (by kernel_rfl) (fun _ h => by cases h) framesFree_row_tie rfl ⟨rfl, rfl⟩ (by kernel_rfl) rfl
    (fun f fn hf hfn => by
      obtain rfl : f = 6 := Option.some.inj (hf.symm.trans (by kernel_rfl))
      obtain rfl : fn = Tryd.f6 := Option.some.inj (hfn.symm.trans Tryd.func6)
      refine ⟨by kernel_rfl, fun j t ht => ?_⟩
      rw [Tryd.params6] at ht
      match j, ht with
      | 0, ht =>
        obtain rfl : t = 44 := by simpa using ht.symm
        exact (by kernel_rfl : Tryd.pinned.checked.prog.wantsStandIn 44 = false)
      | j + 1, ht => simp at ht)
    (by kernel_rfl)
end Go.Proofs.YtdelmhcbmlbojaaDoor.lawFree
