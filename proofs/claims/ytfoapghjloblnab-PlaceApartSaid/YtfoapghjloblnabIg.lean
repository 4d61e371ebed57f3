/- Package place: take. -/
import Derived.Test.YtfoapghjloblnabIf
import Derived.Test.YtfoapghjloblnabIs
namespace Go.Proofs.Ytfoapghjloblnab
open Go.RowKit Go.ChangeShapes Go.WideShapes Go.Deep
set_option linter.unusedVariables false
set_option linter.unusedSimpArgs false

/-- Where a number is, or would be, in a row that rises. -/
theorem srchI {E : Nat → Int} {x : Int} : ∀ m, (∀ i j, i < j → j < m → E i < E j) → ∃ b, b ≤ m ∧ ((List.range m).map E).countP (fun y => decide (y < x)) = b ∧ (∀ k, k < m → (E k < x ↔ k < b)) ∧ (((List.range m).map E).contains x = true ↔ b < m ∧ E b = x)
  | 0, _ => ⟨0, Nat.le_refl _, rfl, fun k hk => absurd hk (Nat.not_lt_zero k), by simp⟩
  | m + 1, hr => by
    obtain ⟨b, h1, h2, h3, -⟩ := srchI (E := E) (x := x) m (fun i j hij hj => hr i j hij (by omega))
    have key : ∃ c, c ≤ m + 1 ∧ ((List.range (m + 1)).map E).countP (fun y => decide (y < x)) = c ∧ (∀ k, k < m + 1 → (E k < x ↔ k < c)) := by
      rw [List.range_succ, List.map_append, List.countP_append, h2]
      by_cases hx : E m < x
      · refine ⟨m + 1, Nat.le_refl _, ?_, fun k hk => ⟨fun _ => hk, fun _ => ?_⟩⟩
        · have hb : b = m := by
            rcases Nat.lt_or_ge b m with hlt | hge
            · have := (h3 b hlt).1 (by have := hr b m hlt (by omega); omega)
              omega
            · omega
          simp [hx, hb]
        · by_cases e : k = m
          · rw [e]; exact hx
          · have := hr k m (by omega) (by omega)
            omega
      · refine ⟨b, by omega, by simp [hx], fun k hk => ?_⟩
        by_cases e : k = m
        · subst e
          constructor
          · intro h; exact absurd h hx
          · intro h; omega
        · exact h3 k (by omega)
    obtain ⟨c, c1, c2, c3⟩ := key
    refine ⟨c, c1, c2, c3, ?_⟩
    rw [List.contains_iff_mem]
    constructor
    · intro h
      obtain ⟨k, hk, e⟩ := List.mem_map.1 h
      rw [List.mem_range] at hk
      have hck : ¬ k < c := fun hh => by have := (c3 k hk).2 hh; omega
      have hcm : c < m + 1 := by omega
      refine ⟨hcm, ?_⟩
      by_cases e2 : k = c
      · rw [← e2]; exact e
      · have := hr c k (by omega) hk
        have := (c3 c hcm).1 (by omega)
        omega
    · rintro ⟨h, e⟩
      exact List.mem_map.2 ⟨c, List.mem_range.2 h, e⟩

theorem least_I {p : Nat → Prop} : ∀ n, (∃ k, k < n ∧ p k) → ∃ k, k < n ∧ p k ∧ ∀ x, x < k → ¬ p x
  | 0, ⟨k, hk, _⟩ => absurd hk (Nat.not_lt_zero k)
  | n + 1, ⟨k, hk, hp⟩ => by
    by_cases h : ∃ k, k < n ∧ p k
    · obtain ⟨j, h1, h2, h3⟩ := least_I n h
      exact ⟨j, by omega, h2, h3⟩
    · refine ⟨k, hk, hp, fun x hx hpx => h ⟨x, by omega, hpx⟩⟩
/-- A room, as it lies, of which so much is free. -/
structure RoomS (w : World) (rb eb tb : Nat) (low high : Int) (m ce D : Nat) (E : Nat → Int) (P : List (Int × Int)) (T G : Nat → Int) : Prop where
  room : Rm w rb eb tb low high m ce (2 ^ D) E T
  tree : TreeP (2 ^ D) T
  gap : Gap P low high m E G
  leaf : ∀ k, k < m → T (2 ^ D + k) = G k
  zero : ∀ k, m ≤ k → k < 2 ^ D → T (2 ^ D + k) = 0
theorem RoomS.below {w w' : World} {rb eb tb : Nat} {low high : Int} {m ce D : Nat} {E : Nat → Int} {P : List (Int × Int)} {T G : Nat → Int} {n : Nat} (h : RoomS w rb eb tb low high m ce D E P T G) (hn : n = w.heap.size) (hb : Below n w w') : RoomS w' rb eb tb low high m ce D E P T G :=
  ⟨h.room.below hn hb, h.tree, h.gap, h.leaf, h.zero⟩
theorem RoomS.drewN {w : World} {rb eb tb : Nat} {low high : Int} {m ce D : Nat} {E : Nat → Int} {P : List (Int × Int)} {T G : Nat → Int} (h : RoomS w rb eb tb low high m ce D E P T G) (n : Nat) : RoomS (w.drewN n) rb eb tb low high m ce D E P T G :=
  ⟨h.room.drewN n, h.tree, h.gap, h.leaf, h.zero⟩
theorem leaf1I {H b i : Nat} {T T1 : Nat → Int} {x y : Int} {c : Prop} [Decidable c] (h1 : ∀ z, H ≤ z → T1 z = updT T (H + i) x z) (hc : ¬ c) (k : Nat) : T1 (H + k) = if k = b ∧ c then y else if k = i then x else T (H + k) := by
  rw [h1 _ (Nat.le_add_right ..), if_neg (fun hh => hc hh.2)]
  unfold updT
  by_cases ei' : k = i
  · rw [if_pos (by omega), if_pos ei']
  · rw [if_neg (by omega), if_neg ei']
theorem leaf2I {H b i : Nat} {T T1 T2 : Nat → Int} {x y : Int} {c : Prop} [Decidable c] (h1 : ∀ z, H ≤ z → T1 z = updT T (H + i) x z) (h2 : ∀ z, H ≤ z → T2 z = updT T1 (H + b) y z) (hc : c) (k : Nat) : T2 (H + k) = if k = b ∧ c then y else if k = i then x else T (H + k) := by
  rw [h2 _ (Nat.le_add_right ..)]
  by_cases ek : k = b
  · rw [if_pos ⟨ek, hc⟩]
    unfold updT
    rw [if_pos (by omega)]
  · rw [if_neg (fun hh => ek hh.1)]
    unfold updT
    rw [if_neg (by omega), h1 _ (Nat.le_add_right ..)]
    unfold updT
    by_cases ei' : k = i
    · rw [if_pos (by omega), if_pos ei']
    · rw [if_neg (by omega), if_neg ei']
/-- What take leaves. -/
def TakeR (w w' : World) (rb eb tb : Nat) (low high : Int) (m ce D : Nat) (E : Nat → Int) (P : List (Int × Int)) (a n : Int) (e : Ending) : Prop :=
  But (fun k => k = tb) w w' ∧
  ((fitP P low high a n = true ∧ e = .returned (.bool true) ∧ ∃ T G, RoomS w' rb eb tb low high m ce D E (P ++ [(a, n)]) T G) ∨
   (fitP P low high a n = false ∧ e = .returned (.bool false) ∧ ∃ q, w' = w.drewN q))
theorem drewBut {S : Nat → Prop} {w : World} (n : Nat) : But S w (w.drewN n) := (But.refl S w).drewN n
set_option maxRecDepth 100000 in
set_option maxHeartbeats 3200000 in
theorem take_anyI (rb eb tb : Nat) (low high : Int) (m ce D : Nat) (E : Nat → Int) (P : List (Int × Int)) (T G : Nat → Int) (a n : Int) (w : World) (h : RoomS w rb eb tb low high m ce D E P T G) (hb : BndI low high) (hm : m ≤ 2 ^ D) (hH : 2 ^ D ≤ 1000000)
    (hn : 0 < n) (hn2 : n ≤ 1099511627776) (hnn : n % 64 = 0) (ha : a % 64 = 0) (ha0 : 0 ≤ a) (ha1 : a < high) (hat : (∃ k, k < m ∧ E k = a) ∨ ∃ k, k < m ∧ 0 < G k ∧ a = E k - G k) :
    Calls Try.prog 11 #[.pointer (some ⟨rb, 0, none⟩), .int .i64 a, .int .i64 n] w fun e w' => TakeR w w' rb eb tb low high m ce D E P a n e := by
  obtain ⟨b1, b2, b3, b4, b5⟩ := hb
  have hg := h.gap
  obtain ⟨b, hbm, hcnt, hlow, hcon⟩ := srchI (x := a) m hg.rise
  have hzl : ((List.range m).map E).length = m := by simp
  have HBS := Lib.hid (show ∀ v, Below w.heap.size w v → Calls Try.prog 18 #[.slice (some ⟨eb, 0, none⟩) m ce, .int .i64 a] v fun e w' => e = .returned (.tuple #[.int .i64 (b : Nat), .bool (((List.range m).map E).contains a)]) ∧ ∃ q, w' = v.drewN q from fun v hv => by
    have hc := Any.slices_BinarySearch_int laysNm225 eb 0 m ce ((List.range m).map E) a v (by rw [hzl]; exact Nat.le_refl _) (by omega) (fun j hj => by
      rw [hzl] at hj
      rw [Nat.zero_add, (h.below rfl hv).room.endAt hj, List.getD_eq_getElem?_getD, List.getElem?_eq_getElem (by rw [hzl]; exact hj)]
      simp) (by
      rw [List.take_of_length_le (by rw [hzl]; exact Nat.le_refl _), List.pairwise_map]
      refine List.Pairwise.imp_of_mem (R := fun x y => x < y) (fun {x y} hx hy hxy => ?_) List.pairwise_lt_range
      have := hg.rise x y hxy (List.mem_range.1 hy)
      omega)
    rw [List.take_of_length_le (by rw [hzl]; exact Nat.le_refl _), hcnt] at hc
    exact hc)
  obtain ⟨hr, hhr⟩ : ∃ hr, ((List.range m).map E).contains a = hr := ⟨_, rfl⟩
  rw [hhr] at HBS hcon
  -- behind: the first end that is above the place
  obtain ⟨bh, hbh⟩ : ∃ bh : Nat, (if hr = true then b + 1 else b) = bh := ⟨_, rfl⟩
  have hup : ∀ k, k < m → (a < E k ↔ bh ≤ k) := fun k hk => by
    have h1 := hlow k hk
    cases hr with
    | true =>
      obtain ⟨c1, c2⟩ := hcon.1 rfl
      rw [if_pos rfl] at hbh
      constructor
      · intro h2
        have : k ≠ b := fun e => by subst e; omega
        omega
      · intro h2
        have := hg.rise b k (by omega) hk
        omega
    | false =>
      rw [if_neg (by decide)] at hbh
      constructor
      · intro h2; omega
      · intro h2
        by_cases e : E k = a
        · exfalso
          have : ¬ k < b := fun hh => by have := h1.2 hh; omega
          have hkb : k = b := by
            rcases Nat.lt_trichotomy k b with q | q | q
            · exact absurd q this
            · exact q
            · have := hg.rise b k q hk
              have := (hlow b (by omega)).1 (by omega)
              omega
          have := hcon.2 ⟨by omega, by rw [← hkb]; exact e⟩
          cases this
        · omega
  have hl1 : bh ≤ m - 1 := by
    have hl := hg.last
    have hp := hg.pos
    have h1 := hup (m - 1) (by omega)
    rw [hl] at h1
    exact h1.1 ha1
  have hp0 := hg.pos
  have hx2 := h.room.head.cell 2
  have HBT := Lib.hid (show ∀ q, But (fun k => k = tb) w (w.drewN q) from fun q => drewBut q)
  have HRS := Lib.hid h
  have hbhN : hr = true → (b : Int) + 1 = (bh : Int) := fun e => by rw [if_pos e] at hbh; omega
  have hbhF : hr = false → b = bh := fun e => by rw [if_neg (by rw [e]; decide)] at hbh; exact hbh
  have hw1 := wrapsI (n := (bh : Int)) (by omega) (by omega)
  have HW := Lib.hid hw1
  have HWB := Lib.hid (wrapsI (n := (b : Int)) (by omega) (by omega))
  clear hw1
  have HE := Lib.hid (fun k (hk : k < m) => And.intro (hg.ends k hk) (hg.size k hk))
  by_cases hex : ∃ k, k < 2 ^ D ∧ bh ≤ k ∧ 1 ≤ T (2 ^ D + k)
  · obtain ⟨i, hiH, ⟨hi1, hi2⟩, hi3⟩ := least_I _ hex
    have him : i < m := by
      rcases Nat.lt_or_ge i m with q | q
      · exact q
      · have := h.zero i q hiH; omega
    have hGi := h.leaf i him
    have hlt0 : ∀ k, bh ≤ k → k < i → G k < 1 := fun k h1 h2 => by
      have h3 := hi3 k h2
      rw [← h.leaf k (by omega)]
      have : ¬ (1 ≤ T (2 ^ D + k)) := fun h4 => h3 ⟨h1, h4⟩
      omega
    have hthe := hg.the (p := a) (n := n) (i := i) (b := bh) hn him (by omega) hlt0 hup hi1
    have HF := Lib.hid (show ∀ q, Calls Try.prog 19 #[.pointer (some ⟨rb, 0, none⟩), .int .i64 bh, .int .i64 1] (w.drewN q) fun e w' => e = .returned (.tuple #[.int .i64 i, .bool true]) ∧ w' = w.drewN q from fun q =>
      (find_anyI rb eb tb low high m ce D E T bh 1 (w.drewN q) (h.room.drewN q) h.tree (by omega) hH).mono fun e w' ⟨hf, hw⟩ => by
        refine ⟨?_, hw⟩
        rcases hf with ⟨k, rfl, f1, f2, f3, f4⟩ | ⟨-, f1⟩
        · have : k = i := by
            rcases Nat.lt_trichotomy k i with e | e | e
            · exact absurd ⟨f1, f3⟩ (hi3 k e)
            · exact e
            · have := f4 i hi1 e; omega
          rw [this]
        · have := f1 i hi1 hiH; omega)
    have HFR := Lib.hid (show ∀ V, RoomS V rb eb tb low high m ce D E P T G → ∀ q, Calls Try.prog 20 #[.pointer (some ⟨rb, 0, none⟩), .int .i64 i] (V.drewN q) fun e w' => e = .returned (.int .i64 (E i - G i)) ∧ ∃ q', w' = (V.drewN q).drewN q' from fun V hV q => by
      have h1 := hg.ends i him
      have h2 := hg.size i him
      have := from_any rb eb tb low high m ce (2 ^ D) E T i (V.drewN q) (hV.room.drewN q) him hm hH (by rw [hGi]; omega)
      rw [hGi] at this
      exact this)
    have HST := Lib.hid (show ∀ V, RoomS V rb eb tb low high m ce D E P T G → Calls Try.prog 17 #[.pointer (some ⟨rb, 0, none⟩), .int .i64 i, .int .i64 (E i - a - n)] V fun e w' => e = .returned (.tuple #[]) ∧ ∃ T', SetR V w' rb eb tb low high m ce (2 ^ D) E T T' (2 ^ D + i) (E i - a - n) from fun V hV =>
      set_anyI rb eb tb low high m ce D E T i (E i - a - n) V hV.room hV.tree hiH hH)
    have HS2 := Lib.hid (show ∀ V T', Rm V rb eb tb low high m ce (2 ^ D) E T' → TreeP (2 ^ D) T' → ∀ v, b < m → Calls Try.prog 17 #[.pointer (some ⟨rb, 0, none⟩), .int .i64 b, .int .i64 v] V fun e w' => e = .returned (.tuple #[]) ∧ ∃ T2, SetR V w' rb eb tb low high m ce (2 ^ D) E T' T2 (2 ^ D + b) v from fun V T' hV hT v hbm2 =>
      set_anyI rb eb tb low high m ce D E T' b v V hV hT (by omega) hH)
    have HGT := Lib.hid (show ∀ T' : Nat → Int, fitP P low high a n = true → (E i - G i < a → b < m ∧ E b = a) → (∀ k, k < 2 ^ D → T' (2 ^ D + k) = if k = b ∧ E i - G i < a then a - (E i - G i) else if k = i then E i - a - n else T (2 ^ D + k)) → Gap (P ++ [(a, n)]) low high m E (takeG G E i b a n) ∧ (∀ k, k < m → T' (2 ^ D + k) = takeG G E i b a n k) ∧ (∀ k, m ≤ k → k < 2 ^ D → T' (2 ^ D + k) = 0) from fun T' hf hbb hT' => by
      have h1 := hthe.1 hf
      refine ⟨hg.take hn ha hnn him h1.1 h1.2 hbb, fun k hk => ?_, fun k h2 h3 => ?_⟩
      · rw [hT' k (by omega), h.leaf k hk]
        rfl
      · rw [hT' k h3, if_neg (fun hc => by have := (hbb hc.2).1; omega), if_neg (by omega), h.zero k h2 h3])
    have hei := h.room.endAt him
    have hb1 := hg.ends i him
    have hb2 := hg.size i him
    have hrr : E i - G i < a → E i - G i ≤ a ∧ a + n ≤ E i → hr = true := fun h1 h2 => by
      rcases hat with ⟨k, hk, e⟩ | ⟨k, hk, e1, e2⟩
      · refine hcon.2 ?_
        have h3 : ¬ k < b := fun hh => by have := (hlow k hk).2 hh; omega
        have h4 : b < m := by omega
        refine ⟨h4, ?_⟩
        by_cases e3 : b = k
        · rw [e3]; exact e
        · have := hg.rise b k (by omega) hk
          have := (hlow b h4).1 (by omega)
          omega
      · exfalso
        rcases Nat.lt_trichotomy i k with q | q | q
        · have := hg.apart i k q hk (by omega) e1; omega
        · subst q; omega
        · have := hg.apart k i q him e1 (by omega); omega
    have HPU := Lib.hid (And.intro hthe (And.intro hGi (And.intro him hiH)))
    have HRR := Lib.hid hrr
    have HCO := Lib.hid hcon
    have HNG := Lib.hid (And.intro hn (And.intro ha hnn))
    have hi0 : (0 : Int) ≤ (i : Int) := by omega
    have hi9 : (i : Int) < (m : Int) := by omega
    obtain ⟨ei, hei0⟩ : ∃ x, E i = x := ⟨_, rfl⟩
    obtain ⟨gi, hgi0⟩ : ∃ x, G i = x := ⟨_, rfl⟩
    rw [hei0] at hei hb1 hb2 HFR HST HPU HRR HGT
    rw [hgi0] at hb2 HFR HPU HRR HGT
    have HEG := Lib.hid (And.intro hei0 hgi0)
    obtain ⟨fr, hfr0⟩ : ∃ x, ei - gi = x := ⟨_, rfl⟩
    rw [hfr0] at HFR HPU HRR hb2 HGT
    have hfb : low ≤ fr ∧ fr ≤ high := by omega
    have HFE := Lib.hid hfr0
    have k1 : IntKind.i64.wrap (ei - a) = ei - a := IntWalk.i64_in _ (by omega)
    have k2 : IntKind.i64.wrap (ei - a - n) = ei - a - n := IntWalk.i64_in _ (by omega)
    have k3 : IntKind.i64.wrap (a - fr) = a - fr := IntWalk.i64_in _ (by omega)
    have HX := Lib.hid (show ∀ V, RoomS V rb eb tb low high m ce D E P T G → V.cell? ⟨rb, 2, none⟩ = some (.slice (some ⟨eb, 0, none⟩) m ce) ∧ V.cell? ⟨eb, i, none⟩ = some (.int .i64 ei) from fun V hV => ⟨hV.room.head.cell 2, by rw [hV.room.endAt him, hei0]⟩)
    have HBH := Lib.hid (And.intro hbhN hbhF)
    clear h hg hbm hcnt hzl hcon hhr hbh hup hl1 hp0 hbhN hbhF hex hiH hi1 hi2 hi3 hthe hGi hlt0 hx2 hei hb1 hb2 hrr hat hH hm b1 b2 b3 b4 b5 hei0 hgi0 hfr0 hlow him hn hn2 hnn ha ha0 ha1
    have HBW := Lib.hid (HBS.out w (Below.refl _ _))
    by_cases hfit : fr ≤ a ∧ a + n ≤ ei
    · have HFT := Lib.hid (show fitP P low high a n = true from HPU.out.1.2 hfit)
      have hc : ¬ a < fr := by omega
      have hc2 : ¬ ei - a < n := by omega
      have x2 := (HX.out w HRS.out).1
      by_cases hfr : fr < a
      · obtain rfl := HRR.out hfr hfit
        obtain ⟨c1, c2⟩ := HCO.out.1 rfl
        have e1 := HBH.out.1 rfl
        obtain ⟨e2, e3⟩ := HW.out
        have e4 : (bh : Int) - 1 = (b : Int) := by clear e2 e3; omega
        obtain ⟨e5, e6⟩ := HWB.out
        go_enter Try.func11, Try.ntmps11
        go_upto_region 7 with (first
          | (go_at_call 18; refine HBW.out.mono ?_; rintro e v ⟨rfl, q, rfl⟩)
          | (go_at_call 19; refine (HF.out _).mono ?_; rintro e v ⟨rfl, rfl⟩))
        clear x2
        have hRW := HRS.out.drewN q
        have hBW := HBT.out q
        generalize w.drewN q = W at hRW hBW ⊢
        obtain ⟨x2, x9⟩ := HX.out W hRW
        have HFW := Lib.hid (HFR.out W hRW)
        have HRW := Lib.hid (And.intro hRW hBW)
        clear hRW hBW
        go_quiet ((go_at_call 20; exact Calls.quiet_of (HFW.out _)))
        clear x2 x9
        go_upto_region 12 with (go_at_call 17; refine (HST.out _ (HRW.out.1.drewN _)).mono ?_; rintro e v1 ⟨rfl, T1, hs1⟩)
        have HS1 := Lib.hid hs1
        clear hs1
        go_wp2_with (go_at_call 17; refine (HS2.out v1 T1 HS1.out.room HS1.out.tree (a - fr) c1).mono ?_; rintro e v2 ⟨rfl, T2, hs2⟩)
        go_ret
        obtain ⟨g1, g2, g3⟩ := HGT.out T2 HFT.out (fun _ => ⟨c1, c2⟩) (fun k hk => leaf2I HS1.out.leaf hs2.leaf hfr k)
        exact ⟨(HRW.out.2.drewN _).trans (HS1.out.but.trans hs2.but), .inl ⟨HFT.out, rfl, T2, _, hs2.room, hs2.tree, g1, g2, g3⟩⟩
      · go_enter Try.func11, Try.ntmps11
        go_upto_if 22 with (go_at_call 18; refine HBW.out.mono ?_; rintro e v ⟨rfl, q, rfl⟩)
        clear x2
        go_cut [7] from 23 to 24 (fun b wx => b = .int .i64 bh ∧ wx = w.drewN q)
        case first =>
          cases hr with
          | true =>
            have e1 := HBH.out.1 rfl
            obtain ⟨e2, e3⟩ := HW.out
            go_wp2_with fail
            go_meet
            exact ⟨rfl, rfl⟩
          | false =>
            have e1 := HBH.out.2 rfl
            subst e1
            go_wp2_with fail
            go_meet
            exact ⟨rfl, rfl⟩
        case rest =>
          obtain ⟨hc1, hc2⟩ := hcut
          subst hc1
          subst hc2

          go_upto_region 7 with (go_at_call 19; refine (HF.out _).mono ?_; rintro e v ⟨rfl, rfl⟩)
          have hRW := HRS.out.drewN q
          have hBW := HBT.out q
          generalize w.drewN q = W at hRW hBW ⊢
          obtain ⟨x2, x9⟩ := HX.out W hRW
          have HFW := Lib.hid (HFR.out W hRW)
          have HRW := Lib.hid (And.intro hRW hBW)
          clear hRW hBW
          go_quiet ((go_at_call 20; exact Calls.quiet_of (HFW.out _)))
          clear x2 x9
          go_wp2_with (go_at_call 17; refine (HST.out _ (HRW.out.1.drewN _)).mono ?_; rintro e v1 ⟨rfl, T1, hs1⟩)
          go_ret
          obtain ⟨g1, g2, g3⟩ := HGT.out T1 HFT.out (fun hh => absurd hh (Int.not_lt.2 hfr)) (fun k hk => leaf1I hs1.leaf (Int.not_lt.2 hfr) k)
          exact ⟨(HRW.out.2.drewN _).trans hs1.but, .inl ⟨HFT.out, rfl, T1, _, hs1.room, hs1.tree, g1, g2, g3⟩⟩
    · have HNO := Lib.hid (show fitP P low high a n = false from by
        rw [Bool.eq_false_iff]
        intro hh
        exact hfit (HPU.out.1.1 hh))
      have x2 := (HX.out w HRS.out).1
      go_enter Try.func11, Try.ntmps11
      go_upto_if 22 with (go_at_call 18; refine HBW.out.mono ?_; rintro e v ⟨rfl, q, rfl⟩)
      clear x2
      go_cut [7] from 23 to 24 (fun b wx => b = .int .i64 bh ∧ wx = w.drewN q)
      case first =>
        cases hr with
        | true =>
          have e1 := HBH.out.1 rfl
          obtain ⟨e2, e3⟩ := HW.out
          go_wp2_with fail
          go_meet
          exact ⟨rfl, rfl⟩
        | false =>
          have e1 := HBH.out.2 rfl
          subst e1
          go_wp2_with fail
          go_meet
          exact ⟨rfl, rfl⟩
      case rest =>
        obtain ⟨hc1, hc2⟩ := hcut
        subst hc1
        subst hc2
        go_upto_region 7 with (go_at_call 19; refine (HF.out _).mono ?_; rintro e v ⟨rfl, rfl⟩)
        have hRW := HRS.out.drewN q
        have hBW := HBT.out q
        have hDR : ∀ p, ∃ q', (w.drewN q).drewN p = w.drewN q' := fun p => ⟨_, World.drewN_drewN ..⟩
        generalize w.drewN q = W at hRW hBW hDR ⊢
        have HDR := Lib.hid hDR
        clear hDR
        obtain ⟨x2, x9⟩ := HX.out W hRW
        have HFW := Lib.hid (HFR.out W hRW)
        have HRW := Lib.hid (And.intro hRW hBW)
        clear hRW hBW
        go_quiet ((go_at_call 20; exact Calls.quiet_of (HFW.out _)))
        clear x2 x9
        by_cases hc : a < fr
        · go_wp2_with fail
          go_ret
          exact ⟨HRW.out.2.drewN _, .inr ⟨HNO.out, rfl, HDR.out _⟩⟩
        · have hc2 : ei - a < n := by omega
          go_wp2_with fail
          go_ret
          exact ⟨HRW.out.2.drewN _, .inr ⟨HNO.out, rfl, HDR.out _⟩⟩
  · have HNO := Lib.hid (show fitP P low high a n = false from by
      rw [Bool.eq_false_iff]
      intro hh
      obtain ⟨k, hk, k1, k2⟩ := (hg.free a n hn).1 hh
      refine hex ⟨k, by omega, (hup k hk).1 (by omega), ?_⟩
      rw [h.leaf k hk]
      omega)
    have HF := Lib.hid (show ∀ q, Calls Try.prog 19 #[.pointer (some ⟨rb, 0, none⟩), .int .i64 bh, .int .i64 1] (w.drewN q) fun e w' => e = .returned (.tuple #[.int .i64 0, .bool false]) ∧ w' = w.drewN q from fun q =>
      (find_anyI rb eb tb low high m ce D E T bh 1 (w.drewN q) (h.room.drewN q) h.tree (by omega) hH).mono fun e w' ⟨hf, hw⟩ => by
        refine ⟨?_, hw⟩
        rcases hf with ⟨k, rfl, f1, f2, f3, f4⟩ | ⟨f0, f1⟩
        · exact absurd ⟨k, f2, f1, f3⟩ hex
        · exact f0)
    have HBH := Lib.hid (And.intro hbhN hbhF)
    have HBW := Lib.hid (HBS.out w (Below.refl _ _))
    have x2 := hx2
    clear h hg hbm hcnt hzl hcon hhr hbh hup hl1 hp0 hbhN hbhF hex hx2 hat hH hm b1 b2 b3 b4 b5 hlow hn hn2 hnn ha ha0 ha1
    go_enter Try.func11, Try.ntmps11
    go_upto_if 22 with (go_at_call 18; refine HBW.out.mono ?_; rintro e v ⟨rfl, q, rfl⟩)
    clear x2
    go_cut [7] from 23 to 24 (fun b wx => b = .int .i64 bh ∧ wx = w.drewN q)
    case first =>
      cases hr with
      | true =>
        have e1 := HBH.out.1 rfl
        obtain ⟨e2, e3⟩ := HW.out
        go_wp2_with fail
        go_meet
        exact ⟨rfl, rfl⟩
      | false =>
        have e1 := HBH.out.2 rfl
        subst e1
        go_wp2_with fail
        go_meet
        exact ⟨rfl, rfl⟩
    case rest =>
      obtain ⟨hc1, hc2⟩ := hcut
      subst hc1
      subst hc2
      go_wp2_with (go_at_call 19; refine (HF.out _).mono ?_; rintro e v ⟨rfl, rfl⟩)
      go_ret
      exact ⟨drewBut _, .inr ⟨HNO.out, rfl, _, rfl⟩⟩
end Go.Proofs.Ytfoapghjloblnab
