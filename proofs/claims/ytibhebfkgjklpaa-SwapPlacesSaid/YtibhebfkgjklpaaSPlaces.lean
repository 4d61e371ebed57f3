/- SwapPlaces: for any two numbers: slots are the disk's sectors from the first one on; the others are left alone. -/
import Derived.Test.YtibhebfkgjklpaaSD
import Derived.Test.YtibhebfkgjklpaaBits
namespace Go.Proofs.Ytibhebfkgjklpaa.lawPlaces
open Go.ChangeShapes Go.WideShapes Go.ChangeAt Go.RowKit
set_option linter.unusedVariables false

/-- Sector j, behind i Puts. -/
def secAt (f i j : Nat) : ByteArray := if f ≤ j ∧ j < f + i then pageS (100 + (j : Int) - f) else zsec
def placeS (f i : Nat) : List ByteArray := (List.range 16).map (secAt f i)
theorem placeS_len (f i : Nat) : (placeS f i).length = 16 := by simp [placeS]
theorem placeS_at (f i : Nat) {j : Nat} (h : j < 16) : (placeS f i)[j]? = some (secAt f i j) := by simp [placeS, h]
theorem placeS_zero (f : Nat) : placeS f 0 = List.replicate 16 zsec := by
  apply List.ext_getElem?
  intro j
  by_cases h : j < 16
  · rw [placeS_at f 0 h, List.getElem?_replicate, if_pos h]
    unfold secAt
    rw [if_neg (by omega)]
  · rw [List.getElem?_eq_none (by rw [placeS_len]; omega), List.getElem?_eq_none (by simp; omega)]
theorem placeS_set (f i : Nat) (h : f + i < 16) : (placeS f i).set (f + i) (pageS (100 + (i : Int))) = placeS f (i + 1) := by
  apply List.ext_getElem?
  intro j
  by_cases hj : j < 16
  · rw [placeS_at f _ hj, List.getElem?_set]
    by_cases e : f + i = j
    · rw [if_pos e, if_pos (by rw [placeS_len]; omega)]
      unfold secAt
      rw [if_pos (by omega)]
      congr 2
      omega
    · rw [if_neg e, placeS_at f _ hj]
      unfold secAt
      by_cases h1 : f ≤ j ∧ j < f + i
      · rw [if_pos h1, if_pos (by omega)]
      · rw [if_neg h1, if_neg (by omega)]
  · rw [List.getElem?_eq_none (by rw [List.length_set, placeS_len]; omega), List.getElem?_eq_none (by rw [placeS_len]; omega)]
def heldH (n i : Nat) : List Int := List.replicate i 1 ++ List.replicate (n - i) 0
theorem heldH_len {n i : Nat} (h : i ≤ n) : (heldH n i).length = n := by simp [heldH]; omega
theorem heldH_free : ∀ {n i : Nat}, i ≤ n → freeAt (heldH n i) = i
  | 0, 0, _ => rfl
  | n + 1, 0, _ => by simp [heldH, List.replicate_succ, freeAt]
  | n + 1, i + 1, h => by
    have := heldH_free (n := n) (i := i) (by omega)
    unfold heldH at *
    rw [List.replicate_succ, List.cons_append, freeAt, if_neg (by decide), show n + 1 - (i + 1) = n - i by omega, this]
theorem heldH_set : ∀ {n i : Nat}, i < n → (heldH n i).set i 1 = heldH n (i + 1)
  | n + 1, 0, _ => by simp [heldH, List.replicate_succ]
  | n + 1, i + 1, h => by
    have := heldH_set (n := n) (i := i) (by omega)
    unfold heldH at *
    rw [List.replicate_succ, List.cons_append, List.set_cons_succ, show n + 1 - (i + 1) = n - i by omega, this, List.replicate_succ (n := i + 1), List.cons_append, show n + 1 - (i + 1 + 1) = n - (i + 1) by omega]
theorem heldH_used (n : Nat) : usedN (heldH n n) = n := by simp [usedN, heldH, List.countP_replicate]
theorem empty_fill : fillS ⟨#[]⟩ 64 = zsec := by
  unfold fillS zsec fillL
  rw [if_neg (by decide)]
  simp

/-- The area behind i Puts. -/
structure St (w cur : World) (p g q h : Nat) (f n i : Nat) (X : Swp) : Prop where
  sw : Sw w cur p g q h X
  fit : Fit X
  first : X.first = f
  H : X.H = heldH n i
  S : X.D.S = placeS f i
section
variable {w v nxt : World} {p g q h f n i : Nat} {X : Swp}
theorem St.on (s : St w v p g q h f n i X) (hb : Below v.heap.size v nxt) : St w nxt p g q h f n i X := ⟨s.sw.on hb, s.fit, s.first, s.H, s.S⟩
theorem st_new (s : Sw w v p g q h (newX (newD 16) f n)) (h1 : f + n ≤ 16) : St w v p g q h f n 0 (newX (newD 16) f n) := ⟨s, newX_fit h1, rfl, by simp [newX, heldH], by rw [placeS_zero]; rfl⟩
theorem st_put (s : St w v p g q h f n i X) (hi : i < n) (h1 : f + n ≤ 16) (z : Int) (hz : z = 100 + (i : Int)) : Calls Try.prog 14 #[.pointer (some ⟨q, 0, none⟩), .string (pageS z)] v fun e v' => e = .returned (.tuple #[.int .i64 i, .int .i64 0]) ∧ ∃ Y, St w v' p g q h f n (i + 1) Y :=
  (put_to s.sw.ar s.fit s.first s.S s.H (heldH_free (by omega)) (by rw [heldH_len (by omega)]; exact hi) (pageS_size z)).mono fun e v' ⟨Y, he, hb, ha, hf, h1, h2, h3⟩ =>
    ⟨he, Y, s.sw.but hb ha, hf, h1, by rw [h2, heldH_set hi], by rw [h3, hz, show ((f : Int) + (i : Int)).toNat = f + i by omega, placeS_set f i (by omega)]⟩
theorem st_full (s : St w v p g q h f n n X) : Calls Try.prog 14 #[.pointer (some ⟨q, 0, none⟩), .string (pageS 1)] v fun e v' => e = .returned (.tuple #[.int .i64 0, .int .i64 15]) ∧ St w v' p g q h f n n X :=
  (put_full s.sw.ar s.fit (by rw [s.H, heldH_free (Nat.le_refl _), heldH_len (Nat.le_refl _)]) (pageS_size 1)).mono fun e v' ⟨he, hb, ha⟩ => ⟨he, s.sw.but hb ha, s.fit, s.first, s.H, s.S⟩
theorem st_read (s : St w v p g q h f n i X) (j : Nat) (hj : j < 16) : Calls Try.prog 27 #[.pointer (some ⟨p, 0, none⟩), .int .i64 j] v fun e v' => e = .returned (.tuple #[.string (secAt f i j), .int .i64 0]) ∧ ∃ Y, St w v' p g q h f n i Y :=
  (read_any s.sw.ar.dk j).mono fun e v' ⟨he, hb, hd⟩ => by
    have hh : X.D.has j = true := has_of (by omega) (by rw [s.S, placeS_len]; omega)
    have e1 : X.D.rdS j = secAt f i j := by
      unfold Dsk.rdS
      rw [if_pos hh, s.S]
      simp [List.getD, placeS_at f i hj]
    have e2 : X.D.rdE j = 0 := by unfold Dsk.rdE; rw [if_pos hh]
    rw [e1, e2] at he
    exact ⟨he, _, s.sw.but1 hb (s.sw.ar.dk_set (hb.mono fun _ e => .inl e) hd (by rw [rdD_S])), ⟨s.fit.f0, by simpa [rdD_S] using s.fit.f1, by simpa [rdD_low] using s.fit.low⟩, s.first, s.H, by rw [← s.S]; exact rdD_S _ _⟩
theorem st_used (s : St w v p g q h f n n X) : Calls Try.prog 21 #[.pointer (some ⟨q, 0, none⟩)] v fun e v' => e = .returned (.int .i64 n) ∧ v = v' := by
  have h1 := sused_any s.sw.ar
  rw [s.H, heldH_used] at h1
  exact h1
theorem st_slots (s : St w v p g q h f n n X) : Calls Try.prog 24 #[.pointer (some ⟨q, 0, none⟩)] v fun e v' => e = .returned (.int .i64 n) ∧ v = v' := by
  have h1 := slots_any s.sw.ar
  rw [s.H, heldH_len (Nat.le_refl _)] at h1
  exact h1
end
theorem and7 (x : Int) : ∃ f : Nat, bits .and .i64 x 7 = f ∧ f < 8 := ⟨(x % 8).toNat, by rw [i64_and3]; omega, by omega⟩

set_option maxHeartbeats 3200000 in
theorem walk (a b : Int) (w : World) (wa : (Lit.int .i64 a).wf = true) (wb : (Lit.int .i64 b).wf = true) :
    Calls Try.prog 8 #[.int .i64 a, .int .i64 b] w fun e w' => e = .returned (.bool true) ∧ Below w.heap.size w w' := by
  obtain ⟨f, hf, hf8⟩ := and7 a
  obtain ⟨n, hn, hn8⟩ := and7 b
  have HA := Lib.hid (fun w => awake5_any w)
  have HN := Lib.hid (fun w => new_made 16 w (by omega) (by omega))
  have HS := Lib.hid (fun (w : World) p g (d : Dk w p g (newD 16)) => snew_made d f n ⟨by omega, by omega, by omega, by simp [newD]; omega⟩)
  have HP := Lib.hid (fun n w => page_any n w)
  have hR := fun w => rfill_any ⟨#[]⟩ 64 w (by decide) (by decide) (by omega)
  rw [empty_fill] at hR
  have HR := Lib.hid hR
  clear hR
  have hB := Below.refl w.heap.size w
  go_enter Try.func8, Try.ntmps8
  go_wp2_with (first
    | (go_at_call 9; refine (HA.out _).mono ?_; rintro e v0 ⟨rfl, hb⟩; replace hB := hB.trans (hb.mono hB.size); clear hb)
    | (go_at_call 11; refine (HN.out _).mono ?_; rintro e v1 ⟨p, g, rfl, hp, hg, hb, hd⟩)
    | (go_at_call 10; refine (HS.out _ _ _ hd).mono ?_; rintro e v2 ⟨q, h, rfl, hq, hh, hb2, ha⟩
       have hS : Sw w v2 p g q h (newX (newD 16) f n) := by
         have s1 := hB.size
         have s2 := hb.size
         exact ⟨Nat.le_trans s1 hp, Nat.le_trans s1 hg, by omega, by omega, (hB.trans (hb.mono s1)).trans (hb2.mono (by omega)), ha⟩
       clear hp hg hb hd hq hh hb2 ha hB))
  have HT := Lib.hid (st_new hS (by omega))
  clear hS
  go_loopw [11, 12, 13] (fun i _ _ wr => ∃ (k : Nat) (X : Swp), k ≤ n ∧ i = .int .i64 k ∧ St w wr p g q h f n k X) (fun i _ _ _ => n - (intOf i).toNat)
  case atStart => exact ⟨0, _, Nat.zero_le _, rfl, HT.out⟩
  case round =>
    clear HT
    obtain ⟨k, X, hk, rfl, hT⟩ := hrel
    by_cases hlt : k < n
    · go_wp2_with (first
        | (go_at_call 13; refine (HP.out _ _).mono ?_; rintro e v3 ⟨rfl, hb3⟩; replace hT := hT.on hb3; clear hb3)
        | (go_at_call 14; refine (st_put hT hlt (by omega) _ rfl).mono ?_; rintro e v4 ⟨rfl, Y, hT4⟩; clear hT))
      go_roundw
      case rel => exact ⟨k + 1, Y, by omega, by go_num, hT4⟩
      case measure => simp [intOf]; omega
    · obtain rfl : k = n := by omega
      go_wp2_with (first
        | (go_at_call 13; refine (HP.out _ _).mono ?_; rintro e v3 ⟨rfl, hb3⟩; replace hT := hT.on hb3; clear hb3)
        | (go_at_call 14; refine (st_full hT).mono ?_; rintro e v4 ⟨rfl, hT4⟩; clear hT))
      have HT := Lib.hid hT4
      clear hT4
      go_loopw [16, 17, 18, 19] (fun i _ _ _ wr => ∃ (j : Nat) (X : Swp), j ≤ 16 ∧ i = .int .i64 j ∧ St w wr p g q h f k k X) (fun i _ _ _ _ => 16 - (intOf i).toNat)
      case atStart => exact ⟨0, X, by omega, rfl, HT.out⟩
      case round =>
        clear HT
        obtain ⟨j, Z, hj, rfl, hT⟩ := hrel
        by_cases hlt2 : j < 16
        · by_cases hin : f ≤ j ∧ j < f + k
          · have es : secAt f k j = pageS (100 + (j : Int) - f) := by unfold secAt; rw [if_pos hin]
            obtain ⟨hin1, hin2⟩ := hin
            have hrd := fun v X (s : St w v p g q h f k k X) => st_read s j hlt2
            rw [es] at hrd
            have HRD := Lib.hid hrd
            clear hrd es
            go_wp2_with (first
              | (go_at_call 27; refine (HRD.out _ _ hT).mono ?_; rintro e v5 ⟨rfl, Z1, hT1⟩; clear hT)
              | (go_at_call 28; refine (HR.out _).mono ?_; rintro e v6 ⟨rfl, hb6⟩; replace hT1 := hT1.on hb6; clear hb6)
              | (go_at_call 13; refine (HP.out _ _).mono ?_; rintro e v6 ⟨rfl, hb6⟩; replace hT1 := hT1.on hb6; clear hb6))
            go_roundw
            case rel => exact ⟨j + 1, Z1, by omega, by go_num, hT1⟩
            case measure => simp [intOf]; omega
          · have es : secAt f k j = zsec := by unfold secAt; rw [if_neg hin]
            have hrd := fun v X (s : St w v p g q h f k k X) => st_read s j hlt2
            rw [es] at hrd
            have HRD := Lib.hid hrd
            clear hrd es
            have hor : j < f ∨ (f ≤ j ∧ f + k ≤ j) := by omega
            clear hin
            rcases hor with h1 | ⟨h1, h2⟩
            all_goals
              go_wp2_with (first
                | (go_at_call 27; refine (HRD.out _ _ hT).mono ?_; rintro e v5 ⟨rfl, Z1, hT1⟩; clear hT)
                | (go_at_call 28; refine (HR.out _).mono ?_; rintro e v6 ⟨rfl, hb6⟩; replace hT1 := hT1.on hb6; clear hb6))
              go_roundw
              case rel => exact ⟨j + 1, Z1, by omega, by go_num, hT1⟩
              case measure => simp [intOf]; omega
        · obtain rfl : j = 16 := by omega
          go_wp2_with (first
            | (go_at_call 21; refine (st_used hT).mono ?_; rintro e v6 ⟨rfl, rfl⟩)
            | (go_at_call 24; refine (st_slots hT).mono ?_; rintro e v6 ⟨rfl, rfl⟩))
          go_ret
          exact ⟨rfl, hT.sw.bel⟩

set_option maxRecDepth 100000 in
theorem lifted (os : Os) (started : os.Started) (H : Type) (enc : TypeId × Value → H) :
    ReturnsInHanded {} Try.checked os 8 .any (Rows.swapPlacesSpec.pre6 enc Try.prog Try.f8 Rows.swapPlacesRow.domain false) (Rows.swapPlacesSpec.post enc Try.prog Try.f8 false true false false) := by
  refine returnsInHanded_of_change (C := Try.checked) own started (by kernel_rfl) Try.func8
    (ChangeSpec.witness6 (enc := enc) (C := Try.checked) false ⟨#[], #[.int .i64 0, .int .i64 0], []⟩ 8 (by kernel_rfl) (by kernel_rfl) (by kernel_rfl) (by kernel_rfl)) ?_
  intro W base args ds gs before hval0 hW hcnd _
  have hval : ∀ (j : Nat) t v, Try.f8.params[j]? = some t → args[j]? = some v → Value.okWide Try.prog W .any base t v := hval0
  have hW' := hW
  obtain ⟨p, q, hA0, hV, rfl, hfz, hnd⟩ := hW
  have hA : DataW.TrodAll enc Try.prog W 0 (fun _ => true) true Try.f8.params.toList args.toList ds p := hA0
  rw [Try.params8] at hA hval
  obtain ⟨v0, vs0, d0, ds0, p0, q0, hargs, rfl, rfl, h0, r0⟩ := trodAll_cons hA
  obtain ⟨v1, vs1, d1, ds1, p1, q1, rfl, rfl, rfl, h1, r1⟩ := trodAll_cons r0
  obtain ⟨rfl, rfl, rfl⟩ := trodAll_nil r1
  obtain rfl : args = #[v0, v1] := by cases args; simp_all
  obtain ⟨rfl, rfl⟩ := trodVars_none hV
  have k0 := h0
  have lt0 : ∀ x ∈ p0, x.block < W.heap.size := by obtain ⟨m, hm⟩ := k0; exact DataW.trod_lt m _ _ _ hm
  obtain ⟨a0, rfl, _, _, w0⟩ := open_int Try.underlying3 (hval 0 3 v0 rfl rfl) h0
  have k1 := h1
  have lt1 : ∀ x ∈ p1, x.block < W.heap.size := by obtain ⟨m, hm⟩ := k1; exact DataW.trod_lt m _ _ _ hm
  obtain ⟨a1, rfl, _, _, w1⟩ := open_int Try.underlying3 (hval 1 3 v1 rfl rfl) h1
  clear hA0 hval0
  refine (walk a0 a1 W w0 w1).mono fun e W' ⟨he, bel⟩ => ?_
  subst he
  exact ⟨_, rfl, _, _, _, [], _, [], hW', trodAll_mk1 (shut_bool Try.underlying4 _), (trodAll_cons_mk (Below.trod laidOut (by kernel_rfl) (of_decide_eq_true (by kernel_rfl)) k0 bel lt0) (trodAll_cons_mk (Below.trod laidOut (by kernel_rfl) (of_decide_eq_true (by kernel_rfl)) k1 bel lt1) trodAll_mk0)), rfl, bel.frame _, fun h => by cases h⟩
theorem over : Rows.swapPlacesRow.holds Try.pinned (OpenSpec.ofChange Rows.swapPlacesSpec) :=
  OpenClaim.holds_of_wide 8 Try.f8 rfl rfl rfl rfl rfl rfl rfl ⟨rfl, rfl, rfl, rfl, rfl⟩ rfl rfl rfl rfl rfl (by kernel_rfl) Try.func8 (by kernel_rfl)
    (of_decide_eq_true (by kernel_rfl)) (by unfold Func.isWrapper; first | (rw [if_pos (by decide +kernel)]; kernel_rfl) | (rw [if_neg (by decide +kernel)]; exact ⟨rfl, rfl⟩))
    (fun os started H enc _ => lifted os started H enc)
/-- The statement. -/
theorem proved : Rows.SwapPlacesSaid := over
end Go.Proofs.Ytibhebfkgjklpaa.lawPlaces
