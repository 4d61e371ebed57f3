/- SwapHolds: for any number: a slot is free once it was freed as often as it was held, and put once; its page stays till then. -/
import Derived.Test.YtibhebfkgjklpaaSD
import Derived.Test.YtibhebfkgjklpaaBits
namespace Go.Proofs.Ytibhebfkgjklpaa.lawHolds
open Go.ChangeShapes Go.WideShapes Go.ChangeAt Go.RowKit
set_option linter.unusedVariables false

/-- The area of the law: slot 0 is held c times, and has its page. -/
structure St (w cur : World) (p g q h : Nat) (c : Int) (X : Swp) : Prop where
  sw : Sw w cur p g q h X
  fit : Fit X
  first : X.first = 0
  H : X.H = [c, 0]
  S : X.D.S[0]? = some (pageS 9)
section
variable {w v nxt : World} {p g q h : Nat} {X : Swp} {c : Int}
theorem St.on (s : St w v p g q h c X) (hb : Below v.heap.size v nxt) : St w nxt p g q h c X := ⟨s.sw.on hb, s.fit, s.first, s.H, s.S⟩

theorem st_put (s : Sw w v p g q h (newX (newD 4) 0 2)) : Calls Try.prog 14 #[.pointer (some ⟨q, 0, none⟩), .string (pageS 9)] v fun e v' => e = .returned (.tuple #[.int .i64 0, .int .i64 0]) ∧ ∃ Y, St w v' p g q h 1 Y :=
  (put_to s.ar (newX_fit (n := 4) (first := 0) (k := 2) (by omega)) rfl rfl rfl (k := 0) rfl (by simp [newX]) (pageS_size 9)).mono fun e v' ⟨Y, he, hb, ha, hf, h1, h2, h3⟩ =>
    ⟨he, Y, s.but hb ha, hf, h1, h2, by rw [h3]; rfl⟩
theorem ask0 (hc : 0 < c) : askE [c, 0] 0 = 0 := by unfold askE; simp; omega
theorem st_hold (s : St w v p g q h c X) (hc : 0 < c) (h2 : c ≤ 20) : Calls Try.prog 18 #[.pointer (some ⟨q, 0, none⟩), .int .i64 0] v fun e v' => e = .returned (.int .i64 0) ∧ ∃ Y, St w v' p g q h (c + 1) Y :=
  (hold_any s.sw.ar 0).mono fun e v' ⟨he, hb, ha⟩ => by
    have h0 : askE X.H 0 = 0 := by rw [s.H]; exact ask0 hc
    obtain ⟨f1, f2, f3⟩ := s.fit.add 0 1
    refine ⟨by rw [he, h0], _, s.sw.buth hb ha, f1, by rw [f2, s.first], ?_, by rw [f3, s.S]⟩
    rw [addX_H, addH, if_pos h0, s.H, show wrap64 (([c, 0] : List Int).getD (0 : Int).toNat 0 + 1) = c + 1 from IntWalk.wrap64_in _ (by show -9223372036854775808 ≤ c + 1 ∧ c + 1 ≤ 9223372036854775807; omega)]
    rfl
theorem st_free (s : St w v p g q h c X) (hc : 0 < c) (h2 : c ≤ 20) : Calls Try.prog 20 #[.pointer (some ⟨q, 0, none⟩), .int .i64 0] v fun e v' => e = .returned (.int .i64 0) ∧ ∃ Y, St w v' p g q h (c - 1) Y :=
  (free_any s.sw.ar 0).mono fun e v' ⟨he, hb, ha⟩ => by
    have h0 : askE X.H 0 = 0 := by rw [s.H]; exact ask0 hc
    obtain ⟨f1, f2, f3⟩ := s.fit.add 0 (-1)
    refine ⟨by rw [he, h0], _, s.sw.buth hb ha, f1, by rw [f2, s.first], ?_, by rw [f3, s.S]⟩
    rw [addX_H, addH, if_pos h0, s.H, show wrap64 (([c, 0] : List Int).getD (0 : Int).toNat 0 + -1) = c - 1 from IntWalk.wrap64_in _ (by show -9223372036854775808 ≤ c + -1 ∧ c + -1 ≤ 9223372036854775807; omega)]
    rfl
theorem st_held (s : St w v p g q h c X) : Calls Try.prog 23 #[.pointer (some ⟨q, 0, none⟩), .int .i64 0] v fun e v' => e = .returned (.int .i64 c) ∧ v = v' := by
  have h1 := held_any s.sw.ar 0
  rw [s.H] at h1
  exact h1
theorem st_used (s : St w v p g q h c X) (u : Int) (hu : u = if 0 < c then 1 else 0) : Calls Try.prog 21 #[.pointer (some ⟨q, 0, none⟩)] v fun e v' => e = .returned (.int .i64 u) ∧ v = v' := by
  have h1 := sused_any s.sw.ar
  have h2 : (usedN [c, 0] : Int) = u := by
    subst hu
    unfold usedN
    by_cases hc : 0 < c
    · simp [hc]
    · simp [hc]
  rw [s.H, h2] at h1
  exact h1
theorem st_get (s : St w v p g q h c X) (hc : 0 < c) : Calls Try.prog 16 #[.pointer (some ⟨q, 0, none⟩), .int .i64 0] v fun e v' => e = .returned (.tuple #[.string (pageS 9), .int .i64 0]) ∧ ∃ Y, St w v' p g q h c Y :=
  (get_any s.sw.ar 0).mono fun e v' ⟨he, hb, ha⟩ => by
    have h0 : askE X.H 0 = 0 := by rw [s.H]; exact ask0 hc
    obtain ⟨f1, f2, f3, f4⟩ := s.fit.gt 0
    have hl : 0 < X.H.length := by rw [s.H]; simp
    have e1 : X.gtS 0 = pageS 9 := by
      unfold Swp.gtS
      rw [if_pos h0]
      unfold Dsk.rdS
      have hh := s.fit.has hl
      rw [Int.natCast_zero] at hh
      rw [if_pos hh, s.first]
      simp [List.getD, s.S]
    exact ⟨by rw [he, s.fit.gtE, h0, e1], _, s.sw.but1 hb ha, f1, by rw [f2, s.first], by rw [f3, s.H], by rw [f4, s.S]⟩
theorem st_none (s : St w v p g q h 0 X) : Calls Try.prog 16 #[.pointer (some ⟨q, 0, none⟩), .int .i64 0] v fun e v' => e = .returned (.tuple #[.string ⟨#[]⟩, .int .i64 13]) ∧ ∃ Y, St w v' p g q h 0 Y :=
  (get_any s.sw.ar 0).mono fun e v' ⟨he, hb, ha⟩ => by
    have h0 : askE X.H 0 = 13 := by rw [s.H]; rfl
    obtain ⟨f1, f2, f3, f4⟩ := s.fit.gt 0
    have e1 : X.gtS 0 = ⟨#[]⟩ := by unfold Swp.gtS; rw [if_neg (by rw [h0]; decide)]
    exact ⟨by rw [he, s.fit.gtE, h0, e1], _, s.sw.but1 hb ha, f1, by rw [f2, s.first], by rw [f3, s.H], by rw [f4, s.S]⟩
end

set_option maxHeartbeats 3200000 in
theorem walk (n : Int) (w : World) (wn : (Lit.int .i64 n).wf = true) :
    Calls Try.prog 7 #[.int .i64 n] w fun e w' => e = .returned (.bool true) ∧ Below w.heap.size w w' := by
  obtain ⟨K, hK, hK16⟩ : ∃ K : Nat, bits .and .i64 n 15 = K ∧ K < 16 := by
    have e : bits .and .i64 n 15 = n % (2 : Int) ^ 4 := i64_and_mask n 4 15 (by omega) (by decide)
    have h1 : 0 ≤ n % (2 : Int) ^ 4 := Int.emod_nonneg _ (by decide)
    have h2 : n % (2 : Int) ^ 4 < (2 : Int) ^ 4 := Int.emod_lt_of_pos _ (by decide)
    refine ⟨(n % (2 : Int) ^ 4).toNat, by rw [e]; omega, ?_⟩
    have h3 : (2 : Int) ^ 4 = 16 := by decide
    omega
  have HA := Lib.hid (fun w => awake5_any w)
  have HN := Lib.hid (fun w => new_made 4 w (by omega) (by omega))
  have HS := Lib.hid (fun (w : World) p g (d : Dk w p g (newD 4)) => snew_made d 0 2 ⟨by omega, by omega, by omega, by simp [newD]⟩)
  have HP := Lib.hid (fun w => page_any 9 w)
  have hB := Below.refl w.heap.size w
  go_enter Try.func7, Try.ntmps7
  go_wp2_with (first
    | (go_at_call 9; refine (HA.out _).mono ?_; rintro e v0 ⟨rfl, hb⟩; replace hB := hB.trans (hb.mono hB.size); clear hb)
    | (go_at_call 11; refine (HN.out _).mono ?_; rintro e v1 ⟨p, g, rfl, hp, hg, hb, hd⟩)
    | (go_at_call 10; refine (HS.out _ _ _ hd).mono ?_; rintro e v2 ⟨q, h, rfl, hq, hh, hb2, ha⟩
       have hS : Sw w v2 p g q h (newX (newD 4) 0 2) := by
         have s1 := hB.size
         have s2 := hb.size
         exact ⟨Nat.le_trans s1 hp, Nat.le_trans s1 hg, by omega, by omega, (hB.trans (hb.mono s1)).trans (hb2.mono (by omega)), ha⟩
       clear hp hg hb hd hq hh hb2 ha hB)
    | (go_at_call 13; refine (HP.out _).mono ?_; rintro e v3 ⟨rfl, hb3⟩; replace hS := hS.on hb3; clear hb3)
    | (go_at_call 14; refine (st_put hS).mono ?_; rintro e v4 ⟨rfl, Y, hT⟩; clear hS))
  have HT := Lib.hid hT
  clear hT
  go_loopw [9] (fun i wr => ∃ (k : Nat) (X : Swp), k ≤ K ∧ i = .int .i64 k ∧ St w wr p g q h (k + 1) X) (fun i _ => K - (intOf i).toNat)
  case atStart => exact ⟨0, Y, Nat.zero_le _, rfl, HT.out⟩
  case round =>
    clear HT
    obtain ⟨k, X, hk, rfl, hT⟩ := hrel
    by_cases hlt : k < K
    · go_wp2_with (first
        | (go_at_call 18; refine (st_hold hT (by omega) (by omega)).mono ?_; rintro e v5 ⟨rfl, Z, hT5⟩; clear hT)
        | (go_at_call 23; refine (st_held hT5).mono ?_; rintro e v6 ⟨rfl, rfl⟩))
      go_roundw
      case rel => exact ⟨k + 1, Z, by omega, by go_num, by simpa using hT5⟩
      case measure => simp [intOf]; omega
    · obtain rfl : k = K := by omega
      have HT := Lib.hid hT
      clear hT
      go_wp2_with fail
      go_loopw [10, 11, 12] (fun i _ _ wr => ∃ (j : Nat) (X : Swp), j ≤ k + 1 ∧ i = .int .i64 j ∧ St w wr p g q h (k + 1 - j) X) (fun i _ _ _ => k + 1 - (intOf i).toNat)
      case atStart => exact ⟨0, X, Nat.zero_le _, rfl, by simpa using HT.out⟩
      case round =>
        clear HT
        obtain ⟨j, Z, hj, rfl, hT⟩ := hrel
        by_cases hlt2 : j ≤ k
        · go_wp2_with (first
            | (go_at_call 16; refine (st_get hT (by omega)).mono ?_; rintro e v5 ⟨rfl, Z1, hT1⟩; clear hT)
            | (go_at_call 13; refine (HP.out _).mono ?_; rintro e v6 ⟨rfl, hb3⟩; replace hT1 := hT1.on hb3; clear hb3)
            | (go_at_call 21; refine (st_used hT1 1 (by rw [if_pos (by omega)])).mono ?_; rintro e v6 ⟨rfl, rfl⟩)
            | (go_at_call 20; refine (st_free hT1 (by omega) (by omega)).mono ?_; rintro e v7 ⟨rfl, Z2, hT2⟩; clear hT1))
          go_roundw
          case rel => exact ⟨j + 1, Z2, by omega, by go_num, by rw [show (k : Int) + 1 - (j + 1 : Nat) = k + 1 - j - 1 by omega]; exact hT2⟩
          case measure => simp [intOf]; omega
        · obtain rfl : j = k + 1 := by omega
          have e : (k : Int) + 1 - ((k + 1 : Nat) : Int) = 0 := by omega
          rw [e] at hT
          go_wp2_with (first
            | (go_at_call 16; refine (st_none hT).mono ?_; rintro e v5 ⟨rfl, Z1, hT1⟩; clear hT)
            | (go_at_call 21; refine (st_used hT1 0 rfl).mono ?_; rintro e v6 ⟨rfl, rfl⟩)
            | (go_at_call 23; refine (st_held hT1).mono ?_; rintro e v6 ⟨rfl, rfl⟩))
          go_ret
          exact ⟨rfl, hT1.sw.bel⟩

set_option maxRecDepth 100000 in
theorem lifted (os : Os) (started : os.Started) (H : Type) (enc : TypeId × Value → H) :
    ReturnsInHanded {} Try.checked os 7 .any (Rows.swapHoldsSpec.pre6 enc Try.prog Try.f7 Rows.swapHoldsRow.domain false) (Rows.swapHoldsSpec.post enc Try.prog Try.f7 false true false false) := by
  refine returnsInHanded_of_change (C := Try.checked) own started (by kernel_rfl) Try.func7
    (ChangeSpec.witness6 (enc := enc) (C := Try.checked) false ⟨#[], #[.int .i64 0], []⟩ 8 (by kernel_rfl) (by kernel_rfl) (by kernel_rfl) (by kernel_rfl)) ?_
  intro W base args ds gs before hval0 hW hcnd _
  have hval : ∀ (j : Nat) t v, Try.f7.params[j]? = some t → args[j]? = some v → Value.okWide Try.prog W .any base t v := hval0
  have hW' := hW
  obtain ⟨p, q, hA0, hV, rfl, hfz, hnd⟩ := hW
  have hA : DataW.TrodAll enc Try.prog W 0 (fun _ => true) true Try.f7.params.toList args.toList ds p := hA0
  rw [Try.params7] at hA hval
  obtain ⟨v0, vs0, d0, ds0, p0, q0, hargs, rfl, rfl, h0, r0⟩ := trodAll_cons hA
  obtain ⟨rfl, rfl, rfl⟩ := trodAll_nil r0
  obtain rfl : args = #[v0] := by cases args; simp_all
  obtain ⟨rfl, rfl⟩ := trodVars_none hV
  have k0 := h0
  have lt0 : ∀ x ∈ p0, x.block < W.heap.size := by obtain ⟨m, hm⟩ := k0; exact DataW.trod_lt m _ _ _ hm
  obtain ⟨a0, rfl, _, _, w0⟩ := open_int Try.underlying3 (hval 0 3 v0 rfl rfl) h0
  clear hA0 hval0
  refine (walk a0 W w0).mono fun e W' ⟨he, bel⟩ => ?_
  subst he
  exact ⟨_, rfl, _, _, _, [], _, [], hW', trodAll_mk1 (shut_bool Try.underlying4 _), (trodAll_cons_mk (Below.trod laidOut (by kernel_rfl) (of_decide_eq_true (by kernel_rfl)) k0 bel lt0) trodAll_mk0), rfl, bel.frame _, fun h => by cases h⟩
theorem over : Rows.swapHoldsRow.holds Try.pinned (OpenSpec.ofChange Rows.swapHoldsSpec) :=
  OpenClaim.holds_of_wide 7 Try.f7 rfl rfl rfl rfl rfl rfl rfl ⟨rfl, rfl, rfl, rfl, rfl⟩ rfl rfl rfl rfl rfl (by kernel_rfl) Try.func7 (by kernel_rfl)
    (of_decide_eq_true (by kernel_rfl)) (by unfold Func.isWrapper; first | (rw [if_pos (by decide +kernel)]; kernel_rfl) | (rw [if_neg (by decide +kernel)]; exact ⟨rfl, rfl⟩))
    (fun os started H enc _ => lifted os started H enc)
/-- The statement. -/
theorem proved : Rows.SwapHoldsSaid := over
end Go.Proofs.Ytibhebfkgjklpaa.lawHolds
