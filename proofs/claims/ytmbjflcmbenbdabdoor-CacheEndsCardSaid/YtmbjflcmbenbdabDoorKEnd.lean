/- CacheEnds: once nobody holds a page, all go, one by one, and all frames are free. -/
import Derived.Test.YtmbjflcmbenbdabDoorKQ
import Derived.Test.YtmbjflcmbenbdabDoorFOs
import Derived.Test.YtmbjflcmbenbdabDoorTie
import Derived.Test.YtmbjflcmbenbdabDoorCards
import Derived.LaidMore
import Derived.Lay
import Derived.SevenTiedAt
import Derived.Stop.Joined
namespace Go.Proofs.YtmbjflcmbenbdabDoor.lawEnd14
open Go.ChangeShapes Go.WideShapes Go.ChangeAt Go.RowKit
set_option linter.unusedVariables false
set_option linter.unusedSimpArgs false

/-- So many were wanted and dropped. -/
def Filled (w : World) (a : Ad) (i : Nat) (W : World) : Prop := ∃ C, Idle w a 20 (fun _ => False) C W ∧ C.fills = C.R.length ∧ C.R.length ≤ i ∧ C.hits ≤ i
/-- One is wanted. -/
def Held1 (w : World) (a : Ad) (i fr : Nat) (W : World) : Prop := ∃ C, One w a 20 (fun _ => False) C fr W ∧ C.fills = C.R.length ∧ C.R.length ≤ i ∧ C.hits ≤ i
/-- So many are left. -/
def LeftN (w : World) (a : Ad) (m : Nat) (W : World) : Prop := ∃ C, Idle w a 20 (fun _ => False) C W ∧ C.R.length = m
section
variable {w W : World} {a : Ad} {i m : Nat}
theorem get (s : Filled w a i W) (hi : i < 20) (hm : m < 5) : Calls Tryd.prog 6 #[.pointer (some ⟨a.pc, 0, none⟩), .agg #[.int .i64 2, .int .i64 (m : Int)]] W fun e W' => ∃ fr : Nat, e = .returned (.tuple #[.int .i64 (fr : Int), .int .i64 0]) ∧ Held1 w a (i + 1) fr W' := by
  obtain ⟨C, S, hF, hR, hH⟩ := s
  cases hx : pgF C.R 2 m with
  | some x =>
    obtain ⟨_, e1, e2⟩ := pgF_some hx
    have hx' : pgF C.R x.f x.q = some x := by rw [e1, e2]; exact hx
    have h := idle_hit S hx' (by rw [e1, e2, pg3]; simp; omega) (by omega)
    rw [e1, e2] at h
    exact h.mono fun e W' ⟨he, hn, _⟩ => ⟨x.fr, he, _, hn, by simp [Cc.hit, wantL, hF], by simp [Cc.hit, wantL]; omega, by simp [Cc.hit]; omega⟩
  | none =>
    have h := idle_fill S 2 (by decide) m (by rw [pg3]; simp; omega) hx (by omega) (by omega)
    exact h.mono fun e W' ⟨he, hn, _⟩ => ⟨_, he, _, hn, by simp [Cc.fill, hF], by simp [Cc.fill]; omega, by simp [Cc.fill]; omega⟩
theorem drop {fr : Nat} (s : Held1 w a i fr W) : Calls Tryd.prog 7 #[.pointer (some ⟨a.pp, 0, none⟩), .int .i64 (fr : Int)] W fun e W' => e = .returned (.int .i64 0) ∧ Filled w a i W' := by
  obtain ⟨C, S, hF, hR, hH⟩ := s
  exact (one_drop S).mono fun e W' ⟨he, ⟨X, hn⟩, _⟩ => ⟨he, _, hn, hF, hR, hH⟩
theorem told (s : Filled w a i W) (hi : i ≤ 20) : ∃ n : Nat, n ≤ 20 ∧ LeftN w a n W ∧
    Calls Tryd.prog 8 #[.pointer (some ⟨a.pc, 0, none⟩)] W (fun e W' => e = .returned (.int .i64 (n : Int)) ∧ W = W') ∧
    Calls Tryd.prog 9 #[.pointer (some ⟨a.pp, 0, none⟩)] W (fun e W' => e = .returned (.int .i64 (20 - (n : Int))) ∧ W = W') ∧
    Calls Tryd.prog 10 #[.pointer (some ⟨a.pc, 0, none⟩)] W (fun e W' => e = .returned (.int .i64 (n : Int)) ∧ W = W') := by
  obtain ⟨C, S, hF, hR, hH⟩ := s
  obtain ⟨o, L, ho⟩ := S
  have hf := ls_free L
  have hl := ls_fills L
  rw [hF] at hl
  rw [show ((20 - C.R.length : Nat) : Int) = 20 - (C.R.length : Int) by omega] at hf
  exact ⟨C.R.length, by omega, ⟨C, ⟨o, L, ho⟩, rfl⟩, ls_len L, hf, hl⟩
theorem evict (s : LeftN w a (m + 1) W) : ∃ f q : Int, Calls Tryd.prog 11 #[.pointer (some ⟨a.pc, 0, none⟩)] W fun e W' => e = .returned (.tuple #[.agg #[.int .i64 f, .int .i64 q], .bool true]) ∧ LeftN w a m W' ∧
    Hid (∀ V, LeftN w a m W' → Below W'.heap.size W' V → Calls Tryd.prog 12 #[.pointer (some ⟨a.pc, 0, none⟩), .agg #[.int .i64 f, .int .i64 q]] V fun e V' => e = .returned (.tuple #[.int .i64 0, .bool false]) ∧ LeftN w a m V') := by
  obtain ⟨C, S, hl⟩ := s
  obtain ⟨x, y, h1, h2, h3, h4, h5⟩ := idle_evict S (by intro e; rw [e] at hl; simp at hl)
  obtain ⟨o, L, ho⟩ := S
  obtain ⟨wf, wq⟩ := L.wfk h2
  rw [h3] at wf
  rw [h4] at wq
  refine ⟨x.f, x.q, h5.mono fun e W' ⟨he, hn, _, hl2, hp, _⟩ => ⟨he, ⟨_, hn, by omega⟩, Lib.hid fun V _ hb => ?_⟩⟩
  obtain ⟨o2, L2, ho2⟩ := hn.on hb
  have h := ls_has L2 x.f x.q wf wq
  rw [show hasV C.evC.R x.f x.q = .tuple #[.int .i64 0, .bool false] by unfold hasV gR; rw [hp]; rfl] at h
  exact h.mono fun e V' ⟨he, hb2⟩ => ⟨he, _, ⟨o2, L2.on hb2, ho2⟩, by omega⟩
theorem last (s : LeftN w a 0 W) : Calls Tryd.prog 11 #[.pointer (some ⟨a.pc, 0, none⟩)] W fun e W' => e = .returned (.tuple #[.agg #[.int .i64 0, .int .i64 0], .bool false]) ∧ LeftN w a 0 W' := by
  obtain ⟨C, S, hl⟩ := s
  exact (evict_empty S (List.length_eq_zero_iff.1 hl)).mono fun e W' ⟨he, hn, _⟩ => ⟨he, C, hn, hl⟩
theorem none_len (s : LeftN w a 0 W) : Calls Tryd.prog 8 #[.pointer (some ⟨a.pc, 0, none⟩)] W fun e W' => e = .returned (.int .i64 0) ∧ W = W' := by
  obtain ⟨C, ⟨o, L, ho⟩, hl⟩ := s
  have h := ls_len L
  rw [hl] at h
  exact h
theorem none_free (s : LeftN w a 0 W) : Calls Tryd.prog 9 #[.pointer (some ⟨a.pp, 0, none⟩)] W fun e W' => e = .returned (.int .i64 20) ∧ W = W' := by
  obtain ⟨C, ⟨o, L, ho⟩, hl⟩ := s
  have h := ls_free L
  rw [hl] at h
  exact h
theorem LeftN.on {W' : World} (s : LeftN w a m W) (hb : Below W.heap.size W W') : LeftN w a m W' := by
  obtain ⟨C, S, hl⟩ := s
  exact ⟨C, S.on hb, hl⟩
theorem LeftN.bel (s : LeftN w a m W) : Below w.heap.size w W := by
  obtain ⟨C, S, hl⟩ := s
  exact S.bel
theorem Filled.bel (s : Filled w a m W) : Below w.heap.size w W := by
  obtain ⟨C, S, _⟩ := s
  exact S.bel
end

set_option maxRecDepth 100000 in
set_option maxHeartbeats 8000000 in
theorem walk (A : Option Addr) (zs : List Int) (c0 : Nat) (w : World) (hz : zs.length ≤ maxLen) (hA : IntRow w A zs) : Calls Tryd.prog 3 #[.slice A zs.length c0] w fun e w' => e = .returned (.bool true) ∧ Below w.heap.size w w' := by
  have HA := Lib.hid (fun w => awake14_any w)
  have HM := Lib.hid (fun v => ls_made v v (Below.refl _ _) 20 (by omega) (by omega))
  have HF0 := Lib.hid (fun (v : World) (a : Ad) (W : World) (s : Ls v a 20 (fun _ => False) (newC 20) (fun _ => 0) W) => show Filled v a 0 W from ⟨_, idle_made s, rfl, Nat.le_refl _, Nat.le_refl _⟩)
  have HROW := Lib.hid (fun (W : World) (h : Below w.heap.size w W) (i : Nat) (hi : i < zs.length) => show ∃ ad, A = some ad ∧ W.cell? (ad.add i) = some (.int .i64 zs[i]) ∧ (Lit.int .i64 zs[i]).wf = true from by
    obtain ⟨ad, h1, h2, h3, h4⟩ := hA i hi
    exact ⟨ad, h1, (h.cell (p := ad.add i) (by unfold Addr.add; split <;> exact h2)).trans h3, h4⟩)
  generalize newC 20 = D0 at *
  have hlz : (zs.length : Int) ≤ 9223372036854775807 := by unfold maxLen at hz; omega
  obtain ⟨n, hn⟩ : ∃ n, zs.length = n := ⟨_, rfl⟩
  rw [hn] at hlz ⊢
  have HN := Lib.hid hn
  clear hz hA hn
  go_enter Tryd.func3, Tryd.ntmps3
  go_wp2_with (first
    | (go_at_call 4; refine (HA.out _).mono ?_; rintro e v1 ⟨rfl, hb⟩; have HB1 := Lib.hid hb; clear hb)
    | (go_at_call 5; refine (HM.out v1).mono ?_; rintro e v2 ⟨a, rfl, hs⟩; have S0 := Lib.hid (HF0.out v1 a v2 hs); clear hs))
  go_loopw [6] (fun i wr => ∃ k : Nat, k ≤ n ∧ k ≤ 20 ∧ i = .int .i64 k ∧ Hid (Filled v1 a k wr)) (fun i _ => n - (intOf i).toNat)
  case atStart => exact ⟨0, by omega, by omega, rfl, S0⟩
  case round =>
    clear S0 HF0 HM HA
    obtain ⟨k, hk, hk20, rfl, S⟩ := hrel
    have hexit : k < n ∧ k < 20 ∨ ((¬ k < n) ∨ (k < n ∧ ¬ k < 20)) := by omega
    rcases hexit with ⟨hlt, hlt2⟩ | hex
    · have HB2 := Lib.hid (HB1.out.trans (S.out.bel.mono HB1.out.size))
      obtain ⟨ad, rfl, c0, wz⟩ := HROW.out wr HB2.out k (by have := HN.out; omega)
      obtain ⟨_, _⟩ := bounds_i64 wz
      generalize zs[k]'(by have := HN.out; omega) = z at *
      obtain ⟨y, hy, hy1, hy2⟩ : ∃ y, Int.tmod z 5 = y ∧ -5 < y ∧ y < 5 := ⟨_, rfl, by rw [Int.tmod_eq_emod]; split <;> omega, by rw [Int.tmod_eq_emod]; split <;> omega⟩
      obtain ⟨m, hm, hm5⟩ : ∃ m : Nat, Int.tmod (y + 5) 5 = (m : Int) ∧ m < 5 := ⟨((y + 5) % 5).toNat, by rw [Int.tmod_eq_emod_of_nonneg (by omega)]; omega, by omega⟩
      have hi1 : (k : Int) < (n : Int) := by omega
      have hi2 : (k : Int) < 20 := by omega
      clear wz HROW
      go_wp2_with (first
        | (go_at_call 6; refine (get S.out hlt2 hm5).mono ?_; rintro e v3 ⟨fr, rfl, hs⟩; have S2 := Lib.hid hs; clear hs)
        | (go_at_call 7; refine (drop S2.out).mono ?_; rintro e v4 ⟨rfl, hs⟩; have S3 := Lib.hid hs; clear hs))
      go_roundw
      case rel => exact ⟨k + 1, by omega, by omega, by go_num, S3⟩
      case measure => simp [intOf]; omega
    · obtain ⟨N, hN20, hleft, t1, t2, t3⟩ := told S.out hk20
      have T1 := Lib.hid t1
      have T2 := Lib.hid t2
      have T3 := Lib.hid t3
      have L0 := Lib.hid hleft
      clear t1 t2 t3 hleft HROW
      have hcond : (¬ (k : Int) < (n : Int)) ∨ ((k : Int) < (n : Int) ∧ ¬ (k : Int) < 20) := by omega
      have hN0 : (0 : Int) ≤ 20 - (N : Int) := by omega
      have e20 : (20 : Int) - (20 - (N : Int)) = (N : Int) := by omega
      clear hex
      rcases hcond with h1 | ⟨h1, h2⟩
      all_goals
        go_wp2_with (first
          | (go_at_call 8; refine T1.out.mono ?_; rintro e v5 ⟨rfl, rfl⟩)
          | (go_at_call 9; refine T2.out.mono ?_; rintro e v5 ⟨rfl, rfl⟩)
          | (go_at_call 10; refine T3.out.mono ?_; rintro e v5 ⟨rfl, rfl⟩))
        go_loopw [11] (fun i wq => ∃ j : Nat, j ≤ N ∧ i = .int .i64 j ∧ Hid (LeftN v1 a (N - j) wq)) (fun i _ => N - (intOf i).toNat)
        case atStart => exact ⟨0, by omega, rfl, L0⟩
        case round =>
          clear L0 T1 T2 T3 S
          obtain ⟨j, hj, rfl, S⟩ := hrel
          by_cases hlt : j < N
          · have hji : (j : Int) < (N : Int) := by omega
            obtain ⟨m, hm⟩ : ∃ m, N - j = m + 1 := ⟨N - j - 1, by omega⟩
            rw [hm] at S
            have HMm := Lib.hid hm
            obtain ⟨f, q, hev⟩ := evict S.out
            have HEV := Lib.hid hev
            clear hev hm
            go_wp2_with (first
              | (go_at_call 11; refine HEV.out.mono ?_; rintro e v6 ⟨rfl, hs, HH⟩; have S2 := Lib.hid hs; clear hs)
              | (go_at_call 12; refine (HH.out _ S2.out ((Below.refl _ _).alloc (Nat.le_refl _) _)).mono ?_; rintro e v7 ⟨rfl, hs⟩; have S3 := Lib.hid hs; clear hs))
            go_roundw
            case rel => exact ⟨j + 1, by omega, by go_num, by rw [show N - (j + 1) = m by have := HMm.out; omega]; exact S3⟩
            case measure => simp [intOf]; omega
          · obtain rfl : j = N := by omega
            rw [Nat.sub_self] at S
            have hji : ¬ (j : Int) < (j : Int) := by omega
            go_wp2_with (first
              | (go_at_call 11; refine (last S.out).mono ?_; rintro e v6 ⟨rfl, hs⟩; have S2 := Lib.hid (hs.on ((Below.refl _ _).alloc (Nat.le_refl _) (.cells #[.int .i64 0, .int .i64 0] 32))); clear hs)
              | (go_at_call 8; refine (none_len S2.out).mono ?_; rintro e v7 ⟨rfl, rfl⟩)
              | (go_at_call 9; refine (none_free S2.out).mono ?_; rintro e v7 ⟨rfl, rfl⟩))
            go_ret
            exact ⟨rfl, HB1.out.trans (S2.out.bel.mono HB1.out.size)⟩

set_option maxRecDepth 100000 in
theorem lifted (os : Os) (started : os.Started) (H : Type) (enc : TypeId × Value → H) :
    ReturnsInHanded {} Tryd.checked os 3 .any (fun w args => (Rows.cacheEndsSpec.pre enc Tryd.prog Tryd.f3 Rows.cacheEndsRow.domain false w args ∧ laidMetH Tryd.prog Rows.cacheEndsRow.laid w) ∧ sizedMet enc Tryd.prog Tryd.f3 (OpenSpec.ofChange Rows.cacheEndsSpec) false w args) (Rows.cacheEndsSpec.post enc Tryd.prog Tryd.f3 false true false false) := by
  refine returnsInHanded_of_change_and (C := Tryd.checked) (X := fun w _ => laidMetH Tryd.prog Rows.cacheEndsRow.laid w) (fun _ _ _ hh h => h.of_heap hh) own started (by kernel_rfl) Tryd.func3
    (ChangeSpec.witness_shaped (enc := enc) (C := Tryd.checked) (os := os) (X := fun w _ => laidMetH Tryd.prog Rows.cacheEndsRow.laid w) false (World.laidAll Tryd.prog os Rows.cacheEndsRow.laid) #[.slice none 0 0] 8 (World.laidAll_os _ _ _) (World.shaped_of_ZipB (by kernel_rfl) (by kernel_rfl)) (by kernel_rfl) (by kernel_rfl) (by kernel_rfl) (by rw [MakeChecks.laidMetH_plain _ _ _ (by kernel_rfl)]; exact laidMet_laidAll _ (by kernel_rfl) (by kernel_rfl))) ?_
  intro W base args ds gs before hval0 hW hcnd _ hL _
  have hval : ∀ (j : Nat) t v, Tryd.f3.params[j]? = some t → args[j]? = some v → Value.okWide Tryd.prog W .any base t v := hval0
  have hW' := hW
  obtain ⟨p, q, hA0, hV, rfl, hfz, hnd⟩ := hW
  have hA : DataW.TrodAll enc Tryd.prog W 0 (fun _ => true) true Tryd.f3.params.toList args.toList ds p := hA0
  rw [Tryd.params3] at hA hval
  obtain ⟨v0, vs0, d0, ds0, p0, q0, hargs, rfl, rfl, h0, r0⟩ := trodAll_cons hA
  obtain ⟨rfl, rfl, rfl⟩ := trodAll_nil r0
  obtain rfl : args = #[v0] := by cases args; simp_all
  obtain ⟨rfl, rfl⟩ := trodVars_none hV
  have k0 := h0
  have lt0 : ∀ x ∈ p0, x.block < W.heap.size := by obtain ⟨m, hm⟩ := k0; exact DataW.trod_lt m _ _ _ hm
  obtain ⟨LA0, Ll0, Lc0, rfl, Lm0, Lr0⟩ := openInts4 (hval 0 22 v0 rfl rfl) h0
  clear hA0 hval0
  refine (walk LA0 Ll0 Lc0 W Lm0 Lr0).mono fun e W' ⟨he, bel⟩ => ?_
  subst he
  exact ⟨_, rfl, _, _, _, [], _, [], hW', trodAll_mk1 (shut_bool Tryd.underlying4 _), (trodAll_cons_mk (Below.trod laidOut (by kernel_rfl) (of_decide_eq_true (by kernel_rfl)) k0 bel lt0) trodAll_mk0), rfl, bel.frame _, fun h => by cases h⟩
theorem over : Rows.cacheEndsRow.holds Tryd.pinned (OpenSpec.ofChange Rows.cacheEndsSpec) :=
  OpenClaim.holds_of_wide 3 Tryd.f3 rfl rfl rfl rfl rfl rfl rfl ⟨rfl, rfl, rfl, rfl, rfl⟩ rfl rfl rfl rfl rfl (by kernel_rfl) Tryd.func3 (by kernel_rfl)
    (of_decide_eq_true (by kernel_rfl)) (by unfold Func.isWrapper; first | (rw [if_pos (by decide +kernel)]; kernel_rfl) | (rw [if_neg (by decide +kernel)]; exact ⟨rfl, rfl⟩))
    (fun os started H enc _ => lifted os started H enc)
set_option maxRecDepth 100000 in
/-- The statement. -/
theorem proved : Rows.CacheEndsCardSaid :=
  Claim7.holds_tied_plain_at .later [] [.data, .pinned] true _ false over (fun _ h => by cases h) (by kernel_rfl) (fun _ h => by cases h) cacheEnds_row_tie rfl ⟨rfl, rfl⟩ (by kernel_rfl) rfl
    (fun f fn hf hfn => by
      obtain rfl : f = 3 := Option.some.inj (hf.symm.trans (by kernel_rfl))
      obtain rfl : fn = Tryd.f3 := Option.some.inj (hfn.symm.trans Tryd.func3)
      refine ⟨by kernel_rfl, fun j t ht => ?_⟩
      rw [Tryd.params3] at ht
      match j, ht with
      | 0, ht =>
        obtain rfl : t = 22 := by simpa using ht.symm
        exact (by kernel_rfl : Tryd.pinned.checked.prog.wantsStandIn 22 = false)
      | j + 1, ht => simp at ht)
    (by kernel_rfl)
end Go.Proofs.YtmbjflcmbenbdabDoor.lawEnd14
