/- CacheShares: who wants a page that is there gets the same frame, held once more; it is filled once. -/
import Derived.Test.YtmbjflcmbenbdadDoorKP
import Derived.Test.YtmbjflcmbenbdadDoorBits
import Derived.Test.YtmbjflcmbenbdadDoorTie
import Derived.Test.YtmbjflcmbenbdadDoorCards
import Derived.LaidMore
import Derived.Lay
import Derived.SevenTiedAt
import Derived.Stop.Joined
namespace Go.Proofs.YtmbjflcmbenbdadDoor.lawShr14
open Go.ChangeShapes Go.WideShapes Go.ChangeAt Go.RowKit
set_option linter.unusedVariables false
set_option linter.unusedSimpArgs false

theorem and15 (n : Int) : bits .and .i64 n 15 = n % 16 := i64_and_mask n 4 15 (by omega) (by decide)
/-- A page that was wanted i times. -/
def Shr (w : World) (a : Ad) (K : Nat → Prop) (m : Nat) (i : Nat) (W : World) : Prop := ∃ C o fh, Ls w a 10 K C o W ∧ C.R = [⟨2, m, 0, fh⟩] ∧ C.fills = 1 ∧ C.hits + 1 = i ∧ o 0 = i
section
variable {w W : World} {a : Ad} {K : Nat → Prop} {m i : Nat}
theorem first (s : Ls w a 10 K (newC 10) (fun _ => 0) W) (hm : m < 5) : Calls Tryd.prog 6 #[.pointer (some ⟨a.pc, 0, none⟩), .agg #[.int .i64 2, .int .i64 (m : Int)]] W fun e W' => e = .returned (.tuple #[.int .i64 0, .int .i64 0]) ∧ Shr w a K m 1 W' ∧ But (fun j => ¬ K j) W W' := by
  have h := ls_fill s 2 (by decide) m (by rw [pg3]; simp; omega) rfl (by decide) (by decide)
  rw [show freeAt (newC 10).X.H = 0 from rfl] at h
  exact h.mono fun e v' ⟨he, hn⟩ => ⟨he, ⟨_, _, _, hn.1, rfl, rfl, rfl, rfl⟩, hn.2⟩
theorem again (s : Shr w a K m i W) (hm : m < 5) (hi : i ≤ 100) : Calls Tryd.prog 6 #[.pointer (some ⟨a.pc, 0, none⟩), .agg #[.int .i64 2, .int .i64 (m : Int)]] W fun e W' => e = .returned (.tuple #[.int .i64 0, .int .i64 0]) ∧ Shr w a K m (i + 1) W' ∧ But (fun j => ¬ K j) W W' := by
  obtain ⟨C, o, fh, s, hR, hF, hH, ho⟩ := s
  have h := ls_hit s (x := ⟨2, m, 0, fh⟩) (by rw [hR]; simp [pgF]) (by rw [pg3]; simp; omega) (by show o 0 < 1000; omega) (by omega)
  exact h.mono fun e v' ⟨he, hn⟩ => ⟨he, ⟨_, _, true, hn.1, by simp [Cc.hit, hR, wantL], hF, by show C.hits + 1 + 1 = i + 1; omega, by show (if (0 : Nat) = 0 then o 0 + 1 else o 0) = i + 1; rw [if_pos rfl]; omega⟩, hn.2⟩
theorem has (s : Shr w a K m i W) (hm : m < 5) : Calls Tryd.prog 7 #[.pointer (some ⟨a.pc, 0, none⟩), .agg #[.int .i64 2, .int .i64 (m : Int)]] W fun e W' => e = .returned (.tuple #[.int .i64 0, .bool true]) ∧ Below W.heap.size W W' ∧ Shr w a K m i W' := by
  obtain ⟨C, o, fh, s, hR, r⟩ := s
  have h := ls_has s 2 m (by decide) (wf_c (by omega) (by omega))
  rw [hR, show hasV [⟨2, m, 0, fh⟩] 2 m = .tuple #[.int .i64 0, .bool true] by simp [hasV, gR, pgF]] at h
  exact h.mono fun e v' ⟨he, hb⟩ => ⟨he, hb, C, o, fh, s.on hb, hR, r⟩
theorem held (s : Shr w a K m i W) : Calls Tryd.prog 8 #[.pointer (some ⟨a.pp, 0, none⟩), .int .i64 0] W fun e W' => e = .returned (.int .i64 ((i : Int) + 1)) ∧ W = W' := by
  obtain ⟨C, o, fh, s, hR, hF, hH, ho⟩ := s
  have h := ls_held s 0 (by omega)
  rw [hR, ho] at h
  exact h.mono fun e v' ⟨he, hb⟩ => ⟨by rw [he]; simp, hb⟩
theorem fills (s : Shr w a K m i W) : Calls Tryd.prog 9 #[.pointer (some ⟨a.pc, 0, none⟩)] W fun e W' => e = .returned (.int .i64 1) ∧ W = W' := by
  obtain ⟨C, o, fh, s, hR, hF, hH, ho⟩ := s
  have h := ls_fills s
  rw [hF] at h
  exact h
theorem hits (s : Shr w a K m i W) : Calls Tryd.prog 10 #[.pointer (some ⟨a.pc, 0, none⟩)] W fun e W' => e = .returned (.int .i64 ((i : Int) - 1)) ∧ W = W' := by
  obtain ⟨C, o, fh, s, hR, hF, hH, ho⟩ := s
  have h := ls_hits s
  rw [show (C.hits : Int) = (i : Int) - 1 by omega] at h
  exact h
theorem len (s : Shr w a K m i W) : Calls Tryd.prog 11 #[.pointer (some ⟨a.pc, 0, none⟩)] W fun e W' => e = .returned (.int .i64 1) ∧ W = W' := by
  obtain ⟨C, o, fh, s, hR, hF, hH, ho⟩ := s
  have h := ls_len s
  rw [hR] at h
  exact h
theorem free (s : Shr w a K m i W) : Calls Tryd.prog 12 #[.pointer (some ⟨a.pp, 0, none⟩)] W fun e W' => e = .returned (.int .i64 9) ∧ W = W' := by
  obtain ⟨C, o, fh, s, hR, hF, hH, ho⟩ := s
  have h := ls_free s
  rw [hR] at h
  exact h
end

set_option maxRecDepth 100000 in
set_option maxHeartbeats 4000000 in
theorem walk (times page : Int) (w : World) (ht : (Lit.int .i64 times).wf = true) (hp : (Lit.int .i64 page).wf = true) : Calls Tryd.prog 3 #[.int .i64 times, .int .i64 page] w fun e w' => e = .returned (.bool true) ∧ Below w.heap.size w w' := by
  obtain ⟨_, _⟩ := bounds_i64 hp
  obtain ⟨z, hz, hz1, hz2⟩ : ∃ z, Int.tmod page 5 = z ∧ -5 < z ∧ z < 5 := ⟨_, rfl, by rw [Int.tmod_eq_emod]; split <;> omega, by rw [Int.tmod_eq_emod]; split <;> omega⟩
  obtain ⟨m, hm, hm5⟩ : ∃ m : Nat, Int.tmod (z + 5) 5 = (m : Int) ∧ m < 5 := ⟨((z + 5) % 5).toNat, by rw [Int.tmod_eq_emod_of_nonneg (by omega)]; omega, by omega⟩
  obtain ⟨n, hn, hn15⟩ : ∃ n : Nat, bits .and .i64 times 15 = (n : Int) ∧ n ≤ 15 := ⟨(times % 16).toNat, by rw [and15]; omega, by omega⟩
  have HA := Lib.hid (fun w => awake14_any w)
  have HM := Lib.hid (fun v => ls_made v v (Below.refl _ _) 10 (by omega) (by omega))
  have H1 := Lib.hid (fun (w1 : World) (a : Ad) (K : Nat → Prop) (v : World) (s : Ls w1 a 10 K (newC 10) (fun _ => 0) v) => first s hm5)
  generalize newC 10 = D0 at *
  clear ht hp
  go_enter Tryd.func3, Tryd.ntmps3
  go_wp2_with (first
    | (go_at_call 4; refine (HA.out _).mono ?_; rintro e v1 ⟨rfl, hb⟩; have HB1 := Lib.hid hb; clear hb)
    | (go_at_call 5; refine (HM.out v1).mono ?_; rintro e v2 ⟨a, rfl, hs⟩; have S0 := Lib.hid (hs.grow (K' := fun j => j = v2.heap.size) ((Below.refl _ _).alloc (Nat.le_refl _) (.cells #[.int .i64 2, .int .i64 (m : Int)] 28)) (fun j e => .inr ⟨by omega, by rw [e]; simp⟩)); have B0 := Lib.hid (Blk.new v2 28 #[.int .i64 2, .int .i64 (m : Int)]); clear hs)
    | (go_at_call 6; refine (H1.out v1 a _ _ S0.out).mono ?_; rintro e v3 ⟨rfl, hs, hb⟩; have S1 := Lib.hid hs; have B1 := Lib.hid (B0.out.but hb fun h => h rfl); clear hs hb))
  obtain ⟨kb, hkb⟩ : ∃ kb, v2.heap.size = kb := ⟨_, rfl⟩
  rw [hkb] at S1 B1 ⊢
  clear S0 B0 hkb
  have hnb : (1 : Int) + (n : Int) ≤ 16 := by omega
  go_loopw [12] (fun i wr => ∃ k : Nat, 1 ≤ k ∧ k ≤ n + 1 ∧ i = .int .i64 k ∧ Hid (Shr v1 a (fun j => j = kb) m k wr) ∧ Hid (Blk wr kb 28 #[.int .i64 2, .int .i64 (m : Int)])) (fun i _ => n + 1 - (intOf i).toNat)
  case atStart => exact ⟨1, by omega, by omega, rfl, S1, B1⟩
  case round =>
    clear S1 B1 H1 HM HA
    obtain ⟨k, hk1, hk, rfl, S, B⟩ := hrel
    have b0 := B.out.at_ 0 _ rfl
    have b1 := B.out.at_ 1 _ rfl
    by_cases hlt : k < n + 1
    · have hi : (k : Int) < 1 + (n : Int) := by omega
      go_wp2_with (go_at_call 6; refine (again S.out hm5 (by omega)).mono ?_; rintro e v4 ⟨rfl, hs, hb⟩; have S2 := Lib.hid hs; have B2 := Lib.hid (B.out.but hb fun h => h rfl); clear hs hb)
      go_roundw
      case rel => exact ⟨k + 1, by omega, by omega, by go_num, S2, B2⟩
      case measure => simp [intOf]; omega
    · obtain rfl : k = n + 1 := by omega
      have hi : ¬ ((n + 1 : Nat) : Int) < 1 + (n : Int) := by omega
      have e1 : (((n + 1 : Nat) : Int) + 1) = (1 + (n : Int)) + 1 := by omega
      have e2 : (((n + 1 : Nat) : Int) - 1) = (1 + (n : Int)) - 1 := by omega
      have HLD := Lib.hid (fun v (s : Shr v1 a (fun j => j = kb) m (n + 1) v) => held s)
      have HHI := Lib.hid (fun v (s : Shr v1 a (fun j => j = kb) m (n + 1) v) => hits s)
      rw [e1] at HLD
      rw [e2] at HHI
      clear e1 e2
      go_wp2_with (first
        | (go_at_call 7; refine (has S.out hm5).mono ?_; rintro e v4 ⟨rfl, hb, hs⟩; have S2 := Lib.hid hs; clear hb hs)
        | (go_at_call 8; refine (HLD.out _ S2.out).mono ?_; rintro e v5 ⟨rfl, rfl⟩)
        | (go_at_call 9; refine (fills S2.out).mono ?_; rintro e v5 ⟨rfl, rfl⟩)
        | (go_at_call 10; refine (HHI.out _ S2.out).mono ?_; rintro e v5 ⟨rfl, rfl⟩)
        | (go_at_call 11; refine (len S2.out).mono ?_; rintro e v5 ⟨rfl, rfl⟩)
        | (go_at_call 12; refine (free S2.out).mono ?_; rintro e v5 ⟨rfl, rfl⟩))
      go_ret
      obtain ⟨C, o, fh, hs, _⟩ := S2.out
      exact ⟨rfl, HB1.out.trans (hs.bel.mono HB1.out.size)⟩

set_option maxRecDepth 100000 in
theorem lifted (os : Os) (started : os.Started) (H : Type) (enc : TypeId × Value → H) :
    ReturnsInHanded {} Tryd.checked os 3 .any (fun w args => (Rows.cacheSharesSpec.pre enc Tryd.prog Tryd.f3 Rows.cacheSharesRow.domain false w args ∧ laidMetH Tryd.prog Rows.cacheSharesRow.laid w) ∧ sizedMet enc Tryd.prog Tryd.f3 (OpenSpec.ofChange Rows.cacheSharesSpec) false w args) (Rows.cacheSharesSpec.post enc Tryd.prog Tryd.f3 false true false false) := by
  refine returnsInHanded_of_change_and (C := Tryd.checked) (X := fun w _ => laidMetH Tryd.prog Rows.cacheSharesRow.laid w) (fun _ _ _ hh h => h.of_heap hh) own started (by kernel_rfl) Tryd.func3
    (ChangeSpec.witness_shaped (enc := enc) (C := Tryd.checked) (os := os) (X := fun w _ => laidMetH Tryd.prog Rows.cacheSharesRow.laid w) false (World.laidAll Tryd.prog os Rows.cacheSharesRow.laid) #[.int .i64 0, .int .i64 0] 8 (World.laidAll_os _ _ _) (World.shaped_of_ZipB (by kernel_rfl) (by kernel_rfl)) (by kernel_rfl) (by kernel_rfl) (by kernel_rfl) (by rw [MakeChecks.laidMetH_plain _ _ _ (by kernel_rfl)]; exact laidMet_laidAll _ (by kernel_rfl) (by kernel_rfl))) ?_
  intro W base args ds gs before hval0 hW hcnd _ hL _
  have hval : ∀ (j : Nat) t v, Tryd.f3.params[j]? = some t → args[j]? = some v → Value.okWide Tryd.prog W .any base t v := hval0
  have hW' := hW
  obtain ⟨p, q, hA0, hV, rfl, hfz, hnd⟩ := hW
  have hA : DataW.TrodAll enc Tryd.prog W 0 (fun _ => true) true Tryd.f3.params.toList args.toList ds p := hA0
  rw [Tryd.params3] at hA hval
  obtain ⟨v0, vs0, d0, ds0, p0, q0, hargs, rfl, rfl, h0, r0⟩ := trodAll_cons hA
  obtain ⟨v1, vs1, d1, ds1, p1, q1, rfl, rfl, rfl, h1, r1⟩ := trodAll_cons r0
  obtain ⟨rfl, rfl, rfl⟩ := trodAll_nil r1
  obtain rfl : args = #[v0, v1] := by cases args; simp_all
  obtain ⟨rfl, rfl⟩ := trodVars_none hV
  have k0 := h0
  have lt0 : ∀ x ∈ p0, x.block < W.heap.size := by obtain ⟨m, hm⟩ := k0; exact DataW.trod_lt m _ _ _ hm
  obtain ⟨a0, rfl, _, _, w0⟩ := open_int Tryd.underlying3 (hval 0 3 v0 rfl rfl) h0
  have k1 := h1
  have lt1 : ∀ x ∈ p1, x.block < W.heap.size := by obtain ⟨m, hm⟩ := k1; exact DataW.trod_lt m _ _ _ hm
  obtain ⟨a1, rfl, _, _, w1⟩ := open_int Tryd.underlying3 (hval 1 3 v1 rfl rfl) h1
  clear hA0 hval0
  refine (walk a0 a1 W w0 w1).mono fun e W' ⟨he, bel⟩ => ?_
  subst he
  exact ⟨_, rfl, _, _, _, [], _, [], hW', trodAll_mk1 (shut_bool Tryd.underlying4 _), (trodAll_cons_mk (Below.trod laidOut (by kernel_rfl) (of_decide_eq_true (by kernel_rfl)) k0 bel lt0) (trodAll_cons_mk (Below.trod laidOut (by kernel_rfl) (of_decide_eq_true (by kernel_rfl)) k1 bel lt1) trodAll_mk0)), rfl, bel.frame _, fun h => by cases h⟩
theorem over : Rows.cacheSharesRow.holds Tryd.pinned (OpenSpec.ofChange Rows.cacheSharesSpec) :=
  OpenClaim.holds_of_wide 3 Tryd.f3 rfl rfl rfl rfl rfl rfl rfl ⟨rfl, rfl, rfl, rfl, rfl⟩ rfl rfl rfl rfl rfl (by kernel_rfl) Tryd.func3 (by kernel_rfl)
    (of_decide_eq_true (by kernel_rfl)) (by unfold Func.isWrapper; first | (rw [if_pos (by decide +kernel)]; kernel_rfl) | (rw [if_neg (by decide +kernel)]; exact ⟨rfl, rfl⟩))
    (fun os started H enc _ => lifted os started H enc)
set_option maxRecDepth 100000 in
/-- The statement. -/
theorem proved : Rows.CacheSharesCardSaid :=
  Claim7.holds_tied_plain_at .later [] [.data, .pinned] true _ false over (fun _ h => by cases h) (by kernel_rfl) (fun _ h => by cases h) cacheShares_row_tie rfl ⟨rfl, rfl⟩ (by kernel_rfl) rfl
    (fun f fn hf hfn => by
      obtain rfl : f = 3 := Option.some.inj (hf.symm.trans (by kernel_rfl))
      obtain rfl : fn = Tryd.f3 := Option.some.inj (hfn.symm.trans Tryd.func3)
      refine ⟨by kernel_rfl, fun j t ht => ?_⟩
      rw [Tryd.params3] at ht
      match j, ht with
      | 0, ht =>
        obtain rfl : t = 3 := by simpa using ht.symm
        exact (by kernel_rfl : Tryd.pinned.checked.prog.wantsStandIn 3 = false)
      | 1, ht =>
        obtain rfl : t = 3 := by simpa using ht.symm
        exact (by kernel_rfl : Tryd.pinned.checked.prog.wantsStandIn 3 = false)
      | j + 2, ht => simp at ht)
    (by kernel_rfl)
end Go.Proofs.YtmbjflcmbenbdadDoor.lawShr14
