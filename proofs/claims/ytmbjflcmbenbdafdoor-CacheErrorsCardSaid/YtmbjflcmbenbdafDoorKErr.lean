/- CacheErrors: a page that no file has is not got, and changes nothing. -/
import Derived.Test.YtmbjflcmbenbdafDoorKP
import Derived.Test.YtmbjflcmbenbdafDoorTie
import Derived.Test.YtmbjflcmbenbdafDoorCards
import Derived.LaidMore
import Derived.Lay
import Derived.SevenTiedAt
import Derived.Stop.Joined
namespace Go.Proofs.YtmbjflcmbenbdafDoor.lawErr14
open Go.ChangeShapes Go.WideShapes Go.ChangeAt Go.RowKit
set_option linter.unusedVariables false
set_option linter.unusedSimpArgs false

set_option maxRecDepth 100000 in
set_option maxHeartbeats 8000000 in
theorem walk (p : Int × Int) (w : World) (hp : (Lit.int .i64 p.1).wf = true ∧ (Lit.int .i64 p.2).wf = true) : Calls Tryd.prog 3 #[.agg #[.int .i64 p.1, .int .i64 p.2]] w fun e w' => e = .returned (.bool true) ∧ Below w.heap.size w w' := by
  obtain ⟨f, q⟩ := p
  dsimp only at hp ⊢
  obtain ⟨wf, wq⟩ := hp
  have HA := Lib.hid (fun w => awake14_any w)
  have HM := Lib.hid (fun v => ls_made v v (Below.refl _ _) 10 (by omega) (by omega))
  have HZ := Lib.hid (Blk.new w 23 #[.int .i64 f, .int .i64 q])
  have HB := Lib.hid ((Below.refl w.heap.size w).alloc (Nat.le_refl _) (.cells #[.int .i64 f, .int .i64 q] 23))
  by_cases hin : 0 ≤ q ∧ q < pgsOf fs3 f
  · -- there
    have hc : (f = 1 ∧ 0 ≤ q ∧ q < 3) ∨ (f = 2 ∧ 0 ≤ q ∧ q < 5) := by
      rw [pg3] at hin
      split at hin
      · exact .inl ⟨by assumption, hin.1, by simpa using hin.2⟩
      · split at hin
        · exact .inr ⟨by assumption, hin.1, by simpa using hin.2⟩
        · omega
    have hg := fun (w1 : World) (a : Ad) (v : World) (s : Ls w1 a 10 (fun _ => False) (newC 10) (fun _ => 0) v) =>
      show Calls Tryd.prog 6 #[.pointer (some ⟨a.pc, 0, none⟩), .agg #[.int .i64 f, .int .i64 q]] v fun e v' => e = .returned (.tuple #[.int .i64 0, .int .i64 0]) ∧ ∃ C o, Ls w1 a 10 (fun _ => False) C o v' ∧ C.R = [⟨f, q, 0, false⟩] from by
        obtain ⟨k, rfl⟩ := Int.eq_ofNat_of_zero_le (show 0 ≤ f by omega)
        obtain ⟨m, rfl⟩ := Int.eq_ofNat_of_zero_le hin.1
        have hk : k < fs3.length := by show k < 3; omega
        have h := ls_fill s k hk m hin.2 rfl (by decide) (by decide)
        rw [show freeAt (newC 10).X.H = 0 from rfl] at h
        exact h.mono fun e v' ⟨he, hn⟩ => ⟨he, _, _, hn.1, rfl⟩
    have HG := Lib.hid hg
    have HH := Lib.hid (fun (w1 : World) (a : Ad) (C : Cc) (o : Nat → Nat) (v : World) (s : Ls w1 a 10 (fun _ => False) C o v) (hR : C.R = [⟨f, q, 0, false⟩]) =>
      show Calls Tryd.prog 7 #[.pointer (some ⟨a.pc, 0, none⟩), .agg #[.int .i64 f, .int .i64 q]] v fun e v' => e = .returned (.tuple #[.int .i64 0, .bool true]) ∧ Below v.heap.size v v' from by
        have h := ls_has s f q wf wq
        rw [hR, show hasV [⟨f, q, 0, false⟩] f q = .tuple #[.int .i64 0, .bool true] by simp [hasV, gR, pgF]] at h
        exact h)
    have HL := Lib.hid (fun (w1 : World) (a : Ad) (C : Cc) (o : Nat → Nat) (v : World) (s : Ls w1 a 10 (fun _ => False) C o v) (hR : C.R = [⟨f, q, 0, false⟩]) =>
      show Calls Tryd.prog 8 #[.pointer (some ⟨a.pc, 0, none⟩)] v fun e v' => e = .returned (.int .i64 1) ∧ v = v' from by
        have h := ls_len s; rw [hR] at h; exact h)
    have HF := Lib.hid (fun (w1 : World) (a : Ad) (C : Cc) (o : Nat → Nat) (v : World) (s : Ls w1 a 10 (fun _ => False) C o v) (hR : C.R = [⟨f, q, 0, false⟩]) =>
      show Calls Tryd.prog 9 #[.pointer (some ⟨a.pp, 0, none⟩)] v fun e v' => e = .returned (.int .i64 9) ∧ v = v' from by
        have h := ls_free s; rw [hR] at h; exact h)
    clear hg hin wf wq
    rcases hc with ⟨rfl, h0, h1⟩ | ⟨rfl, h0, h1⟩
    all_goals
      go_enter Tryd.func3, Tryd.ntmps3
      go_wp2_with (first
        | (go_at_call 4; refine (HA.out _).mono ?_; rintro e v1 ⟨rfl, hb⟩; have HZ1 := Lib.hid (HZ.out.below hb HZ.out.lt); have HB1 := Lib.hid (HB.out.trans (hb.mono HB.out.size)); clear hb)
        | (go_at_call 5; refine (HM.out v1).mono ?_; rintro e v2 ⟨a, rfl, hs⟩; have S0 := Lib.hid hs; have z0 := (HZ1.out.below hs.bel HZ1.out.lt).at_ 0 _ rfl; have z1 := (HZ1.out.below hs.bel HZ1.out.lt).at_ 1 _ rfl; clear hs)
        | (go_at_call 6; refine (HG.out v1 a v2 S0.out).mono ?_; rintro e v3 ⟨rfl, C, o, hs, hR⟩; have S1 := Lib.hid hs; have HR := Lib.hid hR; have y0 := (HZ1.out.below hs.bel HZ1.out.lt).at_ 0 _ rfl; have y1 := (HZ1.out.below hs.bel HZ1.out.lt).at_ 1 _ rfl; clear hs hR)
        | (go_at_call 7; refine (HH.out v1 a C o v3 S1.out HR.out).mono ?_; rintro e v4 ⟨rfl, hb⟩; have S2 := Lib.hid (S1.out.on hb); clear hb)
        | (go_at_call 8; refine (HL.out v1 a C o _ S2.out HR.out).mono ?_; rintro e v5 ⟨rfl, rfl⟩)
        | (go_at_call 9; refine (HF.out v1 a C o _ S2.out HR.out).mono ?_; rintro e v5 ⟨rfl, rfl⟩))
      go_ret
      exact ⟨rfl, HB1.out.trans (S2.out.bel.mono HB1.out.size)⟩
  · -- not there
    have hc : (f = 1 ∧ q < 0 ∧ ¬ 0 ≤ q) ∨ (f = 1 ∧ 0 ≤ q ∧ ¬ q < 3) ∨ (f = 2 ∧ q < 0 ∧ ¬ 0 ≤ q) ∨ (f = 2 ∧ 0 ≤ q ∧ ¬ q < 5) ∨ (¬ f = 1 ∧ ¬ f = 2) := by
      rw [pg3] at hin
      split at hin
      · omega
      · split at hin <;> omega
    have HG := Lib.hid (fun (w1 : World) (a : Ad) (v : World) (s : Ls w1 a 10 (fun _ => False) (newC 10) (fun _ => 0) v) => ls_no s f q hin)
    have HH := Lib.hid (fun (w1 : World) (a : Ad) (v : World) (s : Ls w1 a 10 (fun _ => False) (newC 10) (fun _ => 0) v) =>
      show Calls Tryd.prog 7 #[.pointer (some ⟨a.pc, 0, none⟩), .agg #[.int .i64 f, .int .i64 q]] v fun e v' => e = .returned (.tuple #[.int .i64 0, .bool false]) ∧ Below v.heap.size v v' from ls_has s f q wf wq)
    have HL := Lib.hid (fun (w1 : World) (a : Ad) (v : World) (s : Ls w1 a 10 (fun _ => False) (newC 10) (fun _ => 0) v) =>
      show Calls Tryd.prog 8 #[.pointer (some ⟨a.pc, 0, none⟩)] v fun e v' => e = .returned (.int .i64 0) ∧ v = v' from ls_len s)
    have HF := Lib.hid (fun (w1 : World) (a : Ad) (v : World) (s : Ls w1 a 10 (fun _ => False) (newC 10) (fun _ => 0) v) =>
      show Calls Tryd.prog 9 #[.pointer (some ⟨a.pp, 0, none⟩)] v fun e v' => e = .returned (.int .i64 10) ∧ v = v' from ls_free s)
    clear hin wf wq
    generalize newC 10 = D0 at *
    rcases hc with ⟨rfl, h0, h1⟩ | ⟨rfl, h0, h1⟩ | ⟨rfl, h0, h1⟩ | ⟨rfl, h0, h1⟩ | ⟨h0, h1⟩
    all_goals
      go_enter Tryd.func3, Tryd.ntmps3
      go_wp2_with (first
        | (go_at_call 4; refine (HA.out _).mono ?_; rintro e v1 ⟨rfl, hb⟩; have HZ1 := Lib.hid (HZ.out.below hb HZ.out.lt); have HB1 := Lib.hid (HB.out.trans (hb.mono HB.out.size)); clear hb)
        | (go_at_call 5; refine (HM.out v1).mono ?_; rintro e v2 ⟨a, rfl, hs⟩; have S0 := Lib.hid hs; have z0 := (HZ1.out.below hs.bel HZ1.out.lt).at_ 0 _ rfl; have z1 := (HZ1.out.below hs.bel HZ1.out.lt).at_ 1 _ rfl; clear hs)
        | (go_at_call 6; refine (HG.out v1 a v2 S0.out).mono ?_; rintro e v3 ⟨rfl, hs⟩; have S1 := Lib.hid hs; have y0 := (HZ1.out.below hs.bel HZ1.out.lt).at_ 0 _ rfl; have y1 := (HZ1.out.below hs.bel HZ1.out.lt).at_ 1 _ rfl; clear hs)
        | (go_at_call 7; refine (HH.out v1 a v3 S1.out).mono ?_; rintro e v4 ⟨rfl, hb⟩; have S2 := Lib.hid (S1.out.on hb); clear hb)
        | (go_at_call 8; refine (HL.out v1 a _ S2.out).mono ?_; rintro e v5 ⟨rfl, rfl⟩)
        | (go_at_call 9; refine (HF.out v1 a _ S2.out).mono ?_; rintro e v5 ⟨rfl, rfl⟩))
      all_goals first
        | (rename_i hx; exfalso; simp at hx; omega)
        | (go_ret; exact ⟨rfl, HB1.out.trans (S2.out.bel.mono HB1.out.size)⟩)

set_option maxRecDepth 100000 in
theorem lifted (os : Os) (started : os.Started) (H : Type) (enc : TypeId × Value → H) :
    ReturnsInHanded {} Tryd.checked os 3 .any (fun w args => (Rows.cacheErrorsSpec.pre enc Tryd.prog Tryd.f3 Rows.cacheErrorsRow.domain false w args ∧ laidMetH Tryd.prog Rows.cacheErrorsRow.laid w) ∧ sizedMet enc Tryd.prog Tryd.f3 (OpenSpec.ofChange Rows.cacheErrorsSpec) false w args) (Rows.cacheErrorsSpec.post enc Tryd.prog Tryd.f3 false true false false) := by
  refine returnsInHanded_of_change_and (C := Tryd.checked) (X := fun w _ => laidMetH Tryd.prog Rows.cacheErrorsRow.laid w) (fun _ _ _ hh h => h.of_heap hh) own started (by kernel_rfl) Tryd.func3
    (ChangeSpec.witness_shaped (enc := enc) (C := Tryd.checked) (os := os) (X := fun w _ => laidMetH Tryd.prog Rows.cacheErrorsRow.laid w) false (World.laidAll Tryd.prog os Rows.cacheErrorsRow.laid) #[zeroKeyV] 8 (World.laidAll_os _ _ _) (World.shaped_of_ZipB (by kernel_rfl) (by kernel_rfl)) (by kernel_rfl) (by kernel_rfl) (by kernel_rfl) (by rw [MakeChecks.laidMetH_plain _ _ _ (by kernel_rfl)]; exact laidMet_laidAll _ (by kernel_rfl) (by kernel_rfl))) ?_
  intro W base args ds gs before hval0 hW hcnd _ hL _
  have hval : ∀ (j : Nat) t v, Tryd.f3.params[j]? = some t → args[j]? = some v → Value.okWide Tryd.prog W .any base t v := hval0
  have hW' := hW
  obtain ⟨p, q, hA0, hV, rfl, hfz, hnd⟩ := hW
  have hA : DataW.TrodAll enc Tryd.prog W 0 (fun _ => true) true Tryd.f3.params.toList args.toList ds p := hA0
  rw [Tryd.params3] at hA hval
  obtain ⟨v0, vs0, d0, ds0, p0, q0, hargs, rfl, rfl, h0, r0⟩ := trodAll_cons hA
  obtain ⟨rfl, rfl, rfl⟩ := trodAll_nil r0
  obtain rfl : args = #[v0] := by cases args; simp_all
  obtain ⟨rfl, rfl⟩ := trodVars_none hV
  have k0 := h0
  have lt0 : ∀ x ∈ p0, x.block < W.heap.size := by obtain ⟨m, hm⟩ := k0; exact DataW.trod_lt m _ _ _ hm
  obtain ⟨a0, rfl, w0⟩ := open_key (hval 0 23 v0 rfl rfl) h0
  clear hA0 hval0
  refine (walk a0 W w0).mono fun e W' ⟨he, bel⟩ => ?_
  subst he
  exact ⟨_, rfl, _, _, _, [], _, [], hW', trodAll_mk1 (shut_bool Tryd.underlying4 _), (trodAll_cons_mk (Below.trod laidOut (by kernel_rfl) (of_decide_eq_true (by kernel_rfl)) k0 bel lt0) trodAll_mk0), rfl, bel.frame _, fun h => by cases h⟩
theorem over : Rows.cacheErrorsRow.holds Tryd.pinned (OpenSpec.ofChange Rows.cacheErrorsSpec) :=
  OpenClaim.holds_of_wide 3 Tryd.f3 rfl rfl rfl rfl rfl rfl rfl ⟨rfl, rfl, rfl, rfl, rfl⟩ rfl rfl rfl rfl rfl (by kernel_rfl) Tryd.func3 (by kernel_rfl)
    (of_decide_eq_true (by kernel_rfl)) (by unfold Func.isWrapper; first | (rw [if_pos (by decide +kernel)]; kernel_rfl) | (rw [if_neg (by decide +kernel)]; exact ⟨rfl, rfl⟩))
    (fun os started H enc _ => lifted os started H enc)
set_option maxRecDepth 100000 in
/-- The statement. -/
theorem proved : Rows.CacheErrorsCardSaid :=
  Claim7.holds_tied_plain_at .later [] [.data, .pinned] true _ false over (fun _ h => by cases h) (by kernel_rfl) (fun _ h => by cases h) cacheErrors_row_tie rfl ⟨rfl, rfl⟩ (by kernel_rfl) rfl
    (fun f fn hf hfn => by
      obtain rfl : f = 3 := Option.some.inj (hf.symm.trans (by kernel_rfl))
      obtain rfl : fn = Tryd.f3 := Option.some.inj (hfn.symm.trans Tryd.func3)
      refine ⟨by kernel_rfl, fun j t ht => ?_⟩
      rw [Tryd.params3] at ht
      match j, ht with
      | 0, ht =>
        obtain rfl : t = 23 := by simpa using ht.symm
        exact (by kernel_rfl : Tryd.pinned.checked.prog.wantsStandIn 23 = false)
      | j + 1, ht => simp at ht)
    (by kernel_rfl)
end Go.Proofs.YtmbjflcmbenbdafDoor.lawErr14
