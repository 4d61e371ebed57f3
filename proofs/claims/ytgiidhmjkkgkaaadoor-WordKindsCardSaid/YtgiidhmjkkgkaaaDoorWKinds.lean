/- WordKinds: kinds, bytes and what is clipped. -/
import Derived.Test.YtgiidhmjkkgkaaaDoorWR
namespace Go.Proofs.YtgiidhmjkkgkaaaDoor.lawKinds
open Go.ChangeShapes Go.WideShapes Go.ChangeAt Go.RowKit
open Go.ChangeMaps (open_string)
set_option linter.unusedVariables false
set_option linter.unusedSimpArgs false

/-- A text of at most 10 bytes. -/
def cut10 (s : ByteArray) : ByteArray := if 10 < s.size then s.extract 0 10 else s

set_option maxHeartbeats 6400000 in
theorem core (k n : Int) (s S : ByteArray) (w : World) (hk : (Lit.int .i64 k).wf = true) (hn : (Lit.int .u64 n).wf = true) (hs : s.size ≤ maxLen) (hS : S = cut10 s) (hT : Tab w) :
    Calls Tryd.prog 3 #[.int .i64 k, .int .u64 n, .string s] w fun e w' => e = .returned (.bool true) ∧ Below w.heap.size w w' := by
  unfold maxLen at hs
  have HA := Lib.hid (fun w hT => awake_any w hT)
  have hr := wid_range k
  have hsz : S.size ≤ 10 := by
    rw [hS]; unfold cut10
    split
    · rw [extract_mkb, mkb_size, List.length_take]; omega
    · omega
  have W1 := Lib.hid (fun w hT => width_any k w hk hT)
  have W2 := Lib.hid (fun w => rwidth_any k w hk)
  have S1 := Lib.hid (fun w => signed_any k w hk)
  have S2 := Lib.hid (fun w => rsigned_any k w hk)
  have C1 := Lib.hid (fun w hT => clip_any k n w hk hn hT)
  have C2 := Lib.hid (fun w => rclip_any k n w hk hn)
  have B1 := Lib.hid (fun w hT => bytes_any k n w hk hn hT)
  have b2 := fun w => rput_any n (wid k) w hn (wf_i64 (by omega) (by omega))
  simp only [wide_wid] at b2
  have B2 := Lib.hid b2
  have R1 := Lib.hid (fun w hT => read_any k S w hk (by omega) hT)
  have R2 := Lib.hid (fun w => rread_any k S w hk (by omega))
  have hB := Below.refl w.heap.size w
  clear b2 hr
  generalize readV k S = rv at *
  generalize readE k S = re at *
  generalize mkb (putL n.toNat (wid k).toNat) = P at *
  generalize clipS k n = c at *
  generalize wid k = a at *
  generalize sgn k = g at *
  by_cases h : 10 < s.size
  · have e : S = s.extract 0 10 := by rw [hS]; unfold cut10; rw [if_pos h]
    subst e
    clear hS hsz
    go_enter Tryd.func3, Tryd.ntmps3
    go_wp2_with (first
      | (go_at_call 11; with_reducible refine (HA.out _ hT).mono ?_; rintro e v1 ⟨rfl, hb⟩; replace hT := hT.below hb hT.pos; replace hB := hB.trans (hb.mono hB.size))
      | (go_at_call 12; with_reducible refine (R1.out _ hT).mono ?_; rintro e v1 ⟨rfl, rfl⟩)
      | (go_at_call 13; with_reducible refine (R2.out _).mono ?_; rintro e v1 ⟨rfl, rfl⟩)
      | (go_at_call 14; with_reducible refine (W1.out _ hT).mono ?_; rintro e v1 ⟨rfl, rfl⟩)
      | (go_at_call 15; with_reducible refine (W2.out _).mono ?_; rintro e v1 ⟨rfl, rfl⟩)
      | (go_at_call 16; with_reducible refine (S1.out _).mono ?_; rintro e v1 ⟨rfl, rfl⟩)
      | (go_at_call 17; with_reducible refine (S2.out _).mono ?_; rintro e v1 ⟨rfl, rfl⟩)
      | (go_at_call 18; with_reducible refine (C1.out _ hT).mono ?_; rintro e v1 ⟨rfl, rfl⟩)
      | (go_at_call 19; with_reducible refine (C2.out _).mono ?_; rintro e v1 ⟨rfl, rfl⟩)
      | (go_at_call 20; with_reducible refine (B1.out _ hT).mono ?_; rintro e v1 ⟨rfl, hb⟩; replace hT := hT.below hb hT.pos; replace hB := hB.trans (hb.mono hB.size))
      | (go_at_call 21; with_reducible refine (B2.out _).mono ?_; rintro e v1 ⟨rfl, hb⟩; replace hT := hT.below hb hT.pos; replace hB := hB.trans (hb.mono hB.size)))
    go_ret
    exact ⟨rfl, hB⟩
  · have e : S = s := by rw [hS]; unfold cut10; rw [if_neg h]
    subst e
    clear hS hsz
    go_enter Tryd.func3, Tryd.ntmps3
    go_wp2_with (first
      | (go_at_call 11; with_reducible refine (HA.out _ hT).mono ?_; rintro e v1 ⟨rfl, hb⟩; replace hT := hT.below hb hT.pos; replace hB := hB.trans (hb.mono hB.size))
      | (go_at_call 12; with_reducible refine (R1.out _ hT).mono ?_; rintro e v1 ⟨rfl, rfl⟩)
      | (go_at_call 13; with_reducible refine (R2.out _).mono ?_; rintro e v1 ⟨rfl, rfl⟩)
      | (go_at_call 14; with_reducible refine (W1.out _ hT).mono ?_; rintro e v1 ⟨rfl, rfl⟩)
      | (go_at_call 15; with_reducible refine (W2.out _).mono ?_; rintro e v1 ⟨rfl, rfl⟩)
      | (go_at_call 16; with_reducible refine (S1.out _).mono ?_; rintro e v1 ⟨rfl, rfl⟩)
      | (go_at_call 17; with_reducible refine (S2.out _).mono ?_; rintro e v1 ⟨rfl, rfl⟩)
      | (go_at_call 18; with_reducible refine (C1.out _ hT).mono ?_; rintro e v1 ⟨rfl, rfl⟩)
      | (go_at_call 19; with_reducible refine (C2.out _).mono ?_; rintro e v1 ⟨rfl, rfl⟩)
      | (go_at_call 20; with_reducible refine (B1.out _ hT).mono ?_; rintro e v1 ⟨rfl, hb⟩; replace hT := hT.below hb hT.pos; replace hB := hB.trans (hb.mono hB.size))
      | (go_at_call 21; with_reducible refine (B2.out _).mono ?_; rintro e v1 ⟨rfl, hb⟩; replace hT := hT.below hb hT.pos; replace hB := hB.trans (hb.mono hB.size)))
    go_ret
    exact ⟨rfl, hB⟩

theorem walk (k n : Int) (s : ByteArray) (w : World) (hk : (Lit.int .i64 k).wf = true) (hn : (Lit.int .u64 n).wf = true) (hs : s.size ≤ maxLen) (hT : Tab w) :
    Calls Tryd.prog 3 #[.int .i64 k, .int .u64 n, .string s] w fun e w' => e = .returned (.bool true) ∧ Below w.heap.size w w' :=
  core k n s _ w hk hn hs rfl hT

set_option maxRecDepth 100000 in
theorem lifted (os : Os) (started : os.Started) (H : Type) (enc : TypeId × Value → H) :
    ReturnsInHanded {} Tryd.checked os 3 .any (fun w args => (Rows.wordKindsSpec.pre enc Tryd.prog Tryd.f3 Rows.wordKindsRow.domain false w args ∧ laidMet Tryd.prog Rows.wordKindsRow.laid w) ∧ sizedMet enc Tryd.prog Tryd.f3 (OpenSpec.ofChange Rows.wordKindsSpec) false w args) (Rows.wordKindsSpec.post enc Tryd.prog Tryd.f3 false true false false) := by
  refine returnsInHanded_of_change_and (C := Tryd.checked) (X := fun w _ => laidMet Tryd.prog Rows.wordKindsRow.laid w) (fun _ _ _ hh h => h.of_heap hh) own started (by kernel_rfl) Tryd.func3
    (ChangeSpec.witness_at (enc := enc) (C := Tryd.checked) (os := os) (X := fun w _ => laidMet Tryd.prog Rows.wordKindsRow.laid w) false (laidWorld os) #[.int .i64 0, .int .u64 0, .string ⟨#[]⟩] 8 rfl (by kernel_rfl) (by kernel_rfl) (by kernel_rfl) (by kernel_rfl) (by kernel_rfl) (laid_met os _)) ?_
  intro W base args ds gs before hval0 hW hcnd _ hL _
  have hval : ∀ (j : Nat) t v, Tryd.f3.params[j]? = some t → args[j]? = some v → Value.okWide Tryd.prog W .any base t v := hval0
  have hW' := hW
  obtain ⟨p, q, hA0, hV, rfl, hfz, hnd⟩ := hW
  have hA : DataW.TrodAll enc Tryd.prog W 0 (fun _ => true) true Tryd.f3.params.toList args.toList ds p := hA0
  rw [Tryd.params3] at hA hval
  obtain ⟨v0, vs0, d0, ds0, p0, q0, hargs, rfl, rfl, h0, r0⟩ := trodAll_cons hA
  obtain ⟨v1, vs1, d1, ds1, p1, q1, rfl, rfl, rfl, h1, r1⟩ := trodAll_cons r0
  obtain ⟨v2, vs2, d2, ds2, p2, q2, rfl, rfl, rfl, h2, r2⟩ := trodAll_cons r1
  obtain ⟨rfl, rfl, rfl⟩ := trodAll_nil r2
  obtain rfl : args = #[v0, v1, v2] := by cases args; simp_all
  obtain ⟨rfl, rfl⟩ := trodVars_none hV
  have k0 := h0
  have lt0 : ∀ x ∈ p0, x.block < W.heap.size := by obtain ⟨m, hm⟩ := k0; exact DataW.trod_lt m _ _ _ hm
  obtain ⟨a0, rfl, _, _, w0⟩ := open_int Tryd.underlying3 (hval 0 3 v0 rfl rfl) h0
  have k1 := h1
  have lt1 : ∀ x ∈ p1, x.block < W.heap.size := by obtain ⟨m, hm⟩ := k1; exact DataW.trod_lt m _ _ _ hm
  obtain ⟨a1, rfl, _, _, w1⟩ := open_int Tryd.underlying22 (hval 1 22 v1 rfl rfl) h1
  have k2 := h2
  have lt2 : ∀ x ∈ p2, x.block < W.heap.size := by obtain ⟨m, hm⟩ := k2; exact DataW.trod_lt m _ _ _ hm
  obtain ⟨a2, rfl, _, _, w2⟩ := open_string Tryd.underlying9 (hval 2 9 v2 rfl rfl) h2
  clear hA0 hval0
  refine (walk a0 a1 a2 W w0 w1 w2 (tab_of_laid hL)).mono fun e W' ⟨he, bel⟩ => ?_
  subst he
  exact ⟨_, rfl, _, _, _, [], _, [], hW', trodAll_mk1 (shut_bool Tryd.underlying4 _), (trodAll_cons_mk (Below.trod laidOut (by kernel_rfl) (of_decide_eq_true (by kernel_rfl)) k0 bel lt0) (trodAll_cons_mk (Below.trod laidOut (by kernel_rfl) (of_decide_eq_true (by kernel_rfl)) k1 bel lt1) (trodAll_cons_mk (Below.trod laidOut (by kernel_rfl) (of_decide_eq_true (by kernel_rfl)) k2 bel lt2) trodAll_mk0))), rfl, bel.frame _, fun h => by cases h⟩
theorem over : Rows.wordKindsRow.holds Tryd.pinned (OpenSpec.ofChange Rows.wordKindsSpec) :=
  OpenClaim.holds_of_wide 3 Tryd.f3 rfl rfl rfl rfl rfl rfl rfl ⟨rfl, rfl, rfl, rfl, rfl⟩ rfl rfl rfl rfl rfl (by kernel_rfl) Tryd.func3 (by kernel_rfl)
    (of_decide_eq_true (by kernel_rfl)) (by unfold Func.isWrapper; first | (rw [if_pos (by decide +kernel)]; kernel_rfl) | (rw [if_neg (by decide +kernel)]; exact ⟨rfl, rfl⟩))
    (fun os started H enc _ => lifted os started H enc)
/-- The statement. -/
theorem proved : Rows.WordKindsCardSaid :=
  Claim7.holds_tied_plain_at .later [] [.data] true _ false over (fun _ h => by cases h) (by kernel_rfl) (fun _ h => by cases h) wordKinds_row_tie rfl ⟨rfl, rfl⟩ (by kernel_rfl) rfl
    (fun f fn hf hfn => by
      obtain rfl : f = 3 := Option.some.inj (hf.symm.trans (by kernel_rfl))
      obtain rfl : fn = Tryd.f3 := Option.some.inj (hfn.symm.trans Tryd.func3)
      refine ⟨by kernel_rfl, fun j t ht => ?_⟩
      rw [Tryd.params3] at ht
      match j, ht with
      | 0, ht =>
        obtain rfl : t = 3 := by simpa using ht.symm
        exact (by kernel_rfl : Tryd.pinned.checked.prog.wantsStandIn 3 = false)
      | 1, ht =>
        obtain rfl : t = 22 := by simpa using ht.symm
        exact (by kernel_rfl : Tryd.pinned.checked.prog.wantsStandIn 22 = false)
      | 2, ht =>
        obtain rfl : t = 9 := by simpa using ht.symm
        exact (by kernel_rfl : Tryd.pinned.checked.prog.wantsStandIn 9 = false)
      | j + 3, ht => simp at ht)
    (by kernel_rfl)
end Go.Proofs.YtgiidhmjkkgkaaaDoor.lawKinds
