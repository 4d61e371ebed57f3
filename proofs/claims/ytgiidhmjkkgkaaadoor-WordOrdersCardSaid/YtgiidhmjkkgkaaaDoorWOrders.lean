/- WordOrders: any two words are in the order, and the least and the greatest of them are, as the reference says. -/
import Derived.Test.YtgiidhmjkkgkaaaDoorWT
namespace Go.Proofs.YtgiidhmjkkgkaaaDoor.lawOrders
open Go.ChangeShapes Go.WideShapes Go.ChangeAt Go.RowKit
set_option linter.unusedVariables false
set_option linter.unusedSimpArgs false

theorem cmp_none {k : Int} (hz : wid k = 0) (a b : Int) : cmpS k a b = 0 := by
  have hk' := wid_zero.1 hz
  unfold cmpS
  have z : ∀ n, clipS k n = 0 := fun n => by unfold clipS; (repeat rw [if_neg (by omega)])
  rw [if_neg (by omega), z, z]
  have : lessS k 0 0 = false := by unfold lessS; rw [if_neg (by omega)]; split <;> simp
  simp [this]

set_option maxHeartbeats 3200000 in
theorem walk (k a b : Int) (w : World) (hk : (Lit.int .i64 k).wf = true) (ha : (Lit.int .u64 a).wf = true) (hb : (Lit.int .u64 b).wf = true) (hT : Tab w) :
    Calls Tryd.prog 5 #[.int .i64 k, .int .u64 a, .int .u64 b] w fun e w' => e = .returned (.bool true) ∧ Below w.heap.size w w' := by
  have HA := Lib.hid (fun w hT => awake_any w hT)
  have W1 := Lib.hid (fun w => rwidth_any k w hk)
  have k1 := fun w hT => compare_any k a b w hk ha hb hT
  have hB := Below.refl w.heap.size w
  by_cases hz : wid k = 0
  · simp only [cmp_none hz] at k1
    have K1 := Lib.hid k1
    rw [hz] at W1
    clear hz k1
    go_enter Tryd.func5, Tryd.ntmps5
    go_wp2_with (first
      | (go_at_call 11; with_reducible refine (HA.out _ hT).mono ?_; rintro e v1 ⟨rfl, hb⟩; replace hT := hT.below hb hT.pos; replace hB := hB.trans (hb.mono hB.size))
      | (go_at_call 15; with_reducible refine (W1.out _).mono ?_; rintro e v1 ⟨rfl, rfl⟩)
      | (go_at_call 24; with_reducible refine (K1.out _ hT).mono ?_; rintro e v1 ⟨rfl, hb⟩; replace hT := hT.below hb hT.pos; replace hB := hB.trans (hb.mono hB.size)))
    go_ret
    exact ⟨rfl, hB⟩
  · have hz0 : (wid k == 0) = false := by simpa using hz
    have K1 := Lib.hid k1
    have K2 := Lib.hid (fun w => rcompare_any k a b w hk ha hb)
    have L1 := Lib.hid (fun w hT => least_any k a b w hk ha hb hT)
    have G1 := Lib.hid (fun w hT => great_any k a b w hk ha hb hT)
    have p1 := fun w => pick_any k a b true w hk ha hb
    have p2 := fun w => pick_any k a b false w hk ha hb
    simp only [if_true, Bool.false_eq_true, if_false] at p1 p2
    have P1 := Lib.hid p1
    have P2 := Lib.hid p2
    clear hz k1 p1 p2
    generalize leastS k a b = l at *
    generalize greatS k a b = g at *
    generalize cmpS k a b = c at *
    generalize wid k = wd at *
    go_enter Tryd.func5, Tryd.ntmps5
    go_wp2_with (first
      | (go_at_call 11; with_reducible refine (HA.out _ hT).mono ?_; rintro e v1 ⟨rfl, hb⟩; replace hT := hT.below hb hT.pos; replace hB := hB.trans (hb.mono hB.size))
      | (go_at_call 15; with_reducible refine (W1.out _).mono ?_; rintro e v1 ⟨rfl, rfl⟩)
      | (go_at_call 24; with_reducible refine (K1.out _ hT).mono ?_; rintro e v1 ⟨rfl, hb⟩; replace hT := hT.below hb hT.pos; replace hB := hB.trans (hb.mono hB.size))
      | (go_at_call 25; with_reducible refine (K2.out _).mono ?_; rintro e v1 ⟨rfl, hb⟩; replace hT := hT.below hb hT.pos; replace hB := hB.trans (hb.mono hB.size))
      | (go_at_call 26; with_reducible refine (L1.out _ hT).mono ?_; rintro e v1 ⟨rfl, hb⟩; replace hT := hT.below hb hT.pos; replace hB := hB.trans (hb.mono hB.size))
      | (go_at_call 28; with_reducible refine (G1.out _ hT).mono ?_; rintro e v1 ⟨rfl, hb⟩; replace hT := hT.below hb hT.pos; replace hB := hB.trans (hb.mono hB.size))
      | (go_at_call 27; with_reducible refine (P1.out _).mono ?_; rintro e v1 ⟨rfl, hb⟩; replace hT := hT.below hb hT.pos; replace hB := hB.trans (hb.mono hB.size))
      | (go_at_call 27; with_reducible refine (P2.out _).mono ?_; rintro e v1 ⟨rfl, hb⟩; replace hT := hT.below hb hT.pos; replace hB := hB.trans (hb.mono hB.size)))
    go_ret
    exact ⟨rfl, hB⟩

set_option maxRecDepth 100000 in
theorem lifted (os : Os) (started : os.Started) (H : Type) (enc : TypeId × Value → H) :
    ReturnsInHanded {} Tryd.checked os 5 .any (fun w args => (Rows.wordOrdersSpec.pre enc Tryd.prog Tryd.f5 Rows.wordOrdersRow.domain false w args ∧ laidMet Tryd.prog Rows.wordOrdersRow.laid w) ∧ sizedMet enc Tryd.prog Tryd.f5 (OpenSpec.ofChange Rows.wordOrdersSpec) false w args) (Rows.wordOrdersSpec.post enc Tryd.prog Tryd.f5 false true false false) := by
  refine returnsInHanded_of_change_and (C := Tryd.checked) (X := fun w _ => laidMet Tryd.prog Rows.wordOrdersRow.laid w) (fun _ _ _ hh h => h.of_heap hh) own started (by kernel_rfl) Tryd.func5
    (ChangeSpec.witness_at (enc := enc) (C := Tryd.checked) (os := os) (X := fun w _ => laidMet Tryd.prog Rows.wordOrdersRow.laid w) false (laidWorld os) #[.int .i64 0, .int .u64 0, .int .u64 0] 8 rfl (by kernel_rfl) (by kernel_rfl) (by kernel_rfl) (by kernel_rfl) (by kernel_rfl) (laid_met os _)) ?_
  intro W base args ds gs before hval0 hW hcnd _ hL _
  have hval : ∀ (j : Nat) t v, Tryd.f5.params[j]? = some t → args[j]? = some v → Value.okWide Tryd.prog W .any base t v := hval0
  have hW' := hW
  obtain ⟨p, q, hA0, hV, rfl, hfz, hnd⟩ := hW
  have hA : DataW.TrodAll enc Tryd.prog W 0 (fun _ => true) true Tryd.f5.params.toList args.toList ds p := hA0
  rw [Tryd.params5] at hA hval
  obtain ⟨v0, vs0, d0, ds0, p0, q0, hargs, rfl, rfl, h0, r0⟩ := trodAll_cons hA
  obtain ⟨v1, vs1, d1, ds1, p1, q1, rfl, rfl, rfl, h1, r1⟩ := trodAll_cons r0
  obtain ⟨v2, vs2, d2, ds2, p2, q2, rfl, rfl, rfl, h2, r2⟩ := trodAll_cons r1
  obtain ⟨rfl, rfl, rfl⟩ := trodAll_nil r2
  obtain rfl : args = #[v0, v1, v2] := by cases args; simp_all
  obtain ⟨rfl, rfl⟩ := trodVars_none hV
  have k0 := h0
  have lt0 : ∀ x ∈ p0, x.block < W.heap.size := by obtain ⟨m, hm⟩ := k0; exact DataW.trod_lt m _ _ _ hm
  obtain ⟨a0, rfl, _, _, w0⟩ := open_int Tryd.underlying3 (hval 0 3 v0 rfl rfl) h0
  have k1 := h1
  have lt1 : ∀ x ∈ p1, x.block < W.heap.size := by obtain ⟨m, hm⟩ := k1; exact DataW.trod_lt m _ _ _ hm
  obtain ⟨a1, rfl, _, _, w1⟩ := open_int Tryd.underlying22 (hval 1 22 v1 rfl rfl) h1
  have k2 := h2
  have lt2 : ∀ x ∈ p2, x.block < W.heap.size := by obtain ⟨m, hm⟩ := k2; exact DataW.trod_lt m _ _ _ hm
  obtain ⟨a2, rfl, _, _, w2⟩ := open_int Tryd.underlying22 (hval 2 22 v2 rfl rfl) h2
  clear hA0 hval0
  refine (walk a0 a1 a2 W w0 w1 w2 (tab_of_laid hL)).mono fun e W' ⟨he, bel⟩ => ?_
  subst he
  exact ⟨_, rfl, _, _, _, [], _, [], hW', trodAll_mk1 (shut_bool Tryd.underlying4 _), (trodAll_cons_mk (Below.trod laidOut (by kernel_rfl) (of_decide_eq_true (by kernel_rfl)) k0 bel lt0) (trodAll_cons_mk (Below.trod laidOut (by kernel_rfl) (of_decide_eq_true (by kernel_rfl)) k1 bel lt1) (trodAll_cons_mk (Below.trod laidOut (by kernel_rfl) (of_decide_eq_true (by kernel_rfl)) k2 bel lt2) trodAll_mk0))), rfl, bel.frame _, fun h => by cases h⟩
theorem over : Rows.wordOrdersRow.holds Tryd.pinned (OpenSpec.ofChange Rows.wordOrdersSpec) :=
  OpenClaim.holds_of_wide 5 Tryd.f5 rfl rfl rfl rfl rfl rfl rfl ⟨rfl, rfl, rfl, rfl, rfl⟩ rfl rfl rfl rfl rfl (by kernel_rfl) Tryd.func5 (by kernel_rfl)
    (of_decide_eq_true (by kernel_rfl)) (by unfold Func.isWrapper; first | (rw [if_pos (by decide +kernel)]; kernel_rfl) | (rw [if_neg (by decide +kernel)]; exact ⟨rfl, rfl⟩))
    (fun os started H enc _ => lifted os started H enc)
/-- The statement. -/
theorem proved : Rows.WordOrdersCardSaid :=
  Claim7.holds_tied_plain_at .later [] [.data] true _ false over (fun _ h => by cases h) (by kernel_rfl) (fun _ h => by cases h) wordOrders_row_tie rfl ⟨rfl, rfl⟩ (by kernel_rfl) rfl
    (fun f fn hf hfn => by
      obtain rfl : f = 5 := Option.some.inj (hf.symm.trans (by kernel_rfl))
      obtain rfl : fn = Tryd.f5 := Option.some.inj (hfn.symm.trans Tryd.func5)
      refine ⟨by kernel_rfl, fun j t ht => ?_⟩
      rw [Tryd.params5] at ht
      match j, ht with
      | 0, ht =>
        obtain rfl : t = 3 := by simpa using ht.symm
        exact (by kernel_rfl : Tryd.pinned.checked.prog.wantsStandIn 3 = false)
      | 1, ht =>
        obtain rfl : t = 22 := by simpa using ht.symm
        exact (by kernel_rfl : Tryd.pinned.checked.prog.wantsStandIn 22 = false)
      | 2, ht =>
        obtain rfl : t = 22 := by simpa using ht.symm
        exact (by kernel_rfl : Tryd.pinned.checked.prog.wantsStandIn 22 = false)
      | j + 3, ht => simp at ht)
    (by kernel_rfl)
end Go.Proofs.YtgiidhmjkkgkaaaDoor.lawOrders
