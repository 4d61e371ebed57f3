/- FaultPerms: for any Perm and any use: each use hangs on a bit of its own. -/
import Derived.Test.YtdfokgfcohfgeaaDoorMG
namespace Go.Proofs.YtdfokgfcohfgeaaDoor.lawPerms
open Go.RowKit Go.ChangeShapes Go.WideShapes Go.Deep
open Go.Proofs.YtdfokgfcohfgeaaDoor.l16
set_option linter.unusedVariables false
set_option linter.unusedSimpArgs false

set_option maxRecDepth 100000 in
set_option maxHeartbeats 3200000 in
theorem walk (p u : Int) (w : World) (wp : (Lit.int .i64 p).wf = true) (wu : (Lit.int .i64 u).wf = true) (hT : Askd w) :
    Calls Tryd.prog 7 #[.int .i64 p, .int .i64 u] w fun e w' => e = .returned (.bool true) ∧ Below w.heap.size w w' := by
  have HA := Lib.hid (fun (v : World) (h : Askd v) => awakeM v h)
  clear wp
  by_cases h1 : u = 1
  · subst h1
    have H1 := Lib.hid (fun (v : World) (h : Askd v) => allows_any (bits .or .i64 p 4) 1 v h)
    have H2 := Lib.hid (fun (v : World) (h : Askd v) => allows_any (bits .andNot .i64 p 4) 1 v h)
    have H3 := Lib.hid (fun (v : World) (h : Askd v) => allows_any p 1 v h)
    rw [show allowM (bits .or .i64 p 4) 1 = true from hasM_or (by decide)] at H1
    rw [show allowM (bits .andNot .i64 p 4) 1 = false from hasM_andNot p 4] at H2
    obtain ⟨b, hb0⟩ : ∃ b, hasM p 4 = b := ⟨_, rfl⟩
    rw [show allowM p 1 = hasM p 4 from rfl, hb0] at H3
    unfold hasM at hb0
    clear wu
    go_enter Tryd.func7, Tryd.ntmps7
    go_wp2_with (first
      | (go_at_call 9; refine (HA.out _ hT).mono ?_; rintro e v1 ⟨rfl, hb⟩
         have HT1 := Lib.hid ((hT.on hb).alloc (.cells #[.int .i64 4, .int .i64 2, .int .i64 1] 39))
         have HB1 := Lib.hid (hb.alloc hb.size (.cells #[.int .i64 4, .int .i64 2, .int .i64 1] 39))
         clear hb)
      | (go_at_call 14; with_reducible refine (H1.out _ HT1.out).mono ?_; rintro e v ⟨rfl, rfl⟩)
      | (go_at_call 14; with_reducible refine (H2.out _ HT1.out).mono ?_; rintro e v ⟨rfl, rfl⟩)
      | (go_at_call 14; with_reducible refine (H3.out _ HT1.out).mono ?_; rintro e v ⟨rfl, rfl⟩))
    all_goals (go_ret; exact ⟨by simp, HB1.out⟩)
  by_cases h2 : u = 2
  · subst h2
    have H1 := Lib.hid (fun (v : World) (h : Askd v) => allows_any (bits .or .i64 p 2) 2 v h)
    have H2 := Lib.hid (fun (v : World) (h : Askd v) => allows_any (bits .andNot .i64 p 2) 2 v h)
    have H3 := Lib.hid (fun (v : World) (h : Askd v) => allows_any p 2 v h)
    rw [show allowM (bits .or .i64 p 2) 2 = true from hasM_or (by decide)] at H1
    rw [show allowM (bits .andNot .i64 p 2) 2 = false from hasM_andNot p 2] at H2
    obtain ⟨b, hb0⟩ : ∃ b, hasM p 2 = b := ⟨_, rfl⟩
    rw [show allowM p 2 = hasM p 2 from rfl, hb0] at H3
    unfold hasM at hb0
    clear wu
    go_enter Tryd.func7, Tryd.ntmps7
    go_wp2_with (first
      | (go_at_call 9; refine (HA.out _ hT).mono ?_; rintro e v1 ⟨rfl, hb⟩
         have HT1 := Lib.hid ((hT.on hb).alloc (.cells #[.int .i64 4, .int .i64 2, .int .i64 1] 39))
         have HB1 := Lib.hid (hb.alloc hb.size (.cells #[.int .i64 4, .int .i64 2, .int .i64 1] 39))
         clear hb)
      | (go_at_call 14; with_reducible refine (H1.out _ HT1.out).mono ?_; rintro e v ⟨rfl, rfl⟩)
      | (go_at_call 14; with_reducible refine (H2.out _ HT1.out).mono ?_; rintro e v ⟨rfl, rfl⟩)
      | (go_at_call 14; with_reducible refine (H3.out _ HT1.out).mono ?_; rintro e v ⟨rfl, rfl⟩))
    all_goals (go_ret; exact ⟨by simp, HB1.out⟩)
  by_cases h3 : u = 3
  · subst h3
    have H1 := Lib.hid (fun (v : World) (h : Askd v) => allows_any (bits .or .i64 p 1) 3 v h)
    have H2 := Lib.hid (fun (v : World) (h : Askd v) => allows_any (bits .andNot .i64 p 1) 3 v h)
    have H3 := Lib.hid (fun (v : World) (h : Askd v) => allows_any p 3 v h)
    rw [show allowM (bits .or .i64 p 1) 3 = true from hasM_or (by decide)] at H1
    rw [show allowM (bits .andNot .i64 p 1) 3 = false from hasM_andNot p 1] at H2
    obtain ⟨b, hb0⟩ : ∃ b, hasM p 1 = b := ⟨_, rfl⟩
    rw [show allowM p 3 = hasM p 1 from rfl, hb0] at H3
    unfold hasM at hb0
    clear wu
    go_enter Tryd.func7, Tryd.ntmps7
    go_wp2_with (first
      | (go_at_call 9; refine (HA.out _ hT).mono ?_; rintro e v1 ⟨rfl, hb⟩
         have HT1 := Lib.hid ((hT.on hb).alloc (.cells #[.int .i64 4, .int .i64 2, .int .i64 1] 39))
         have HB1 := Lib.hid (hb.alloc hb.size (.cells #[.int .i64 4, .int .i64 2, .int .i64 1] 39))
         clear hb)
      | (go_at_call 14; with_reducible refine (H1.out _ HT1.out).mono ?_; rintro e v ⟨rfl, rfl⟩)
      | (go_at_call 14; with_reducible refine (H2.out _ HT1.out).mono ?_; rintro e v ⟨rfl, rfl⟩)
      | (go_at_call 14; with_reducible refine (H3.out _ HT1.out).mono ?_; rintro e v ⟨rfl, rfl⟩))
    all_goals (go_ret; exact ⟨by simp, HB1.out⟩)
  have H0 := Lib.hid (fun (v : World) (h : Askd v) => allows_any p u v h)
  rw [show allowM p u = false by unfold allowM; rw [if_neg h1, if_neg h2, if_neg h3]] at H0
  by_cases hn : u < 1
  · clear h1 h2 h3 wu
    have q : decide (u < 1) = true := by simpa using hn
    go_enter Tryd.func7, Tryd.ntmps7
    go_wp2_with (first
      | (go_at_call 9; refine (HA.out _ hT).mono ?_; rintro e v1 ⟨rfl, hb⟩
         have HT1 := Lib.hid ((hT.on hb).alloc (.cells #[.int .i64 4, .int .i64 2, .int .i64 1] 39))
         have HB1 := Lib.hid (hb.alloc hb.size (.cells #[.int .i64 4, .int .i64 2, .int .i64 1] 39))
         clear hb)
      | (go_at_call 14; with_reducible refine (H0.out _ HT1.out).mono ?_; rintro e v ⟨rfl, rfl⟩))
    all_goals (go_ret; exact ⟨rfl, HB1.out⟩)
  · have hg : 3 < u := by omega
    have q : decide (u < 1) = false := by simpa using hn
    have q2 : decide (3 < u) = true := by simpa using hg
    clear h1 h2 h3 wu
    go_enter Tryd.func7, Tryd.ntmps7
    go_wp2_with (first
      | (go_at_call 9; refine (HA.out _ hT).mono ?_; rintro e v1 ⟨rfl, hb⟩
         have HT1 := Lib.hid ((hT.on hb).alloc (.cells #[.int .i64 4, .int .i64 2, .int .i64 1] 39))
         have HB1 := Lib.hid (hb.alloc hb.size (.cells #[.int .i64 4, .int .i64 2, .int .i64 1] 39))
         clear hb)
      | (go_at_call 14; with_reducible refine (H0.out _ HT1.out).mono ?_; rintro e v ⟨rfl, rfl⟩))
    all_goals (go_ret; exact ⟨rfl, HB1.out⟩)

set_option maxRecDepth 100000 in
theorem lifted (os : Os) (started : os.Started) (H : Type) (enc : TypeId × Value → H) :
    ReturnsInHanded {} Tryd.checked os 7 .any (fun w args => (Rows.faultPermsSpec.pre enc Tryd.prog Tryd.f7 Rows.faultPermsRow.domain false w args ∧ laidMet Tryd.prog Rows.faultPermsRow.laid w) ∧ sizedMet enc Tryd.prog Tryd.f7 (OpenSpec.ofChange Rows.faultPermsSpec) false w args) (Rows.faultPermsSpec.post enc Tryd.prog Tryd.f7 false true false false) := by
  refine returnsInHanded_of_change_and (C := Tryd.checked) (X := fun w _ => laidMet Tryd.prog Rows.faultPermsRow.laid w) (fun _ _ _ hh h => h.of_heap hh) own started (by kernel_rfl) Tryd.func7
    (ChangeSpec.witness_at (enc := enc) (C := Tryd.checked) (os := os) (X := fun w _ => laidMet Tryd.prog Rows.faultPermsRow.laid w) false (laidWorld os) #[.int .i64 0, .int .i64 0] 8 rfl (by kernel_rfl) (by kernel_rfl) (by kernel_rfl) (by kernel_rfl) (by kernel_rfl) (laid_met os _)) ?_
  intro W base args ds gs before hval0 hW hcnd _ hL _
  have hval : ∀ (j : Nat) t v, Tryd.f7.params[j]? = some t → args[j]? = some v → Value.okWide Tryd.prog W .any base t v := hval0
  have hW' := hW
  obtain ⟨p, q, hA0, hV, rfl, hfz, hnd⟩ := hW
  have hA : DataW.TrodAll enc Tryd.prog W 0 (fun _ => true) true Tryd.f7.params.toList args.toList ds p := hA0
  rw [Tryd.params7] at hA hval
  obtain ⟨v0, vs0, d0, ds0, p0, q0, hargs, rfl, rfl, h0, r0⟩ := trodAll_cons hA
  obtain ⟨v1, vs1, d1, ds1, p1, q1, rfl, rfl, rfl, h1, r1⟩ := trodAll_cons r0
  obtain ⟨rfl, rfl, rfl⟩ := trodAll_nil r1
  obtain rfl : args = #[v0, v1] := by cases args; simp_all
  obtain ⟨rfl, rfl⟩ := trodVars_none hV
  have k0 := h0
  have lt0 : ∀ x ∈ p0, x.block < W.heap.size := by obtain ⟨m, hm⟩ := k0; exact DataW.trod_lt m _ _ _ hm
  obtain ⟨a0, rfl, _, _, w0⟩ := open_int Tryd.underlying3 (hval 0 3 v0 rfl rfl) h0
  have k1 := h1
  have lt1 : ∀ x ∈ p1, x.block < W.heap.size := by obtain ⟨m, hm⟩ := k1; exact DataW.trod_lt m _ _ _ hm
  obtain ⟨a1, rfl, _, _, w1⟩ := open_int Tryd.underlying3 (hval 1 3 v1 rfl rfl) h1
  clear hA0 hval0
  refine (walk a0 a1 W w0 w1 (tab_of_laid hL)).mono fun e W' ⟨he, bel⟩ => ?_
  subst he
  exact ⟨_, rfl, _, _, _, [], _, [], hW', trodAll_mk1 (shut_bool Tryd.underlying4 _), (trodAll_cons_mk (Below.trod laidOut (by kernel_rfl) (of_decide_eq_true (by kernel_rfl)) k0 bel lt0) (trodAll_cons_mk (Below.trod laidOut (by kernel_rfl) (of_decide_eq_true (by kernel_rfl)) k1 bel lt1) trodAll_mk0)), rfl, bel.frame _, fun h => by cases h⟩
theorem over : Rows.faultPermsRow.holds Tryd.pinned (OpenSpec.ofChange Rows.faultPermsSpec) :=
  OpenClaim.holds_of_wide 7 Tryd.f7 rfl rfl rfl rfl rfl rfl rfl ⟨rfl, rfl, rfl, rfl, rfl⟩ rfl rfl rfl rfl rfl (by kernel_rfl) Tryd.func7 (by kernel_rfl)
    (of_decide_eq_true (by kernel_rfl)) (by unfold Func.isWrapper; first | (rw [if_pos (by decide +kernel)]; kernel_rfl) | (rw [if_neg (by decide +kernel)]; exact ⟨rfl, rfl⟩))
    (fun os started H enc _ => lifted os started H enc)
set_option maxRecDepth 100000 in
/-- The statement. -/
theorem proved : Rows.FaultPermsCardSaid :=
  Claim7.holds_tied_plain_at .later [] [.data] true _ false over (fun _ h => by cases h) (by kernel_rfl) (fun _ h => by cases h) faultPerms_row_tie rfl ⟨rfl, rfl⟩ (by kernel_rfl) rfl
    (fun f fn hf hfn => by
      obtain rfl : f = 7 := Option.some.inj (hf.symm.trans (by kernel_rfl))
      obtain rfl : fn = Tryd.f7 := Option.some.inj (hfn.symm.trans Tryd.func7)
      refine ⟨by kernel_rfl, fun j t ht => ?_⟩
      rw [Tryd.params7] at ht
      match j, ht with
      | 0, ht =>
        obtain rfl : t = 3 := by simpa using ht.symm
        exact (by kernel_rfl : Tryd.pinned.checked.prog.wantsStandIn 3 = false)
      | 1, ht =>
        obtain rfl : t = 3 := by simpa using ht.symm
        exact (by kernel_rfl : Tryd.pinned.checked.prog.wantsStandIn 3 = false)
      | j + 2, ht => simp at ht)
    (by kernel_rfl)
end Go.Proofs.YtdfokgfcohfgeaaDoor.lawPerms
