/- ElfReads: for any bytes: the program's Parse tells what the document's tells. -/
import Derived.Test.YtakmmphjdkapeaaDoorEZ
namespace Go.Proofs.YtakmmphjdkapeaaDoor.lawRd
open Go.ChangeShapes Go.WideShapes Go.ChangeAt Go.RowKit Go.ChangeMaps
set_option linter.unusedVariables false
set_option linter.unusedSimpArgs false

set_option maxRecDepth 100000 in
set_option maxHeartbeats 3200000 in
theorem walk (s : ByteArray) (w : World) (ws : s.size ≤ maxLen) (hT : ETab w) :
    Calls Tryd.prog 5 #[.string s] w fun e w' => e = .returned (.bool true) ∧ Below w.heap.size w w' := by
  obtain ⟨s2, hs2, hz2⟩ : ∃ s2, (if 250 < s.size then s.extract 0 250 else s) = s2 ∧ s2.size ≤ 250 := ⟨_, rfl, by
    split
    · rw [extract_mkb, mkb_size, List.length_take]; omega
    · omega⟩
  obtain ⟨k, en, E, l, -, -, hl, h1, h2⟩ := parse_two s2 (by omega)
  have HP := Lib.hid h1
  have HR := Lib.hid h2
  have HS := Lib.hid (rsame_same k en l hl)
  have HA := Lib.hid (fun v (hv : Below w.heap.size w v) => awake8_any v (hT.on hv))
  have HT := Lib.hid (fun v (hv : Below w.heap.size w v) => hT.on hv)
  clear h1 h2 hl hT
  unfold Told at HP HR
  generalize l.length = n at *
  have hB := Below.refl w.heap.size w
  by_cases hc : 250 < s.size
  · rw [if_pos hc] at hs2
    have b1 : (250 : Int) ≤ (s.size : Int) := by omega
    have b2 : (250 : Int) < (s.size : Int) := by omega
    clear hc hz2
    go_enter Tryd.func5, Tryd.ntmps5
    go_wp2_with (first
      | (go_at_call 10; refine (HA.out _ hB).mono ?_; rintro e v1 ⟨rfl, hb⟩; have hB1 := hB.trans (hb.mono hB.size); clear hb)
      | (go_at_call 19; refine (HP.out _ (HT.out _ hB1)).mono ?_; rintro e v2 ⟨A, c, rfl, hr, hb⟩
         have hB2 := (hB1.trans (hb.mono hB1.size)).alloc (by have := hB1.size; have := hb.size; omega) (.cells #[.int .i64 k, .int .i64 en, .slice A n c] 24)
         have k2 := Blk.new v2 24 #[.int .i64 k, .int .i64 en, .slice A n c]
         have r2 := hr.below ((Below.refl v2.heap.size v2).alloc (Nat.le_refl _) (.cells #[.int .i64 k, .int .i64 en, .slice A n c] 24))
         clear hb hr)
      | (go_at_call 20; refine (HR.out _).mono ?_; rintro e v3 ⟨D, d, rfl, hr, hb⟩
         have hB3 := (hB2.trans (hb.mono hB2.size)).alloc (by have := hB2.size; have := hb.size; omega) (.cells #[.int .i64 k, .int .i64 en, .slice D n d] 24)
         have k3 := (k2.below hb k2.lt).alloc (.cells #[.int .i64 k, .int .i64 en, .slice D n d] 24)
         have r3 := (r2.below hb).below ((Below.refl v3.heap.size v3).alloc (Nat.le_refl _) (.cells #[.int .i64 k, .int .i64 en, .slice D n d] 24))
         have q3 := hr.below ((Below.refl v3.heap.size v3).alloc (Nat.le_refl _) (.cells #[.int .i64 k, .int .i64 en, .slice D n d] 24))
         have x0 := k3.at_ 0 _ rfl
         have x1 := k3.at_ 1 _ rfl
         have x2 := k3.at_ 2 _ rfl)
      | (go_at_call 17; refine (HS.out _ _ _ _ _ r3 q3).mono ?_; rintro e v4 ⟨rfl, hb4⟩; have hB4 := hB3.trans (hb4.mono hB3.size)))
    go_ret
    exact ⟨rfl, hB4⟩
  · rw [if_neg hc] at hs2
    subst hs2
    have b2 : ¬ (250 : Int) < (s.size : Int) := by omega
    clear hc hz2
    go_enter Tryd.func5, Tryd.ntmps5
    go_wp2_with (first
      | (go_at_call 10; refine (HA.out _ hB).mono ?_; rintro e v1 ⟨rfl, hb⟩; have hB1 := hB.trans (hb.mono hB.size); clear hb)
      | (go_at_call 19; refine (HP.out _ (HT.out _ hB1)).mono ?_; rintro e v2 ⟨A, c, rfl, hr, hb⟩
         have hB2 := (hB1.trans (hb.mono hB1.size)).alloc (by have := hB1.size; have := hb.size; omega) (.cells #[.int .i64 k, .int .i64 en, .slice A n c] 24)
         have k2 := Blk.new v2 24 #[.int .i64 k, .int .i64 en, .slice A n c]
         have r2 := hr.below ((Below.refl v2.heap.size v2).alloc (Nat.le_refl _) (.cells #[.int .i64 k, .int .i64 en, .slice A n c] 24))
         clear hb hr)
      | (go_at_call 20; refine (HR.out _).mono ?_; rintro e v3 ⟨D, d, rfl, hr, hb⟩
         have hB3 := (hB2.trans (hb.mono hB2.size)).alloc (by have := hB2.size; have := hb.size; omega) (.cells #[.int .i64 k, .int .i64 en, .slice D n d] 24)
         have k3 := (k2.below hb k2.lt).alloc (.cells #[.int .i64 k, .int .i64 en, .slice D n d] 24)
         have r3 := (r2.below hb).below ((Below.refl v3.heap.size v3).alloc (Nat.le_refl _) (.cells #[.int .i64 k, .int .i64 en, .slice D n d] 24))
         have q3 := hr.below ((Below.refl v3.heap.size v3).alloc (Nat.le_refl _) (.cells #[.int .i64 k, .int .i64 en, .slice D n d] 24))
         have x0 := k3.at_ 0 _ rfl
         have x1 := k3.at_ 1 _ rfl
         have x2 := k3.at_ 2 _ rfl)
      | (go_at_call 17; refine (HS.out _ _ _ _ _ r3 q3).mono ?_; rintro e v4 ⟨rfl, hb4⟩; have hB4 := hB3.trans (hb4.mono hB3.size)))
    go_ret
    exact ⟨rfl, hB4⟩
open Go.Proofs.YtakmmphjdkapeaaDoor.l8
set_option maxRecDepth 100000 in
theorem lifted (os : Os) (started : os.Started) (H : Type) (enc : TypeId × Value → H) :
    ReturnsInHanded {} Tryd.checked os 5 .any (fun w args => (Rows.elfReadsSpec.pre enc Tryd.prog Tryd.f5 Rows.elfReadsRow.domain false w args ∧ laidMet Tryd.prog Rows.elfReadsRow.laid w) ∧ sizedMet enc Tryd.prog Tryd.f5 (OpenSpec.ofChange Rows.elfReadsSpec) false w args) (Rows.elfReadsSpec.post enc Tryd.prog Tryd.f5 false true false false) := by
  refine returnsInHanded_of_change_and (C := Tryd.checked) (X := fun w _ => laidMet Tryd.prog Rows.elfReadsRow.laid w) (fun _ _ _ hh h => h.of_heap hh) own started (by kernel_rfl) Tryd.func5
    (ChangeSpec.witness_at (enc := enc) (C := Tryd.checked) (os := os) (X := fun w _ => laidMet Tryd.prog Rows.elfReadsRow.laid w) false (laidWorld os) #[.string ⟨#[]⟩] 8 rfl (by kernel_rfl) (by kernel_rfl) (by kernel_rfl) (by kernel_rfl) (by kernel_rfl) (laid_met os _)) ?_
  intro W base args ds gs before hval0 hW hcnd _ hL _
  have hval : ∀ (j : Nat) t v, Tryd.f5.params[j]? = some t → args[j]? = some v → Value.okWide Tryd.prog W .any base t v := hval0
  have hW' := hW
  obtain ⟨p, q, hA0, hV, rfl, hfz, hnd⟩ := hW
  have hA : DataW.TrodAll enc Tryd.prog W 0 (fun _ => true) true Tryd.f5.params.toList args.toList ds p := hA0
  rw [Tryd.params5] at hA hval
  obtain ⟨v0, vs0, d0, ds0, p0, q0, hargs, rfl, rfl, h0, r0⟩ := trodAll_cons hA
  obtain ⟨rfl, rfl, rfl⟩ := trodAll_nil r0
  obtain rfl : args = #[v0] := by cases args; simp_all
  obtain ⟨rfl, rfl⟩ := trodVars_none hV
  have k0 := h0
  have lt0 : ∀ x ∈ p0, x.block < W.heap.size := by obtain ⟨m, hm⟩ := k0; exact DataW.trod_lt m _ _ _ hm
  obtain ⟨a0, rfl, _, _, w0⟩ := open_string Tryd.underlying9 (hval 0 9 v0 rfl rfl) h0
  clear hA0 hval0
  refine (walk a0 W w0 (tab_of_laid hL)).mono fun e W' ⟨he, bel⟩ => ?_
  subst he
  exact ⟨_, rfl, _, _, _, [], _, [], hW', trodAll_mk1 (shut_bool Tryd.underlying4 _), (trodAll_cons_mk (Below.trod laidOut (by kernel_rfl) (of_decide_eq_true (by kernel_rfl)) k0 bel lt0) trodAll_mk0), rfl, bel.frame _, fun h => by cases h⟩
theorem over : Rows.elfReadsRow.holds Tryd.pinned (OpenSpec.ofChange Rows.elfReadsSpec) :=
  OpenClaim.holds_of_wide 5 Tryd.f5 rfl rfl rfl rfl rfl rfl rfl ⟨rfl, rfl, rfl, rfl, rfl⟩ rfl rfl rfl rfl rfl (by kernel_rfl) Tryd.func5 (by kernel_rfl)
    (of_decide_eq_true (by kernel_rfl)) (by unfold Func.isWrapper; first | (rw [if_pos (by decide +kernel)]; kernel_rfl) | (rw [if_neg (by decide +kernel)]; exact ⟨rfl, rfl⟩))
    (fun os started H enc _ => lifted os started H enc)
set_option maxRecDepth 100000 in
/-- The statement. -/
theorem proved : Rows.ElfReadsCardSaid :=
  Claim7.holds_tied_plain_at .later [] [.data, .data] true _ false over (fun _ h => by cases h) (by kernel_rfl) (fun _ h => by cases h) elfReads_row_tie rfl ⟨rfl, rfl⟩ (by kernel_rfl) rfl
    (fun f fn hf hfn => by
      obtain rfl : f = 5 := Option.some.inj (hf.symm.trans (by kernel_rfl))
      obtain rfl : fn = Tryd.f5 := Option.some.inj (hfn.symm.trans Tryd.func5)
      refine ⟨by kernel_rfl, fun j t ht => ?_⟩
      rw [Tryd.params5] at ht
      match j, ht with
      | 0, ht =>
        obtain rfl : t = 9 := by simpa using ht.symm
        exact (by kernel_rfl : Tryd.pinned.checked.prog.wantsStandIn 9 = false)
      | j + 1, ht => simp at ht)
    (by kernel_rfl)
end Go.Proofs.YtakmmphjdkapeaaDoor.lawRd
