/- FramesWords: for any text, numbers and bits: what is stored is loaded, as its kind has it; all else in the frame is as it was. -/
import Derived.Test.YtdelmhcbmlbojaaDoorPG
import Derived.BigQuiet
namespace Go.Proofs.YtdelmhcbmlbojaaDoor.lawWords
open Go.ChangeShapes Go.WideShapes Go.ChangeAt Go.RowKit
open Go.ChangeMaps (open_string)
set_option linter.unusedVariables false

section
variable {w v : World} {p h g : Nat} {T U Z : ByteArray}
theorem c_take (s : Pw w v p h g (newP 1)) : Calls Tryd.prog 14 #[.pointer (some ⟨p, 0, none⟩)] v fun e v' => e = .returned (.tuple #[.int .i64 0, .int .i64 0]) ∧ Pw w v' p h g ⟨[1], [zsec]⟩ :=
  (pw_take s).mono fun e v' ⟨he, hs⟩ => ⟨he.trans rfl, hs⟩
theorem c_fill (s : Pw w v p h g ⟨[1], [Z]⟩) (hT : T.size = 64) : Calls Tryd.prog 21 #[.pointer (some ⟨p, 0, none⟩), .int .i64 0, .string T] v fun e v' => e = .returned (.int .i64 0) ∧ Pw w v' p h g ⟨[1], [T]⟩ :=
  (pw_fill s 0 T (by omega)).mono fun e v' ⟨he, hs⟩ => by
    have e0 : askE [1] 0 = 0 := by decide
    have e1 : Pol.flE ⟨[1], [Z]⟩ 0 T = 0 := by unfold Pol.flE; rw [if_pos e0, if_pos hT]
    unfold Pol.flX at hs
    rw [e1] at he hs
    exact ⟨he, hs⟩
theorem c_bytes (s : Pw w v p h g ⟨[1], [U]⟩) : Calls Tryd.prog 19 #[.pointer (some ⟨p, 0, none⟩), .int .i64 0] v fun e v' => e = .returned (.tuple #[.string U, .int .i64 0]) ∧ Pw w v' p h g ⟨[1], [U]⟩ :=
  (pw_bytes s 0).mono fun e v' ⟨he, hs⟩ => ⟨he.trans rfl, hs⟩
theorem c_store (s : Pw w v p h g ⟨[1], [T]⟩) (a k x : Int) (ha : (Lit.int .i64 a).wf = true) (hk : (Lit.int .i64 k).wf = true) (hx : (Lit.int .u64 x).wf = true) (hi : inn a (wid k) 64 = true) (hk0 : wid k ≠ 0) :
    Calls Tryd.prog 27 #[.pointer (some ⟨p, 0, none⟩), .int .i64 0, .int .i64 a, .int .i64 k, .int .u64 x] v fun e v' => e = .returned (.int .i64 0) ∧ Pw w v' p h g ⟨[1], [setS T a (wid k) x.toNat]⟩ :=
  (pw_store s 0 a k x ha hk hx).mono fun e v' ⟨he, hs⟩ => by
    have e0 : wdE [1] 0 a k = 0 := by
      unfold wdE
      rw [if_pos (by decide), if_neg hk0, if_pos hi]
    unfold Pol.stX at hs
    rw [e0] at he hs
    exact ⟨he, hs⟩
theorem c_load (s : Pw w v p h g ⟨[1], [U]⟩) (hT : T.size = 64) (a k x : Int) (ha : (Lit.int .i64 a).wf = true) (hk : (Lit.int .i64 k).wf = true) (hx : (Lit.int .u64 x).wf = true) (hi : inn a (wid k) 64 = true) (hk0 : wid k ≠ 0) (hU : U = setS T a (wid k) x.toNat) :
    Calls Tryd.prog 25 #[.pointer (some ⟨p, 0, none⟩), .int .i64 0, .int .i64 a, .int .i64 k] v fun e v' => e = .returned (.tuple #[.int .u64 (clipS k x), .int .i64 0]) ∧ Pw w v' p h g ⟨[1], [U]⟩ :=
  (pw_load s 0 a k ha hk).mono fun e v' ⟨he, hs⟩ => by
    have e0 : wdE [1] 0 a k = 0 := by
      unfold wdE
      rw [if_pos (by decide), if_neg hk0, if_pos hi]
    obtain ⟨x0, x1⟩ := u64_range hx
    have e1 : ldV [1] [U] 0 a k = clipS k x := by
      unfold ldV
      rw [e0, hU, ← part_set (o := T) (a := a) (k := k) (x := x) hT hi hk0 x0 x1]
      rfl
    exact ⟨by rw [he, e0, e1], hs⟩
theorem c_over (s : Pw w v p h g ⟨[1], [U]⟩) (a k : Int) (ha : (Lit.int .i64 a).wf = true) (hk : (Lit.int .i64 k).wf = true) (hi : inn a (wid k) 64 = false) (hk0 : wid k ≠ 0) :
    Calls Tryd.prog 25 #[.pointer (some ⟨p, 0, none⟩), .int .i64 0, .int .i64 a, .int .i64 k] v fun e v' => e = .returned (.tuple #[.int .u64 0, .int .i64 14]) ∧ Below w.heap.size w v' :=
  (pw_load s 0 a k ha hk).mono fun e v' ⟨he, hs⟩ => by
    have e0 : wdE [1] 0 a k = 14 := by
      unfold wdE
      rw [if_pos (by decide), if_neg hk0, if_neg (by rw [hi]; decide)]
    have e1 : ldV [1] [U] 0 a k = 0 := by
      unfold ldV
      rw [e0]
      rfl
    exact ⟨by rw [he, e0, e1], hs.bel⟩
end

/-- A kind and a place, by numbers. -/
theorem nums (q0 q1 : Int) : ∃ (r0 B r1 K E D : Int) (W A : Nat), q0.tmod 9 = r0 ∧ -9 < r0 ∧ r0 < 9 ∧ (r0 + 9).tmod 9 = B ∧ 0 ≤ B ∧ B < 9 ∧ 1 + B = K ∧ wid K = W ∧ 1 ≤ W ∧ W ≤ 8 ∧ 65 - (W : Int) = D ∧
    q1.tmod D = r1 ∧ -65 < r1 ∧ r1 < 65 ∧ r1 + 65 - (W : Int) = E ∧ 0 ≤ E ∧ E.tmod D = A ∧ A + W ≤ 64 := by
  have h1 := Int.tmod_lt_of_pos q0 (show (0 : Int) < 9 by omega)
  have h2 := Int.lt_tmod_of_pos q0 (show (0 : Int) < 9 by omega)
  obtain ⟨r0, hr0⟩ : ∃ r, q0.tmod 9 = r := ⟨_, rfl⟩
  rw [hr0] at h1 h2
  have h3 := Int.tmod_lt_of_pos (r0 + 9) (show (0 : Int) < 9 by omega)
  have h4 := Int.tmod_nonneg (a := r0 + 9) 9 (by omega)
  obtain ⟨B, hB⟩ : ∃ r, (r0 + 9).tmod 9 = r := ⟨_, rfl⟩
  rw [hB] at h3 h4
  have hr := wid_range (1 + B)
  have hz : ¬ wid (1 + B) = 0 := by rw [wid_zero]; omega
  obtain ⟨W, hW⟩ : ∃ W : Nat, wid (1 + B) = W := ⟨(wid (1 + B)).toNat, by omega⟩
  have h5 := Int.tmod_lt_of_pos q1 (show (0 : Int) < 65 - (W : Int) by omega)
  have h6 := Int.lt_tmod_of_pos q1 (show (0 : Int) < 65 - (W : Int) by omega)
  obtain ⟨r1, hr1⟩ : ∃ r, q1.tmod (65 - (W : Int)) = r := ⟨_, rfl⟩
  rw [hr1] at h5 h6
  have h7 := Int.tmod_lt_of_pos (r1 + 65 - (W : Int)) (show (0 : Int) < 65 - (W : Int) by omega)
  have h8 := Int.tmod_nonneg (a := r1 + 65 - (W : Int)) (65 - (W : Int)) (by omega)
  exact ⟨r0, B, r1, 1 + B, r1 + 65 - W, 65 - W, W, ((r1 + 65 - (W : Int)).tmod (65 - (W : Int))).toNat, hr0, by omega, by omega, hB, by omega, by omega, rfl, hW, by omega, by omega, rfl, hr1, by omega, by omega, rfl, by omega, by omega, by omega⟩

set_option maxHeartbeats 3200000 in
theorem core (s c : ByteArray) (q0 q1 n : Int) (w : World) (hs : s.size ≤ maxLen) (hn : (Lit.int .u64 n).wf = true) (hc : c = cut64 s) (hT : Tab w) :
    Calls Tryd.prog 5 #[.string s, .agg #[.int .i64 q0, .int .i64 q1], .int .u64 n] w fun e w' => e = .returned (.bool true) ∧ Below w.heap.size w w' := by
  unfold maxLen at hs
  obtain ⟨r0, B, r1, K, E, D, W, A, n1, n2, n3, n4, n5, n6, n7, n8, n9, n10, n11, n12, n13, n14, n15, n16, n17, n18⟩ := nums q0 q1
  have hA : (Lit.int .i64 (A : Int)).wf = true := wf_i64 (by omega) (by omega)
  have hD : (Lit.int .i64 D).wf = true := wf_i64 (by omega) (by omega)
  have hK : (Lit.int .i64 K).wf = true := wf_i64 (by omega) (by omega)
  have hk0 : wid K ≠ 0 := by omega
  have hi : inn (A : Int) (wid K) 64 = true := by rw [inn_iff]; omega
  have hi2 : inn D (wid K) 64 = false := by
    cases h' : inn D (wid K) 64
    · rfl
    · rw [inn_iff] at h'; omega
  have h64 := pageOf_size s
  have HA := Lib.hid (fun w hT => awake6_any w hT)
  have hT1 := hT.alloc (.cells #[.int .i64 q0, .int .i64 q1] 56)
  have HW := Lib.hid ((Below.refl w.heap.size w).alloc (Nat.le_refl _) (.cells #[.int .i64 q0, .int .i64 q1] 56))
  have KQ := Lib.hid (Blk.new w 56 #[.int .i64 q0, .int .i64 q1])
  have HN := Lib.hid (fun v (hb : Below (w.alloc (.cells #[.int .i64 q0, .int .i64 q1] 56)).heap.size (w.alloc (.cells #[.int .i64 q0, .int .i64 q1] 56)) v) (hT' : Tab v) => pw_new hb hT' hT1.pos 1 (by omega) (by omega))
  have HF := Lib.hid (fun w => fill64_any s w)
  rw [← hc] at HF
  generalize pageOf s = T at *
  have H1 := Lib.hid (fun v p h g (s : Pw (w.alloc (.cells #[.int .i64 q0, .int .i64 q1] 56)) v p h g (newP 1)) => c_take s)
  generalize zsec = Z at *
  have H2 := Lib.hid (fun v p h g (s : Pw (w.alloc (.cells #[.int .i64 q0, .int .i64 q1] 56)) v p h g ⟨[1], [Z]⟩) => c_fill s h64)
  have H3 := Lib.hid (fun v p h g (s : Pw (w.alloc (.cells #[.int .i64 q0, .int .i64 q1] 56)) v p h g ⟨[1], [T]⟩) => c_store s A K n hA hK hn hi hk0)
  obtain ⟨U, hU⟩ : ∃ U, U = setS T A (wid K) n.toNat := ⟨_, rfl⟩
  rw [← hU] at H3
  have H4 := Lib.hid (fun v p h g (s : Pw (w.alloc (.cells #[.int .i64 q0, .int .i64 q1] 56)) v p h g ⟨[1], [U]⟩) => c_load s h64 A K n hA hK hn hi hk0 hU)
  have H5 := Lib.hid (fun v p h g (s : Pw (w.alloc (.cells #[.int .i64 q0, .int .i64 q1] 56)) v p h g ⟨[1], [U]⟩) => c_bytes s)
  have H6 := Lib.hid (fun v p h g (s : Pw (w.alloc (.cells #[.int .i64 q0, .int .i64 q1] 56)) v p h g ⟨[1], [U]⟩) => c_over s D K hD hK hi2 hk0)
  have HR := Lib.hid (fun w => (rclip_any K n w hK hn).mono (R' := fun e w' => e = .returned (.int .u64 (clipS K n)) ∧ w' = w) fun _ _ ⟨he, hw⟩ => ⟨he, hw.symm⟩)
  have hwd := fun w => rwidth_any K w hK
  rw [n8] at hwd
  have HD := Lib.hid hwd
  have hys : (mkb (putL n.toNat W)).size = W := by rw [mkb_size, putL_length]
  have hU2 : U = putAt T A (mkb (putL n.toNat W)) := by rw [hU, n8, setS_in h64 n9 n10 n18]
  have u1 : U.size = 64 := by rw [hU2, putAt_size (by omega), h64]
  obtain ⟨M, hM⟩ : ∃ M, M = A + W := ⟨_, rfl⟩
  have u2 : U.extract 0 A = T.extract 0 A := by rw [hU2]; exact putAt_low (by omega)
  have u3 : U.extract M U.size = T.extract M T.size := by
    have := putAt_high (o := T) (s := mkb (putL n.toNat W)) (n := A) (by omega)
    rw [hys, ← hM, ← hU2] at this
    rw [u1, h64]
    rw [h64] at this
    exact this
  have u4 : ((U.size : Int) != 64) = false := by rw [u1]; decide
  have u5 : A ≤ U.size := by omega
  have u6 : A ≤ T.size := by omega
  have u7 : M ≤ U.size := by omega
  have u8 : M ≤ T.size := by omega
  have u9 : (A : Int) + (W : Int) = (M : Int) := by omega
  have u10 : IntKind.i64.wrap (M : Int) = M := IntWalk.i64_in _ (by omega)
  have u11 : U.size ≤ 281474976710656 := by omega
  have u12 : T.size ≤ 281474976710656 := by omega
  have HB := Lib.hid (Below.refl (w.alloc (.cells #[.int .i64 q0, .int .i64 q1] 56)).heap.size (w.alloc (.cells #[.int .i64 q0, .int .i64 q1] 56)))
  clear hU hU2 h64 hwd hys hM u1 hi hi2 hk0 n8 hA hD hK hn
  generalize clipS K n = C at *
  by_cases hl : 64 < s.size
  · have e : c = s.extract 0 64 := by rw [hc]; unfold cut64; rw [if_pos hl]
    subst e
    clear hc
    go_enter Tryd.func5, Tryd.ntmps5
    go_wp2_with (first
      | (go_at_call 10; refine (HA.out _ hT1).mono ?_; rintro e v0 ⟨rfl, hb⟩; have hB := HB.out.trans hb; replace hT1 := hT1.below hb hT1.pos; clear hb)
      | (go_at_call 11; refine (HN.out _ hB hT1).mono ?_; rintro e v1 ⟨p, h, g, rfl, hS⟩; clear hB)
      | (go_at_call 14; with_reducible refine (H1.out _ _ _ _ hS).mono ?_; rintro e v2 ⟨rfl, hS2⟩; clear hS)
      | (go_at_call 13; refine (HF.out _).mono ?_; rintro e v7 ⟨rfl, hb7⟩; replace hS2 := hS2.on hb7; clear hb7; have kq := KQ.out.below hS2.bel KQ.out.lt; have d0 := kq.at_ 0 _ rfl; have d1 := kq.at_ 1 _ rfl; clear kq)
      | (go_at_call 33; with_reducible refine (HD.out _).mono ?_; rintro e v2 ⟨rfl, rfl⟩)
      | (go_at_call 21; with_reducible refine (H2.out _ _ _ _ hS2).mono ?_; rintro e v2 ⟨rfl, hS3⟩; clear hS2 d0 d1)
      | (go_at_call 27; with_reducible refine (H3.out _ _ _ _ hS3).mono ?_; rintro e v2 ⟨rfl, hS4⟩; clear hS3)
      | (go_at_call 25; with_reducible refine (H4.out _ _ _ _ hS4).mono ?_; rintro e v2 ⟨rfl, hS5⟩; clear hS4)
      | (go_at_call 19; with_reducible refine (H5.out _ _ _ _ hS5).mono ?_; rintro e v2 ⟨rfl, hS6⟩; clear hS5)
      | (go_at_call 25; with_reducible refine (H6.out _ _ _ _ hS6).mono ?_; rintro e v2 ⟨rfl, hbel⟩; clear hS6))
    go_quiet ((go_at_call 34; exact Calls.quiet_of_same (HR.out _)))
    go_wp2
    go_ret
    exact ⟨rfl, HW.out.trans (Below.drewN (hbel.mono (by simp)) _)⟩
  · have e : c = s := by rw [hc]; unfold cut64; rw [if_neg hl]
    subst e
    clear hc
    go_enter Tryd.func5, Tryd.ntmps5
    go_wp2_with (first
      | (go_at_call 10; refine (HA.out _ hT1).mono ?_; rintro e v0 ⟨rfl, hb⟩; have hB := HB.out.trans hb; replace hT1 := hT1.below hb hT1.pos; clear hb)
      | (go_at_call 11; refine (HN.out _ hB hT1).mono ?_; rintro e v1 ⟨p, h, g, rfl, hS⟩; clear hB)
      | (go_at_call 14; with_reducible refine (H1.out _ _ _ _ hS).mono ?_; rintro e v2 ⟨rfl, hS2⟩; clear hS)
      | (go_at_call 13; refine (HF.out _).mono ?_; rintro e v7 ⟨rfl, hb7⟩; replace hS2 := hS2.on hb7; clear hb7; have kq := KQ.out.below hS2.bel KQ.out.lt; have d0 := kq.at_ 0 _ rfl; have d1 := kq.at_ 1 _ rfl; clear kq)
      | (go_at_call 33; with_reducible refine (HD.out _).mono ?_; rintro e v2 ⟨rfl, rfl⟩)
      | (go_at_call 21; with_reducible refine (H2.out _ _ _ _ hS2).mono ?_; rintro e v2 ⟨rfl, hS3⟩; clear hS2 d0 d1)
      | (go_at_call 27; with_reducible refine (H3.out _ _ _ _ hS3).mono ?_; rintro e v2 ⟨rfl, hS4⟩; clear hS3)
      | (go_at_call 25; with_reducible refine (H4.out _ _ _ _ hS4).mono ?_; rintro e v2 ⟨rfl, hS5⟩; clear hS4)
      | (go_at_call 19; with_reducible refine (H5.out _ _ _ _ hS5).mono ?_; rintro e v2 ⟨rfl, hS6⟩; clear hS5)
      | (go_at_call 25; with_reducible refine (H6.out _ _ _ _ hS6).mono ?_; rintro e v2 ⟨rfl, hbel⟩; clear hS6))
    go_quiet ((go_at_call 34; exact Calls.quiet_of_same (HR.out _)))
    go_wp2
    go_ret
    exact ⟨rfl, HW.out.trans (Below.drewN (hbel.mono (by simp)) _)⟩

theorem walk (s : ByteArray) (q0 q1 n : Int) (w : World) (hs : s.size ≤ maxLen) (_ : (Lit.int .i64 q0).wf = true) (_ : (Lit.int .i64 q1).wf = true) (hn : (Lit.int .u64 n).wf = true) (hT : Tab w) :
    Calls Tryd.prog 5 #[.string s, .agg #[.int .i64 q0, .int .i64 q1], .int .u64 n] w fun e w' => e = .returned (.bool true) ∧ Below w.heap.size w w' :=
  core s _ q0 q1 n w hs hn rfl hT

set_option maxRecDepth 100000 in
theorem lifted (os : Os) (started : os.Started) (H : Type) (enc : TypeId × Value → H) :
    ReturnsInHanded {} Tryd.checked os 5 .any (fun w args => (Rows.framesWordsSpec.pre enc Tryd.prog Tryd.f5 Rows.framesWordsRow.domain false w args ∧ laidMet Tryd.prog Rows.framesWordsRow.laid w) ∧ sizedMet enc Tryd.prog Tryd.f5 (OpenSpec.ofChange Rows.framesWordsSpec) false w args) (Rows.framesWordsSpec.post enc Tryd.prog Tryd.f5 false true false false) := by
  refine returnsInHanded_of_change_and (C := Tryd.checked) (X := fun w _ => laidMet Tryd.prog Rows.framesWordsRow.laid w) (fun _ _ _ hh h => h.of_heap hh) own started (by kernel_rfl) Tryd.func5
    (ChangeSpec.witness_at (enc := enc) (C := Tryd.checked) (os := os) (X := fun w _ => laidMet Tryd.prog Rows.framesWordsRow.laid w) false (laidWorld os) #[.string ⟨#[]⟩, .agg #[.int .i64 0, .int .i64 0], .int .u64 0] 8 rfl (by kernel_rfl) (by kernel_rfl) (by kernel_rfl) (by kernel_rfl) (by kernel_rfl) (laid_met os _)) ?_
  intro W base args ds gs before hval0 hW hcnd _ hL _
  have hval : ∀ (j : Nat) t v, Tryd.f5.params[j]? = some t → args[j]? = some v → Value.okWide Tryd.prog W .any base t v := hval0
  have hW' := hW
  obtain ⟨p, q, hA0, hV, rfl, hfz, hnd⟩ := hW
  have hA : DataW.TrodAll enc Tryd.prog W 0 (fun _ => true) true Tryd.f5.params.toList args.toList ds p := hA0
  rw [Tryd.params5] at hA hval
  obtain ⟨v0, vs0, d0, ds0, p0, q0, hargs, rfl, rfl, h0, r0⟩ := trodAll_cons hA
  obtain ⟨v1, vs1, d1, ds1, p1, q1, rfl, rfl, rfl, h1, r1⟩ := trodAll_cons r0
  obtain ⟨v2, vs2, d2, ds2, p2, q2, rfl, rfl, rfl, h2, r2⟩ := trodAll_cons r1
  obtain ⟨rfl, rfl, rfl⟩ := trodAll_nil r2
  obtain rfl : args = #[v0, v1, v2] := by cases args; simp_all
  obtain ⟨rfl, rfl⟩ := trodVars_none hV
  have k0 := h0
  have lt0 : ∀ x ∈ p0, x.block < W.heap.size := by obtain ⟨m, hm⟩ := k0; exact DataW.trod_lt m _ _ _ hm
  obtain ⟨a0, rfl, _, _, w0⟩ := open_string Tryd.underlying9 (hval 0 9 v0 rfl rfl) h0
  have k1 := h1
  have lt1 : ∀ x ∈ p1, x.block < W.heap.size := by obtain ⟨m, hm⟩ := k1; exact DataW.trod_lt m _ _ _ hm
  obtain ⟨z1, e1, hl1, hw1⟩ := open_ints_array Tryd.underlying56 Tryd.underlying3 (by kernel_rfl) (by kernel_rfl) (hval 1 56 v1 rfl rfl) h1
  obtain ⟨a1_0, a1_1, rfl⟩ : ∃ a1_0 a1_1, z1 = [a1_0, a1_1] := by
    match z1, hl1 with
    | [a1_0, a1_1], _ => exact ⟨_, _, rfl⟩
  obtain rfl : v1 = .agg #[.int .i64 a1_0, .int .i64 a1_1] := e1
  have k2 := h2
  have lt2 : ∀ x ∈ p2, x.block < W.heap.size := by obtain ⟨m, hm⟩ := k2; exact DataW.trod_lt m _ _ _ hm
  obtain ⟨a2, rfl, _, _, w2⟩ := open_int Tryd.underlying28 (hval 2 28 v2 rfl rfl) h2
  clear hA0 hval0
  refine (walk a0 a1_0 a1_1 a2 W w0 (hw1 a1_0 (by simp)) (hw1 a1_1 (by simp)) w2 (tab_of_laid hL)).mono fun e W' ⟨he, bel⟩ => ?_
  subst he
  exact ⟨_, rfl, _, _, _, [], _, [], hW', trodAll_mk1 (shut_bool Tryd.underlying4 _), (trodAll_cons_mk (Below.trod laidOut (by kernel_rfl) (of_decide_eq_true (by kernel_rfl)) k0 bel lt0) (trodAll_cons_mk (Below.trod laidOut (by kernel_rfl) (of_decide_eq_true (by kernel_rfl)) k1 bel lt1) (trodAll_cons_mk (Below.trod laidOut (by kernel_rfl) (of_decide_eq_true (by kernel_rfl)) k2 bel lt2) trodAll_mk0))), rfl, bel.frame _, fun h => by cases h⟩
theorem over : Rows.framesWordsRow.holds Tryd.pinned (OpenSpec.ofChange Rows.framesWordsSpec) :=
  OpenClaim.holds_of_wide 5 Tryd.f5 rfl rfl rfl rfl rfl rfl rfl ⟨rfl, rfl, rfl, rfl, rfl⟩ rfl rfl rfl rfl rfl (by kernel_rfl) Tryd.func5 (by kernel_rfl)
    (of_decide_eq_true (by kernel_rfl)) (by unfold Func.isWrapper; first | (rw [if_pos (by decide +kernel)]; kernel_rfl) | (rw [if_neg (by decide +kernel)]; exact ⟨rfl, rfl⟩))
    (fun os started H enc _ => lifted os started H enc)
/-- The statement. -/
theorem proved : Rows.FramesWordsCardSaid :=
  Claim7.holds_tied_plain_at .later [] [.data] true _ false over (fun _ h => by cases h) (by kernel_rfl) (fun _ h => by cases h) framesWords_row_tie rfl ⟨rfl, rfl⟩ (by kernel_rfl) rfl
    (fun f fn hf hfn => by
      obtain rfl : f = 5 := Option.some.inj (hf.symm.trans (by kernel_rfl))
      obtain rfl : fn = Tryd.f5 := Option.some.inj (hfn.symm.trans Tryd.func5)
      refine ⟨by kernel_rfl, fun j t ht => ?_⟩
      rw [Tryd.params5] at ht
      match j, ht with
      | 0, ht =>
        obtain rfl : t = 9 := by simpa using ht.symm
        exact (by kernel_rfl : Tryd.pinned.checked.prog.wantsStandIn 9 = false)
      | 1, ht =>
        obtain rfl : t = 56 := by simpa using ht.symm
        exact (by kernel_rfl : Tryd.pinned.checked.prog.wantsStandIn 56 = false)
      | 2, ht =>
        obtain rfl : t = 28 := by simpa using ht.symm
        exact (by kernel_rfl : Tryd.pinned.checked.prog.wantsStandIn 28 = false)
      | j + 3, ht => simp at ht)
    (by kernel_rfl)
end Go.Proofs.YtdelmhcbmlbojaaDoor.lawWords
