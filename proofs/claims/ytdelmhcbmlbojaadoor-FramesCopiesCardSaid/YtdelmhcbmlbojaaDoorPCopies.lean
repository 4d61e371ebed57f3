/- FramesCopies: for any text and numbers: a copy has the same bytes, is held once, and changes alone. -/
import Derived.Test.YtdelmhcbmlbojaaDoorPG
import Derived.Test.YtdelmhcbmlbojaaDoorBits
namespace Go.Proofs.YtdelmhcbmlbojaaDoor.lawCopies
open Go.ChangeShapes Go.WideShapes Go.ChangeAt Go.RowKit
open Go.ChangeMaps (open_string)
set_option linter.unusedVariables false

section
variable {w v : World} {p h g : Nat} {T U Z : ByteArray}
theorem c_take (s : Pw w v p h g (newP 3)) : Calls Tryd.prog 14 #[.pointer (some ⟨p, 0, none⟩)] v fun e v' => e = .returned (.tuple #[.int .i64 0, .int .i64 0]) ∧ Pw w v' p h g ⟨[1, 0, 0], [zsec, zsec, zsec]⟩ :=
  (pw_take s).mono fun e v' ⟨he, hs⟩ => ⟨he.trans rfl, hs⟩
theorem c_fill (s : Pw w v p h g ⟨[1, 0, 0], [Z, Z, Z]⟩) (hT : T.size = 64) : Calls Tryd.prog 21 #[.pointer (some ⟨p, 0, none⟩), .int .i64 0, .string T] v fun e v' => e = .returned (.int .i64 0) ∧ Pw w v' p h g ⟨[1, 0, 0], [T, Z, Z]⟩ :=
  (pw_fill s 0 T (by omega)).mono fun e v' ⟨he, hs⟩ => by
    have e0 : askE [1, 0, 0] 0 = 0 := by decide
    have e1 : Pol.flE ⟨[1, 0, 0], [Z, Z, Z]⟩ 0 T = 0 := by unfold Pol.flE; rw [if_pos e0, if_pos hT]
    unfold Pol.flX at hs
    rw [e1] at he hs
    exact ⟨he, hs⟩
theorem c_hold (s : Pw w v p h g ⟨[1, 0, 0], [T, Z, Z]⟩) : Calls Tryd.prog 16 #[.pointer (some ⟨p, 0, none⟩), .int .i64 0] v fun e v' => e = .returned (.int .i64 0) ∧ Pw w v' p h g ⟨[2, 0, 0], [T, Z, Z]⟩ :=
  (pw_hold s 0).mono fun e v' ⟨he, hs⟩ => by
    have e : Pol.addX ⟨[1, 0, 0], [T, Z, Z]⟩ 0 1 = ⟨[2, 0, 0], [T, Z, Z]⟩ := by
      unfold Pol.addX
      rw [if_pos (show askE [1, 0, 0] 0 = 0 by decide), show ([1, 0, 0] : List Int).set (0 : Int).toNat (wrap64 (([1, 0, 0] : List Int).getD (0 : Int).toNat 0 + 1)) = [2, 0, 0] from by decide +kernel]
    rw [e] at hs
    exact ⟨he.trans rfl, hs⟩
theorem c_copy (s : Pw w v p h g ⟨[2, 0, 0], [T, Z, Z]⟩) : Calls Tryd.prog 23 #[.pointer (some ⟨p, 0, none⟩), .int .i64 0] v fun e v' => e = .returned (.tuple #[.int .i64 1, .int .i64 0]) ∧ Pw w v' p h g ⟨[2, 1, 0], [T, T, Z]⟩ :=
  (pw_copy s 0).mono fun e v' ⟨he, hs⟩ => ⟨he.trans rfl, hs⟩
theorem c_bytes1 (s : Pw w v p h g ⟨[2, 1, 0], [T, U, Z]⟩) : Calls Tryd.prog 19 #[.pointer (some ⟨p, 0, none⟩), .int .i64 1] v fun e v' => e = .returned (.tuple #[.string U, .int .i64 0]) ∧ Pw w v' p h g ⟨[2, 1, 0], [T, U, Z]⟩ :=
  (pw_bytes s 1).mono fun e v' ⟨he, hs⟩ => ⟨he.trans rfl, hs⟩
theorem c_bytes0 (s : Pw w v p h g ⟨[2, 1, 0], [T, U, Z]⟩) : Calls Tryd.prog 19 #[.pointer (some ⟨p, 0, none⟩), .int .i64 0] v fun e v' => e = .returned (.tuple #[.string T, .int .i64 0]) ∧ Pw w v' p h g ⟨[2, 1, 0], [T, U, Z]⟩ :=
  (pw_bytes s 0).mono fun e v' ⟨he, hs⟩ => ⟨he.trans rfl, hs⟩
theorem c_held1 (s : Pw w v p h g ⟨[2, 1, 0], [T, U, Z]⟩) : Calls Tryd.prog 31 #[.pointer (some ⟨p, 0, none⟩), .int .i64 1] v fun e v' => e = .returned (.int .i64 1) ∧ v = v' :=
  (pheld_any s.pl 1).mono fun e v' ⟨he, hs⟩ => ⟨he.trans rfl, hs⟩
theorem c_held0 (s : Pw w v p h g ⟨[2, 1, 0], [T, U, Z]⟩) : Calls Tryd.prog 31 #[.pointer (some ⟨p, 0, none⟩), .int .i64 0] v fun e v' => e = .returned (.int .i64 2) ∧ v = v' :=
  (pheld_any s.pl 0).mono fun e v' ⟨he, hs⟩ => ⟨he.trans rfl, hs⟩
theorem c_store (s : Pw w v p h g ⟨[2, 1, 0], [T, T, Z]⟩) (a x : Int) (a0 : 0 ≤ a) (a1 : a < 64) (x0 : 0 ≤ x) (x1 : x < 256) :
    Calls Tryd.prog 27 #[.pointer (some ⟨p, 0, none⟩), .int .i64 1, .int .i64 a, .int .i64 1, .int .u64 x] v fun e v' => e = .returned (.int .i64 0) ∧ Pw w v' p h g ⟨[2, 1, 0], [T, setS T a 1 x.toNat, Z]⟩ :=
  (pw_store s 1 a 1 x (wf_i64 (by omega) (by omega)) (by decide) (wf_u64 (by omega) (by omega))).mono fun e v' ⟨he, hs⟩ => by
    have e0 : wdE [2, 1, 0] 1 a 1 = 0 := by
      unfold wdE
      rw [if_pos (by decide), if_neg (by decide), if_pos (by rw [inn_iff, show wid 1 = 1 from rfl]; omega)]
    unfold Pol.stX at hs
    rw [e0] at he hs
    exact ⟨he, hs⟩
theorem c_load (s : Pw w v p h g ⟨[2, 1, 0], [T, U, Z]⟩) (hT : T.size = 64) (a x : Int) (a0 : 0 ≤ a) (a1 : a < 64) (x0 : 0 ≤ x) (x1 : x < 256) (hU : U = setS T a 1 x.toNat) :
    Calls Tryd.prog 25 #[.pointer (some ⟨p, 0, none⟩), .int .i64 1, .int .i64 a, .int .i64 1] v fun e v' => e = .returned (.tuple #[.int .u64 x, .int .i64 0]) ∧ Pw w v' p h g ⟨[2, 1, 0], [T, U, Z]⟩ :=
  (pw_load s 1 a 1 (wf_i64 (by omega) (by omega)) (by decide)).mono fun e v' ⟨he, hs⟩ => by
    have hi : inn a (wid 1) 64 = true := by rw [inn_iff, show wid 1 = 1 from rfl]; omega
    have e0 : wdE [2, 1, 0] 1 a 1 = 0 := by
      unfold wdE
      rw [if_pos (by decide), if_neg (by decide), if_pos hi]
    have e1 : ldV [2, 1, 0] [T, U, Z] 1 a 1 = x := by
      unfold ldV
      rw [e0, hU]
      have := part_set (o := T) (a := a) (k := 1) (x := x) hT hi (by decide) x0 (by omega)
      rw [show wid 1 = 1 from rfl] at this
      refine (show (if (0 : Int) = 0 then readV 1 (partS (setS T a 1 x.toNat) a (wid 1)) else 0) = x from ?_)
      rw [if_pos rfl, show wid 1 = 1 from rfl, this]
      simp [clipS]
      omega
    exact ⟨by rw [he, e0, e1], hs⟩
theorem c_copy2 (s : Pw w v p h g ⟨[2, 1, 0], [T, U, Z]⟩) : Calls Tryd.prog 23 #[.pointer (some ⟨p, 0, none⟩), .int .i64 2] v fun e v' => e = .returned (.tuple #[.int .i64 0, .int .i64 13]) ∧ Below w.heap.size w v' :=
  (pw_copy s 2).mono fun e v' ⟨he, hs⟩ => ⟨he.trans rfl, hs.bel⟩
end

set_option maxHeartbeats 3200000 in
theorem core (s c : ByteArray) (q0 q1 : Int) (w : World) (hs : s.size ≤ maxLen) (hc : c = cut64 s) (hT : Tab w) :
    Calls Tryd.prog 9 #[.string s, .agg #[.int .i64 q0, .int .i64 q1]] w fun e w' => e = .returned (.bool true) ∧ Below w.heap.size w w' := by
  unfold maxLen at hs
  obtain ⟨A, hA, A0, A1⟩ : ∃ A : Int, bits .and .i64 q0 63 = A ∧ 0 ≤ A ∧ A < 64 := by
    have e : bits .and .i64 q0 63 = q0 % (2 : Int) ^ 6 := i64_and_mask q0 6 63 (by omega) (by decide)
    rw [show (2 : Int) ^ 6 = 64 by decide] at e
    exact ⟨_, e, by omega, by omega⟩
  obtain ⟨B, hBB, B0, B1⟩ : ∃ B : Int, bits .and .i64 q1 255 = B ∧ 0 ≤ B ∧ B < 256 := by
    have e : bits .and .i64 q1 255 = q1 % (2 : Int) ^ 8 := i64_and_mask q1 8 255 (by omega) (by decide)
    rw [show (2 : Int) ^ 8 = 256 by decide] at e
    exact ⟨_, e, by omega, by omega⟩
  have hwB : IntKind.u64.wrap B = B := by rw [IntKind.wrap_u64]; omega
  have HA := Lib.hid (fun w hT => awake6_any w hT)
  have hT1 := hT.alloc (.cells #[.int .i64 q0, .int .i64 q1] 56)
  have HW := Lib.hid ((Below.refl w.heap.size w).alloc (Nat.le_refl _) (.cells #[.int .i64 q0, .int .i64 q1] 56))
  have KQ := Lib.hid (Blk.new w 56 #[.int .i64 q0, .int .i64 q1])
  have HN := Lib.hid (fun v (hb : Below (w.alloc (.cells #[.int .i64 q0, .int .i64 q1] 56)).heap.size (w.alloc (.cells #[.int .i64 q0, .int .i64 q1] 56)) v) (hT' : Tab v) => pw_new hb hT' hT1.pos 3 (by omega) (by omega))
  have HF := Lib.hid (fun w => fill64_any s w)
  rw [← hc] at HF
  have h64 := pageOf_size s
  generalize pageOf s = T at *
  have H1 := Lib.hid (fun v p h g (s : Pw (w.alloc (.cells #[.int .i64 q0, .int .i64 q1] 56)) v p h g (newP 3)) => c_take s)
  generalize zsec = Z at *
  have H2 := Lib.hid (fun v p h g (s : Pw (w.alloc (.cells #[.int .i64 q0, .int .i64 q1] 56)) v p h g ⟨[1, 0, 0], [Z, Z, Z]⟩) => c_fill s h64)
  have H3 := Lib.hid (fun v p h g (s : Pw (w.alloc (.cells #[.int .i64 q0, .int .i64 q1] 56)) v p h g ⟨[1, 0, 0], [T, Z, Z]⟩) => c_hold s)
  have H4 := Lib.hid (fun v p h g (s : Pw (w.alloc (.cells #[.int .i64 q0, .int .i64 q1] 56)) v p h g ⟨[2, 0, 0], [T, Z, Z]⟩) => c_copy s)
  have H5 := Lib.hid (fun v p h g (s : Pw (w.alloc (.cells #[.int .i64 q0, .int .i64 q1] 56)) v p h g ⟨[2, 1, 0], [T, T, Z]⟩) => c_bytes1 s)
  have H6 := Lib.hid (fun v p h g (s : Pw (w.alloc (.cells #[.int .i64 q0, .int .i64 q1] 56)) v p h g ⟨[2, 1, 0], [T, T, Z]⟩) => c_held1 s)
  have H7 := Lib.hid (fun v p h g (s : Pw (w.alloc (.cells #[.int .i64 q0, .int .i64 q1] 56)) v p h g ⟨[2, 1, 0], [T, T, Z]⟩) => c_held0 s)
  have H8 := Lib.hid (fun v p h g (s : Pw (w.alloc (.cells #[.int .i64 q0, .int .i64 q1] 56)) v p h g ⟨[2, 1, 0], [T, T, Z]⟩) => c_store s A B A0 A1 B0 B1)
  obtain ⟨U, hU⟩ : ∃ U, U = setS T A 1 B.toNat := ⟨_, rfl⟩
  rw [← hU] at H8
  have H9 := Lib.hid (fun v p h g (s : Pw (w.alloc (.cells #[.int .i64 q0, .int .i64 q1] 56)) v p h g ⟨[2, 1, 0], [T, U, Z]⟩) => c_bytes0 s)
  have H10 := Lib.hid (fun v p h g (s : Pw (w.alloc (.cells #[.int .i64 q0, .int .i64 q1] 56)) v p h g ⟨[2, 1, 0], [T, U, Z]⟩) => c_load s h64 A B A0 A1 B0 B1 hU)
  have H11 := Lib.hid (fun v p h g (s : Pw (w.alloc (.cells #[.int .i64 q0, .int .i64 q1] 56)) v p h g ⟨[2, 1, 0], [T, U, Z]⟩) => c_copy2 s)
  have HB := Lib.hid (Below.refl (w.alloc (.cells #[.int .i64 q0, .int .i64 q1] 56)).heap.size (w.alloc (.cells #[.int .i64 q0, .int .i64 q1] 56)))
  clear hU h64
  by_cases hl : 64 < s.size
  · have e : c = s.extract 0 64 := by rw [hc]; unfold cut64; rw [if_pos hl]
    subst e
    clear hc
    go_enter Tryd.func9, Tryd.ntmps9
    go_wp2_with (first
      | (go_at_call 10; refine (HA.out _ hT1).mono ?_; rintro e v0 ⟨rfl, hb⟩; have hB := HB.out.trans hb; replace hT1 := hT1.below hb hT1.pos; clear hb)
      | (go_at_call 11; refine (HN.out _ hB hT1).mono ?_; rintro e v1 ⟨p, h, g, rfl, hS⟩; clear hB)
      | (go_at_call 13; refine (HF.out _).mono ?_; rintro e v7 ⟨rfl, hb7⟩; replace hS := hS.on hb7; clear hb7)
      | (go_at_call 14; with_reducible refine (H1.out _ _ _ _ hS).mono ?_; rintro e v2 ⟨rfl, hS2⟩; clear hS)
      | (go_at_call 21; with_reducible refine (H2.out _ _ _ _ hS2).mono ?_; rintro e v2 ⟨rfl, hS3⟩; clear hS2)
      | (go_at_call 16; with_reducible refine (H3.out _ _ _ _ hS3).mono ?_; rintro e v2 ⟨rfl, hS4⟩; clear hS3)
      | (go_at_call 23; with_reducible refine (H4.out _ _ _ _ hS4).mono ?_; rintro e v2 ⟨rfl, hS5⟩; clear hS4)
      | (go_at_call 19; with_reducible refine (H5.out _ _ _ _ hS5).mono ?_; rintro e v2 ⟨rfl, hS6⟩; clear hS5; have kq := KQ.out.below hS6.bel KQ.out.lt; have d0 := kq.at_ 0 _ rfl; have d1 := kq.at_ 1 _ rfl; clear kq)
      | (go_at_call 31; with_reducible refine (H6.out _ _ _ _ hS6).mono ?_; rintro e v2 ⟨rfl, rfl⟩)
      | (go_at_call 31; with_reducible refine (H7.out _ _ _ _ hS6).mono ?_; rintro e v2 ⟨rfl, rfl⟩)
      | (go_at_call 27; with_reducible refine (H8.out _ _ _ _ hS6).mono ?_; rintro e v2 ⟨rfl, hS7⟩; clear hS6 d0 d1)
      | (go_at_call 19; with_reducible refine (H9.out _ _ _ _ hS7).mono ?_; rintro e v2 ⟨rfl, hS8⟩; clear hS7)
      | (go_at_call 25; with_reducible refine (H10.out _ _ _ _ hS8).mono ?_; rintro e v2 ⟨rfl, hS9⟩; clear hS8)
      | (go_at_call 23; with_reducible refine (H11.out _ _ _ _ hS9).mono ?_; rintro e v2 ⟨rfl, hbel⟩; clear hS9; have kq := KQ.out.below hbel KQ.out.lt; have d1 := kq.at_ 1 _ rfl; clear kq))
    go_ret
    exact ⟨rfl, HW.out.trans (hbel.mono (by simp))⟩
  · have e : c = s := by rw [hc]; unfold cut64; rw [if_neg hl]
    subst e
    clear hc
    go_enter Tryd.func9, Tryd.ntmps9
    go_wp2_with (first
      | (go_at_call 10; refine (HA.out _ hT1).mono ?_; rintro e v0 ⟨rfl, hb⟩; have hB := HB.out.trans hb; replace hT1 := hT1.below hb hT1.pos; clear hb)
      | (go_at_call 11; refine (HN.out _ hB hT1).mono ?_; rintro e v1 ⟨p, h, g, rfl, hS⟩; clear hB)
      | (go_at_call 13; refine (HF.out _).mono ?_; rintro e v7 ⟨rfl, hb7⟩; replace hS := hS.on hb7; clear hb7)
      | (go_at_call 14; with_reducible refine (H1.out _ _ _ _ hS).mono ?_; rintro e v2 ⟨rfl, hS2⟩; clear hS)
      | (go_at_call 21; with_reducible refine (H2.out _ _ _ _ hS2).mono ?_; rintro e v2 ⟨rfl, hS3⟩; clear hS2)
      | (go_at_call 16; with_reducible refine (H3.out _ _ _ _ hS3).mono ?_; rintro e v2 ⟨rfl, hS4⟩; clear hS3)
      | (go_at_call 23; with_reducible refine (H4.out _ _ _ _ hS4).mono ?_; rintro e v2 ⟨rfl, hS5⟩; clear hS4)
      | (go_at_call 19; with_reducible refine (H5.out _ _ _ _ hS5).mono ?_; rintro e v2 ⟨rfl, hS6⟩; clear hS5; have kq := KQ.out.below hS6.bel KQ.out.lt; have d0 := kq.at_ 0 _ rfl; have d1 := kq.at_ 1 _ rfl; clear kq)
      | (go_at_call 31; with_reducible refine (H6.out _ _ _ _ hS6).mono ?_; rintro e v2 ⟨rfl, rfl⟩)
      | (go_at_call 31; with_reducible refine (H7.out _ _ _ _ hS6).mono ?_; rintro e v2 ⟨rfl, rfl⟩)
      | (go_at_call 27; with_reducible refine (H8.out _ _ _ _ hS6).mono ?_; rintro e v2 ⟨rfl, hS7⟩; clear hS6 d0 d1)
      | (go_at_call 19; with_reducible refine (H9.out _ _ _ _ hS7).mono ?_; rintro e v2 ⟨rfl, hS8⟩; clear hS7)
      | (go_at_call 25; with_reducible refine (H10.out _ _ _ _ hS8).mono ?_; rintro e v2 ⟨rfl, hS9⟩; clear hS8)
      | (go_at_call 23; with_reducible refine (H11.out _ _ _ _ hS9).mono ?_; rintro e v2 ⟨rfl, hbel⟩; clear hS9; have kq := KQ.out.below hbel KQ.out.lt; have d1 := kq.at_ 1 _ rfl; clear kq))
    go_ret
    exact ⟨rfl, HW.out.trans (hbel.mono (by simp))⟩

theorem walk (s : ByteArray) (q0 q1 : Int) (w : World) (hs : s.size ≤ maxLen) (_ : (Lit.int .i64 q0).wf = true) (_ : (Lit.int .i64 q1).wf = true) (hT : Tab w) :
    Calls Tryd.prog 9 #[.string s, .agg #[.int .i64 q0, .int .i64 q1]] w fun e w' => e = .returned (.bool true) ∧ Below w.heap.size w w' :=
  core s _ q0 q1 w hs rfl hT

set_option maxRecDepth 100000 in
theorem lifted (os : Os) (started : os.Started) (H : Type) (enc : TypeId × Value → H) :
    ReturnsInHanded {} Tryd.checked os 9 .any (fun w args => (Rows.framesCopiesSpec.pre enc Tryd.prog Tryd.f9 Rows.framesCopiesRow.domain false w args ∧ laidMet Tryd.prog Rows.framesCopiesRow.laid w) ∧ sizedMet enc Tryd.prog Tryd.f9 (OpenSpec.ofChange Rows.framesCopiesSpec) false w args) (Rows.framesCopiesSpec.post enc Tryd.prog Tryd.f9 false true false false) := by
  refine returnsInHanded_of_change_and (C := Tryd.checked) (X := fun w _ => laidMet Tryd.prog Rows.framesCopiesRow.laid w) (fun _ _ _ hh h => h.of_heap hh) own started (by kernel_rfl) Tryd.func9
    (ChangeSpec.witness_at (enc := enc) (C := Tryd.checked) (os := os) (X := fun w _ => laidMet Tryd.prog Rows.framesCopiesRow.laid w) false (laidWorld os) #[.string ⟨#[]⟩, .agg #[.int .i64 0, .int .i64 0]] 8 rfl (by kernel_rfl) (by kernel_rfl) (by kernel_rfl) (by kernel_rfl) (by kernel_rfl) (laid_met os _)) ?_
  intro W base args ds gs before hval0 hW hcnd _ hL _
  have hval : ∀ (j : Nat) t v, Tryd.f9.params[j]? = some t → args[j]? = some v → Value.okWide Tryd.prog W .any base t v := hval0
  have hW' := hW
  obtain ⟨p, q, hA0, hV, rfl, hfz, hnd⟩ := hW
  have hA : DataW.TrodAll enc Tryd.prog W 0 (fun _ => true) true Tryd.f9.params.toList args.toList ds p := hA0
  rw [Tryd.params9] at hA hval
  obtain ⟨v0, vs0, d0, ds0, p0, q0, hargs, rfl, rfl, h0, r0⟩ := trodAll_cons hA
  obtain ⟨v1, vs1, d1, ds1, p1, q1, rfl, rfl, rfl, h1, r1⟩ := trodAll_cons r0
  obtain ⟨rfl, rfl, rfl⟩ := trodAll_nil r1
  obtain rfl : args = #[v0, v1] := by cases args; simp_all
  obtain ⟨rfl, rfl⟩ := trodVars_none hV
  have k0 := h0
  have lt0 : ∀ x ∈ p0, x.block < W.heap.size := by obtain ⟨m, hm⟩ := k0; exact DataW.trod_lt m _ _ _ hm
  obtain ⟨a0, rfl, _, _, w0⟩ := open_string Tryd.underlying9 (hval 0 9 v0 rfl rfl) h0
  have k1 := h1
  have lt1 : ∀ x ∈ p1, x.block < W.heap.size := by obtain ⟨m, hm⟩ := k1; exact DataW.trod_lt m _ _ _ hm
  obtain ⟨z1, e1, hl1, hw1⟩ := open_ints_array Tryd.underlying56 Tryd.underlying3 (by kernel_rfl) (by kernel_rfl) (hval 1 56 v1 rfl rfl) h1
  obtain ⟨a1_0, a1_1, rfl⟩ : ∃ a1_0 a1_1, z1 = [a1_0, a1_1] := by
    match z1, hl1 with
    | [a1_0, a1_1], _ => exact ⟨_, _, rfl⟩
  obtain rfl : v1 = .agg #[.int .i64 a1_0, .int .i64 a1_1] := e1
  clear hA0 hval0
  refine (walk a0 a1_0 a1_1 W w0 (hw1 a1_0 (by simp)) (hw1 a1_1 (by simp)) (tab_of_laid hL)).mono fun e W' ⟨he, bel⟩ => ?_
  subst he
  exact ⟨_, rfl, _, _, _, [], _, [], hW', trodAll_mk1 (shut_bool Tryd.underlying4 _), (trodAll_cons_mk (Below.trod laidOut (by kernel_rfl) (of_decide_eq_true (by kernel_rfl)) k0 bel lt0) (trodAll_cons_mk (Below.trod laidOut (by kernel_rfl) (of_decide_eq_true (by kernel_rfl)) k1 bel lt1) trodAll_mk0)), rfl, bel.frame _, fun h => by cases h⟩
theorem over : Rows.framesCopiesRow.holds Tryd.pinned (OpenSpec.ofChange Rows.framesCopiesSpec) :=
  OpenClaim.holds_of_wide 9 Tryd.f9 rfl rfl rfl rfl rfl rfl rfl ⟨rfl, rfl, rfl, rfl, rfl⟩ rfl rfl rfl rfl rfl (by kernel_rfl) Tryd.func9 (by kernel_rfl)
    (of_decide_eq_true (by kernel_rfl)) (by unfold Func.isWrapper; first | (rw [if_pos (by decide +kernel)]; kernel_rfl) | (rw [if_neg (by decide +kernel)]; exact ⟨rfl, rfl⟩))
    (fun os started H enc _ => lifted os started H enc)
/-- The statement. -/
theorem proved : Rows.FramesCopiesCardSaid :=
  Claim7.holds_tied_plain_at .later [] [.data] true _ false over (fun _ h => by cases h) (by kernel_rfl) (fun _ h => by cases h) framesCopies_row_tie rfl ⟨rfl, rfl⟩ (by kernel_rfl) rfl
    (fun f fn hf hfn => by
      obtain rfl : f = 9 := Option.some.inj (hf.symm.trans (by kernel_rfl))
      obtain rfl : fn = Tryd.f9 := Option.some.inj (hfn.symm.trans Tryd.func9)
      refine ⟨by kernel_rfl, fun j t ht => ?_⟩
      rw [Tryd.params9] at ht
      match j, ht with
      | 0, ht =>
        obtain rfl : t = 9 := by simpa using ht.symm
        exact (by kernel_rfl : Tryd.pinned.checked.prog.wantsStandIn 9 = false)
      | 1, ht =>
        obtain rfl : t = 56 := by simpa using ht.symm
        exact (by kernel_rfl : Tryd.pinned.checked.prog.wantsStandIn 56 = false)
      | j + 2, ht => simp at ht)
    (by kernel_rfl)
end Go.Proofs.YtdelmhcbmlbojaaDoor.lawCopies
