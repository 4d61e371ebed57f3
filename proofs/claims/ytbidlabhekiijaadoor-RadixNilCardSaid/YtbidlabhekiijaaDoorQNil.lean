/- RadixNil: for any number: of no table nothing comes, a zero one is closed. -/
import Derived.Test.YtbidlabhekiijaaDoorQB
namespace Go.Proofs.YtbidlabhekiijaaDoor.lawNil
open Go.ChangeShapes Go.WideShapes Go.ChangeAt Go.RowKit
set_option linter.unusedVariables false

/-- A zero table lies at z; nothing of w has turned. -/
structure Zer (w w' : World) (z : Nat) : Prop where
  blk : Blk w' z 63 #[.pointer none, .int .i64 0]
  wz : w.heap.size ≤ z
  bel : Below w.heap.size w w'
  tab : Tab w'
theorem Zer.on {w a b : World} {z : Nat} (h : Zer w a z) (hb : Below a.heap.size a b) : Zer w b z :=
  ⟨h.blk.below hb h.blk.lt, h.wz, h.bel.trans (hb.mono h.bel.size), h.tab.below hb h.tab.pos⟩
theorem Zer.alloc {w a : World} {z : Nat} (h : Zer w a z) (o : Obj) : Zer w (a.alloc o) z := h.on ((Below.refl _ _).alloc (Nat.le_refl _) o)
theorem zer_new (w : World) (hT : Tab w) : Zer w (w.alloc (.cells #[.pointer none, .int .i64 0] 63)) w.heap.size :=
  ⟨Blk.new _ _ _, Nat.le_refl _, (Below.refl _ w).alloc (Nat.le_refl _) _, hT.alloc _⟩

set_option maxRecDepth 100000 in
set_option maxHeartbeats 1600000 in
theorem walk (a : Int) (w : World) (wa : (Lit.int .i64 a).wf = true) (hT : Tab w) :
    Calls Tryd.prog 7 #[.int .i64 a] w fun e w' => e = .returned (.bool true) ∧ Below w.heap.size w w' := by
  have ha0 := bounds_i64 wa
  have ha : -9223372036854775808 ≤ a ∧ a < 9223372036854775808 := by omega
  obtain ⟨K, hK, hK2⟩ : ∃ K : Nat, bits .and .i64 a 4095 = (K : Int) ∧ K < 4096 := by
    have h := i64_and_mask a 12 4095 (by omega) (by decide)
    have e : (2 : Int) ^ 12 = 4096 := by decide
    rw [e] at h
    exact ⟨(a % 4096).toNat, by rw [show (4095 : Int) = ((4095 : Nat) : Int) from rfl, h]; omega, by omega⟩
  clear ha0
  have HA := Lib.hid (fun w hT => awake7_any w hT)
  have H1 := Lib.hid (fun w => tget_nil a w)
  have H2 := Lib.hid (fun (v : World) (z : Nat) (s : Zer w v z) => (tget_closed z 0 K hK2 v s.blk).mono (R' := fun e v' => e = .returned (.tuple #[Sl.zero.v, .int .i64 13]) ∧ Zer w v' z) fun e v' ⟨he, hb⟩ => ⟨he, s.on hb⟩)
  have H3 := Lib.hid (fun w => tdrop_nil a w)
  have H4 := Lib.hid (fun w => from_of (tells_nil w 0 m0 (fun _ _ => 0)) a ha)
  have H5 := Lib.hid (fun (v : World) (z : Nat) (s : Zer w v z) => from_of (tells_zero s.blk 0 m0 (fun _ _ => 0)) a ha)
  have H6 := Lib.hid (fun w => rnew_nil w)
  have H7 := Lib.hid (fun (v : World) (z : Nat) (s : Zer w v z) => tset_closed z 0 K hK2 ⟨true, false, false, false, 0⟩ v s.blk)
  have H8 := Lib.hid (fun w => all_of (tells_nil w 0 m0 (fun _ _ => 0)) (Nat.zero_le _))
  have H9 := Lib.hid (fun w => tclose_none w)
  have H10 := Lib.hid (fun (v : World) (z : Nat) (s : Zer w v z) => (tclose_zero s.blk).mono (R' := fun e v' => (∃ A c, e = .returned (.slice A 0 c)) ∧ Zer w v' z) fun e v' ⟨he, hb, hk⟩ => ⟨he, hk, s.wz, s.bel.trans (hb.below s.bel.size fun j e => by subst e; exact s.wz), s.tab.but hb (fun e => by have h0 := s.tab 0 (by omega); have h1 := s.blk.at_ 0 _ rfl; rw [← e] at h1; rw [h1] at h0; cases h0)⟩)
  have H11 := Lib.hid (fun w => tnodes_none none w (Lib.hid (closed_nil w)))
  have H12 := Lib.hid (fun (v : World) (z : Nat) (s : Zer w v z) => tnodes_none (some ⟨z, 0, none⟩) v (Lib.hid (closed_zero z v (s.blk.at_ 0 _ rfl))))
  have hZ := zer_new w hT
  unfold AllTold at H8
  unfold Sl.v at *
  simp only [Sl.zero, leafs_nil, fromC, fromB, zspot] at *
  clear hT
  go_enter Tryd.func7, Tryd.ntmps7
  go_wp2_with (first
    | (go_at_call 21; with_reducible refine (H1.out _).mono ?_; rintro e v1 ⟨rfl, hb⟩; replace hZ := (hZ.on hb).alloc (.cells #[.bool false, .bool false, .bool false, .bool false, .int .i64 0] 23); clear hb)
    | (go_at_call 21; with_reducible refine (H2.out _ _ hZ).mono ?_; rintro e v1 ⟨rfl, hZ2⟩; replace hZ := hZ2.alloc (.cells #[.bool false, .bool false, .bool false, .bool false, .int .i64 0] 23); clear hZ2)
    | (go_at_call 19; with_reducible refine (H3.out _).mono ?_; rintro e v1 ⟨rfl, hb⟩; replace hZ := (hZ.on hb).alloc (.cells #[.bool false, .bool false, .bool false, .bool false, .int .i64 0] 23); clear hb)
    | (go_at_call 23; with_reducible refine (H4.out _).mono ?_; rintro e v1 ⟨rfl, hb⟩; replace hZ := (hZ.on hb).alloc (.cells #[.int .i64 0, .bool false, .bool false, .bool false, .bool false, .int .i64 0] 47); clear hb)
    | (go_at_call 23; with_reducible refine (H5.out _ _ hZ).mono ?_; rintro e v1 ⟨rfl, hb⟩; replace hZ := (hZ.on hb).alloc (.cells #[.int .i64 0, .bool false, .bool false, .bool false, .bool false, .int .i64 0] 47); clear hb)
    | (go_at_call 17; with_reducible refine (H6.out _).mono ?_; rintro e v1 ⟨rfl, rfl⟩)
    | (go_at_call 10; refine (HA.out _ hZ.tab).mono ?_; rintro e v1 ⟨rfl, hb⟩; replace hZ := hZ.on hb; clear hb)
    | (go_at_call 24; with_reducible refine (H7.out _ _ hZ).mono ?_; rintro e v1 ⟨rfl, hb⟩; replace hZ := hZ.on hb; clear hb)
    | (go_at_call 28; with_reducible refine (H8.out _).mono ?_; rintro e v1 ⟨v, rfl, ho, hb⟩; obtain ⟨A', c', rfl⟩ := own_sl7 ho; replace hZ := hZ.on hb; clear hb ho)
    | (go_at_call 31; with_reducible refine (H9.out _).mono ?_; rintro e v1 ⟨⟨A', c', rfl⟩, hb⟩; replace hZ := hZ.on hb; clear hb)
    | (go_at_call 31; with_reducible refine (H10.out _ _ hZ).mono ?_; rintro e v1 ⟨⟨A', c', rfl⟩, hZ2⟩; replace hZ := hZ2; clear hZ2)
    | (go_at_call 29; with_reducible refine (H11.out _).mono ?_; rintro e v1 ⟨rfl, rfl⟩)
    | (go_at_call 29; with_reducible refine (H12.out _ _ hZ).mono ?_; rintro e v1 ⟨rfl, rfl⟩))
  go_ret
  exact ⟨rfl, hZ.bel⟩

set_option maxRecDepth 100000 in
theorem lifted (os : Os) (started : os.Started) (H : Type) (enc : TypeId × Value → H) :
    ReturnsInHanded {} Tryd.checked os 7 .any (fun w args => (Rows.radixNilSpec.pre enc Tryd.prog Tryd.f7 Rows.radixNilRow.domain false w args ∧ laidMet Tryd.prog Rows.radixNilRow.laid w) ∧ sizedMet enc Tryd.prog Tryd.f7 (OpenSpec.ofChange Rows.radixNilSpec) false w args) (Rows.radixNilSpec.post enc Tryd.prog Tryd.f7 false true false false) := by
  refine returnsInHanded_of_change_and (C := Tryd.checked) (X := fun w _ => laidMet Tryd.prog Rows.radixNilRow.laid w) (fun _ _ _ hh h => h.of_heap hh) own started (by kernel_rfl) Tryd.func7
    (ChangeSpec.witness_at (enc := enc) (C := Tryd.checked) (os := os) (X := fun w _ => laidMet Tryd.prog Rows.radixNilRow.laid w) false (laidWorld os) #[.int .i64 0] 8 rfl (by kernel_rfl) (by kernel_rfl) (by kernel_rfl) (by kernel_rfl) (by kernel_rfl) (laid_met os _)) ?_
  intro W base args ds gs before hval0 hW hcnd _ hL _
  have hval : ∀ (j : Nat) t v, Tryd.f7.params[j]? = some t → args[j]? = some v → Value.okWide Tryd.prog W .any base t v := hval0
  have hW' := hW
  obtain ⟨p, q, hA0, hV, rfl, hfz, hnd⟩ := hW
  have hA : DataW.TrodAll enc Tryd.prog W 0 (fun _ => true) true Tryd.f7.params.toList args.toList ds p := hA0
  rw [Tryd.params7] at hA hval
  obtain ⟨v0, vs0, d0, ds0, p0, q0, hargs, rfl, rfl, h0, r0⟩ := trodAll_cons hA
  obtain ⟨rfl, rfl, rfl⟩ := trodAll_nil r0
  obtain rfl : args = #[v0] := by cases args; simp_all
  obtain ⟨rfl, rfl⟩ := trodVars_none hV
  have k0 := h0
  have lt0 : ∀ x ∈ p0, x.block < W.heap.size := by obtain ⟨m, hm⟩ := k0; exact DataW.trod_lt m _ _ _ hm
  obtain ⟨a0, rfl, _, _, w0⟩ := open_int Tryd.underlying3 (hval 0 3 v0 rfl rfl) h0
  clear hA0 hval0
  refine (walk a0 W w0 (tab_of_laid hL)).mono fun e W' ⟨he, bel⟩ => ?_
  subst he
  exact ⟨_, rfl, _, _, _, [], _, [], hW', trodAll_mk1 (shut_bool Tryd.underlying4 _), (trodAll_cons_mk (Below.trod laidOut (by kernel_rfl) (of_decide_eq_true (by kernel_rfl)) k0 bel lt0) trodAll_mk0), rfl, bel.frame _, fun h => by cases h⟩
theorem over : Rows.radixNilRow.holds Tryd.pinned (OpenSpec.ofChange Rows.radixNilSpec) :=
  OpenClaim.holds_of_wide 7 Tryd.f7 rfl rfl rfl rfl rfl rfl rfl ⟨rfl, rfl, rfl, rfl, rfl⟩ rfl rfl rfl rfl rfl (by kernel_rfl) Tryd.func7 (by kernel_rfl)
    (of_decide_eq_true (by kernel_rfl)) (by unfold Func.isWrapper; first | (rw [if_pos (by decide +kernel)]; kernel_rfl) | (rw [if_neg (by decide +kernel)]; exact ⟨rfl, rfl⟩))
    (fun os started H enc _ => lifted os started H enc)
set_option maxRecDepth 100000 in
/-- The statement. -/
theorem proved : Rows.RadixNilCardSaid :=
  Claim7.holds_tied_plain_at .later [] [.data] true _ false over (fun _ h => by cases h) (by kernel_rfl) (fun _ h => by cases h) radixNil_row_tie rfl ⟨rfl, rfl⟩ (by kernel_rfl) rfl
    (fun f fn hf hfn => by
      obtain rfl : f = 7 := Option.some.inj (hf.symm.trans (by kernel_rfl))
      obtain rfl : fn = Tryd.f7 := Option.some.inj (hfn.symm.trans Tryd.func7)
      refine ⟨by kernel_rfl, fun j t ht => ?_⟩
      rw [Tryd.params7] at ht
      match j, ht with
      | 0, ht =>
        obtain rfl : t = 3 := by simpa using ht.symm
        exact (by kernel_rfl : Tryd.pinned.checked.prog.wantsStandIn 3 = false)
      | j + 1, ht => simp at ht)
    (by kernel_rfl)
end Go.Proofs.YtbidlabhekiijaaDoor.lawNil
