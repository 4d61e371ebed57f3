/- FramesTaken: for any number: frames are taken from the least one on, each is empty, and all are used up before there is none. -/
import Derived.Test.YtdelmhcbmlbojaaDoorPF
import Derived.Test.YtdelmhcbmlbojaaDoorBits
namespace Go.Proofs.YtdelmhcbmlbojaaDoor.lawTaken
open Go.ChangeShapes Go.WideShapes Go.ChangeAt Go.RowKit
set_option linter.unusedVariables false

/-- The first k of m frames are held once. -/
def onesL (k m : Nat) : List Int := List.replicate k 1 ++ List.replicate (m - k) 0
theorem ones_len {k m : Nat} (h : k ≤ m) : (onesL k m).length = m := by simp [onesL]; omega
theorem ones_free : ∀ {k m : Nat}, k ≤ m → freeAt (onesL k m) = k
  | 0, 0, _ => rfl
  | 0, m + 1, _ => by simp [onesL, List.replicate_succ, freeAt]
  | k + 1, m + 1, h => by
    have := ones_free (k := k) (m := m) (by omega)
    unfold onesL at *
    rw [List.replicate_succ, List.cons_append, freeAt, if_neg (by decide), show m + 1 - (k + 1) = m - k by omega, this]
theorem ones_set {k m : Nat} (h : k < m) : (onesL k m).set k 1 = onesL (k + 1) m := by
  unfold onesL
  obtain ⟨d, rfl⟩ : ∃ d, m = k + (d + 1) := ⟨m - k - 1, by omega⟩
  rw [show k + (d + 1) - k = d + 1 by omega, show k + (d + 1) - (k + 1) = d by omega, List.set_append_right (h := by simp), List.length_replicate, Nat.sub_self, List.replicate_succ (n := d), List.set_cons_zero, List.replicate_succ' (n := k)]
  simp
theorem ones_freeN {k m : Nat} : freeN (onesL k m) = m - k := by
  unfold freeN onesL
  rw [List.countP_append, List.countP_replicate, List.countP_replicate, if_neg (by decide), if_pos (by decide), Nat.zero_add]
theorem ones_at {k m : Nat} (h : k < m) : askE (onesL (k + 1) m) (k : Int) = 0 := by
  have hl : k < (onesL (k + 1) m).length := by rw [ones_len (by omega)]; exact h
  rw [askE_in hl]
  have h1 : (onesL (k + 1) m)[k]? = some 1 := by unfold onesL; rw [List.getElem?_append_left (by simp), List.getElem?_replicate, if_pos (by omega)]
  have : (onesL (k + 1) m)[k] = 1 := by rw [List.getElem?_eq_getElem hl] at h1; exact Option.some.inj h1
  rw [this]
  decide

/-- The pool of the law: k frames were taken. -/
structure St (w cur : World) (p h g m k : Nat) (X : Pol) : Prop where
  sw : Pw w cur p h g X
  H : X.H = onesL k m
section
variable {w v : World} {p h g m k : Nat} {X : Pol}
theorem St.on {nxt : World} (s : St w v p h g m k X) (hb : Below v.heap.size v nxt) : St w nxt p h g m k X := ⟨s.sw.on hb, s.H⟩
theorem st_take (s : St w v p h g m k X) (hk : k < m) : Calls Tryd.prog 14 #[.pointer (some ⟨p, 0, none⟩)] v fun e v' => e = .returned (.tuple #[.int .i64 k, .int .i64 0]) ∧ ∃ Y : Pol, St w v' p h g m (k + 1) Y ∧ Y.byS k = zsec :=
  (pw_take s.sw).mono fun e v' ⟨he, hs⟩ => by
    have hf : freeAt X.H = k := by rw [s.H]; exact ones_free (by omega)
    have hl : X.H.length = m := by rw [s.H]; exact ones_len (by omega)
    have hS := s.sw.pl.lenS
    have hX : X.tkX = ⟨X.H.set k 1, X.S.set k zsec⟩ := by unfold Pol.tkX; rw [hf, if_pos (by omega)]
    have hH : X.tkX.H = onesL (k + 1) m := by rw [hX, s.H]; exact ones_set hk
    refine ⟨by rw [he, tkV, tkE, hf, if_pos (by omega), if_pos (by omega)], _, ⟨hs, hH⟩, ?_⟩
    unfold Pol.byS
    rw [hH, if_pos (ones_at hk), hX, Int.toNat_natCast]
    simp [List.getD, show k < X.S.length by omega]
theorem st_bytes (s : St w v p h g m (k + 1) X) (hk : k < m) (hb : X.byS k = zsec) : Calls Tryd.prog 19 #[.pointer (some ⟨p, 0, none⟩), .int .i64 k] v fun e v' => e = .returned (.tuple #[.string zsec, .int .i64 0]) ∧ St w v' p h g m (k + 1) X :=
  (pw_bytes s.sw k).mono fun e v' ⟨he, hs⟩ => ⟨by rw [he, hb, s.H, ones_at hk], hs, s.H⟩
theorem st_free (s : St w v p h g m (k + 1) X) (hk : k < m) : Calls Tryd.prog 29 #[.pointer (some ⟨p, 0, none⟩)] v fun e v' => e = .returned (.int .i64 ((m : Int) - k - 1)) ∧ v = v' :=
  (pfreeN_any s.sw.pl).mono fun e v' ⟨he, hw⟩ => ⟨by rw [he, s.H, ones_freeN, show ((m - (k + 1) : Nat) : Int) = (m : Int) - k - 1 by omega], hw⟩
theorem st_fill (s : St w v p h g m (k + 1) X) (t : ByteArray) (ht : t.size ≤ 281474976710656) : Calls Tryd.prog 21 #[.pointer (some ⟨p, 0, none⟩), .int .i64 k, .string t] v fun e v' => e = .returned (.int .i64 (X.flE k t)) ∧ ∃ Y : Pol, St w v' p h g m (k + 1) Y :=
  (pw_fill s.sw k t ht).mono fun e v' ⟨he, hs⟩ => ⟨he, _, hs, by rw [X.flX_H, s.H]⟩
theorem st_full (s : St w v p h g m m X) : Calls Tryd.prog 14 #[.pointer (some ⟨p, 0, none⟩)] v fun e v' => e = .returned (.tuple #[.int .i64 0, .int .i64 18]) ∧ St w v' p h g m m X :=
  (pw_take s.sw).mono fun e v' ⟨he, hs⟩ => by
    have hf : freeAt X.H = m := by rw [s.H]; exact ones_free (Nat.le_refl _)
    have hl : X.H.length = m := by rw [s.H]; exact ones_len (Nat.le_refl _)
    have hX : X.tkX = X := by unfold Pol.tkX; rw [hf, if_neg (by omega)]
    rw [hX] at hs
    exact ⟨by rw [he, tkV, tkE, hf, if_neg (by omega), if_neg (by omega)], hs, s.H⟩
theorem st_frames (s : St w v p h g m m X) : Calls Tryd.prog 32 #[.pointer (some ⟨p, 0, none⟩)] v fun e v' => e = .returned (.int .i64 m) ∧ v = v' :=
  (pframes_any s.sw.pl).mono fun e v' ⟨he, hw⟩ => ⟨by rw [he, s.H, ones_len (Nat.le_refl _)], hw⟩
end

set_option maxHeartbeats 3200000 in
theorem walk (n : Int) (w : World) (wn : (Lit.int .i64 n).wf = true) (hT : Tab w) :
    Calls Tryd.prog 8 #[.int .i64 n] w fun e w' => e = .returned (.bool true) ∧ Below w.heap.size w w' := by
  obtain ⟨K, hK, hK64⟩ : ∃ K : Nat, bits .and .i64 n 63 = K ∧ K < 64 := by
    have e : bits .and .i64 n 63 = n % (2 : Int) ^ 6 := i64_and_mask n 6 63 (by omega) (by decide)
    rw [show (2 : Int) ^ 6 = 64 by decide] at e
    exact ⟨(n % 64).toNat, by rw [e]; omega, by omega⟩
  obtain ⟨m, hm⟩ : ∃ m : Nat, (m : Int) = 1 + K := ⟨1 + K, by omega⟩
  have hm1 : 1 + (K : Int) = m := hm.symm
  have hm0 : 1 ≤ m := by omega
  have hm64 : m ≤ 64 := by omega
  have HA := Lib.hid (fun w hT => awake6_any w hT)
  have HN := Lib.hid (fun v (hb : Below w.heap.size w v) (hT' : Tab v) => pw_new hb hT' hT.pos m hm0 (by omega))
  have hf := fun w => rfill_any ⟨#[]⟩ 64 w (by decide) (by decide) (by decide)
  rw [show fillS ⟨#[]⟩ 64 = zsec from rfl] at hf
  have HF := Lib.hid hf
  have hz := zsec_size
  have HZ : Hid (newP m = newP m) := rfl
  have hzx : ((zsec.extract 0 63) ++ (⟨#[120]⟩ : ByteArray)).size ≤ 281474976710656 := by rw [ByteArray.size_append, ByteArray.size_extract, hz]; decide
  have hz63 : (zsec.extract 0 63).size = 63 := by rw [ByteArray.size_extract, hz]; rfl
  have HB := Lib.hid (Below.refl w.heap.size w)
  have hT1 := hT
  clear hf hm
  have HST := Lib.hid (fun v p h g m k X (s : St w v p h g m (k + 1) X) (hk : k < m) (hb : X.byS k = zsec) => st_bytes s hk hb)
  have HTK := Lib.hid (fun v p h g m k X (s : St w v p h g m k X) (hk : k < m) => st_take s hk)
  generalize zsec = Z at *
  go_enter Tryd.func8, Tryd.ntmps8
  go_wp2_with (first
    | (go_at_call 10; refine (HA.out _ hT1).mono ?_; rintro e v0 ⟨rfl, hb⟩; have hB := HB.out.trans hb; replace hT1 := hT1.below hb hT1.pos; clear hb)
    | (go_at_call 11; refine (HN.out _ hB hT1).mono ?_; rintro e v1 ⟨p, h, g, rfl, hS⟩; clear hB))
  have hS0 : St w v1 p h g m 0 (newP m) := ⟨hS, by simp [newP, onesL]⟩
  have HS := Lib.hid hS0
  clear hS hS0 hT1 HN
  go_loopw [6, 7, 8, 9, 10] (fun i _ _ _ _ wr => ∃ (k : Nat) (X : Pol), k ≤ m ∧ i = .int .i64 k ∧ St w wr p h g m k X) (fun i _ _ _ _ _ => m - (intOf i).toNat)
  case atStart => exact ⟨0, _, Nat.zero_le _, rfl, HS.out⟩
  case round =>
    clear HS
    obtain ⟨k, X, hk, rfl, hS⟩ := hrel
    by_cases hlt : k < m
    · go_wp2_with (first
        | (go_at_call 14; refine (HTK.out _ _ _ _ _ _ _ hS hlt).mono ?_; rintro e v5 ⟨rfl, Y, hS5, hY⟩; clear hS)
        | (go_at_call 19; refine (HST.out _ _ _ _ _ _ _ hS5 hlt hY).mono ?_; rintro e v6 ⟨rfl, hS6⟩; clear hS5)
        | (go_at_call 13; refine (HF.out _).mono ?_; rintro e v7 ⟨rfl, hb7⟩; have hS7 := hS6.on hb7; clear hS6 hb7)
        | (go_at_call 29; refine (st_free hS7 hlt).mono ?_; rintro e v8 ⟨rfl, rfl⟩)
        | (go_at_call 21; refine (st_fill hS7 _ hzx).mono ?_; rintro e v9 ⟨rfl, Y9, hS9⟩; clear hS7))
      go_roundw
      case rel => exact ⟨k + 1, Y9, by omega, by go_num, hS9⟩
      case measure => simp [intOf]; omega
    · obtain rfl : k = m := by omega
      go_wp2_with (first
        | (go_at_call 14; refine (st_full hS).mono ?_; rintro e v5 ⟨rfl, hS5⟩; clear hS)
        | (go_at_call 32; refine (st_frames hS5).mono ?_; rintro e v6 ⟨rfl, rfl⟩))
      go_ret
      exact ⟨rfl, hS5.sw.bel⟩

set_option maxRecDepth 100000 in
theorem lifted (os : Os) (started : os.Started) (H : Type) (enc : TypeId × Value → H) :
    ReturnsInHanded {} Tryd.checked os 8 .any (fun w args => (Rows.framesTakenSpec.pre enc Tryd.prog Tryd.f8 Rows.framesTakenRow.domain false w args ∧ laidMet Tryd.prog Rows.framesTakenRow.laid w) ∧ sizedMet enc Tryd.prog Tryd.f8 (OpenSpec.ofChange Rows.framesTakenSpec) false w args) (Rows.framesTakenSpec.post enc Tryd.prog Tryd.f8 false true false false) := by
  refine returnsInHanded_of_change_and (C := Tryd.checked) (X := fun w _ => laidMet Tryd.prog Rows.framesTakenRow.laid w) (fun _ _ _ hh h => h.of_heap hh) own started (by kernel_rfl) Tryd.func8
    (ChangeSpec.witness_at (enc := enc) (C := Tryd.checked) (os := os) (X := fun w _ => laidMet Tryd.prog Rows.framesTakenRow.laid w) false (laidWorld os) #[.int .i64 0] 8 rfl (by kernel_rfl) (by kernel_rfl) (by kernel_rfl) (by kernel_rfl) (by kernel_rfl) (laid_met os _)) ?_
  intro W base args ds gs before hval0 hW hcnd _ hL _
  have hval : ∀ (j : Nat) t v, Tryd.f8.params[j]? = some t → args[j]? = some v → Value.okWide Tryd.prog W .any base t v := hval0
  have hW' := hW
  obtain ⟨p, q, hA0, hV, rfl, hfz, hnd⟩ := hW
  have hA : DataW.TrodAll enc Tryd.prog W 0 (fun _ => true) true Tryd.f8.params.toList args.toList ds p := hA0
  rw [Tryd.params8] at hA hval
  obtain ⟨v0, vs0, d0, ds0, p0, q0, hargs, rfl, rfl, h0, r0⟩ := trodAll_cons hA
  obtain ⟨rfl, rfl, rfl⟩ := trodAll_nil r0
  obtain rfl : args = #[v0] := by cases args; simp_all
  obtain ⟨rfl, rfl⟩ := trodVars_none hV
  have k0 := h0
  have lt0 : ∀ x ∈ p0, x.block < W.heap.size := by obtain ⟨m, hm⟩ := k0; exact DataW.trod_lt m _ _ _ hm
  obtain ⟨a0, rfl, _, _, w0⟩ := open_int Tryd.underlying3 (hval 0 3 v0 rfl rfl) h0
  clear hA0 hval0
  refine (walk a0 W w0 (tab_of_laid hL)).mono fun e W' ⟨he, bel⟩ => ?_
  subst he
  exact ⟨_, rfl, _, _, _, [], _, [], hW', trodAll_mk1 (shut_bool Tryd.underlying4 _), (trodAll_cons_mk (Below.trod laidOut (by kernel_rfl) (of_decide_eq_true (by kernel_rfl)) k0 bel lt0) trodAll_mk0), rfl, bel.frame _, fun h => by cases h⟩
theorem over : Rows.framesTakenRow.holds Tryd.pinned (OpenSpec.ofChange Rows.framesTakenSpec) :=
  OpenClaim.holds_of_wide 8 Tryd.f8 rfl rfl rfl rfl rfl rfl rfl ⟨rfl, rfl, rfl, rfl, rfl⟩ rfl rfl rfl rfl rfl (by kernel_rfl) Tryd.func8 (by kernel_rfl)
    (of_decide_eq_true (by kernel_rfl)) (by unfold Func.isWrapper; first | (rw [if_pos (by decide +kernel)]; kernel_rfl) | (rw [if_neg (by decide +kernel)]; exact ⟨rfl, rfl⟩))
    (fun os started H enc _ => lifted os started H enc)
/-- The statement. -/
theorem proved : Rows.FramesTakenCardSaid :=
  Claim7.holds_tied_plain_at .later [] [.data] true _ false over (fun _ h => by cases h) (by kernel_rfl) (fun _ h => by cases h) framesTaken_row_tie rfl ⟨rfl, rfl⟩ (by kernel_rfl) rfl
    (fun f fn hf hfn => by
      obtain rfl : f = 8 := Option.some.inj (hf.symm.trans (by kernel_rfl))
      obtain rfl : fn = Tryd.f8 := Option.some.inj (hfn.symm.trans Tryd.func8)
      refine ⟨by kernel_rfl, fun j t ht => ?_⟩
      rw [Tryd.params8] at ht
      match j, ht with
      | 0, ht =>
        obtain rfl : t = 3 := by simpa using ht.symm
        exact (by kernel_rfl : Tryd.pinned.checked.prog.wantsStandIn 3 = false)
      | j + 1, ht => simp at ht)
    (by kernel_rfl)
end Go.Proofs.YtdelmhcbmlbojaaDoor.lawTaken
