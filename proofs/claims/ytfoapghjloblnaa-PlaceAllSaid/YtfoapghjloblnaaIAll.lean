/- PlaceAll: for any things (twelve at most are looked at) and any room: they are placed, or not, as the reference says. -/
import Derived.Test.YtfoapghjloblnaaIv
import Derived.Test.YtfoapghjloblnaaIq
namespace Go.Proofs.Ytfoapghjloblnaa.lawAll
open Go.ChangeShapes Go.WideShapes Go.ChangeAt Go.RowKit Go.Deep
set_option linter.unusedVariables false
set_option linter.unusedSimpArgs false

section
variable {H : Type} {enc : TypeId × Value → H} {w : World} {base : Nat} {spare : Nat → Bool} {held : Bool} {r : Reach} {b0 : Nat} {v : Value} {d : DataW H} {ps : List MemPlace}
theorem openWants13 (hv : Value.okWide Try.prog w r b0 22 v) (h : DataW.Trod enc Try.prog w base spare held 22 v d ps) : ∃ A l c, v = .slice A (List.length l) c ∧ l.length ≤ maxLen ∧ (WRow w A l ∧ l.length ≤ c ∧ c ≤ maxLen) := by
  obtain ⟨A, l, c, rfl, hn, hr⟩ := open_wants hv h
  obtain ⟨fuel, hf⟩ := h
  refine ⟨A, l, c, rfl, hn, hr, ?_⟩
  rcases open_slice Try.underlying22 hf with ⟨h1, _⟩ | ⟨a, len, cap, m, f, D, Pl, h1, hb, hl, hm, hmm, hx, hi⟩
  · have h2 : Value.slice A l.length c = .slice none 0 0 := by simpa [Value.cells] using h1
    injection h2 with e1 e2 e3
    omega
  · have h2 : Value.slice A l.length c = .slice (some a) len cap := by simpa [Value.cells] using h1
    injection h2 with e1 e2 e3
    omega
end
theorem few_any (A : Option Addr) (n c : Nat) (w : World) (h : n ≤ c) (hc : c ≤ maxLen) : Calls Try.prog 5 #[.slice A n c] w fun e w' => e = .returned (.slice A (min 12 n) c) ∧ w' = w := by
  unfold maxLen at hc
  by_cases h12 : 12 < n
  · have hmin : min 12 n = 12 := by omega
    rw [hmin]
    clear hmin
    have h1 : (12 : Int) ≤ c := by omega
    have h2 : ¬ (c = 0) := by omega
    go_enter Try.func5, Try.ntmps5
    go_wp2
    go_ret
    exact ⟨rfl, rfl⟩
  · have hmin : min 12 n = n := by omega
    rw [hmin]
    clear hmin
    go_enter Try.func5, Try.ntmps5
    go_wp2
    go_ret
    exact ⟨rfl, rfl⟩
set_option maxRecDepth 100000 in
set_option maxHeartbeats 1600000 in
theorem walk (A : Option Addr) (l : List (Int × Int)) (c : Nat) (low high : Int) (w : World) (hm : l.length ≤ maxLen) (hz : WRow w A l ∧ l.length ≤ c ∧ c ≤ maxLen) (wl : (Lit.int .i64 low).wf = true) (wh : (Lit.int .i64 high).wf = true) :
    Calls Try.prog 3 #[.slice A l.length c, .int .i64 low, .int .i64 high] w fun e w' => e = .returned (.bool true) ∧ Below w.heap.size w w' := by
  have HA := Lib.hid (fun v => awakeI v)
  have HFW := Lib.hid (fun v => few_any A l.length c v hz.2.1 hz.2.2)
  have hk : (l.take 12).length = min 12 l.length := List.length_take ..
  have hp := fun v (hv : Below w.heap.size w v) => all_anyI (l.take 12) A c low high v ((hz.1.below rfl hv).take 12) (by omega) wl wh
  have hq := fun v (hv : Below w.heap.size w v) => rallI (l.take 12) A c low high v ((hz.1.below rfl hv).take 12) (by omega) wl wh
  unfold AllR at hp hq
  rw [hk] at hp hq
  have hlen : (allP (l.take 12) low high).1.length ≤ 100 := by
    unfold allP
    split
    · cases hg : goP low high [] (l.take 12) with
      | none => simp
      | some P =>
        have := goP_length low high _ _ _ hg
        simp at this ⊢
        omega
    · simp
  obtain ⟨m, hm'⟩ : ∃ m, min 12 l.length = m := ⟨_, rfl⟩
  rw [hm'] at hp hq HFW
  obtain ⟨L, hL⟩ : ∃ L, (allP (l.take 12) low high).1 = L := ⟨_, rfl⟩
  obtain ⟨er, her⟩ : ∃ er, (allP (l.take 12) low high).2 = er := ⟨_, rfl⟩
  rw [hL, her] at hp hq
  rw [hL] at hlen
  obtain ⟨n, hn⟩ : ∃ n, l.length = n := ⟨_, rfl⟩
  obtain ⟨k, hk2⟩ : ∃ k, L.length = k := ⟨_, rfl⟩
  have HSM := Lib.hid (fun A1 A2 c1 c2 v (h1 : IntRow v A1 L) (h2 : IntRow v A2 L) => rsameI L A1 A2 c1 c2 v h1 h2 (by omega))
  rw [hk2] at hp hq HSM
  rw [hn] at HFW ⊢
  have HP := Lib.hid hp
  have HQ := Lib.hid hq
  clear hp hq hk hlen hm' hL her hk2 hn hm hz wl wh
  go_enter Try.func3, Try.ntmps3
  go_wp2_with (first
    | (go_at_call 4; refine (HA.out _).mono ?_; rintro e v1 ⟨rfl, hb1⟩)
    | (go_at_call 5; refine (HFW.out _).mono ?_; rintro e v2 ⟨rfl, hv2⟩; rw [hv2]; clear hv2 v2)
    | (go_at_call 6; refine (HP.out _ hb1).mono ?_; rintro e v3 ⟨A3, c3, rfl, hr3, hb3⟩; have hb13 := hb1.trans (hb3.mono hb1.size))
    | (go_at_call 7; refine (HQ.out _ hb13).mono ?_; rintro e v4 ⟨A4, c4, rfl, hr4, hb4⟩; have hb14 := hb13.trans (hb4.mono hb13.size))
    | (go_at_call 8; refine (HSM.out _ _ _ _ _ (hr3.belowI rfl hb4) hr4).mono ?_; rintro e v5 ⟨rfl, hb5⟩))
  go_ret
  exact ⟨by simp, hb14.trans (hb5.mono hb14.size)⟩

set_option maxRecDepth 100000 in
theorem lifted (os : Os) (started : os.Started) (H : Type) (enc : TypeId × Value → H) :
    ReturnsInHanded {} Try.checked os 3 .any (Rows.placeAllSpec.pre6 enc Try.prog Try.f3 Rows.placeAllRow.domain false) (Rows.placeAllSpec.post enc Try.prog Try.f3 false true false false) := by
  refine returnsInHanded_of_change (C := Try.checked) own started (by kernel_rfl) Try.func3
    (ChangeSpec.witness6 (enc := enc) (C := Try.checked) false ⟨#[], #[.slice none 0 0, .int .i64 0, .int .i64 0], []⟩ 8 (by kernel_rfl) (by kernel_rfl) (by kernel_rfl) (by kernel_rfl)) ?_
  intro W base args ds gs before hval0 hW hcnd _
  have hval : ∀ (j : Nat) t v, Try.f3.params[j]? = some t → args[j]? = some v → Value.okWide Try.prog W .any base t v := hval0
  have hW' := hW
  obtain ⟨p, q, hA0, hV, rfl, hfz, hnd⟩ := hW
  have hA : DataW.TrodAll enc Try.prog W 0 (fun _ => true) true Try.f3.params.toList args.toList ds p := hA0
  rw [Try.params3] at hA hval
  obtain ⟨v0, vs0, d0, ds0, p0, q0, hargs, rfl, rfl, h0, r0⟩ := trodAll_cons hA
  obtain ⟨v1, vs1, d1, ds1, p1, q1, rfl, rfl, rfl, h1, r1⟩ := trodAll_cons r0
  obtain ⟨v2, vs2, d2, ds2, p2, q2, rfl, rfl, rfl, h2, r2⟩ := trodAll_cons r1
  obtain ⟨rfl, rfl, rfl⟩ := trodAll_nil r2
  obtain rfl : args = #[v0, v1, v2] := by cases args; simp_all
  obtain ⟨rfl, rfl⟩ := trodVars_none hV
  have k0 := h0
  have lt0 : ∀ x ∈ p0, x.block < W.heap.size := by obtain ⟨m, hm⟩ := k0; exact DataW.trod_lt m _ _ _ hm
  obtain ⟨LA0, Ll0, Lc0, rfl, Lm0, Lr0⟩ := openWants13 (hval 0 22 v0 rfl rfl) h0
  have k1 := h1
  have lt1 : ∀ x ∈ p1, x.block < W.heap.size := by obtain ⟨m, hm⟩ := k1; exact DataW.trod_lt m _ _ _ hm
  obtain ⟨a1, rfl, _, _, w1⟩ := open_int Try.underlying3 (hval 1 3 v1 rfl rfl) h1
  have k2 := h2
  have lt2 : ∀ x ∈ p2, x.block < W.heap.size := by obtain ⟨m, hm⟩ := k2; exact DataW.trod_lt m _ _ _ hm
  obtain ⟨a2, rfl, _, _, w2⟩ := open_int Try.underlying3 (hval 2 3 v2 rfl rfl) h2
  clear hA0 hval0
  refine (walk LA0 Ll0 Lc0 a1 a2 W Lm0 Lr0 w1 w2).mono fun e W' ⟨he, bel⟩ => ?_
  subst he
  exact ⟨_, rfl, _, _, _, [], _, [], hW', trodAll_mk1 (shut_bool Try.underlying4 _), (trodAll_cons_mk (Below.trod laidOut (by kernel_rfl) (of_decide_eq_true (by kernel_rfl)) k0 bel lt0) (trodAll_cons_mk (Below.trod laidOut (by kernel_rfl) (of_decide_eq_true (by kernel_rfl)) k1 bel lt1) (trodAll_cons_mk (Below.trod laidOut (by kernel_rfl) (of_decide_eq_true (by kernel_rfl)) k2 bel lt2) trodAll_mk0))), rfl, bel.frame _, fun h => by cases h⟩
theorem over : Rows.placeAllRow.holds Try.pinned (OpenSpec.ofChange Rows.placeAllSpec) :=
  OpenClaim.holds_of_wide 3 Try.f3 rfl rfl rfl rfl rfl rfl rfl ⟨rfl, rfl, rfl, rfl, rfl⟩ rfl rfl rfl rfl rfl (by kernel_rfl) Try.func3 (by kernel_rfl)
    (of_decide_eq_true (by kernel_rfl)) (by unfold Func.isWrapper; first | (rw [if_pos (by decide +kernel)]; kernel_rfl) | (rw [if_neg (by decide +kernel)]; exact ⟨rfl, rfl⟩))
    (fun os started H enc _ => lifted os started H enc)
/-- The statement. -/
theorem proved : Rows.PlaceAllSaid := over
end Go.Proofs.Ytfoapghjloblnaa.lawAll
