/- OctetTexts: for any bytes ahead, to 20, a text of letters by a number, and any bytes behind, to 20: a text with a byte 0 behind is told at its place. -/
import Derived.Test.YtbojahbagfhpfaaAwake
import Derived.Test.YtbojahbagfhpfaaBits
import Derived.Deep.RegionHeld3
namespace Go.Proofs.Ytbojahbagfhpfaa.lawTexts
open Go.ChangeShapes Go.WideShapes Go.ChangeAt Go.RowKit
open Go.ChangeMaps (open_string)
set_option linter.unusedVariables false

theorem findIdx_zero : ∀ (l r : List UInt8), (∀ c ∈ l, c ≠ 0) → (l ++ 0 :: r).findIdx (· == 0) = l.length
  | [], r, _ => by simp [List.findIdx_cons]
  | c :: l, r, h => by
    have hc : (c == 0) = false := by simpa using h c (by simp)
    rw [List.cons_append, List.findIdx_cons, hc, findIdx_zero l r (fun d hd => h d (by simp [hd]))]
    simp

theorem text_facts (A B : ByteArray) (l : List UInt8) (hl : ∀ c ∈ l, c ≠ 0) :
    ∃ S, A ++ mkb l ++ (⟨#[0]⟩ : ByteArray) ++ B = S ∧ S.size = A.size + l.length + 1 + B.size ∧
      (∀ m : Int, (l.length : Int) ≤ m → textOk S A.size m = true ∧ textS S A.size m = mkb l) ∧ (∀ m : Int, m < (l.length : Int) → textOk S A.size m = false ∧ textS S A.size m = ⟨#[]⟩) ∧
      textOk S S.size 20 = false ∧ textS S S.size 20 = ⟨#[]⟩ := by
  refine ⟨_, rfl, ?_⟩
  have e : A ++ mkb l ++ (⟨#[0]⟩ : ByteArray) ++ B = mkb (A.data.toList ++ (l ++ 0 :: B.data.toList)) := by
    conv => lhs; rw [← mkb_of A, ← mkb_of B, show (⟨#[0]⟩ : ByteArray) = mkb [0] from rfl]
    rw [mkb_append, mkb_append, mkb_append]
    simp
  rw [e]
  have hsz : (mkb (A.data.toList ++ (l ++ 0 :: B.data.toList))).size = A.size + l.length + 1 + B.size := by
    rw [mkb_size]; simp only [List.length_append, List.length_cons, len_data]; omega
  have hz : zat (mkb (A.data.toList ++ (l ++ 0 :: B.data.toList))) A.size = l.length := by
    unfold zat
    rw [mkb_data, List.drop_left' (len_data A), findIdx_zero l _ hl]
  have hx : (mkb (A.data.toList ++ (l ++ 0 :: B.data.toList))).extract A.size (A.size + l.length) = mkb l := by
    rw [extract_mkb, mkb_data, List.drop_left' (len_data A), show A.size + l.length - A.size = l.length by omega, List.take_left' rfl]
  refine ⟨hsz, fun m hm => ?_, fun m hm => ?_, ?_⟩
  · have h := text_yes (s := mkb (A.data.toList ++ (l ++ 0 :: B.data.toList))) (a := A.size) (most := m) (by rw [hz, hsz]; omega) (by rw [hz]; exact hm)
    rw [hz, hx] at h
    exact h
  · exact text_no (by rintro ⟨_, _, x⟩; simp only [Int.toNat_natCast] at x; rw [hz] at x; omega)
  · exact text_no (by rintro ⟨_, x, _⟩; simp only [Int.toNat_natCast] at x; omega)

theorem run_string_letter {P : Program} (src dst e : TypeId) (hs : P.underlying src = some (.slice e)) (he : P.underlying e = some (.int .u8)) (hd : P.underlying dst = some .string) (k : Int) (h0 : 0 ≤ k) (cap : Nat) (w : World) :
    (convert src dst (.slice (some ⟨w.heap.size, 0, none⟩) 1 cap)).run P (w.alloc (.cells #[.int .u8 (97 + k % 8)] e)) = .ok (.string (mkb [UInt8.ofNat (97 + k % 8).toNat])) (w.alloc (.cells #[.int .u8 (97 + k % 8)] e)) := by
  refine run_string_blk (P := P) _ src dst e w.heap.size cap e [UInt8.ofNat (97 + k % 8).toNat] 1 rfl hs he hd ?_
  have e : Lib.byteCells [UInt8.ofNat (97 + k % 8).toNat] = [.int .u8 (97 + k % 8)] := by
    simp [Lib.byteCells]
    omega
  rw [e]
  exact Blk.new _ _ _

/-- The letters behind some rounds. -/
def Letters (t : ByteArray) (k : Int) : Prop := ∃ l, t = mkb l ∧ (∀ c ∈ l, c ≠ 0) ∧ l.length ≤ 4 ∧ k * 8 ^ l.length ≤ 4095
theorem letters_step {t : ByteArray} {k : Int} (h : Letters t k) (hk : 0 < k) : t.size ≤ 3 ∧ Letters (t ++ mkb [UInt8.ofNat (97 + k % 8).toNat]) (k / 8) := by
  obtain ⟨l, rfl, hl, h4, hb⟩ := h
  have h3 : l.length ≤ 3 := by
    rcases Nat.lt_or_ge 3 l.length with h | h
    · have : l.length = 4 := by omega
      rw [this] at hb
      omega
    · exact h
  refine ⟨by rw [mkb_size]; exact h3, l ++ [UInt8.ofNat (97 + k % 8).toNat], mkb_append _ _, ?_, by simp; omega, ?_⟩
  · intro c hc
    rcases List.mem_append.1 hc with h | h
    · exact hl c h
    · simp only [List.mem_singleton] at h
      subst h
      intro h
      have h' := congrArg UInt8.toNat h
      simp at h'
      omega
  · rw [List.length_append, List.length_singleton, Int.pow_succ, ← Int.mul_assoc, Int.mul_comm (k / 8) _, Int.mul_assoc]
    have h8 : k / 8 * 8 ≤ k := by omega
    have hp : (0 : Int) ≤ 8 ^ l.length := Int.pow_nonneg (by omega)
    have := Int.mul_le_mul_of_nonneg_left h8 hp
    rw [Int.mul_comm k] at hb
    omega

set_option maxHeartbeats 3200000 in
theorem walk (s : ByteArray) (n : Int) (t : ByteArray) (w : World) (ws : s.size ≤ maxLen) (wn : (Lit.int .i64 n).wf = true) (wt : t.size ≤ maxLen) :
    Calls Try.prog 7 #[.string s, .int .i64 n, .string t] w fun e w' => e = .returned (.bool true) ∧ Below w.heap.size w w' := by
  have haw := fun w => awake_any w
  have HA := Lib.hid haw
  clear haw
  have hB := Below.refl w.heap.size w
  have hA := shortS_size s 20
  have hBs := shortS_size t 20
  have hsa : ∀ w, Calls Try.prog 11 #[.string s, .int .i64 20] w fun e w' => e = .returned (.string (shortS s 20)) ∧ w = w' := fun w => short_any s 20 w ws (by omega)
  have hsb : ∀ w, Calls Try.prog 11 #[.string t, .int .i64 20] w fun e w' => e = .returned (.string (shortS t 20)) ∧ w = w' := fun w => short_any t 20 w wt (by omega)
  generalize shortS s 20 = A at *
  generalize shortS t 20 = B at *
  have H1 := Lib.hid hsa
  have H2 := Lib.hid hsb
  clear hsa hsb
  obtain ⟨K, hK⟩ : ∃ k, bits .and .i64 n 4095 = k := ⟨_, rfl⟩
  have hK0 : 0 ≤ K ∧ K ≤ 4095 := by rw [← hK, i64_and12]; omega
  obtain ⟨hK0, hK1⟩ := hK0
  go_enter Try.func7, Try.ntmps7
  go_wp2_with (first
    | (go_at_call 10; refine (HA.out _).mono ?_; rintro e v1 ⟨rfl, hb⟩; replace hB := hB.trans (hb.mono hB.size); clear hb)
    | (go_at_call 11; with_reducible refine (H1.out _).mono ?_; rintro e v2 ⟨rfl, rfl⟩))
  go_loopw [9, 10] (fun v i wr => ∃ (k : Int) (T : ByteArray), i = .int .i64 k ∧ 0 ≤ k ∧ k ≤ 4095 ∧ v = .string T ∧ Letters T k ∧ Below w.heap.size w wr) (fun _ i _ => (intOf i).toNat)
  case atStart => exact ⟨K, ⟨#[]⟩, rfl, hK0, hK1, rfl, ⟨[], rfl, by simp, by simp, by simpa using hK1⟩, hB⟩
  case round =>
    clear hB
    obtain ⟨k, T, rfl, hk0, hk1, rfl, hT, hB⟩ := hrel
    by_cases hlt : 0 < k
    · obtain ⟨hT3, hst⟩ := letters_step hT hlt
      have hcv := run_string_letter (P := Try.prog) 40 9 5 Try.underlying40 Try.underlying5 Try.underlying9 k hk0 1
      have hz2 : (mkb [UInt8.ofNat (97 + k % 8).toNat]).size = 1 := by rw [mkb_size]; rfl
      clear hT
      go_wp2
      go_roundw
      case rel => exact ⟨k / 8, _, rfl, by omega, by omega, rfl, hst, hB.alloc hB.size _⟩
      case measure => simp [intOf] <;> omega
    · obtain ⟨l, rfl, hl, h4, _⟩ := hT
      obtain ⟨S, hS, hSs, f1, f2, f3, f4⟩ := text_facts A B l hl
      have hSb : S.size ≤ 45 := by omega
      clear hSs
      have hlz : (mkb l).size = l.length := mkb_size l
      have g1 := f1 20 (by omega)
      have g2 := f1 l.length (by omega)
      have g3 := f2 ((l.length : Int) - 1) (by omega)
      have t1 := fun w => text_any S A.size 20 w (WalkArith.wf_i64 (by omega)) (by decide) (by omega)
      have t2 := fun w => text_any S A.size l.length w (WalkArith.wf_i64 (by omega)) (WalkArith.wf_i64 (by omega)) (by omega)
      have t3 := fun w => text_any S A.size ((l.length : Int) - 1) w (WalkArith.wf_i64 (by omega)) (WalkArith.wf_i64 (by omega)) (by omega)
      have t4 := fun w => text_any S S.size 20 w (WalkArith.wf_i64 (by omega)) (by decide) (by omega)
      have t5 := fun w => fill_any (mkb l) ((l.length : Int) + 1) w (WalkArith.wf_i64 (by omega)) (by omega) (by omega)
      have e5 : fillS (mkb l) ((l.length : Int) + 1) = mkb l ++ ⟨#[0]⟩ := by
        unfold fillS
        rw [if_neg (by omega), mkb_data, show ((l.length : Int) + 1).toNat = l.length + 1 by omega, show (⟨#[0]⟩ : ByteArray) = mkb [0] from rfl, mkb_append]
        unfold fillL
        rw [List.take_of_length_le (by omega), show l.length + 1 - l.length = 1 by omega]
        rfl
      rw [g1.1, g1.2] at t1
      rw [g2.1, g2.2] at t2
      rw [g3.1, g3.2] at t3
      rw [f3, f4] at t4
      rw [e5] at t5
      clear g1 g2 g3 f1 f2 f3 f4 e5
      generalize mkb l = T at *
      have hz1 : ByteArray.size ⟨#[0]⟩ = 1 := rfl
      have T1 := Lib.hid t1
      have T2 := Lib.hid t2
      have T3 := Lib.hid t3
      have T4 := Lib.hid t4
      have T5 := Lib.hid t5
      clear t1 t2 t3 t4 t5 hl
      go_wp2_with (first
        | (go_at_call 11; with_reducible refine (H2.out _).mono ?_; rintro e v2 ⟨rfl, rfl⟩)
        | (go_at_call 20; with_reducible refine (T1.out _).mono ?_; rintro e v3 ⟨rfl, hb⟩; replace hB := hB.trans (hb.mono hB.size); clear hb)
        | (go_at_call 20; with_reducible refine (T2.out _).mono ?_; rintro e v4 ⟨rfl, hb⟩; replace hB := hB.trans (hb.mono hB.size); clear hb)
        | (go_at_call 20; with_reducible refine (T3.out _).mono ?_; rintro e v5 ⟨rfl, hb⟩; replace hB := hB.trans (hb.mono hB.size); clear hb)
        | (go_at_call 20; with_reducible refine (T4.out _).mono ?_; rintro e v6 ⟨rfl, hb⟩; replace hB := hB.trans (hb.mono hB.size); clear hb)
        | (go_at_call 24; with_reducible refine (T5.out _).mono ?_; rintro e v7 ⟨rfl, hb⟩; replace hB := hB.trans (hb.mono hB.size); clear hb))
      go_ret
      exact ⟨by simp, hB⟩

set_option maxRecDepth 100000 in
theorem lifted (os : Os) (started : os.Started) (H : Type) (enc : TypeId × Value → H) :
    ReturnsInHanded {} Try.checked os 7 .any (Rows.octetTextsSpec.pre6 enc Try.prog Try.f7 Rows.octetTextsRow.domain false) (Rows.octetTextsSpec.post enc Try.prog Try.f7 false true false false) := by
  refine returnsInHanded_of_change (C := Try.checked) own started (by kernel_rfl) Try.func7
    (ChangeSpec.witness6 (enc := enc) (C := Try.checked) false ⟨#[], #[.string ⟨#[]⟩, .int .i64 0, .string ⟨#[]⟩], []⟩ 8 (by kernel_rfl) (by kernel_rfl) (by kernel_rfl) (by kernel_rfl)) ?_
  intro W base args ds gs before hval0 hW hcnd _
  have hval : ∀ (j : Nat) t v, Try.f7.params[j]? = some t → args[j]? = some v → Value.okWide Try.prog W .any base t v := hval0
  have hW' := hW
  obtain ⟨p, q, hA0, hV, rfl, hfz, hnd⟩ := hW
  have hA : DataW.TrodAll enc Try.prog W 0 (fun _ => true) true Try.f7.params.toList args.toList ds p := hA0
  rw [Try.params7] at hA hval
  obtain ⟨v0, vs0, d0, ds0, p0, q0, hargs, rfl, rfl, h0, r0⟩ := trodAll_cons hA
  obtain ⟨v1, vs1, d1, ds1, p1, q1, rfl, rfl, rfl, h1, r1⟩ := trodAll_cons r0
  obtain ⟨v2, vs2, d2, ds2, p2, q2, rfl, rfl, rfl, h2, r2⟩ := trodAll_cons r1
  obtain ⟨rfl, rfl, rfl⟩ := trodAll_nil r2
  obtain rfl : args = #[v0, v1, v2] := by cases args; simp_all
  obtain ⟨rfl, rfl⟩ := trodVars_none hV
  have k0 := h0
  have lt0 : ∀ x ∈ p0, x.block < W.heap.size := by obtain ⟨m, hm⟩ := k0; exact DataW.trod_lt m _ _ _ hm
  obtain ⟨a0, rfl, _, _, w0⟩ := open_string Try.underlying9 (hval 0 9 v0 rfl rfl) h0
  have k1 := h1
  have lt1 : ∀ x ∈ p1, x.block < W.heap.size := by obtain ⟨m, hm⟩ := k1; exact DataW.trod_lt m _ _ _ hm
  obtain ⟨a1, rfl, _, _, w1⟩ := open_int Try.underlying3 (hval 1 3 v1 rfl rfl) h1
  have k2 := h2
  have lt2 : ∀ x ∈ p2, x.block < W.heap.size := by obtain ⟨m, hm⟩ := k2; exact DataW.trod_lt m _ _ _ hm
  obtain ⟨a2, rfl, _, _, w2⟩ := open_string Try.underlying9 (hval 2 9 v2 rfl rfl) h2
  clear hA0 hval0
  refine (walk a0 a1 a2 W w0 w1 w2).mono fun e W' ⟨he, bel⟩ => ?_
  subst he
  exact ⟨_, rfl, _, _, _, [], _, [], hW', trodAll_mk1 (shut_bool Try.underlying4 _), (trodAll_cons_mk (Below.trod laidOut (by kernel_rfl) (of_decide_eq_true (by kernel_rfl)) k0 bel lt0) (trodAll_cons_mk (Below.trod laidOut (by kernel_rfl) (of_decide_eq_true (by kernel_rfl)) k1 bel lt1) (trodAll_cons_mk (Below.trod laidOut (by kernel_rfl) (of_decide_eq_true (by kernel_rfl)) k2 bel lt2) trodAll_mk0))), rfl, bel.frame _, fun h => by cases h⟩
theorem over : Rows.octetTextsRow.holds Try.pinned (OpenSpec.ofChange Rows.octetTextsSpec) :=
  OpenClaim.holds_of_wide 7 Try.f7 rfl rfl rfl rfl rfl rfl rfl ⟨rfl, rfl, rfl, rfl, rfl⟩ rfl rfl rfl rfl rfl (by kernel_rfl) Try.func7 (by kernel_rfl)
    (of_decide_eq_true (by kernel_rfl)) (by unfold Func.isWrapper; first | (rw [if_pos (by decide +kernel)]; kernel_rfl) | (rw [if_neg (by decide +kernel)]; exact ⟨rfl, rfl⟩))
    (fun os started H enc _ => lifted os started H enc)
/-- The statement. -/
theorem proved : Rows.OctetTextsSaid := over
end Go.Proofs.Ytbojahbagfhpfaa.lawTexts
