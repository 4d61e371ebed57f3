/- SymbolHash: for any name (cut to 60 bytes): its hash has 28 bits; of six bytes at most it is their sum, each 16 times the ones behind it, if that has 28 bits. -/
import Derived.Test.YtkembimfkoganaaYL
namespace Go.Proofs.Ytkembimfkoganaa.lawHashY
open Go.ChangeShapes Go.WideShapes Go.ChangeAt Go.RowKit
open Go.ChangeMaps (open_string)
set_option linter.unusedVariables false
set_option linter.unusedSimpArgs false

/-- The bytes, each 16 times the ones behind it, added. -/
def sumL (l : List UInt8) : Nat := l.foldl (fun h c => 16 * h + c.toNat) 0
theorem sumL_snoc (l : List UInt8) (c : UInt8) : sumL (l ++ [c]) = 16 * sumL l + c.toNat := by
  unfold sumL
  rw [List.foldl_append]
  rfl
theorem fold_le (l : List UInt8) : ∀ h : Nat, l.foldl (fun h c => 16 * h + c.toNat) h + 17 ≤ (h + 17) * 16 ^ l.length := by
  induction l with
  | nil => intro h; simp
  | cons c l ih =>
    intro h
    have hc := c.toNat_lt
    refine Nat.le_trans (ih (16 * h + c.toNat)) ?_
    rw [List.length_cons, Nat.pow_succ, Nat.mul_comm (16 ^ l.length) 16, ← Nat.mul_assoc]
    exact Nat.mul_le_mul_right _ (by omega)
theorem fold_ge (l : List UInt8) : ∀ h : Nat, h ≤ l.foldl (fun h c => 16 * h + c.toNat) h := by
  induction l with
  | nil => intro h; exact Nat.le_refl _
  | cons c l ih => intro h; exact Nat.le_trans (show h ≤ 16 * h + c.toNat by omega) (ih (16 * h + c.toNat))
theorem fold_eq (l : List UInt8) : ∀ h : Nat, l.foldl (fun h c => 16 * h + c.toNat) h < 268435456 → l.foldl (fun h c => hs1 h c.toNat) h = l.foldl (fun h c => 16 * h + c.toNat) h := by
  induction l with
  | nil => intro h _; rfl
  | cons c l ih =>
    intro h hl
    have h1 : 16 * h + c.toNat < 268435456 := Nat.lt_of_le_of_lt (fold_ge l _) hl
    have h2 : hs1 h c.toNat = 16 * h + c.toNat := by
      unfold hs1
      rw [show (16 * h + c.toNat) % 4294967296 % 268435456 = 16 * h + c.toNat by omega, show (16 * h + c.toNat) % 4294967296 / 268435456 * 16 = 0 by omega, Nat.xor_zero]
    show l.foldl _ (hs1 h c.toNat) = _
    rw [h2]
    exact ih _ hl
theorem hash_sum (l : List UInt8) (h : sumL l < 268435456) : hashL l = sumL l := fold_eq l 0 h
theorem sum_le (l : List UInt8) (h : l.length ≤ 6) : sumL l ≤ 285212672 := by
  have h1 := fold_le l 0
  have h2 : (16 : Nat) ^ l.length ≤ 16 ^ 6 := Nat.pow_le_pow_right (by omega) h
  unfold sumL
  omega

set_option maxHeartbeats 800000 in
theorem walk (s : ByteArray) (w : World) (ws : s.size ≤ maxLen) :
    Calls Try.prog 5 #[.string s] w fun e w' => e = .returned (.bool true) ∧ Below w.heap.size w w' := by
  have HSH := Lib.hid (fun v => shortY_any s 60 v ws (by omega))
  have hss := shortSY_size s 60
  generalize shortSY s 60 = S at *
  have HA := Lib.hid (fun v => awakeY_any v)
  have HH := Lib.hid (fun v => hash_any S v (by omega))
  have hH := hashL_lt S.data.toList
  have HHS := Lib.hid (hash_sum S.data.toList)
  generalize hashL S.data.toList = H at *
  obtain ⟨h, hh⟩ : ∃ h : Int, (H : Int) = h := ⟨_, rfl⟩
  rw [hh] at HH
  have hH1 : h < 268435456 := by omega
  have hH0 : 0 ≤ h := by omega
  have HHE := Lib.hid hh
  clear hh hH
  by_cases h6 : 6 < S.size
  · go_enter Try.func5, Try.ntmps5
    go_wp2_with (first
      | (go_at_call 7; refine (HA.out _).mono ?_; rintro e v1 ⟨rfl, hb1⟩)
      | (go_at_call 8; refine (HSH.out _).mono ?_; rintro e v2 ⟨rfl, rfl⟩)
      | (go_at_call 11; refine (HH.out _).mono ?_; rintro e v3 ⟨rfl, hb3⟩))
    go_ret
    exact ⟨rfl, hb1.trans (hb3.mono hb1.size)⟩
  · go_enter Try.func5, Try.ntmps5
    go_wp2_with (first
      | (go_at_call 7; refine (HA.out _).mono ?_; rintro e v1 ⟨rfl, hb1⟩)
      | (go_at_call 8; refine (HSH.out _).mono ?_; rintro e v2 ⟨rfl, rfl⟩)
      | (go_at_call 11; refine (HH.out _).mono ?_; rintro e v3 ⟨rfl, hb3⟩))
    have HB := Lib.hid (hb1.trans (hb3.mono hb1.size))
    clear hb1 hb3
    go_loop [5, 6] (fun v i => ∃ k : Nat, k ≤ S.size ∧ i = .int .i64 k ∧ v = .int .i64 (sumL (S.data.toList.take k))) (fun _ i => S.size - (intOf i).toNat)
    case atStart => exact ⟨0, Nat.zero_le _, rfl, rfl⟩
    case round =>
      obtain ⟨k, hk, rfl, rfl⟩ := hrel
      have hsl := sum_le (S.data.toList.take k) (by rw [List.length_take]; omega)
      by_cases hlt : k < S.size
      · have hsn := sumL_snoc (S.data.toList.take k) S[k]
        rw [← take_snoc hlt] at hsn
        generalize sumL (S.data.toList.take k) = Z at *
        have hc := S[k].toNat_lt
        obtain ⟨C, hC⟩ : ∃ C, S[k].toNat = C := ⟨_, rfl⟩
        rw [hC] at hsn hc
        have HSN := Lib.hid hsn
        clear hsn
        go_wp2
        go_round
        case rel => exact ⟨k + 1, by omega, by go_num, by rw [HSN.out]; congr 1; omega⟩
        case measure => simp [intOf]; omega
      · obtain rfl : k = S.size := by omega
        rw [List.take_of_length_le (by rw [len_data]; exact Nat.le_refl _)] at hsl ⊢
        generalize sumL S.data.toList = Z at *
        obtain ⟨z, hz⟩ : ∃ z : Int, (Z : Int) = z := ⟨_, rfl⟩
        rw [hz]
        have hz1 : z ≤ 285212672 := by omega
        have hz0 : 0 ≤ z := by omega
        by_cases hZ : z < 268435456
        · have he := HHS.out (by omega)
          have heq : h = z := by rw [← HHE.out, ← hz, he]
          subst heq
          clear hz hsl he HHE
          go_wp2
          go_ret
          exact ⟨by simp, HB.out⟩
        · clear hz hsl
          go_wp2
          go_ret
          exact ⟨by simp, HB.out⟩

set_option maxRecDepth 100000 in
theorem lifted (os : Os) (started : os.Started) (H : Type) (enc : TypeId × Value → H) :
    ReturnsInHanded {} Try.checked os 5 .any (Rows.symbolHashSpec.pre6 enc Try.prog Try.f5 Rows.symbolHashRow.domain false) (Rows.symbolHashSpec.post enc Try.prog Try.f5 false true false false) := by
  refine returnsInHanded_of_change (C := Try.checked) own started (by kernel_rfl) Try.func5
    (ChangeSpec.witness6 (enc := enc) (C := Try.checked) false ⟨#[], #[.string ⟨#[]⟩], []⟩ 8 (by kernel_rfl) (by kernel_rfl) (by kernel_rfl) (by kernel_rfl)) ?_
  intro W base args ds gs before hval0 hW hcnd _
  have hval : ∀ (j : Nat) t v, Try.f5.params[j]? = some t → args[j]? = some v → Value.okWide Try.prog W .any base t v := hval0
  have hW' := hW
  obtain ⟨p, q, hA0, hV, rfl, hfz, hnd⟩ := hW
  have hA : DataW.TrodAll enc Try.prog W 0 (fun _ => true) true Try.f5.params.toList args.toList ds p := hA0
  rw [Try.params5] at hA hval
  obtain ⟨v0, vs0, d0, ds0, p0, q0, hargs, rfl, rfl, h0, r0⟩ := trodAll_cons hA
  obtain ⟨rfl, rfl, rfl⟩ := trodAll_nil r0
  obtain rfl : args = #[v0] := by cases args; simp_all
  obtain ⟨rfl, rfl⟩ := trodVars_none hV
  have k0 := h0
  have lt0 : ∀ x ∈ p0, x.block < W.heap.size := by obtain ⟨m, hm⟩ := k0; exact DataW.trod_lt m _ _ _ hm
  obtain ⟨a0, rfl, _, _, w0⟩ := open_string Try.underlying9 (hval 0 9 v0 rfl rfl) h0
  clear hA0 hval0
  refine (walk a0 W w0).mono fun e W' ⟨he, bel⟩ => ?_
  subst he
  exact ⟨_, rfl, _, _, _, [], _, [], hW', trodAll_mk1 (shut_bool Try.underlying4 _), (trodAll_cons_mk (Below.trod laidOut (by kernel_rfl) (of_decide_eq_true (by kernel_rfl)) k0 bel lt0) trodAll_mk0), rfl, bel.frame _, fun h => by cases h⟩
theorem over : Rows.symbolHashRow.holds Try.pinned (OpenSpec.ofChange Rows.symbolHashSpec) :=
  OpenClaim.holds_of_wide 5 Try.f5 rfl rfl rfl rfl rfl rfl rfl ⟨rfl, rfl, rfl, rfl, rfl⟩ rfl rfl rfl rfl rfl (by kernel_rfl) Try.func5 (by kernel_rfl)
    (of_decide_eq_true (by kernel_rfl)) (by unfold Func.isWrapper; first | (rw [if_pos (by decide +kernel)]; kernel_rfl) | (rw [if_neg (by decide +kernel)]; exact ⟨rfl, rfl⟩))
    (fun os started H enc _ => lifted os started H enc)
/-- The statement. -/
theorem proved : Rows.SymbolHashSaid := over
end Go.Proofs.Ytkembimfkoganaa.lawHashY
