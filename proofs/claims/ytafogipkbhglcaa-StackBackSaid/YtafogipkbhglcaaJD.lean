/- Package stack: ended; a builder that may be empty; what a builder leaves as it was. -/
import Derived.Test.YtafogipkbhglcaaJA
import Derived.BigRegion
import Derived.Deep.CutRange
import Derived.Deep.CutBlock
import Derived.RegionTactic
namespace Go.Proofs.Ytafogipkbhglcaa
open Go.RowKit
set_option linter.unusedVariables false
set_option linter.unusedSimpArgs false

/-- A builder that nothing was written to. -/
def Bd0 (b : Nat) (w : World) : Prop := Blk w b 62 #[.pointer none, .slice none 0 0]
set_option maxHeartbeats 1000000 in
set_option maxRecDepth 100000 in
theorem bd_string0 (B b : Nat) (w : World) (h : Bd0 b w) :
    Calls Try.prog 29 #[.pointer (some ⟨b, 0, none⟩)] w fun e w' => e = .returned (.string ⟨#[]⟩) ∧ Below B w w' := by
  have c1 : w.drew.cell? ⟨b, 1, none⟩ = some (.slice none 0 0) := h.drew.at_ 1 _ rfl
  have hSD : (Builtin.unsafeSliceData_ #[38] 87 #[.slice none 0 0]).run Try.prog w.drew = .ok (.pointer none) w.drew :=
    Lib.run_unsafeSliceData_nil _ _ _ _ _
  have hUS : (Builtin.unsafeString_ #[87, 3] 9 #[.pointer none, .int .i64 0]).run Try.prog w.drew = .ok (.string ⟨#[]⟩) w.drew :=
    Lib.run_unsafeString_none _ _ _ _ _
  have HB := Lib.hid (Below.drew (Below.refl B w))
  clear h
  go_enter Try.func29, Try.ntmps29
  go_wp2
  go_region
  all_goals (go_wp2; go_ret; exact ⟨rfl, HB.out⟩)

theorem endL_nonempty {ss : List ByteArray} (h : 0 < ss.length) : endL ss ≠ [] := by
  cases ss with
  | nil => simp at h
  | cons s ss => intro e; have := congrArg List.length e; simp [endL] at this
theorem endL_size {ss : List ByteArray} (h : ss.length = 0) : mkb (endL ss) = ⟨#[]⟩ := by
  rw [List.length_eq_zero_iff.1 h]
  rfl

set_option maxRecDepth 100000 in
set_option maxHeartbeats 1600000 in
theorem ended_any (A : Option Addr) (ss : List ByteArray) (c : Nat) (w : World) (hr : StrRow w A ss) (hl : ss.length ≤ 100000000) (ht : tlen ss ≤ 100000000) :
    Calls Try.prog 23 #[.slice A ss.length c] w fun e w' => e = .returned (.string (mkb (endL ss))) ∧ Below w.heap.size w w' := by
  obtain ⟨n, hn⟩ : ∃ n, ss.length = n := ⟨_, rfl⟩
  obtain ⟨T, hT⟩ : ∃ n, mkb (endL ss) = n := ⟨_, rfl⟩
  obtain ⟨R, hR⟩ : ∃ R, w.heap.size = R := ⟨_, rfl⟩
  have HTL := Lib.hid (fun k => (Nat.le_trans (tlen_take_le ss k) ht))
  rw [hn, hT]
  rw [hn] at hl
  have HN := Lib.hid (And.intro hn hT)
  have HRO := Lib.hid (fun v (hv : Below R w v) => strRow_below17 hr hR.symm hv)
  have HS := Lib.hid (show Bd R R [] (w.alloc (.cells #[.pointer none, .slice none 0 0] 62)) ∧ Bd0 R (w.alloc (.cells #[.pointer none, .slice none 0 0] 62)) ∧ Below R w (w.alloc (.cells #[.pointer none, .slice none 0 0] 62)) from by
    rw [← hR]
    exact ⟨Bd.new w, Blk.new w _ _, (Below.refl _ _).alloc (Nat.le_refl _) _⟩)
  clear hn hT hr ht
  go_enter Try.func23, Try.ntmps23
  go_upto_region 2 with fail
  generalize w.alloc (.cells #[.pointer none, .slice none 0 0] 62) = W0 at *
  go_wp2_with fail
  go_loopw [5, 9] (fun _ i wr => ∃ k : Nat, k ≤ n ∧ i = .int .i64 k ∧ Hid (Bd R R (endL (ss.take k)) wr) ∧ Hid (k = 0 → Bd0 R wr) ∧ Hid (Below R w wr)) (fun _ i _ => n - (intOf i).toNat)
  case atStart => exact ⟨0, Nat.zero_le _, rfl, Lib.hid HS.out.1, Lib.hid (fun _ => HS.out.2.1), Lib.hid HS.out.2.2⟩
  case round =>
    obtain ⟨k, hk, rfl, HBD, H0, HB⟩ := hrel
    by_cases hlt : k < n
    · have hkl : k < ss.length := by rw [HN.out.1]; exact hlt
      obtain ⟨ad, rfl, hblt, d0, hsz⟩ := HRO.out wr HB.out k hkl
      have HTK := Lib.hid (endL_take hkl)
      have ht1 := HTL.out (k + 1)
      unfold tlen at ht1
      rw [HTK.out, List.length_append, List.length_append, len_data] at ht1
      generalize ss[k] = s at *
      have hlb := HBD.out.le
      have HW1 := Lib.hid (bd_write R R (endL (ss.take k)) s wr HBD.out (by omega))
      have HW2 := Lib.hid (fun u (hu : Bd R R (endL (ss.take k) ++ s.data.toList) u) => bd_write R R _ (⟨#[0]⟩ : ByteArray) u hu (by rw [List.length_append, len_data]; show _ + 1 ≤ _; simp at ht1; omega))
      have k0 : (0 : Int) ≤ (k : Int) := by omega
      have k1 : (k : Int) < (n : Int) := by omega
      clear ht1 hkl hsz
      go_wp2_with (first
        | (go_at_call 25; with_reducible refine HW1.out.mono ?_; rintro e v1 ⟨rfl, hd1, hb1⟩)
        | (go_at_call 25; with_reducible refine (HW2.out _ hd1).mono ?_; rintro e v2 ⟨rfl, hd2, hb2⟩))
      go_roundw
      case rel => exact ⟨k + 1, by omega, by go_num, Lib.hid (by rw [HTK.out, ← List.append_assoc]; exact hd2), Lib.hid (fun e => by omega), Lib.hid ((HB.out.trans hb1).trans hb2)⟩
      case measure => simp [intOf]; omega
    · obtain rfl : k = n := by omega
      have hf := HBD.out
      rw [← HN.out.1, List.take_length] at hf
      by_cases h0 : k = 0
      · have HZ := Lib.hid (bd_string0 R R wr (H0.out h0))
        have HE := Lib.hid (show T = ⟨#[]⟩ from by rw [← HN.out.2]; exact endL_size (by rw [HN.out.1]; exact h0))
        clear hf
        subst h0
        go_wp2_with (go_at_call 29; refine HZ.out.mono ?_; rintro e v1 ⟨rfl, hb1⟩)
        go_ret
        exact ⟨by rw [HE.out]; rfl, by rw [hR]; exact HB.out.trans hb1⟩
      · have HZ := Lib.hid (bd_string R R (endL ss) wr hf (endL_nonempty (by rw [HN.out.1]; omega)))
        rw [HN.out.2] at HZ
        clear hf h0
        go_wp2_with (go_at_call 29; refine HZ.out.mono ?_; rintro e v1 ⟨rfl, hb1⟩)
        go_ret
        exact ⟨rfl, by rw [hR]; exact HB.out.trans hb1⟩
end Go.Proofs.Ytafogipkbhglcaa
