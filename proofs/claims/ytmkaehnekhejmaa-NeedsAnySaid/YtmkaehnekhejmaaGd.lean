/- Layer 12: Len; package needs: firsts. -/
import Derived.Test.YtmkaehnekhejmaaGc
namespace Go.Proofs.Ytmkaehnekhejmaa
open Go.RowKit
set_option linter.unusedVariables false
set_option linter.unusedSimpArgs false

theorem MapS.alloc {M n : Nat} {f : ByteArray → Option Int} {w : World} (h : MapS M n f w) (o : Obj) : MapS M n f (w.alloc o) := h.but ((But.refl (fun _ => False) w).alloc o) (fun h => h)
theorem MapS.drewN {M n : Nat} {f : ByteArray → Option Int} {w : World} (h : MapS M n f w) (k : Nat) : MapS M n f (w.drewN k) := h.but ((But.refl (fun _ => False) w).drewN k) (fun h => h)

/-- How many bits of a number there are. -/
def lenB (n : Nat) : Nat := if n = 0 then 0 else Nat.log2 n + 1
theorem lenB_lt (n : Nat) : n < 2 ^ lenB n := by
  unfold lenB
  split
  · subst_vars; decide
  · exact Nat.lt_log2_self
theorem lenB_le {n : Nat} (h : n < 256) : lenB n ≤ 8 := by
  unfold lenB
  split
  · omega
  · have := (Nat.log2_lt (by omega)).2 (show n < 2 ^ 8 by omega)
    omega
set_option maxRecDepth 100000 in
set_option maxHeartbeats 1600000 in
theorem len64_any (n : Int) (w : World) (h0 : 0 ≤ n) (hn : n < 256) : Calls Try.prog 31 #[.int .u64 n] w fun e w' => e = .returned (.int .i64 (lenB n.toNat)) ∧ w' = w := by
  have h1 : IntKind.u8.wrap n = n := by
    have e : IntKind.u8.wrap n = n % 256 := rfl
    rw [e]; omega
  have h2 : decide (n ≥ 4294967296) = false := by simp; omega
  have h3 : decide (n ≥ 65536) = false := by simp; omega
  have h4 : decide (n ≥ 256) = false := by simp; omega
  go_enter Try.func31, Try.ntmps31
  go_wp2
  go_ret
  refine ⟨congrArg (fun z => Ending.returned (Value.int .i64 z)) ?_, rfl⟩
  have e : ∀ (a : Array UInt8) (k : Nat) (h : k < (ByteArray.mk a).size), (ByteArray.mk a)[k] = a.getD k 0 := fun a k h => by
    have h' : k < a.size := h
    rw [Array.getD_eq_getD_getElem?, Array.getElem?_eq_getElem h']
    rfl
  rw [e]
  obtain ⟨k, rfl⟩ : ∃ k : Nat, n = k := ⟨n.toNat, by omega⟩
  rw [Int.toNat_natCast]
  have hk : k < 256 := by omega
  clear h1 h2 h3 h4 h0 hn e
  revert k
  decide +kernel

set_option maxRecDepth 100000 in
theorem len_any (n : Int) (w : World) (h0 : 0 ≤ n) (hn : n < 256) : Calls Try.prog 29 #[.int .u64 n] w fun e w' => e = .returned (.int .i64 (lenB n.toNat)) ∧ w' = w := by
  have H := Lib.hid (fun v => len64_any n v h0 hn)
  generalize lenB n.toNat = r at *
  clear h0 hn
  go_enter Try.func29, Try.ntmps29
  go_wp2_with (go_at_call 31; with_reducible refine (H.out _).mono ?_; rintro e w' ⟨rfl, rfl⟩)
  go_ret
  exact ⟨rfl, rfl⟩

set_option maxRecDepth 100000 in
set_option maxHeartbeats 1600000 in
theorem firsts_any (L : List Lb) (A : Option Addr) (c : Nat) (w : World) (h : LibRow w A L) (hl : L.length ≤ 1000) :
    Calls Try.prog 26 #[.slice A L.length c] w fun e w' => ∃ M n, e = .returned (.map (some M)) ∧ MapS M n (firstF L) w' ∧ n ≤ 1000 ∧ w.heap.size ≤ M ∧ Below w.heap.size w w' := by
  have hmm := @run_makeMap Try.prog
  have H := Lib.hid h
  obtain ⟨n, hn⟩ : ∃ n, L.length = n := ⟨_, rfl⟩
  have HN := Lib.hid hn
  obtain ⟨R, hR⟩ : ∃ R, w.heap.size = R := ⟨_, rfl⟩
  have HR := Lib.hid hR
  have hmk := MapS.made w
  rw [hn] at hl ⊢
  have HM := Lib.hid (show MapS R 0 (firstF (L.take 0)) (w.alloc (.map #[] 0)) from by rw [← hR]; exact hmk.congr (fun y => rfl))
  have HB := Lib.hid (show Below R w (w.alloc (.map #[] 0)) from by rw [← hR]; exact (Below.refl _ _).alloc (Nat.le_refl _) _)
  rw [hR]
  clear h hn hmk
  go_enter Try.func26, Try.ntmps26
  go_wp2_with fail
  clear hR
  go_loopw [11] (fun i wr => ∃ k : Nat, k ≤ n ∧ i = .int .i64 k ∧ Hid (MapS R k (firstF (L.take k)) wr) ∧ Hid (Below R w wr)) (fun i _ => n - (intOf i).toNat)
  case atStart => exact ⟨0, Nat.zero_le _, rfl, HM, HB⟩
  case round =>
    obtain ⟨k, hk, rfl, HMP, HBL⟩ := hrel
    by_cases hlt : k < n
    · have hk1 : k < L.length := by rw [HN.out]; exact hlt
      obtain ⟨ad, An, cn, rfl, hblt, c0, c1, hrow, hnm, hlen⟩ := (H.out.below HR.out.symm HBL.out) k hk1
      have hsn := firstF_snoc (L.take k) L[k]
      rw [← List.take_succ_eq_append_getElem hk1, List.length_take, Nat.min_eq_left (Nat.le_of_lt hk1)] at hsn
      obtain ⟨nm, hnme⟩ : ∃ nm, L[k].name = nm := ⟨_, rfl⟩
      obtain ⟨nd, hnde⟩ : ∃ nd, L[k].need.length = nd := ⟨_, rfl⟩
      rw [hnme] at c0 hnm hsn
      rw [hnde] at c1
      have hk0 : (0 : Int) ≤ (k : Int) := by omega
      have hk2 : (k : Int) < (n : Int) := by omega
      obtain ⟨W1, hW1⟩ : ∃ W1, wr.alloc (.cells #[.string nm, .slice An nd cn] 27) = W1 := ⟨_, rfl⟩
      have hM1 : MapS R k (firstF (L.take k)) W1 := by rw [← hW1]; exact HMP.out.alloc _
      have hB1 : Below R w W1 := by rw [← hW1]; exact HBL.out.alloc (by rw [← HR.out]; exact HBL.out.size) _
      have hq : W1.cell? ⟨wr.heap.size, 0, none⟩ = some (.string nm) := by rw [← hW1]; exact (Blk.new wr _ _).cell 0
      have hok := hM1.ok hnm
      obtain ⟨o, ho⟩ : ∃ o, firstF (L.take k) nm = o := ⟨_, rfl⟩
      rw [ho] at hok hsn
      have HW := Lib.hid hW1
      cases o with
      | some z =>
        have HS := Lib.hid (show MapS R (k + 1) (firstF (L.take (k + 1))) W1 from by
          obtain ⟨D, hD, hr⟩ := hM1.congr (g := firstF (L.take (k + 1))) (fun y => by rw [hsn y]; rfl)
          exact ⟨D, hD.mono (Nat.le_succ _), hr⟩)
        have HB1 := Lib.hid hB1
        clear hM1 hB1 hsn hW1 HMP HBL ho hnme hnde hrow hlen
        go_wp2_with (rw [HW.out])
        go_roundw
        case rel => exact ⟨k + 1, by omega, by go_num, HS, HB1⟩
        case measure => simp [intOf]; omega
      | none =>
        obtain ⟨W2, hrun, hM2, hgr⟩ := hM1.put (v := (k : Int)) (by unfold maxLen; omega) hnm (WalkArith.wf_i64 (by omega))
        have HS := Lib.hid (hM2.congr (g := firstF (L.take (k + 1))) (fun y => by rw [hsn y]; rfl))
        have HB2 := Lib.hid (hB1.grown hgr (by rw [← HR.out]; exact hB1.size) (fun j hj => by cases hj; exact Nat.le_refl _))
        clear hM1 hB1 hsn hW1 HMP HBL ho hnme hnde hrow hlen hM2 hgr
        go_wp2_with (rw [HW.out])
        go_roundw
        case rel => exact ⟨k + 1, by omega, by go_num, HS, HB2⟩
        case measure => simp [intOf]; omega
    · obtain rfl : k = n := by omega
      have HF := Lib.hid (show MapS R k (firstF L) wr from by
        have := HMP.out
        rw [List.take_of_length_le (by rw [HN.out]; exact Nat.le_refl _)] at this
        exact this)
      go_wp2
      go_ret
      exact ⟨R, k, rfl, HF.out, hl, Nat.le_refl _, HBL.out⟩
end Go.Proofs.Ytmkaehnekhejmaa
