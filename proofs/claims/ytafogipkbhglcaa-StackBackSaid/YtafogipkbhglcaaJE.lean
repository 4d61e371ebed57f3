/- Package stack: Build's closures. -/
import Derived.Test.YtafogipkbhglcaaJD
namespace Go.Proofs.Ytafogipkbhglcaa
open Go.RowKit
set_option linter.unusedVariables false
set_option linter.unusedSimpArgs false

/-- All rows but bytes and builders are as they were. -/
structure Kp (w w' : World) : Prop where
  size : w.heap.size ≤ w'.heap.size
  row : ∀ k t cs, t ≠ 62 → t ≠ 5 → Blk w k t cs → Blk w' k t cs
theorem Kp.refl (w : World) : Kp w w := ⟨Nat.le_refl _, fun _ _ _ _ _ h => h⟩
theorem Kp.trans {a b c : World} (h : Kp a b) (k : Kp b c) : Kp a c := ⟨Nat.le_trans h.size k.size, fun i t cs h1 h2 hi => k.row i t cs h1 h2 (h.row i t cs h1 h2 hi)⟩
theorem Kp.below {w w' : World} (h : Below w.heap.size w w') : Kp w w' := ⟨h.size, fun k t cs _ _ hk => hk.below h hk.lt⟩
theorem Kp.other {w : World} {k b : Nat} {t T : TypeId} {cs c : Array Value} {f : Nat × Nat} (hk : Blk w k t cs) (hb : w.heap[b]? = some (.cells c T f)) (hT : t ≠ T) : k ≠ b := by
  rintro rfl
  unfold Blk at hk
  rw [hk] at hb
  injection hb with hb
  injection hb with _ h _
  exact hT h
theorem Kp.setCell {w : World} {b : Nat} {c : Array Value} {f : Nat × Nat} (hb : w.heap[b]? = some (.cells c 62 f)) (j : Nat) (u : Value) : Kp w (w.setCell ⟨b, j, none⟩ u) :=
  ⟨by simp [World.setCell], fun k t cs h1 h2 hk => hk.far (p := ⟨b, j, none⟩) (Kp.other hk hb h1) u⟩
theorem Kp.grown {w w' : World} {row : Option Nat} (hg : w.grownBy w' row) (hr : ∀ g, row = some g → ∃ c f, w.heap[g]? = some (.cells c 5 f)) : Kp w w' :=
  ⟨hg.size, fun k t cs h1 h2 hk => hk.grown hg (fun e => by
    obtain ⟨c, f, h3⟩ := hr k e.symm
    exact Kp.other hk h3 h2 rfl)⟩

theorem bd_check_k (B b : Nat) (bs : List Value) (w : World) (h : Lib.IsBuilder 62 5 B b bs w) :
    Calls Try.prog 45 #[.pointer (some ⟨b, 0, none⟩)] w fun e w' => e = .returned (.tuple #[]) ∧ (Lib.BuilderAt 62 5 B b (.pointer (some ⟨b, 0, none⟩)) bs w' ∧ Below B w w' ∧ Kp w w') := by
  rcases h with h | h
  · refine (bd_check_fresh b w h.cell0 h.shape h.frozen0).mono ?_
    rintro e w' ⟨rfl, rfl⟩
    obtain ⟨_, v, hb, _⟩ := id h
    exact ⟨rfl, h.used _, (Below.refl B w).setCell (p := ⟨b, 0, none⟩) h.1 _, Kp.setCell hb 0 _⟩
  · refine (bd_check_used b w h.cell0).mono ?_
    rintro e w' ⟨rfl, rfl⟩
    exact ⟨rfl, h, Below.refl B _, Kp.refl _⟩
set_option maxHeartbeats 2000000 in
set_option maxRecDepth 100000 in
theorem bd_write_k (B b : Nat) (l : List UInt8) (s : ByteArray) (w : World) (h : Bd B b l w) (hlen : l.length + s.size ≤ 140737488355328) :
    Calls Try.prog 25 #[.pointer (some ⟨b, 0, none⟩), .string s] w fun e w' => e = .returned (.tuple #[.int .i64 s.size, .nilIface]) ∧ Bd B b (l ++ s.data.toList) w' ∧ Below B w w' ∧ Kp w w' := by
  have hBw := h.le
  have hll : (Lib.byteCells l).length = l.length := Lib.byteCells_length l
  have HLL := Lib.hid hll
  obtain ⟨i0, hi, hz0, hz1, hz2⟩ := info_parts infoU8
  go_enter Try.func25, Try.ntmps25
  go_wp2_with (go_at_call 45; refine (bd_check_k B b _ _ h).mono ?_)
  rintro e w1 ⟨rfl, h1, hb1, hk1⟩
  obtain ⟨hB, v, hbk, hown, hne⟩ := h1
  have c0 : w1.cell? ⟨b, 0, none⟩ = some (.pointer (some ⟨b, 0, none⟩)) := by rw [Lib.cell_of_heap hbk]; rfl
  have c1 : w1.cell? ⟨b, 1, none⟩ = some v := by rw [Lib.cell_of_heap hbk]; rfl
  go_wp2_with (at_builtin; refine Lib.wpList_append_own_string _ rfl _ _ 38 9 rfl B 5 i0 Try.underlying38 Try.underlying9 hi hz0 hz1 hz2 _ _ _ rfl hown s rfl ?c3 ?c4 ?c5 ?_)
  case c3 => unfold maxLen; omega
  case c4 => omega
  case c5 => have := hb1.size; omega
  intro v' w2 hown' hgrow _
  have hlt : b < w1.heap.size := by
    rcases Nat.lt_or_ge b w1.heap.size with h' | h'
    · exact h'
    · simp [Array.getElem?_eq_none h'] at hbk
  have hb2 : w2.heap[b]? = some (.cells #[.pointer (some ⟨b, 0, none⟩), v] 62 (0, 0)) := by
    rw [hgrow.block b hlt (fun e => hne e.symm)]
    exact hbk
  have hk2 : Kp w1 w2 := Kp.grown hgrow (fun g hg => by
    rcases hown.2 with ⟨hv, _⟩ | ⟨g', cap, cur, hv, _, hb', _⟩
    · rw [hv] at hg; cases hg
    · rw [hv] at hg
      injection hg with hg
      subst hg
      exact ⟨_, _, hb'⟩)
  have d0 : w2.cell? ⟨b, 0, none⟩ = some (.pointer (some ⟨b, 0, none⟩)) := by rw [Lib.cell_of_heap hb2]; rfl
  have d1 : w2.cell? ⟨b, 1, none⟩ = some v := by rw [Lib.cell_of_heap hb2]; rfl
  have f1 : w2.frozen? ⟨b, 1, none⟩ = false := Lib.frozen_of_heap hb2 1
  obtain ⟨ao, n', cap, rfl⟩ : ∃ ao n' cap, v' = .slice ao n' cap := by
    rcases hown'.2 with ⟨hv, _⟩ | ⟨g, cap, cur, hv, _⟩
    · exact ⟨_, _, _, hv⟩
    · exact ⟨_, _, _, hv⟩
  have hk3 := Lib.hid (hk1.trans (hk2.trans (Kp.setCell hb2 1 (.slice ao n' cap))))
  clear hk1 hk2
  go_wp2
  go_ret2
  refine ⟨rfl, .inr ?_, ?_, hk3.out⟩
  · have e : Lib.byteCells (l ++ s.data.toList) = Lib.byteCells l ++ Lib.strCells s := by rw [Lib.byteCells_append, Lib.strCells_eq]
    rw [e]
    exact Lib.BuilderAt.put (T := 62) (e := 5) hB hb2 (bs' := Lib.byteCells l ++ Lib.strCells s) (by rw [List.length_append, HLL.out, Lib.strCells_length]; first | exact hown' | (rw [HLL.out] at hown'; exact hown')) (by decide)
  · exact (hb1.grown hgrow (by have := hb1.size; omega) (fun k hk => (hown.lt k hk).1)).setCell (p := ⟨b, 1, none⟩) hB _

theorem natI_take {Z : List Nat} {k : Nat} (h : k < Z.length) : nums (Z.take (k + 1)) = nums (Z.take k) ++ putL Z[k] 8 := by
  rw [List.take_succ_eq_append_getElem h, nums_append, nums_one]
/-- Numbers, as a row of ints. -/
def icn (Z : List Nat) : Array Value := icells (Z.map fun x : Nat => (x : Int))
theorem icn_at {F : List Nat} {k : Nat} (hk : k < F.length) : (icn F)[k]? = some (.int .i64 (F[k] : Nat)) := by
  unfold icn
  rw [icells_at (by simpa using hk)]
  simp

set_option maxRecDepth 100000 in
set_option maxHeartbeats 1600000 in
theorem sput_any (B b : Nat) (L : List UInt8) (X : Nat) (Z : List Nat) (n c : Nat) (hn : Z.length = n) (w : World) (h : Bd B b L w) (hx : Blk w X 3 (icn Z)) (hl : L.length ≤ 100000) (hz : n ≤ 1000) (hzl : ∀ x ∈ Z, x ≤ 1099511627776) :
    Calls Try.prog 24 #[.slice (some ⟨X, 0, none⟩) n c, .pointer (some ⟨b, 0, none⟩)] w fun e w' => e = .returned (.tuple #[]) ∧ Bd B b (L ++ nums Z) w' ∧ Below B w w' ∧ Kp w w' := by
  have HN := Lib.hid hn
  clear hn
  go_enter Try.func24, Try.ntmps24
  go_wp2
  go_loopw [4, 7] (fun _ i wr => ∃ k : Nat, k ≤ n ∧ i = .int .i64 k ∧ Hid (Bd B b (L ++ nums (Z.take k)) wr) ∧ Hid (Below B w wr) ∧ Hid (Kp w wr)) (fun _ i _ => n - (intOf i).toNat)
  case atStart => exact ⟨0, Nat.zero_le _, rfl, Lib.hid (by simpa [nums] using h), Lib.hid (Below.refl _ _), Lib.hid (Kp.refl _)⟩
  case round =>
    obtain ⟨k, hk, rfl, HBD, HBL, HKP⟩ := hrel
    by_cases hlt : k < n
    · have hkl : k < Z.length := by rw [HN.out]; exact hlt
      have hc := (HKP.out.row _ _ _ (by decide) (by decide) hx).at_ k _ (icn_at hkl)
      have hsn := natI_take hkl
      have hbd := hzl Z[k] (List.getElem_mem hkl)
      generalize Z[k] = z at *
      have hlz : (nums (Z.take k)).length ≤ 8000 := by rw [nums_length, List.length_take]; omega
      have hle := HBD.out.le
      have hP := fun u => put_any (z : Int) 8 u (WalkArith.wf_u64 (by omega)) (by decide)
      rw [Int.toNat_natCast, show wide 8 = 8 from rfl] at hP
      have hw := fun u (hu : Bd B b (L ++ nums (Z.take k)) u) => bd_write_k B b _ (mkb (putL z 8)) u hu (by rw [mkb_size, putL_length, List.length_append]; omega)
      rw [mkb_data, List.append_assoc, ← hsn] at hw
      have hzw : IntKind.u64.wrap (z : Int) = (z : Int) := by rw [IntKind.wrap_u64]; omega
      have HP := Lib.hid hP
      have HW := Lib.hid hw
      generalize mkb (putL z 8) = S at *
      clear hP hw hsn
      go_wp2_with (first
        | (go_at_call 26; with_reducible refine (HP.out _).mono ?_; rintro e v1 ⟨rfl, hb1⟩)
        | (go_at_call 25; with_reducible refine (HW.out _ (HBD.out.below hb1)).mono ?_; rintro e v2 ⟨rfl, hbd2, hb2, hk2⟩))
      go_roundw
      case rel => exact ⟨k + 1, by omega, by go_num, Lib.hid hbd2, Lib.hid ((HBL.out.trans (hb1.mono hle)).trans hb2), Lib.hid (HKP.out.trans ((Kp.below hb1).trans hk2))⟩
      case measure => simp [intOf]; omega
    · obtain rfl : k = n := by omega
      have hf := HBD.out
      rw [← HN.out, List.take_length] at hf
      go_wp2
      go_end0
      exact ⟨rfl, hf, HBL.out, HKP.out⟩
end Go.Proofs.Ytafogipkbhglcaa
