/- Package symbol: Table's closure: numbers, written one behind the other; rows of ints stay. -/
import Derived.Test.YtkembimfkoganaaEC
import Derived.Test.YtkembimfkoganaaRowI
import Derived.Test.YtkembimfkoganaaYB
namespace Go.Proofs.Ytkembimfkoganaa
open Go.RowKit
set_option linter.unusedVariables false
set_option linter.unusedSimpArgs false

/-- All rows of ints are as they were. -/
structure KpI (w w' : World) : Prop where
  size : w.heap.size ≤ w'.heap.size
  row : ∀ k cs, Blk w k 3 cs → Blk w' k 3 cs
theorem KpI.refl (w : World) : KpI w w := ⟨Nat.le_refl _, fun _ _ h => h⟩
theorem KpI.trans {a b c : World} (h : KpI a b) (k : KpI b c) : KpI a c := ⟨Nat.le_trans h.size k.size, fun i cs hi => k.row i cs (h.row i cs hi)⟩
theorem KpI.below {w w' : World} (h : Below w.heap.size w w') : KpI w w' := ⟨h.size, fun k cs hk => hk.below h hk.lt⟩
theorem KpI.other {w : World} {k b : Nat} {cs c : Array Value} {T : TypeId} {f : Nat × Nat} (hk : Blk w k 3 cs) (hb : w.heap[b]? = some (.cells c T f)) (hT : T ≠ 3) : k ≠ b := by
  rintro rfl
  unfold Blk at hk
  rw [hk] at hb
  injection hb with hb
  injection hb with _ h _
  exact hT h.symm
theorem KpI.setCell {w : World} {b : Nat} {c : Array Value} {T : TypeId} {f : Nat × Nat} (hb : w.heap[b]? = some (.cells c T f)) (hT : T ≠ 3) (j : Nat) (u : Value) : KpI w (w.setCell ⟨b, j, none⟩ u) :=
  ⟨by simp [World.setCell], fun k cs hk => hk.far (p := ⟨b, j, none⟩) (KpI.other hk hb hT) u⟩
theorem KpI.grown {w w' : World} {row : Option Nat} (hg : w.grownBy w' row) (hr : ∀ g, row = some g → ∃ c T f, w.heap[g]? = some (.cells c T f) ∧ T ≠ 3) : KpI w w' :=
  ⟨hg.size, fun k cs hk => hk.grown hg (fun e => by
    obtain ⟨c, T, f, h1, h2⟩ := hr k e.symm
    exact KpI.other hk h1 h2 rfl)⟩

theorem bd_check_kp (B b : Nat) (bs : List Value) (w : World) (h : Lib.IsBuilder 53 5 B b bs w) :
    Calls Try.prog 31 #[.pointer (some ⟨b, 0, none⟩)] w fun e w' => e = .returned (.tuple #[]) ∧ (Lib.BuilderAt 53 5 B b (.pointer (some ⟨b, 0, none⟩)) bs w' ∧ Below B w w' ∧ KpI w w') := by
  rcases h with h | h
  · refine (bd_check_fresh b w h.cell0 h.shape h.frozen0).mono ?_
    rintro e w' ⟨rfl, rfl⟩
    obtain ⟨_, v, hb, _⟩ := id h
    exact ⟨rfl, h.used _, (Below.refl B w).setCell (p := ⟨b, 0, none⟩) h.1 _, KpI.setCell hb (by decide) 0 _⟩
  · refine (bd_check_used b w h.cell0).mono ?_
    rintro e w' ⟨rfl, rfl⟩
    exact ⟨rfl, h, Below.refl B _, KpI.refl _⟩
set_option maxHeartbeats 2000000 in
set_option maxRecDepth 100000 in
theorem bd_write_kp (B b : Nat) (l : List UInt8) (s : ByteArray) (w : World) (h : Bd B b l w) (hlen : l.length + s.size ≤ 140737488355328) :
    Calls Try.prog 21 #[.pointer (some ⟨b, 0, none⟩), .string s] w fun e w' => e = .returned (.tuple #[.int .i64 s.size, .nilIface]) ∧ Bd B b (l ++ s.data.toList) w' ∧ Below B w w' ∧ KpI w w' := by
  have hBw := h.le
  have hll : (Lib.byteCells l).length = l.length := Lib.byteCells_length l
  have HLL := Lib.hid hll
  obtain ⟨i0, hi, hz0, hz1, hz2⟩ := info_parts infoU8
  go_enter Try.func21, Try.ntmps21
  go_wp2_with (go_at_call 31; refine (bd_check_kp B b _ _ h).mono ?_)
  rintro e w1 ⟨rfl, h1, hb1, hk1⟩
  obtain ⟨hB, v, hbk, hown, hne⟩ := h1
  have c0 : w1.cell? ⟨b, 0, none⟩ = some (.pointer (some ⟨b, 0, none⟩)) := by rw [Lib.cell_of_heap hbk]; rfl
  have c1 : w1.cell? ⟨b, 1, none⟩ = some v := by rw [Lib.cell_of_heap hbk]; rfl
  go_wp2_with (at_builtin; refine Lib.wpList_append_own_string _ rfl _ _ 51 9 rfl B 5 i0 Try.underlying51 Try.underlying9 hi hz0 hz1 hz2 _ _ _ rfl hown s rfl ?c3 ?c4 ?c5 ?_)
  case c3 => unfold maxLen; omega
  case c4 => omega
  case c5 => have := hb1.size; omega
  intro v' w2 hown' hgrow _
  have hlt : b < w1.heap.size := by
    rcases Nat.lt_or_ge b w1.heap.size with h' | h'
    · exact h'
    · simp [Array.getElem?_eq_none h'] at hbk
  have hb2 : w2.heap[b]? = some (.cells #[.pointer (some ⟨b, 0, none⟩), v] 53 (0, 0)) := by
    rw [hgrow.block b hlt (fun e => hne e.symm)]
    exact hbk
  have hk2 : KpI w1 w2 := KpI.grown hgrow (fun g hg => by
    rcases hown.2 with ⟨rfl, _⟩ | ⟨g', cap, cur, rfl, _, hcur, _⟩
    · cases hg
    · cases hg
      exact ⟨cur, 5, (0, 0), hcur, by decide⟩)
  have d0 : w2.cell? ⟨b, 0, none⟩ = some (.pointer (some ⟨b, 0, none⟩)) := by rw [Lib.cell_of_heap hb2]; rfl
  have d1 : w2.cell? ⟨b, 1, none⟩ = some v := by rw [Lib.cell_of_heap hb2]; rfl
  have f1 : w2.frozen? ⟨b, 1, none⟩ = false := Lib.frozen_of_heap hb2 1
  obtain ⟨ao, n', cap, rfl⟩ : ∃ ao n' cap, v' = .slice ao n' cap := by
    rcases hown'.2 with ⟨hv, _⟩ | ⟨g, cap, cur, hv, _⟩
    · exact ⟨_, _, _, hv⟩
    · exact ⟨_, _, _, hv⟩
  have hk3 := Lib.hid (hk1.trans (hk2.trans (KpI.setCell hb2 (by decide) 1 (.slice ao n' cap))))
  clear hk1 hk2
  go_wp2
  go_ret2
  refine ⟨rfl, .inr ?_, ?_, hk3.out⟩
  · have e : Lib.byteCells (l ++ s.data.toList) = Lib.byteCells l ++ Lib.strCells s := by rw [Lib.byteCells_append, Lib.strCells_eq]
    rw [e]
    exact Lib.BuilderAt.put (T := 53) (e := 5) hB hb2 (bs' := Lib.byteCells l ++ Lib.strCells s) (by rw [List.length_append, HLL.out, Lib.strCells_length]; first | exact hown' | (rw [HLL.out] at hown'; exact hown')) (by decide)
  · exact (hb1.grown hgrow (by have := hb1.size; omega) (fun k hk => (hown.lt k hk).1)).setCell (p := ⟨b, 1, none⟩) hB _

/-- A row of numbers, as cells. -/
def ncells (F : List Nat) : Array Value := icells (F.map (fun x : Nat => (x : Int)))
theorem ncells_at {F : List Nat} {k : Nat} (hk : k < F.length) : (ncells F)[k]? = some (.int .i64 (F[k] : Nat)) := by
  unfold ncells
  rw [icells_at (by simpa using hk)]
  simp
theorem ncells_set (F : List Nat) (k x : Nat) : (ncells F).setIfInBounds k (.int .i64 (x : Int)) = ncells (F.set k x) := by
  unfold ncells
  rw [icells_set, List.map_set]
def nbytes (F : List Nat) : List UInt8 := F.flatMap (fun x => putL x 4)
theorem nbytes_length (F : List Nat) : (nbytes F).length = 4 * F.length := by
  induction F with
  | nil => rfl
  | cons x F ih => unfold nbytes at *; rw [List.flatMap_cons, List.length_append, ih, putL_length, List.length_cons]; omega
theorem nbytes_snoc (F : List Nat) (x : Nat) : nbytes (F ++ [x]) = nbytes F ++ putL x 4 := by unfold nbytes; rw [List.flatMap_append]; simp

set_option maxHeartbeats 800000 in
theorem tput_any (B b : Nat) (L : List UInt8) (X : Nat) (Z : List Nat) (n c : Nat) (hn : Z.length = n) (w : World) (h : Bd B b L w) (hx : Blk w X 3 (ncells Z)) (hl : L.length ≤ 100000) (hz : n ≤ 10000) (hzl : ∀ x ∈ Z, x < 4294967296) :
    Calls Try.prog 20 #[.slice (some ⟨X, 0, none⟩) n c, .pointer (some ⟨b, 0, none⟩)] w fun e w' => e = .returned (.tuple #[]) ∧ Bd B b (L ++ nbytes Z) w' ∧ Below B w w' ∧ KpI w w' := by
  have HN := Lib.hid hn
  clear hn
  go_enter Try.func20, Try.ntmps20
  go_wp2
  go_loopw [7] (fun i wr => ∃ k : Nat, k ≤ n ∧ i = .int .i64 k ∧ Hid (Bd B b (L ++ nbytes (Z.take k)) wr) ∧ Hid (Below B w wr) ∧ Hid (KpI w wr)) (fun i _ => n - (intOf i).toNat)
  case atStart => exact ⟨0, Nat.zero_le _, rfl, Lib.hid (by simpa [nbytes] using h), Lib.hid (Below.refl _ _), Lib.hid (KpI.refl _)⟩
  case round =>
    obtain ⟨k, hk, rfl, HBD, HBL, HKP⟩ := hrel
    by_cases hlt : k < n
    · have hkl : k < Z.length := by rw [HN.out]; exact hlt
      have hc := (HKP.out.row _ _ hx).at_ k _ (ncells_at hkl)
      have hsn := nbytes_snoc (Z.take k) Z[k]
      rw [← List.take_succ_eq_append_getElem hkl] at hsn
      have hbd := hzl Z[k] (List.getElem_mem hkl)
      generalize Z[k] = z at *
      have hlz : (nbytes (Z.take k)).length ≤ 40000 := by rw [nbytes_length, List.length_take]; omega
      have hle := HBD.out.le
      have hP := fun u => put_any (z : Int) 4 u (wfY_u64 (by omega)) (by decide)
      rw [Int.toNat_natCast, show wide 4 = 4 from rfl] at hP
      have hw := fun u (hu : Bd B b (L ++ nbytes (Z.take k)) u) => bd_write_kp B b _ (mkb (putL z 4)) u hu (by rw [sz_put, List.length_append]; omega)
      rw [mkb_data, List.append_assoc, ← hsn] at hw
      have hzw : IntKind.u64.wrap (z : Int) = (z : Int) := by rw [IntKind.wrap_u64]; omega
      have HP := Lib.hid hP
      have HW := Lib.hid hw
      generalize mkb (putL z 4) = S at *
      clear hP hw hsn
      go_wp2_with (first
        | (go_at_call 22; with_reducible refine (HP.out _).mono ?_; rintro e v1 ⟨rfl, hb1⟩)
        | (go_at_call 21; with_reducible refine (HW.out _ (HBD.out.below hb1)).mono ?_; rintro e v2 ⟨rfl, hbd2, hb2, hk2⟩))
      go_roundw
      case rel => exact ⟨k + 1, by omega, by go_num, Lib.hid hbd2, Lib.hid ((HBL.out.trans (hb1.mono hle)).trans hb2), Lib.hid (HKP.out.trans ((KpI.below hb1).trans hk2))⟩
      case measure => simp [intOf]; omega
    · obtain rfl : k = n := by omega
      have hf := HBD.out
      rw [← HN.out, List.take_length] at hf
      go_wp2
      go_end0
      exact ⟨rfl, hf, HBL.out, HKP.out⟩
end Go.Proofs.Ytkembimfkoganaa
