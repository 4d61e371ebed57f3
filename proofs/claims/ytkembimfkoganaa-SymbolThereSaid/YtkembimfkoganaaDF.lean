/- Package dynamic: Name, Names. -/
import Derived.Test.YtkembimfkoganaaDyn
import Derived.Test.YtkembimfkoganaaOctF
namespace Go.Proofs.Ytkembimfkoganaa
open Go.RowKit
set_option linter.unusedVariables false
set_option linter.unusedSimpArgs false

/-- The names' bytes: those of the view from nm on, sz at most. -/
def nmsS (view : ByteArray) (nm sz : Int) : ByteArray := (view.extract nm.toNat view.size).extract 0 (min sz.toNat (view.size - nm.toNat))
/-- Do the names begin within the view? -/
def nmsB (view : ByteArray) (nm sz : Int) : Bool := decide (0 ≤ sz) && (decide (0 ≤ nm) && decide (nm ≤ view.size))
def nameOk (view : ByteArray) (d : Dyn) (at_ : Int) : Bool := nmsB view (d.f 1) (d.f 2) && textOk (nmsS view (d.f 1) (d.f 2)) at_ 24
def nameS (view : ByteArray) (d : Dyn) (at_ : Int) : ByteArray := if nmsB view (d.f 1) (d.f 2) then textS (nmsS view (d.f 1) (d.f 2)) at_ 24 else ⟨#[]⟩
theorem textS_size (s : ByteArray) (a : Int) : (textS s a 24).size ≤ 24 := by
  unfold textS
  split
  · rename_i h
    unfold textOk at h
    simp only [Bool.and_eq_true, decide_eq_true_eq] at h
    rw [extract_mkb, mkb_size]
    simp only [List.length_take, List.length_drop]
    omega
  · show (0 : Nat) ≤ 24
    omega
theorem nameS_size (view : ByteArray) (d : Dyn) (a : Int) : (nameS view d a).size ≤ 24 := by
  unfold nameS
  split
  · exact textS_size _ _
  · show (0 : Nat) ≤ 24
    omega

set_option maxRecDepth 100000 in
set_option maxHeartbeats 1600000 in
theorem name_any (view : ByteArray) (d : Dyn) (v : Value) (a : Int) (w : World) (hd : d.wf) (ha : (Lit.int .i64 a).wf = true) (hs : view.size ≤ 1000000) :
    Calls Try.prog 29 #[.string view, .agg (d.cs v), .int .i64 a] w fun e w' => e = .returned (.tuple #[.string (nameS view d a), .bool (nameOk view d a)]) ∧ Below w.heap.size w w' := by
  unfold nameS nameOk Dyn.cs
  have w1 := hd.num 1
  have w2 := hd.num 2
  generalize d.f 1 = nm at *
  generalize d.f 2 = sz at *
  generalize d.f 3 = d3 at *
  generalize d.f 4 = d4 at *
  generalize d.f 5 = d5 at *
  generalize d.f 6 = d6 at *
  generalize d.f 7 = d7 at *
  generalize d.f 8 = d8 at *
  obtain ⟨W0, hW⟩ : ∃ W0, w.alloc (.cells #[v, .int .i64 nm, .int .i64 sz, .int .i64 d3, .int .i64 d4, .int .i64 d5, .int .i64 d6, .int .i64 d7, .int .i64 d8] 38) = W0 := ⟨_, rfl⟩
  have hb := Blk.new w 38 #[v, .int .i64 nm, .int .i64 sz, .int .i64 d3, .int .i64 d4, .int .i64 d5, .int .i64 d6, .int .i64 d7, .int .i64 d8]
  rw [hW] at hb
  have HB := Lib.hid (show Below w.heap.size w W0 from by rw [← hW]; exact (Below.refl _ _).alloc (Nat.le_refl _) _)
  have c1 : W0.cell? ⟨w.heap.size, 1, none⟩ = some (.int .i64 nm) := hb.cell 1
  have c2 : W0.cell? ⟨w.heap.size, 2, none⟩ = some (.int .i64 sz) := hb.cell 2
  rw [← hW] at c1 c2
  have HW := Lib.hid hW
  clear hb hW
  obtain ⟨hn1, hn2⟩ := bounds_i64 w1
  obtain ⟨hz1, hz2⟩ := bounds_i64 w2
  by_cases hsz : sz < 0
  · have hB : nmsB view nm sz = false := by unfold nmsB; rw [decide_eq_false (by omega : ¬ 0 ≤ sz), Bool.false_and]
    rw [hB, Bool.false_and, if_neg (by simp)]
    have hg : decide (sz < 0) = true := decide_eq_true hsz
    go_enter Try.func29, Try.ntmps29
    go_wp2
    go_ret2
    exact ⟨rfl, by rw [HW.out]; exact HB.out⟩
  · have hg : decide (sz < 0) = false := decide_eq_false hsz
    have hin := fun u => within_any nm 0 view.size u w1 (by decide) (by omega)
    by_cases hI : 0 ≤ nm ∧ nm ≤ view.size
    · have hB : nmsB view nm sz = true := by unfold nmsB; rw [decide_eq_true (by omega : 0 ≤ sz), decide_eq_true hI.1, decide_eq_true hI.2]; rfl
      rw [hB, Bool.true_and, if_pos rfl]
      have hii : inn nm 0 view.size = true := by rw [inn_iff]; omega
      rw [hii] at hin
      have HI := Lib.hid hin
      clear hin
      obtain ⟨P, rfl⟩ : ∃ P : Nat, nm = P := ⟨nm.toNat, by omega⟩
      obtain ⟨Z, rfl⟩ : ∃ Z : Nat, sz = Z := ⟨sz.toNat, by omega⟩
      have hns : nmsS view P Z = (view.extract P view.size).extract 0 (min Z (view.size - P)) := by unfold nmsS; simp
      have hes : (view.extract P view.size).size = view.size - P := by rw [extract_mkb, mkb_size]; simp
      have hes2 : ((view.extract P view.size).extract 0 (min Z (view.size - P))).size ≤ 281474976710656 := by
        rw [extract_mkb, mkb_size]
        simp only [List.length_take, List.length_drop]
        rw [len_data, hes]
        omega
      have hT := fun u => text_any ((view.extract P view.size).extract 0 (min Z (view.size - P))) a 24 u ha (by decide) hes2
      obtain ⟨K, hK⟩ : ∃ K, min Z (view.size - P) = K := ⟨_, rfl⟩
      rw [hK] at hns hT
      obtain ⟨TS, hTS⟩ : ∃ TS, textS (nmsS view P Z) a 24 = TS := ⟨_, rfl⟩
      obtain ⟨TO, hTO⟩ : ∃ TO, textOk (nmsS view P Z) a 24 = TO := ⟨_, rfl⟩
      rw [hTS, hTO]
      rw [hns] at hTS hTO
      rw [hTS, hTO] at hT
      have hKle : K ≤ view.size - P := by omega
      have hmin : min (Z : Int) ((view.size - P : Nat) : Int) = (K : Int) := by omega
      have HT := Lib.hid hT
      clear hTS hTO
      have hP2 : (P : Int) ≤ (view.size : Int) := hI.2
      have hmin2 : min (Z : Int) ((view.size : Int) - (P : Int)) = (K : Int) := by omega
      clear hT hns hK hes2
      go_enter Try.func29, Try.ntmps29
      go_wp2_with (first
        | (go_at_call 26; refine (HI.out _).mono ?_; rintro e w' ⟨rfl, rfl⟩)
        | (go_at_call 35; refine (HT.out _).mono ?_; rintro e w' ⟨rfl, hb⟩; rw [HW.out] at hb))
      go_ret2
      exact ⟨rfl, HB.out.trans (hb.mono HB.out.size)⟩
    · have hB : nmsB view nm sz = false := by
        unfold nmsB
        by_cases h0 : 0 ≤ nm
        · rw [decide_eq_false (by omega : ¬ nm ≤ view.size)]; simp
        · rw [decide_eq_false h0]; simp
      rw [hB, Bool.false_and, if_neg (by simp)]
      have hii : inn nm 0 view.size = false := by
        cases h : inn nm 0 view.size
        · rfl
        · rw [inn_iff] at h; omega
      rw [hii] at hin
      have HI := Lib.hid hin
      clear hin
      go_enter Try.func29, Try.ntmps29
      go_wp2_with (go_at_call 26; refine (HI.out _).mono ?_; rintro e w' ⟨rfl, rfl⟩)
      go_ret2
      exact ⟨rfl, by rw [HW.out]; exact HB.out⟩
end Go.Proofs.Ytkembimfkoganaa
