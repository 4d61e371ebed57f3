/- Package files: Bytes of no file. -/
import Derived.Test.YtgkhgjihjbjfnaaDoorFK
namespace Go.Proofs.YtgkhgjihjbjfnaaDoor
open Go.RowKit Go.Shelf Go.Maps
set_option linter.unusedVariables false
set_option linter.unusedSimpArgs false

set_option maxRecDepth 100000 in
set_option maxHeartbeats 1600000 in
theorem bytes_no (f : Value) (i : Int) (w : World) (h : NoFile w f i) : Calls Tryd.prog 21 #[f, .int .i64 i] w fun e w' => e = .returned (.tuple #[.string ⟨#[]⟩, .int .i64 14]) ∧ Below w.heap.size w w' := by
  obtain ⟨P, rfl⟩ : ∃ P, f = .pointer P := by
    rcases h with rfl | ⟨_, _, _, _, rfl, _⟩
    · exact ⟨_, rfl⟩
    · exact ⟨_, rfl⟩
  have hB := (Below.refl w.heap.size w).alloc (Nat.le_refl _) (.cells #[.pointer P] 36)
  have h1 := inode_no (.pointer P) i _ (h.on hB)
  have c0 := (Blk.new w 36 #[.pointer P]).at_ 0 _ rfl
  unfold zeroIno at h1
  have H1 := Lib.hid h1
  clear h1 h
  refine callsIn_wide (n := 3).1 ?_
  refine callsIn_of_wp_marks Tryd.func21 rfl trivial ?_ rfl
  simp only [Tryd.ntmps21, List.size_toArray, List.length_cons, List.length_nil, Nat.reduceAdd, Nat.reduceSub, Array.replicate_succ, Array.replicate_zero, List.push_toArray, List.append_toArray, List.nil_append, List.cons_append]
  refine wpIn_wide.2 ?_
  go_wp2_with fail
  go_step3
  go_wp2_with (go_at_call 41; with_reducible refine H1.out.mono ?_; rintro e v1 ⟨rfl, hb⟩)
  rw [Exit.noGoto_ret]
  refine ⟨_, results_tmp2 rfl _ _ _, rfl, ?_⟩
  exact (hB.trans (hb.mono hB.size)).alloc (Nat.le_trans hB.size hb.size) _
end Go.Proofs.YtgkhgjihjbjfnaaDoor
