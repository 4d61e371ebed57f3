/- Fill of the reference, and what it shares. -/
import Derived.Test.YtafogipkbhglcaaRows
import Derived.Test.YtafogipkbhglcaaBase
namespace Go.Proofs.Ytafogipkbhglcaa
open Go.RowKit
set_option linter.unusedVariables false

theorem infoU8 : (Try.prog.info? 5).map (fun i => (i.zero, i.size, i.bytes)) = some (some (.int .u8 0), 1, 1) := by kernel_rfl
theorem sizeU8 : (Try.prog.info? 5).map (·.size) = some 1 := by kernel_rfl

/-- What Fill tells, up to a size. -/
def fillS (s : ByteArray) (n : Int) : ByteArray := if n < 0 then ⟨#[]⟩ else mkb (fillL s.data.toList n.toNat)

theorem mkb_append (a b : List UInt8) : mkb a ++ mkb b = mkb (a ++ b) := by
  apply ByteArray.ext
  simp [mkb]
theorem mkb_nil : (⟨#[]⟩ : ByteArray) = mkb [] := rfl

set_option maxHeartbeats 400000 in
theorem rfill_any (s : ByteArray) (n : Int) (w : World) (hn : (Lit.int .i64 n).wf = true) (hs : s.size ≤ 281474976710656) (hle : n ≤ 2147483647) :
    Calls Try.prog 15 #[.string s, .int .i64 n] w fun e w' => e = .returned (.string (fillS s n)) ∧ Below w.heap.size w w' := by
  obtain ⟨_, _⟩ := bounds_i64 hn
  by_cases h0 : n < 0
  · have he : fillS s n = ⟨#[]⟩ := by unfold fillS; simp [h0]
    rw [he]; clear he
    go_enter Try.func15, Try.ntmps15
    go_wp2
    go_ret
    exact ⟨rfl, Below.refl _ _⟩
  · have he : fillS s n = mkb (fillL s.data.toList n.toNat) := by unfold fillS; simp [h0]
    rw [he]; clear he
    obtain ⟨N, rfl⟩ : ∃ M : Nat, n = M := ⟨n.toNat, by omega⟩
    simp only [Int.toNat_natCast]
    by_cases h1 : N ≤ s.size
    · have he : mkb (fillL s.data.toList N) = s.extract 0 N := by
        rw [extract_mkb]
        congr 1
        unfold fillL
        rw [len_data, show N - s.size = 0 by omega]
        simp
      rw [he]; clear he
      go_enter Try.func15, Try.ntmps15
      go_wp2
      go_ret
      exact ⟨rfl, Below.refl _ _⟩
    · obtain ⟨i0, hi, hz0, hz1, hz2⟩ := info_parts infoU8
      have hmk := run_make_bytes (P := Try.prog) 38 5 i0 Try.underlying38 hi hz0 hz1 hz2 ((N : Int) - (s.size : Int)) (by omega) (by omega)
      have hcv := fun wr => run_string_blk (P := Try.prog) (World.alloc wr (.cells (zrow ((N : Int) - (s.size : Int)).toNat) 5)) 38 9 5 wr.heap.size ((N : Int) - (s.size : Int)).toNat 5 (List.replicate ((N : Int) - (s.size : Int)).toNat 0) ((N : Int) - (s.size : Int)).toNat (List.length_replicate ..) Try.underlying38 Try.underlying5 Try.underlying9 (Blk.new _ _ _)
      have he : mkb (fillL s.data.toList N) = s ++ mkb (List.replicate (N - s.size) 0) := by
        conv => rhs; rw [← mkb_of s, mkb_append]
        refine congrArg mkb ?_
        unfold fillL
        rw [mkb_of, List.take_of_length_le (by rw [len_data]; omega), len_data]
      rw [he]; clear he
      have hnn : ((N : Int) - (s.size : Int)).toNat = N - s.size := by omega
      rw [hnn] at hmk hcv
      clear hnn
      have hz1 : (mkb (List.replicate (N - s.size) 0)).size = N - s.size := by rw [mkb_size, List.length_replicate]
      go_enter Try.func15, Try.ntmps15
      go_wp2
      go_ret
      exact ⟨rfl, (Below.refl _ _).alloc (Nat.le_refl _) _⟩

end Go.Proofs.Ytafogipkbhglcaa
