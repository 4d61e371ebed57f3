/- Layer 8: both Parses, side by side. -/
import Derived.Test.YtakmmphjdkapeaaDoorEY
namespace Go.Proofs.YtakmmphjdkapeaaDoor
open Go.RowKit
set_option linter.unusedVariables false
set_option linter.unusedSimpArgs false

theorem parseX_len (f : ByteArray) : (parseX f).segs.length ≤ 17 := by
  unfold parseX
  split
  · show (segsAt f (manyS f)).length ≤ 17
    rw [segsAt_length]
    exact Nat.min_le_right _ _
  · exact Nat.zero_le _
/-- What a Parse tells, written out. -/
def Told (F : Nat) (s : ByteArray) (k en E : Int) (n : Nat) (l : List Seg) (v : World) : Prop :=
  Calls Tryd.prog F #[.string s] v fun e v' => ∃ A c, e = .returned (.tuple #[.agg #[.int .i64 k, .int .i64 en, .slice A n c], .int .i64 E]) ∧ SegRow v' A l ∧ Below v.heap.size v v'
theorem parse_two (s : ByteArray) (hs : s.size ≤ 281474976710656) : ∃ k en E l, parseX s = ⟨k, en, l⟩ ∧ parseE s = E ∧ l.length ≤ 17 ∧ (∀ v, ETab v → Told 19 s k en E l.length l v) ∧ (∀ v, Told 20 s k en E l.length l v) := by
  have h1 := fun v (hT : ETab v) => eparse_any s v hT hs
  have h2 := fun v => rparse_any s v hs
  have h3 := parseX_len s
  generalize parseX s = X at *
  generalize parseE s = E at *
  obtain ⟨k, en, l⟩ := X
  refine ⟨k, en, E, l, rfl, rfl, h3, fun v hT => (h1 v hT).mono ?_, fun v => (h2 v).mono ?_⟩
  · rintro e v' ⟨A, c, rfl, hr, -, hb⟩
    exact ⟨A, c, rfl, hr, hb⟩
  · rintro e v' ⟨A, c, rfl, hr, -, hb⟩
    exact ⟨A, c, rfl, hr, hb⟩
/-- The reference's Same of two images with the same segments. -/
theorem rsame_same (k en : Int) (l : List Seg) (hl : l.length ≤ 17) : ∀ v A D c d, SegRow v A l → SegRow v D l →
    Calls Tryd.prog 17 #[.agg #[.int .i64 k, .int .i64 en, .slice A l.length c], .agg #[.int .i64 k, .int .i64 en, .slice D l.length d]] v fun e v' => e = .returned (.bool true) ∧ Below v.heap.size v v' := fun v A D c d h1 h2 => by
  have h := rsame_img ⟨k, en, l⟩ ⟨k, en, l⟩ A D c d v h1 h2 (by show l.length ≤ _; omega) (by show l.length ≤ _; omega)
  rw [show Img.same ⟨k, en, l⟩ ⟨k, en, l⟩ = true by rw [Img.same_eq]; simp] at h
  exact h
/-- The program's Same of two images with the same segments. -/
theorem same_same (k en : Int) (l : List Seg) (hl : l.length ≤ 17) : ∀ v A D c d, SegRow v A l → SegRow v D l →
    Calls Tryd.prog 16 #[.agg #[.int .i64 k, .int .i64 en, .slice A l.length c], .agg #[.int .i64 k, .int .i64 en, .slice D l.length d]] v fun e v' => e = .returned (.bool true) ∧ Below v.heap.size v v' := fun v A D c d h1 h2 => by
  have h := same_img ⟨k, en, l⟩ ⟨k, en, l⟩ A D c d v h1 h2 (by show l.length ≤ _; omega) (by show l.length ≤ _; omega)
  rw [show Img.same ⟨k, en, l⟩ ⟨k, en, l⟩ = true by rw [Img.same_eq]; simp] at h
  exact h
end Go.Proofs.YtakmmphjdkapeaaDoor
