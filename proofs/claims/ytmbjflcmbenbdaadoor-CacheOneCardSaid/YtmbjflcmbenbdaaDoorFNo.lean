/- Package files: Build, where no disk can be made. -/
import Derived.Test.YtmbjflcmbenbdaaDoorFU
namespace Go.Proofs.YtmbjflcmbenbdaaDoor
open Go.RowKit Go.Shelf Go.Maps
set_option linter.unusedVariables false
set_option linter.unusedSimpArgs false

/-- Names that may be, each once. -/
def namesOk (fs : List Fl) : Prop := (∀ f ∈ fs, nameOk f.name = true) ∧ (fs.map Fl.name).Nodup
theorem namesOk_nil : namesOk [] := ⟨by simp, by simp⟩
theorem namesOk_snoc (fs : List Fl) (f : Fl) : namesOk (fs ++ [f]) ↔ namesOk fs ∧ nameOk f.name = true ∧ f.name ∉ fs.map Fl.name := by
  unfold namesOk
  rw [List.map_append, List.nodup_append]
  constructor
  · rintro ⟨h1, h2, _, h3⟩
    exact ⟨⟨fun g hg => h1 g (by simp [hg]), h2⟩, h1 f (by simp), fun hm => h3 _ hm f.name (by simp) rfl⟩
  · rintro ⟨⟨h1, h2⟩, h3, h4⟩
    refine ⟨fun g hg => ?_, h2, by simp, fun a ha b hb e => ?_⟩
    · rcases List.mem_append.1 hg with h | h
      · exact h1 g h
      · rw [List.mem_singleton.1 h]; exact h3
    · have hb' : b = f.name := by simpa using hb
      subst hb'
      exact h4 (e ▸ ha)
theorem not_no {ns : List ByteArray} {s : ByteArray} (h : ¬ (nameOk s = true ∧ s ∉ ns)) : s ∈ ns ∨ nameOk s = false := by
  rcases Classical.em (s ∈ ns) with h1 | h1
  · exact .inl h1
  · cases h2 : nameOk s with
    | false => exact .inr rfl
    | true => exact absurd ⟨h2, h1⟩ h

/-- Nothing was built. -/
def NotBuilt (w : World) (e : Ending) (w' : World) : Prop := e = .returned (.tuple #[.slice none 0 0, .int .i64 1]) ∧ Below w.heap.size w w'
end Go.Proofs.YtmbjflcmbenbdaaDoor
