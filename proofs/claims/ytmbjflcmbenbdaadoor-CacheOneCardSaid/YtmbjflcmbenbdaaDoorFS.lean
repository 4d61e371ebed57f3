/- Package files: the frame of fill's loop. -/
import Derived.Test.YtmbjflcmbenbdaaDoorFR
import Derived.Laws.EntriesVeiled
namespace Go.Proofs.YtmbjflcmbenbdaaDoor
open Go.RowKit Go.Shelf
set_option linter.unusedVariables false
set_option linter.unusedSimpArgs false

theorem wp_loop_k {P : Program} {Q : Exit → Act → World → Prop} {a : Act} {w : World} {c : Code} (I : Act → World → Prop) (μ : Act → World → Nat) (h₀ : I a w)
    (round : ∀ a w, I a w → ∀ K : Act → World → Prop, (∀ a' w', I a' w' → μ a' w' < μ a w → K a' w') → c.wp P (Exit.then K Q) a w) : (Code.loop c).wp P Q a w :=
  wp_loop I μ h₀ fun a w h => round a w h _ fun _ _ h1 h2 => ⟨h1, h2⟩

theorem wpIn_named {F : Fence} {n : Nat} {P : Program} {c : Code} {Q : Exit → Act → World → Prop} {T : Array Value} {D : List Deferred} {w : World} (h : ∀ T', T = T' → c.wpIn F n P Q ⟨T', D⟩ w) : c.wpIn F n P Q ⟨T, D⟩ w := h T rfl
theorem LaidOk.small {fs : List Fl} {s : Nat} {L : Laid} (h : LaidOk fs s 4 0 L) (hd : ∀ f ∈ fs, f.data.size ≤ 1048576) (hu : 1 + fs.length + L.dat.length ≤ 16384) (k : Nat) (hk : k < fs.length) (hk' : k < L.ex.length) : SmallE L.ex[k] ∧ L.ex[k].length ≤ 4 ∧ ahd L.ex[k] L.ex[k].length = fs[k].pg := by
  have hc := h.cut k hk hk'
  rw [if_neg (by omega), List.take_of_length_le (cuts_len _ _)] at hc
  have hl : L.ex[k].length ≤ 4 := by
    have := congrArg List.length hc
    rw [List.length_map] at this
    have := cuts_len fs[k].pg s
    omega
  have hsum : (L.ex[k].map (·.2)).sum = fs[k].pg := by rw [hc, cuts_sum]
  have hpg := pg_le (hd _ (List.getElem_mem hk))
  refine ⟨⟨by omega, by omega, fun e he => ?_⟩, hl, by rw [ahd_full, hsum]⟩
  obtain ⟨t, ht, rfl⟩ := List.getElem_of_mem he
  have := (h.put k hk hk' t ht).2.1
  omega

end Go.Proofs.YtmbjflcmbenbdaaDoor

/- Package files: fill. -/
namespace Go.Proofs.YtmbjflcmbenbdaaDoor
open Go.RowKit Go.Shelf
set_option linter.unusedVariables false
set_option linter.unusedSimpArgs false
attribute [local go_sem] Oper.semAt_some

/-- The sectors were filled. -/
def Filled (w : World) (L : List ByteArray) (e : Ending) (w' : World) : Prop := ∃ g, e = .returned (.slice (some ⟨g, 0, none⟩) L.length L.length) ∧ Blk w' g 9 (strs L).toArray ∧ w.heap.size ≤ g ∧ Below w.heap.size w w'

end Go.Proofs.YtmbjflcmbenbdaaDoor
