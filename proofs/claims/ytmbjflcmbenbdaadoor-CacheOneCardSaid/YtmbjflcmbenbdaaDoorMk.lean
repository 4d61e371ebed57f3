/- Marks that loops over a function leave; of no program. -/
import Derived.Test.YtmbjflcmbenbdaaDoorRng
namespace Go.Proofs.YtmbjflcmbenbdaaDoor
open Go.RowKit Go.Shelf
set_option linter.unusedVariables false
set_option linter.unusedSimpArgs false

/-- The mark that a loop over a function leaves. -/
def markOf (D : Nat) : Deferred := { target := .collected D, args := #[] }
theorem leaves_marks {P : Program} {F : Fence} {n : Nat} {fn : Func} {tmps : Array Value} {R : Ending → World → Prop} (I : World → Prop) (B : Nat)
    (hI : ∀ W D, B ≤ D → W.heap[D]? = some (.deferred (some [])) → I W → I (W.putObj D (.deferred none))) :
    ∀ (Ds : List Nat) (W : World), Ds.Nodup → (∀ D ∈ Ds, B ≤ D ∧ W.heap[D]? = some (.deferred (some []))) → I W → (∀ W', I W' → LeavesInM F n P fn tmps R [] .returning W') → LeavesInM F n P fn tmps R (Ds.map markOf) .returning W
  | [], W, _, _, hW, h => h W hW
  | D :: Ds, W, hn, hD, hW, h => by
    obtain ⟨h1, h2⟩ := hD D (by simp)
    rw [List.nodup_cons] at hn
    refine ⟨by simp, .inl ⟨_, _, rfl, run_takeDeferred h2, ?_⟩⟩
    refine leaves_marks I B hI Ds _ hn.2 (fun D' hD' => ?_) (hI W D h1 h2 hW) h
    obtain ⟨h3, h4⟩ := hD D' (List.mem_cons_of_mem _ hD')
    exact ⟨h3, (World.putObj_heap_other (fun e => hn.1 (by rw [← e]; exact hD'))).trans h4⟩
/-- Marks that still stand. -/
def Marks (W : World) (B : Nat) (Ds : List Nat) : Prop := Ds.Nodup ∧ ∀ D ∈ Ds, B ≤ D ∧ W.heap[D]? = some (.deferred (some []))
theorem Marks.nil (W : World) (B : Nat) : Marks W B [] := ⟨by simp, by simp⟩
theorem Marks.lt {W : World} {B : Nat} {Ds : List Nat} (h : Marks W B Ds) {D : Nat} (hD : D ∈ Ds) : D < W.heap.size := (Array.getElem?_eq_some_iff.1 (h.2 D hD).2).1
theorem Marks.but {S : Nat → Prop} {W W' : World} {B : Nat} {Ds : List Nat} (h : Marks W B Ds) (hb : But S W W') (hS : ∀ D, S D → W.heap[D]? ≠ some (.deferred (some []))) : Marks W' B Ds :=
  ⟨h.1, fun D hD => ⟨(h.2 D hD).1, (hb.block D (h.lt hD) (fun e => hS D e (h.2 D hD).2)).trans (h.2 D hD).2⟩⟩
theorem Blk.not_mark {W : World} {g : Nat} {t : TypeId} {cs : Array Value} (h : Blk W g t cs) : W.heap[g]? ≠ some (.deferred (some [])) := by
  unfold Blk at h
  rw [h]
  simp
theorem Marks.cons {W : World} {B D : Nat} {Ds : List Nat} (h : Marks W B Ds) (hD : W.heap[D]? = some (.deferred (some []))) (hB : B ≤ D) (hlt : ∀ E ∈ Ds, E < D) : Marks W B (D :: Ds) := by
  refine ⟨List.nodup_cons.2 ⟨fun e => by have := hlt D e; omega, h.1⟩, fun E hE => ?_⟩
  rcases List.mem_cons.1 hE with rfl | hE
  · exact ⟨hB, hD⟩
  · exact h.2 E hE
theorem keepsFrom_but {S : Nat → Prop} {W W' : World} {B : Nat} (hb : But S W W') (hS : ∀ k, S k → k < B) : KeepsFrom B W W' :=
  ⟨hb.size, fun k o hk ho _ => (hb.block k (Array.getElem?_eq_some_iff.1 ho).1 (fun e => by have := hS k e; omega)).trans ho⟩
theorem ownFrom_but {β : Type} {S : Nat → Prop} {V : World} {B : Nat} (hB : V.heap.size ≤ B) : OwnFrom B (fun (_ : β) W => But S V W) := fun _ _ _ _ hs hg hr => hs.grown hg (fun k e => .inr (Nat.le_trans hB (hr k e).1))
end Go.Proofs.YtmbjflcmbenbdaaDoor
