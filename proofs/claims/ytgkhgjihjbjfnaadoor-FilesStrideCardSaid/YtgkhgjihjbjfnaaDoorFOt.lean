/- Files of one disk, while another disk is read. -/
import Derived.Test.YtgkhgjihjbjfnaaDoorFOp
namespace Go.Proofs.YtgkhgjihjbjfnaaDoor
open Go.RowKit Go.Shelf Go.Maps
set_option linter.unusedVariables false
set_option linter.unusedSimpArgs false

theorem not_disk {S : Nat → Prop} {W : World} (hS : ∀ k, S k → ∃ cs, Blk W k 94 cs) {k : Nat} {t : TypeId} {cs : Array Value} (h : Blk W k t cs) (ht : t ≠ 94) : ¬ S k := fun e => by
  obtain ⟨cs', h'⟩ := hS k e
  exact ht (h.two h')
theorem Fs.other {S : Nat → Prop} {W W' : World} {B p pd used : Nat} {xs : List Ino} (h : Fs W B p pd used xs) (hb : But S W W') (hS : ∀ k, S k → ∃ cs, Blk W k 94 cs) : Fs W' B p pd used xs := by
  obtain ⟨⟨val, vs, mb, h1, ⟨h2, h3, h4⟩, h5, h6, h7⟩, ho⟩ := h
  refine ⟨⟨val, vs, mb, h1.but hb (not_disk hS h1 (by decide)), ⟨h2, own_by h3 (fun g cur _ _ hg => hg.but hb (not_disk hS hg (by decide))), fun i hi hi' => ⟨?_, (h4 i hi hi').2⟩⟩, h5.but hb ?_, h6, h7⟩, ho⟩
  · refine (h4 i hi hi').1.but hb (fun g hg => ?_)
    rcases (h4 i hi hi').1 with ⟨e, _⟩ | ⟨g', cap, cur, e, hbg, _⟩
    · rw [e] at hg; simp [Value.ownBlock] at hg
    · rw [e] at hg
      simp [Value.ownBlock] at hg
      subst hg
      exact not_disk hS hbg (by decide)
  · intro e
    obtain ⟨cs', h'⟩ := hS _ e
    obtain ⟨es, clock, hm, _⟩ := h5
    unfold Blk at h'
    rw [hm] at h'
    cases h'
theorem OpenSt.other {fs : List Fl} {s : Nat} {W W' : World} {B p pd gd q : Nat} (h : OpenSt fs s W B p pd gd) (hb : But (· = q) W W') (hq : ∃ cs, Blk W q 94 cs) (hne : pd ≠ q) : OpenSt fs s W' B p pd gd := by
  have hS : ∀ k, k = q → ∃ cs, Blk W k 94 cs := fun k e => by rw [e]; exact hq
  obtain ⟨h1, D', h2, h3⟩ := h
  exact ⟨h1.other hb hS, D', h2, h3.but hb hne (not_disk hS h3.row (by decide))⟩
theorem OpenSt.disk {fs : List Fl} {s : Nat} {W : World} {B p pd gd : Nat} (h : OpenSt fs s W B p pd gd) : ∃ cs, Blk W pd 94 cs := by
  obtain ⟨_, D', _, h3⟩ := h
  exact ⟨_, h3.head⟩
end Go.Proofs.YtgkhgjihjbjfnaaDoor
