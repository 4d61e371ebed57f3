/- Files that were built and opened: what is asked of them. -/
import Derived.Test.YtmbjflcmbenbdaaDoorFU
import Derived.Test.YtmbjflcmbenbdaaDoorFNo
namespace Go.Proofs.YtmbjflcmbenbdaaDoor
open Go.RowKit Go.Shelf Go.Maps
set_option linter.unusedVariables false
set_option linter.unusedSimpArgs false

/-- A disk of these files lies at pd, opened at p. -/
def OpenSt (fs : List Fl) (s : Nat) (w : World) (B p pd gd : Nat) : Prop := Fs w B p pd (builtL fs s).length (builtX fs s) ∧ ∃ D' : Dsk, D'.S = builtL fs s ∧ Dk w pd gd D'
section
variable {fs : List Fl} {s : Nat} {w w' : World} {B p pd gd : Nat}
theorem OpenSt.below (h : OpenSt fs s w B p pd gd) (hb : Below w.heap.size w w') : OpenSt fs s w' B p pd gd := by
  obtain ⟨h1, D', h2, h3⟩ := h
  exact ⟨h1.below hb, D', h2, h3.below hb h3.head.lt h3.row.lt⟩
theorem OpenSt.alloc (h : OpenSt fs s w B p pd gd) (o : Obj) : OpenSt fs s (w.alloc o) B p pd gd := h.below ((Below.refl _ _).alloc (Nat.le_refl _) o)
theorem OpenSt.drew (h : OpenSt fs s w B p pd gd) : OpenSt fs s w.drew B p pd gd := h.below (Below.refl _ _).drew
theorem OpenSt.told (h : OpenSt fs s w B p pd gd) (hb : But (· = pd) w w') (hd : ∃ D' : Dsk, D'.S = builtL fs s ∧ Dk w' pd gd D') : OpenSt fs s w' B p pd gd :=
  ⟨h.1.but hb (fun k e => by rw [e]; exact h.1.old), hd⟩
/-- A call told this; the disk was read. -/
def StTold (fs : List Fl) (s : Nat) (B p pd gd : Nat) (w : World) (v : Value) (e : Ending) (w' : World) : Prop := e = .returned v ∧ OpenSt fs s w' B p pd gd ∧ But (· = pd) w w'
theorem st_open (hc : CanBe fs s) (h1 : 1 ≤ s) (pd gd : Nat) (w : World) (hd : Dk w pd gd ⟨builtL fs s, 0, 0, 0⟩) :
    Calls Tryd.prog 20 #[.pointer (some ⟨pd, 0, none⟩)] w fun e w' => ∃ p, e = .returned (.tuple #[.pointer (some ⟨p, 0, none⟩), .int .i64 0]) ∧ OpenSt fs s w' w.heap.size p pd gd ∧ But (· = pd) w w' :=
  (open_any pd gd _ _ _ w hd (built_disk hc h1 ⟨builtL fs s, 0, 0, 0⟩ rfl)).mono fun _ _ ⟨p, he, h1, h2, h3⟩ => ⟨p, he, ⟨h1, h2⟩, h3⟩
theorem st_at (h1 : 1 ≤ s) (k : Nat) (hk : k < fs.length) : ∃ hk' : k < (builtX fs s).length, ((builtX fs s)[k]'hk').name = fs[k].name ∧ ((builtX fs s)[k]'hk').size = fs[k].data.size := by
  have hk' : k < (builtX fs s).length := by rw [builtX_length h1]; exact hk
  obtain ⟨_, _, e⟩ := builtX_at h1 hk'
  exact ⟨hk', by rw [e], by rw [e]⟩
theorem st_names (hc : CanBe fs s) (h1 : 1 ≤ s) : (builtX fs s).map Ino.name = fs.map Fl.name := inosOf_names (LaidOk.rows fs h1 4 (by omega)).len
theorem st_page (hc : CanBe fs s) (h1 : 1 ≤ s) (h : OpenSt fs s w B p pd gd) (k : Nat) (hk : k < fs.length) (q : Nat) (hq : q < pgs fs[k].data.size) :
    Calls Tryd.prog 73 #[.pointer (some ⟨p, 0, none⟩), .int .i64 k, .int .i64 q] w (StTold fs s B p pd gd w (.tuple #[.string (pageOf fs[k].data q), .int .i64 0])) := by
  obtain ⟨hk', _, e2⟩ := st_at (fs := fs) (s := s) h1 k hk
  obtain ⟨D', h2, h3⟩ := h.2
  obtain ⟨hf, hst⟩ := (built_disk hc h1 D' h2).fits _ (List.getElem_mem hk')
  refine (page_yes k hk' (by rw [builtX_length h1]; exact hc.many) _ hf hst (built_data h1 D' h2 k hk' hk) q (by rw [e2]; exact hq) w h.1 h3).mono ?_
  rintro e w' ⟨he, hb, D2, hs2, hd2⟩
  exact ⟨he, h.told hb ⟨D2, hs2.trans h2, hd2⟩, hb⟩
theorem st_pages (hc : CanBe fs s) (h1 : 1 ≤ s) (h : OpenSt fs s w B p pd gd) (k : Nat) (hk : k < fs.length) :
    Calls Tryd.prog 32 #[.pointer (some ⟨p, 0, none⟩), .int .i64 k] w fun e w' => e = .returned (.int .i64 (pgs fs[k].data.size : Nat)) ∧ Below w.heap.size w w' := by
  obtain ⟨hk', _, e2⟩ := st_at (fs := fs) (s := s) h1 k hk
  have h2 := fpages_yes k hk' (by rw [builtX_length h1]; exact hc.many) (by rw [e2]; exact hc.data _ (List.getElem_mem hk)) w h.1
  rw [e2] at h2
  exact h2
theorem st_count (h1 : 1 ≤ s) (h : OpenSt fs s w B p pd gd) : Calls Tryd.prog 69 #[.pointer (some ⟨p, 0, none⟩)] w fun e w' => e = .returned (.int .i64 fs.length) ∧ w = w' := by
  obtain ⟨A, c, mb, _, _, h2, _⟩ := h.1.cells
  have h3 := count_of p A _ c w h2
  rw [builtX_length h1] at h3
  exact h3
end
theorem sum_le {α : Type} (f : α → Nat) (K : Nat) : ∀ l : List α, (∀ x ∈ l, f x ≤ K) → (l.map f).sum ≤ K * l.length
  | [], _ => by simp
  | x :: l, h => by
    have h1 := sum_le f K l (fun y hy => h y (by simp [hy]))
    have h2 := h x (by simp)
    rw [List.map_cons, List.sum_cons, List.length_cons, Nat.mul_succ]
    omega
/-- A few files with names that may be make a disk. -/
theorem can_few (fs : List Fl) (s : Nat) (hl : fs.length ≤ 10) (hn : namesOk fs) (hd : ∀ f ∈ fs, f.data.size ≤ 1000) (hs : 1 ≤ s) : CanBe fs s := by
  refine ⟨by omega, hn.1, hn.2, fun f hf => by have := hd f hf; omega, ?_⟩
  rw [dat_len (LaidOk.rows fs hs 4 (by omega))]
  have := sum_le Fl.pg 16 fs (fun f hf => by have := hd f hf; unfold Fl.pg pgs; omega)
  omega
end Go.Proofs.YtmbjflcmbenbdaaDoor
