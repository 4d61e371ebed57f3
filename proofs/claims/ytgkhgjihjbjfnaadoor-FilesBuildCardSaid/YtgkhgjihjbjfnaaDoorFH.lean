/- Package files: what is asked of files: Count, Sectors, inode, Inode, Lookup, Pages. -/
import Derived.Test.YtgkhgjihjbjfnaaDoorFG
namespace Go.Proofs.YtgkhgjihjbjfnaaDoor
open Go.RowKit Go.Shelf Go.Maps
set_option linter.unusedVariables false
set_option linter.unusedSimpArgs false

theorem count_of (p : Nat) (A : Option Addr) (n c : Nat) (w : World) (h : w.cell? ⟨p, 2, none⟩ = some (.slice A n c)) :
    Calls Tryd.prog 18 #[.pointer (some ⟨p, 0, none⟩)] w fun e w' => e = .returned (.int .i64 n) ∧ w = w' := by
  go_enter Tryd.func18, Tryd.ntmps18
  go_wp2
  go_ret
  exact ⟨rfl, rfl⟩
theorem count_nil (w : World) : Calls Tryd.prog 18 #[.pointer none] w fun e w' => e = .returned (.int .i64 0) ∧ w = w' := by
  go_enter Tryd.func18, Tryd.ntmps18
  go_wp2
  go_ret
  exact ⟨rfl, rfl⟩
theorem fsectors_of (p : Nat) (n : Int) (w : World) (h : w.cell? ⟨p, 1, none⟩ = some (.int .i64 n)) :
    Calls Tryd.prog 19 #[.pointer (some ⟨p, 0, none⟩)] w fun e w' => e = .returned (.int .i64 n) ∧ w = w' := by
  go_enter Tryd.func19, Tryd.ntmps19
  go_wp2
  go_ret
  exact ⟨rfl, rfl⟩
theorem fsectors_nil (w : World) : Calls Tryd.prog 19 #[.pointer none] w fun e w' => e = .returned (.int .i64 0) ∧ w = w' := by
  go_enter Tryd.func19, Tryd.ntmps19
  go_wp2
  go_ret
  exact ⟨rfl, rfl⟩

/-- No file: a zero inode. -/
def zeroIno : Value := .agg #[.string ⟨#[]⟩, .int .i64 0, .slice none 0 0]
/-- Of these files none has this number: there are n of them, or the pointer is nil. -/
def NoFile (w : World) (f : Value) (i : Int) : Prop := f = .pointer none ∨ ∃ p A n c, f = .pointer (some ⟨p, 0, none⟩) ∧ w.cell? ⟨p, 2, none⟩ = some (.slice A n c) ∧ p < w.heap.size ∧ (i < 0 ∨ (n : Int) ≤ i)
theorem NoFile.on {w w' : World} {f : Value} {i : Int} (h : NoFile w f i) (hb : Below w.heap.size w w') : NoFile w' f i := by
  rcases h with h | ⟨p, A, n, c, h1, h2, h3, h4⟩
  · exact .inl h
  · exact .inr ⟨p, A, n, c, h1, (hb.cell (p := ⟨p, 2, none⟩) h3).trans h2, Nat.lt_of_lt_of_le h3 hb.size, h4⟩

set_option maxRecDepth 100000 in
set_option maxHeartbeats 1600000 in
theorem inode_no (f : Value) (i : Int) (w : World) (h : NoFile w f i) : Calls Tryd.prog 41 #[f, .int .i64 i] w fun e w' => e = .returned (.tuple #[zeroIno, .bool false]) ∧ Below w.heap.size w w' := by
  have hB := (Below.refl w.heap.size w).alloc (Nat.le_refl _) (.cells #[.string ⟨#[]⟩, .int .i64 0, .slice none 0 0] 55)
  have hg := heap_alloc_new w (.cells #[.string ⟨#[]⟩, .int .i64 0, .slice none 0 0] 55)
  by_cases hi : i < 0
  · go_enter Tryd.func41, Tryd.ntmps41
    go_wp2
    refine bodyPost_ret (results_cell_row_tmp rfl _ _ w.heap.size 55 _ (0, 0) _ rfl hg Tryd.underlying55 rfl (by kernel_rfl)) rfl ⟨rfl, hB⟩
  · rcases h with rfl | ⟨p, A, n, c, rfl, h2, h3, h4⟩
    · have HC := Lib.hid (fun w => count_nil w)
      go_enter Tryd.func41, Tryd.ntmps41
      go_wp2_with (go_at_call 18; refine (HC.out _).mono ?_; rintro e v1 ⟨rfl, rfl⟩)
      refine bodyPost_ret (results_cell_row_tmp rfl _ _ w.heap.size 55 _ (0, 0) _ rfl hg Tryd.underlying55 rfl (by kernel_rfl)) rfl ⟨rfl, hB⟩
    · have h5 : (n : Int) ≤ i := by omega
      have HC := Lib.hid (count_of p A n c (w.alloc (.cells #[.string ⟨#[]⟩, .int .i64 0, .slice none 0 0] 55)) ((hB.cell (p := ⟨p, 2, none⟩) h3).trans h2))
      clear h2 h4
      go_enter Tryd.func41, Tryd.ntmps41
      go_wp2_with (go_at_call 18; refine HC.out.mono ?_; rintro e v1 ⟨rfl, rfl⟩)
      refine bodyPost_ret (results_cell_row_tmp rfl _ _ w.heap.size 55 _ (0, 0) _ rfl hg Tryd.underlying55 rfl (by kernel_rfl)) rfl ⟨rfl, hB⟩

/-- The cells of files that lie at p. -/
theorem Fs.cells {w : World} {B p pd used : Nat} {xs : List Ino} (h : Fs w B p pd used xs) : ∃ A c mb, w.cell? ⟨p, 0, none⟩ = some (.pointer (some ⟨pd, 0, none⟩)) ∧ w.cell? ⟨p, 1, none⟩ = some (.int .i64 used) ∧ w.cell? ⟨p, 2, none⟩ = some (.slice A xs.length c) ∧ w.cell? ⟨p, 3, none⟩ = some (.map (some mb)) ∧ p < w.heap.size ∧ NumMap w mb (xs.map Ino.name) := by
  obtain ⟨⟨val, vs, mb, h1, h2, h3, h4, h5⟩, ho⟩ := h
  rcases h2.own.2 with ⟨rfl, h0⟩ | ⟨g, cap, cur, rfl, _⟩
  · exact ⟨none, 0, mb, h1.at_ 0 _ rfl, h1.at_ 1 _ rfl, by rw [h0]; exact h1.at_ 2 _ rfl, h1.at_ 3 _ rfl, h1.lt, h3⟩
  · exact ⟨_, cap, mb, h1.at_ 0 _ rfl, h1.at_ 1 _ rfl, h1.at_ 2 _ rfl, h1.at_ 3 _ rfl, h1.lt, h3⟩
theorem Fs.noFile {w : World} {B p pd used : Nat} {xs : List Ino} (h : Fs w B p pd used xs) {i : Int} (hi : i < 0 ∨ (xs.length : Int) ≤ i) : NoFile w (.pointer (some ⟨p, 0, none⟩)) i := by
  obtain ⟨A, c, mb, _, _, h2, _, h3, _⟩ := h.cells
  exact .inr ⟨p, A, _, c, rfl, h2, h3, hi⟩
theorem Fs.ino {w : World} {B p pd used : Nat} {xs : List Ino} (h : Fs w B p pd used xs) (k : Nat) (hk : k < xs.length) : ∃ g cap A c, w.cell? ⟨p, 2, none⟩ = some (.slice (some ⟨g, 0, none⟩) xs.length cap) ∧ p < w.heap.size ∧ g < w.heap.size ∧
    w.cell? ⟨g, k * 3, none⟩ = some (.string xs[k].name) ∧ w.cell? ⟨g, k * 3 + 1, none⟩ = some (.int .i64 xs[k].size) ∧ w.cell? ⟨g, k * 3 + 2, none⟩ = some (.slice A xs[k].ext.length c) ∧ ExtRow w (.slice A xs[k].ext.length c) xs[k].ext ∧ ∀ g, (Value.slice A xs[k].ext.length c).ownBlock = some g → B ≤ g := by
  obtain ⟨⟨val, vs, mb, h1, h2, h3, h4, h5⟩, ho⟩ := h
  rcases h2.own.2 with ⟨rfl, h0⟩ | ⟨g, cap, cur, rfl, _, hb, _, _, _, ht⟩
  · omega
  · have hkv : k < vs.length := by rw [h2.len]; exact hk
    obtain ⟨e1, e2, e3⟩ := inoCells_at xs vs k hk hkv
    rw [← ht, List.getElem?_take, if_pos (by omega)] at e1 e2 e3
    obtain ⟨hx, hxb⟩ := h2.ext k hk hkv
    obtain ⟨A, c, hv⟩ := hx.slice
    rw [hv] at e3 hx hxb
    have hbb : Blk w g 55 cur := hb
    exact ⟨g, cap, A, c, h1.at_ 2 _ rfl, h1.lt, hbb.lt, hbb.at_ _ _ (by simpa using e1), hbb.at_ _ _ (by simpa using e2), hbb.at_ _ _ (by simpa using e3), hx, hxb⟩

/-- A file's inode was told. -/
def ToldIno (w : World) (B : Nat) (x : Ino) (e : Ending) (w' : World) : Prop :=
  ∃ A c, e = .returned (.tuple #[.agg #[.string x.name, .int .i64 x.size, .slice A x.ext.length c], .bool true]) ∧ ExtRow w' (.slice A x.ext.length c) x.ext ∧ (∀ g, (Value.slice A x.ext.length c).ownBlock = some g → B ≤ g) ∧ Below w.heap.size w w'
set_option maxRecDepth 100000 in
set_option maxHeartbeats 1600000 in
theorem inode_yes {B p pd used : Nat} {xs : List Ino} (k : Nat) (hk : k < xs.length) (hl : xs.length ≤ 64) (w : World) (h : Fs w B p pd used xs) : Calls Tryd.prog 41 #[.pointer (some ⟨p, 0, none⟩), .int .i64 k] w (ToldIno w B xs[k]) := by
  obtain ⟨g, cap, A, c, h2, hp, hg, c0, c1, c2, hx, hxb⟩ := h.ino k hk
  have hB := (Below.refl w.heap.size w).alloc (Nat.le_refl _) (.cells #[.string ⟨#[]⟩, .int .i64 0, .slice none 0 0] 55)
  have d2 := (hB.cell (p := ⟨p, 2, none⟩) hp).trans h2
  have HC := Lib.hid (count_of p _ xs.length cap (w.alloc (.cells #[.string ⟨#[]⟩, .int .i64 0, .slice none 0 0] 55)) d2)
  have e0 := (hB.cell (p := ⟨g, k * 3, none⟩) hg).trans c0
  have e1 := (hB.cell (p := ⟨g, k * 3 + 1, none⟩) hg).trans c1
  have e2 := (hB.cell (p := ⟨g, k * 3 + 2, none⟩) hg).trans c2
  clear c0 c1 c2 hB h h2
  unfold ToldIno
  generalize xs[k] = x at *
  obtain ⟨nm, sz, ext⟩ := x
  simp only at *
  have HX := Lib.hid hx
  have HXB := Lib.hid hxb
  clear hx hxb
  go_enter Tryd.func41, Tryd.ntmps41
  go_wp2_with (go_at_call 18; refine HC.out.mono ?_; rintro e v1 ⟨rfl, rfl⟩)
  have hg2 := heap_alloc_new w (.cells #[.string nm, .int .i64 sz, .slice A ext.length c] 55)
  refine bodyPost_ret (results_cell_row_tmp rfl _ _ w.heap.size 55 _ (0, 0) _ rfl hg2 Tryd.underlying55 rfl (by kernel_rfl)) rfl ⟨A, c, rfl, HX.out.alloc _, HXB.out, (Below.refl w.heap.size w).alloc (Nat.le_refl _) _⟩
end Go.Proofs.YtgkhgjihjbjfnaaDoor
