/- Package files: what is asked of files: Count, Sectors, inode, Inode, Lookup, Pages. -/
import Derived.Test.YtmbjflcmbenbdaaDoorFG
namespace Go.Proofs.YtmbjflcmbenbdaaDoor
open Go.RowKit Go.Shelf Go.Maps
set_option linter.unusedVariables false
set_option linter.unusedSimpArgs false

theorem count_of (p : Nat) (A : Option Addr) (n c : Nat) (w : World) (h : w.cell? ⟨p, 2, none⟩ = some (.slice A n c)) :
    Calls Tryd.prog 69 #[.pointer (some ⟨p, 0, none⟩)] w fun e w' => e = .returned (.int .i64 n) ∧ w = w' := by
  go_enter Tryd.func69, Tryd.ntmps69
  go_wp2
  go_ret
  exact ⟨rfl, rfl⟩
theorem count_nil (w : World) : Calls Tryd.prog 69 #[.pointer none] w fun e w' => e = .returned (.int .i64 0) ∧ w = w' := by
  go_enter Tryd.func69, Tryd.ntmps69
  go_wp2
  go_ret
  exact ⟨rfl, rfl⟩

/-- No file: a zero inode. -/
def zeroIno : Value := .agg #[.string ⟨#[]⟩, .int .i64 0, .slice none 0 0]
/-- Of these files none has this number: there are n of them, or the pointer is nil. -/
def NoFile (w : World) (f : Value) (i : Int) : Prop := f = .pointer none ∨ ∃ p A n c, f = .pointer (some ⟨p, 0, none⟩) ∧ w.cell? ⟨p, 2, none⟩ = some (.slice A n c) ∧ p < w.heap.size ∧ (i < 0 ∨ (n : Int) ≤ i)
theorem NoFile.on {w w' : World} {f : Value} {i : Int} (h : NoFile w f i) (hb : Below w.heap.size w w') : NoFile w' f i := by
  rcases h with h | ⟨p, A, n, c, h1, h2, h3, h4⟩
  · exact .inl h
  · exact .inr ⟨p, A, n, c, h1, (hb.cell (p := ⟨p, 2, none⟩) h3).trans h2, Nat.lt_of_lt_of_le h3 hb.size, h4⟩

set_option maxRecDepth 100000 in
set_option maxHeartbeats 1600000 in
theorem inode_no (f : Value) (i : Int) (w : World) (h : NoFile w f i) : Calls Tryd.prog 52 #[f, .int .i64 i] w fun e w' => e = .returned (.tuple #[zeroIno, .bool false]) ∧ Below w.heap.size w w' := by
  have hB := (Below.refl w.heap.size w).alloc (Nat.le_refl _) (.cells #[.string ⟨#[]⟩, .int .i64 0, .slice none 0 0] 67)
  have hg := heap_alloc_new w (.cells #[.string ⟨#[]⟩, .int .i64 0, .slice none 0 0] 67)
  by_cases hi : i < 0
  · go_enter Tryd.func52, Tryd.ntmps52
    go_wp2
    refine bodyPost_ret (results_cell_row_tmp rfl _ _ w.heap.size 67 _ (0, 0) _ rfl hg Tryd.underlying67 rfl (by kernel_rfl)) rfl ⟨rfl, hB⟩
  · rcases h with rfl | ⟨p, A, n, c, rfl, h2, h3, h4⟩
    · have HC := Lib.hid (fun w => count_nil w)
      go_enter Tryd.func52, Tryd.ntmps52
      go_wp2_with (go_at_call 69; refine (HC.out _).mono ?_; rintro e v1 ⟨rfl, rfl⟩)
      refine bodyPost_ret (results_cell_row_tmp rfl _ _ w.heap.size 67 _ (0, 0) _ rfl hg Tryd.underlying67 rfl (by kernel_rfl)) rfl ⟨rfl, hB⟩
    · have h5 : (n : Int) ≤ i := by omega
      have HC := Lib.hid (count_of p A n c (w.alloc (.cells #[.string ⟨#[]⟩, .int .i64 0, .slice none 0 0] 67)) ((hB.cell (p := ⟨p, 2, none⟩) h3).trans h2))
      clear h2 h4
      go_enter Tryd.func52, Tryd.ntmps52
      go_wp2_with (go_at_call 69; refine HC.out.mono ?_; rintro e v1 ⟨rfl, rfl⟩)
      refine bodyPost_ret (results_cell_row_tmp rfl _ _ w.heap.size 67 _ (0, 0) _ rfl hg Tryd.underlying67 rfl (by kernel_rfl)) rfl ⟨rfl, hB⟩

/-- The cells of files that lie at p. -/
theorem Fs.cells {w : World} {B p pd used : Nat} {xs : List Ino} (h : Fs w B p pd used xs) : ∃ A c mb, w.cell? ⟨p, 0, none⟩ = some (.pointer (some ⟨pd, 0, none⟩)) ∧ w.cell? ⟨p, 1, none⟩ = some (.int .i64 used) ∧ w.cell? ⟨p, 2, none⟩ = some (.slice A xs.length c) ∧ w.cell? ⟨p, 3, none⟩ = some (.map (some mb)) ∧ p < w.heap.size ∧ NumMap w mb (xs.map Ino.name) := by
  obtain ⟨⟨val, vs, mb, h1, h2, h3, h4, h5⟩, ho⟩ := h
  rcases h2.own.2 with ⟨rfl, h0⟩ | ⟨g, cap, cur, rfl, _⟩
  · exact ⟨none, 0, mb, h1.at_ 0 _ rfl, h1.at_ 1 _ rfl, by rw [h0]; exact h1.at_ 2 _ rfl, h1.at_ 3 _ rfl, h1.lt, h3⟩
  · exact ⟨_, cap, mb, h1.at_ 0 _ rfl, h1.at_ 1 _ rfl, h1.at_ 2 _ rfl, h1.at_ 3 _ rfl, h1.lt, h3⟩
theorem Fs.noFile {w : World} {B p pd used : Nat} {xs : List Ino} (h : Fs w B p pd used xs) {i : Int} (hi : i < 0 ∨ (xs.length : Int) ≤ i) : NoFile w (.pointer (some ⟨p, 0, none⟩)) i := by
  obtain ⟨A, c, mb, _, _, h2, _, h3, _⟩ := h.cells
  exact .inr ⟨p, A, _, c, rfl, h2, h3, hi⟩
theorem Fs.ino {w : World} {B p pd used : Nat} {xs : List Ino} (h : Fs w B p pd used xs) (k : Nat) (hk : k < xs.length) : ∃ g cap A c, w.cell? ⟨p, 2, none⟩ = some (.slice (some ⟨g, 0, none⟩) xs.length cap) ∧ p < w.heap.size ∧ g < w.heap.size ∧
    w.cell? ⟨g, k * 3, none⟩ = some (.string xs[k].name) ∧ w.cell? ⟨g, k * 3 + 1, none⟩ = some (.int .i64 xs[k].size) ∧ w.cell? ⟨g, k * 3 + 2, none⟩ = some (.slice A xs[k].ext.length c) ∧ ExtRow w (.slice A xs[k].ext.length c) xs[k].ext ∧ ∀ g, (Value.slice A xs[k].ext.length c).ownBlock = some g → B ≤ g := by
  obtain ⟨⟨val, vs, mb, h1, h2, h3, h4, h5⟩, ho⟩ := h
  rcases h2.own.2 with ⟨rfl, h0⟩ | ⟨g, cap, cur, rfl, _, hb, _, _, _, ht⟩
  · omega
  · have hkv : k < vs.length := by rw [h2.len]; exact hk
    obtain ⟨e1, e2, e3⟩ := inoCells_at xs vs k hk hkv
    rw [← ht, List.getElem?_take, if_pos (by omega)] at e1 e2 e3
    obtain ⟨hx, hxb⟩ := h2.ext k hk hkv
    obtain ⟨A, c, hv⟩ := hx.slice
    rw [hv] at e3 hx hxb
    have hbb : Blk w g 67 cur := hb
    exact ⟨g, cap, A, c, h1.at_ 2 _ rfl, h1.lt, hbb.lt, hbb.at_ _ _ (by simpa using e1), hbb.at_ _ _ (by simpa using e2), hbb.at_ _ _ (by simpa using e3), hx, hxb⟩

/-- A file's inode was told. -/
def ToldIno (w : World) (B : Nat) (x : Ino) (e : Ending) (w' : World) : Prop :=
  ∃ A c, e = .returned (.tuple #[.agg #[.string x.name, .int .i64 x.size, .slice A x.ext.length c], .bool true]) ∧ ExtRow w' (.slice A x.ext.length c) x.ext ∧ (∀ g, (Value.slice A x.ext.length c).ownBlock = some g → B ≤ g) ∧ Below w.heap.size w w'
set_option maxRecDepth 100000 in
set_option maxHeartbeats 1600000 in
theorem inode_yes {B p pd used : Nat} {xs : List Ino} (k : Nat) (hk : k < xs.length) (hl : xs.length ≤ 64) (w : World) (h : Fs w B p pd used xs) : Calls Tryd.prog 52 #[.pointer (some ⟨p, 0, none⟩), .int .i64 k] w (ToldIno w B xs[k]) := by
  obtain ⟨g, cap, A, c, h2, hp, hg, c0, c1, c2, hx, hxb⟩ := h.ino k hk
  have hB := (Below.refl w.heap.size w).alloc (Nat.le_refl _) (.cells #[.string ⟨#[]⟩, .int .i64 0, .slice none 0 0] 67)
  have d2 := (hB.cell (p := ⟨p, 2, none⟩) hp).trans h2
  have HC := Lib.hid (count_of p _ xs.length cap (w.alloc (.cells #[.string ⟨#[]⟩, .int .i64 0, .slice none 0 0] 67)) d2)
  have e0 := (hB.cell (p := ⟨g, k * 3, none⟩) hg).trans c0
  have e1 := (hB.cell (p := ⟨g, k * 3 + 1, none⟩) hg).trans c1
  have e2 := (hB.cell (p := ⟨g, k * 3 + 2, none⟩) hg).trans c2
  clear c0 c1 c2 hB h h2
  unfold ToldIno
  generalize xs[k] = x at *
  obtain ⟨nm, sz, ext⟩ := x
  simp only at *
  have HX := Lib.hid hx
  have HXB := Lib.hid hxb
  clear hx hxb
  go_enter Tryd.func52, Tryd.ntmps52
  go_wp2_with (go_at_call 69; refine HC.out.mono ?_; rintro e v1 ⟨rfl, rfl⟩)
  have hg2 := heap_alloc_new w (.cells #[.string nm, .int .i64 sz, .slice A ext.length c] 67)
  refine bodyPost_ret (results_cell_row_tmp rfl _ _ w.heap.size 67 _ (0, 0) _ rfl hg2 Tryd.underlying67 rfl (by kernel_rfl)) rfl ⟨A, c, rfl, HX.out.alloc _, HXB.out, (Below.refl w.heap.size w).alloc (Nat.le_refl _) _⟩
end Go.Proofs.YtmbjflcmbenbdaaDoor

/- Package files: Lookup, Pages, Inode, Page. -/
namespace Go.Proofs.YtmbjflcmbenbdaaDoor
open Go.RowKit Go.Shelf Go.Maps
set_option linter.unusedVariables false
set_option linter.unusedSimpArgs false


set_option maxHeartbeats 800000 in
theorem pages_no (f : Value) (i : Int) (w : World) (h : NoFile w f i) : Calls Tryd.prog 32 #[f, .int .i64 i] w fun e w' => e = .returned (.int .i64 0) ∧ Below w.heap.size w w' := by
  have h1 := inode_no f i w h
  have h2 := fun w => pages_any 0 w (by omega)
  unfold zeroIno at h1
  have e0 : ((pgs 0 : Nat) : Int) = 0 := by decide
  rw [e0] at h2
  have H1 := Lib.hid h1
  have H2 := Lib.hid (show ∀ w, Calls Tryd.prog 53 #[.int .i64 0] w _ from h2)
  clear h1 h2 h e0
  go_enter Tryd.func32, Tryd.ntmps32
  go_wp2_with (first
    | (go_at_call 52; with_reducible refine H1.out.mono ?_; rintro e v1 ⟨rfl, hb⟩)
    | (go_at_call 53; with_reducible refine (H2.out _).mono ?_; rintro e v2 ⟨rfl, rfl⟩))
  go_ret
  exact ⟨rfl, hb.alloc hb.size _⟩
set_option maxHeartbeats 800000 in
theorem fpages_yes {B p pd used : Nat} {xs : List Ino} (k : Nat) (hk : k < xs.length) (hl : xs.length ≤ 64) (hz : xs[k].size ≤ 1048576) (w : World) (h : Fs w B p pd used xs) :
    Calls Tryd.prog 32 #[.pointer (some ⟨p, 0, none⟩), .int .i64 k] w fun e w' => e = .returned (.int .i64 (pgs xs[k].size : Nat)) ∧ Below w.heap.size w w' := by
  have h1 := inode_yes k hk hl w h
  have h2 := fun w => pages_any xs[k].size w (by omega)
  unfold ToldIno at h1
  generalize xs[k] = x at *
  obtain ⟨nm, sz, ext⟩ := x
  simp only at *
  have H1 := Lib.hid h1
  have H2 := Lib.hid h2
  clear h1 h2 h
  go_enter Tryd.func32, Tryd.ntmps32
  go_wp2_with (first
    | (go_at_call 52; with_reducible refine H1.out.mono ?_; rintro e v1 ⟨A, c, rfl, hv, hvb, hb⟩)
    | (go_at_call 53; with_reducible refine (H2.out _).mono ?_; rintro e v2 ⟨rfl, rfl⟩))
  go_ret
  exact ⟨rfl, hb.alloc hb.size _⟩

/-- A copy of these extents was made. -/
def Cloned (w : World) (l : List (Nat × Nat)) (e : Ending) (w' : World) : Prop :=
  ∃ A c, e = .returned (.slice A l.length c) ∧ ExtRow w' (.slice A l.length c) l ∧ (∀ g, (Value.slice A l.length c).ownBlock = some g → w.heap.size ≤ g) ∧ Below w.heap.size w w'
end Go.Proofs.YtmbjflcmbenbdaaDoor

/- Package files: Inode, Page. -/
namespace Go.Proofs.YtmbjflcmbenbdaaDoor
open Go.RowKit Go.Shelf Go.Maps
set_option linter.unusedVariables false
set_option linter.unusedSimpArgs false


end Go.Proofs.YtmbjflcmbenbdaaDoor

/- Package files: Page. -/
namespace Go.Proofs.YtmbjflcmbenbdaaDoor
open Go.RowKit Go.Shelf Go.Maps
set_option linter.unusedVariables false
set_option linter.unusedSimpArgs false

/-- A page of these bytes. -/
def pageOf (d : ByteArray) (q : Nat) : ByteArray := mkb (fillL (d.data.toList.drop (64 * q)) 64)
theorem pageOf_size (d : ByteArray) (q : Nat) : (pageOf d q).size = 64 := by unfold pageOf; rw [mkb_size, fillL_length]
/-- The bytes d stand where the inode says. -/
structure HasData (D : Dsk) (x : Ino) (d : ByteArray) : Prop where
  size : x.size = d.size
  at_ : ∀ k (h : k < x.ext.length) n, n < x.ext[k].2 → D.S[x.ext[k].1 + n]? = some (pageOf d (ahd x.ext k + n))
theorem take_fill (l : List UInt8) (n : Nat) : fillL ((fillL l n).take l.length) n = fillL l n := by
  rcases Nat.le_total l.length n with h | h
  · have e : (fillL l n).take l.length = l := by
      unfold fillL
      rw [List.take_of_length_le h, List.take_append_of_le_length (Nat.le_refl _), List.take_length]
    rw [e]
  · have e : fillL l n = l.take n := by unfold fillL; rw [show n - l.length = 0 by omega]; simp
    rw [e, List.take_of_length_le (by rw [List.length_take]; omega)]
    unfold fillL
    rw [List.length_take, show n - min n l.length = 0 by omega]
    simp [List.take_take]
theorem page_fill (d : ByteArray) (q : Nat) : fillS ((pageOf d q).extract 0 (min (d.size - 64 * q) 64)) 64 = pageOf d q := by
  rw [extract_mkb]
  unfold fillS pageOf
  rw [if_neg (by omega)]
  simp only [mkb_data, List.drop_zero, Nat.sub_zero]
  rw [show Int.toNat 64 = 64 from rfl]
  congr 1
  have h1 := take_fill (d.data.toList.drop (64 * q)) 64
  rw [List.length_drop, len_data] at h1
  conv => rhs; rw [← h1]
  congr 1
  rcases Nat.le_total (d.size - 64 * q) 64 with h | h
  · rw [Nat.min_eq_left h]
  · rw [Nat.min_eq_right h, List.take_of_length_le (by rw [fillL_length]; omega), List.take_of_length_le (by rw [fillL_length]; omega)]

set_option maxHeartbeats 1600000 in
theorem page_no (f : Value) (i q : Int) (w : World) (h : NoFile w f i) : Calls Tryd.prog 73 #[f, .int .i64 i, .int .i64 q] w fun e w' => e = .returned (.tuple #[.string ⟨#[]⟩, .int .i64 14]) ∧ Below w.heap.size w w' := by
  have h1 := inode_no f i w h
  have h2 := fun w => pages_any 0 w (by omega)
  unfold zeroIno at h1
  have e0 : ((pgs 0 : Nat) : Int) = 0 := by decide
  rw [e0] at h2
  have H1 := Lib.hid h1
  have H2 := Lib.hid (show ∀ w, Calls Tryd.prog 53 #[.int .i64 0] w _ from h2)
  clear h1 h2 h e0
  by_cases hq : q < 0
  · go_enter Tryd.func73, Tryd.ntmps73
    go_wp2_with (first
      | (go_at_call 52; with_reducible refine H1.out.mono ?_; rintro e v1 ⟨rfl, hb⟩)
      | (go_at_call 53; with_reducible refine (H2.out _).mono ?_; rintro e v2 ⟨rfl, rfl⟩))
    go_ret2
    exact ⟨rfl, hb.alloc hb.size _⟩
  · have hq1 : 0 ≤ q := by omega
    have d1 : decide (q < 0) = false := by simpa using hq1
    go_enter Tryd.func73, Tryd.ntmps73
    go_wp2_with (first
      | (go_at_call 52; with_reducible refine H1.out.mono ?_; rintro e v1 ⟨rfl, hb⟩)
      | (go_at_call 53; with_reducible refine (H2.out _).mono ?_; rintro e v2 ⟨rfl, rfl⟩))
    go_ret2
    exact ⟨rfl, hb.alloc hb.size _⟩

/-- Page q was told. -/
def PageTold (w : World) (pd gd : Nat) (D : Dsk) (d : ByteArray) (q : Nat) (e : Ending) (w' : World) : Prop :=
  e = .returned (.tuple #[.string (pageOf d q), .int .i64 0]) ∧ But (· = pd) w w' ∧ ∃ D' : Dsk, D'.S = D.S ∧ Dk w' pd gd D'
theorem read_sec {pd gd : Nat} {D D' : Dsk} {w : World} {x : Ino} {d : ByteArray} (hd : HasData D x d) (hs : D'.S = D.S) (h : Dk w pd gd D') {q : Nat} {z : Int} (hz : SecAt x.ext q z) :
    Calls Tryd.prog 42 #[.pointer (some ⟨pd, 0, none⟩), .int .i64 z] w (PageTold w pd gd D d q) := by
  obtain ⟨k, hk, h1, h2, rfl⟩ := hz
  have h3 := hd.at_ k hk (q - ahd x.ext k) (by omega)
  rw [show ahd x.ext k + (q - ahd x.ext k) = q by omega, ← hs] at h3
  obtain ⟨h4, h5⟩ := List.getElem?_eq_some_iff.1 h3
  refine (read_ok h (x.ext[k].1 + (q - ahd x.ext k)) h4 _ (by omega)).mono ?_
  rintro e w' ⟨he, hb, D2, hs2, hd2⟩
  exact ⟨by rw [he, h5], hb, D2, hs2.trans hs, hd2⟩

set_option maxRecDepth 100000 in
set_option maxHeartbeats 4000000 in
theorem page_yes {B p pd gd used first : Nat} {xs : List Ino} {D : Dsk} (k : Nat) (hk : k < xs.length) (hl : xs.length ≤ 64) (d : ByteArray) (hf : InoFits xs[k]) (hs : Stands xs[k] first used) (hd : HasData D xs[k] d) (q : Nat) (hq : q < pgs xs[k].size) (w : World)
    (h : Fs w B p pd used xs) (hdk : Dk w pd gd D) : Calls Tryd.prog 73 #[.pointer (some ⟨p, 0, none⟩), .int .i64 k, .int .i64 q] w (PageTold w pd gd D d q) := by
  obtain ⟨val, vs, mb, hF, _, _, hBp, _⟩ := h.ex
  have hp := hF.lt
  have hppd : p ≠ pd := by have := h.old; omega
  have c0 := hF.at_ 0 _ rfl
  have h1 := inode_yes k hk hl w h
  have hsz := hs.2.1
  have h2 := fun w => pages_any xs[k].size w (by omega)
  have hah := hs.2.2
  have h3 := fun v w (hv : ExtRow w v xs[k].ext) => sectorOf_any v xs[k].ext q w hf.small hv (by omega)
  have h4 := fun z w D' (hs : D'.S = D.S) (h : Dk w pd gd D') (hz : SecAt xs[k].ext q z) => read_sec (x := xs[k]) (z := z) (w := w) (q := q) hd hs h hz
  unfold PageTold at *
  unfold ToldIno at h1
  have hds := hd.size
  clear hf hs hd hah h
  generalize xs[k] = x at *
  obtain ⟨nm, sz, ext⟩ := x
  simp only at *
  obtain rfl := hds
  have hq64 : q * 64 < d.size := by unfold pgs at hq; omega
  have h5 := fun w => fill_any ((pageOf d q).extract 0 (min (d.size - 64 * q) 64)) 64 w (by decide) (by rw [extract_mkb, mkb_size]; simp; omega) (by omega)
  rw [page_fill, show min (d.size - 64 * q) 64 = (min ((d.size : Int) - (q : Int) * 64) 64).toNat by omega] at h5
  have hps := pageOf_size d q
  have w1 : IntKind.i64.wrap ((q : Int) * 64) = (q : Int) * 64 := IntWalk.i64_in _ (by omega)
  have w2 : IntKind.i64.wrap ((d.size : Int) - (q : Int) * 64) = (d.size : Int) - (q : Int) * 64 := IntWalk.i64_in _ (by omega)
  generalize pageOf d q = pq at *
  have H1 := Lib.hid h1
  have H2 := Lib.hid h2
  have H3 := Lib.hid h3
  have H4 := Lib.hid h4
  have H5 := Lib.hid h5
  have HD := Lib.hid hdk
  have hpd := hdk.head.lt
  have hgd := hdk.row.lt
  clear h1 h2 h3 h4 h5 hdk
  go_enter Tryd.func73, Tryd.ntmps73
  go_wp2_with (first
    | (go_at_call 52; with_reducible refine H1.out.mono ?_; rintro e v1 ⟨A, c, rfl, hv, hvb, hb⟩; have cc := hb.cell (p := ⟨p, 0, none⟩) hp |>.trans c0)
    | (go_at_call 53; with_reducible refine (H2.out _).mono ?_; rintro e v2 ⟨rfl, rfl⟩))
  have hX := Blk.new v1 67 #[.string nm, .int .i64 d.size, .slice A ext.length c]
  have hv3 := hv.alloc (.cells #[.string nm, .int .i64 d.size, .slice A ext.length c] 67)
  have hB3 := hb.alloc hb.size (.cells #[.string nm, .int .i64 d.size, .slice A ext.length c] 67)
  have c3 := (hB3.cell (p := ⟨p, 0, none⟩) hp).trans c0
  obtain ⟨bx, hbx⟩ : ∃ bx, v1.heap.size = bx := ⟨_, rfl⟩
  have hwb : w.heap.size ≤ bx := by rw [← hbx]; exact hb.size
  rw [hbx] at hX ⊢
  generalize v1.alloc (.cells #[.string nm, .int .i64 d.size, .slice A ext.length c] 67) = W at *
  have hdk := HD.out.below hB3 hpd hgd
  have hbpd : bx ≠ pd := by omega
  have HF := Lib.hid (hF.below hB3 hp)
  have a0 : W.drew.cell? ⟨p, 0, none⟩ = _ := c3
  have a1 := hX.drew.at_ 2 _ rfl
  have hpW : p < W.heap.size := Nat.lt_of_lt_of_le hp hB3.size
  have HX := Lib.hid hX
  have HV := Lib.hid hv3
  have HB := Lib.hid hB3
  have HDK := Lib.hid hdk
  clear hX hv hv3 hvb hb cc c0 c3 hB3 hdk HD hbx H1 H2
  go_region_held3 (fun w' => w'.cell? ⟨p, 0, none⟩ = some (.pointer (some ⟨pd, 0, none⟩)) ∧ w'.cell? ⟨bx, 2, none⟩ = some (.slice A ext.length c))
    (first | exact ⟨a0, a1⟩)
    (first
    | (go_at_call 85; refine (H3.out _ _ (HV.out.kp (S := fun _ => False) (KpC.of_below (Below.refl _ _).drew) (fun _ _ => id))).mono ?_; rintro e v4 ⟨⟨z, rfl, hz⟩, hb4⟩; have HX4 := Lib.hid (HX.out.drew.below hb4 HX.out.lt); clear a0 a1; have a0 := (hb4.cell (p := ⟨p, 0, none⟩) hpW).trans (show W.drew.cell? ⟨p, 0, none⟩ = some (.pointer (some ⟨pd, 0, none⟩)) from ‹_ ∧ _›.1); have a1 := HX4.out.at_ 2 _ rfl; have HF4 := Lib.hid (HF.out.drew.below hb4 hpW); have hk4 := (HB.out.drew.trans (hb4.mono HB.out.size)); have hdk4 := HDK.out.drewN 1 |>.below hb4 HDK.out.head.lt HDK.out.row.lt; have HZ := Lib.hid hz; have HB4 := Lib.hid hk4; have HD4 := Lib.hid hdk4; clear hz hk4 hdk4)
    | (go_at_call 42; refine (H4.out _ _ _ rfl HD4.out HZ.out).mono ?_; rintro e v5 ⟨rfl, hb5, D5, hs5, hd5⟩; clear a0 a1; have HX5 := Lib.hid (HX4.out.but hb5 hbpd); have HF5 := Lib.hid (HF4.out.but hb5 hppd); have a0 := HF5.out.at_ 0 _ rfl; have a1 := HX5.out.at_ 2 _ rfl; have HB5 := Lib.hid ((But.of_below (S := (· = pd)) HB4.out).trans hb5); have HD5 := Lib.hid hd5; clear hb5 hd5))
  have a2 := HX5.out.at_ 1 _ rfl
  clear a0 H3 H4 HX4 HF4 HB4 HD4 HX HV HF HB HDK HZ HF5 hF
  go_wp2_with (go_at_call 61; with_reducible refine (H5.out _).mono ?_; rintro e v6 ⟨rfl, hb6⟩)
  go_ret2
  exact ⟨rfl, HB5.out.trans (But.of_below hb6), D5, hs5, HD5.out.below hb6 HD5.out.head.lt HD5.out.row.lt⟩
end Go.Proofs.YtmbjflcmbenbdaaDoor

/- Package files: Bytes of no file. -/
namespace Go.Proofs.YtmbjflcmbenbdaaDoor
open Go.RowKit Go.Shelf Go.Maps
set_option linter.unusedVariables false
set_option linter.unusedSimpArgs false

end Go.Proofs.YtmbjflcmbenbdaaDoor
