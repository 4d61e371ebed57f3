/- Package files: how lay's inodes lie while they are made. -/
import Derived.Test.YtgkhgjihjbjfnaaDoorFM
import Derived.Maps.AppendAt
namespace Go.Proofs.YtgkhgjihjbjfnaaDoor
open Go.RowKit Go.Shelf
set_option linter.unusedVariables false
set_option linter.unusedSimpArgs false

/-- Rows of files. -/
def fileCells (fs : List Fl) : List Value := fs.flatMap fun f => [.string f.name, .string f.data]
theorem fileCells_length : ∀ fs, (fileCells fs).length = fs.length * 2
  | [] => rfl
  | f :: fs => by
    have := fileCells_length fs
    unfold fileCells at *
    rw [List.flatMap_cons, List.length_append, this]
    simp; omega
theorem fileCells_at : ∀ (fs : List Fl) (k : Nat) (h : k < fs.length), (fileCells fs)[k * 2]? = some (.string fs[k].name) ∧ (fileCells fs)[k * 2 + 1]? = some (.string fs[k].data)
  | f :: fs, 0, _ => ⟨rfl, rfl⟩
  | f :: fs, k + 1, h => by
    have := fileCells_at fs k (by simpa using h)
    unfold fileCells at *
    rw [List.flatMap_cons, show (k + 1) * 2 = k * 2 + 2 by omega]
    exact this
theorem fileCells_snoc (fs : List Fl) (f : Fl) : fileCells (fs ++ [f]) = fileCells fs ++ [.string f.name, .string f.data] := by simp [fileCells]
/-- The slice v holds these files. -/
def FileRow (W : World) (v : Value) (fs : List Fl) : Prop :=
  (v = .slice none 0 0 ∧ fs = []) ∨ ∃ g cap cur, v = .slice (some ⟨g, 0, none⟩) fs.length cap ∧ Blk W g 32 cur ∧ cur.toList.take (fs.length * 2) = fileCells fs
theorem FileRow.kp {S : Nat → Prop} {W W' : World} {v : Value} {l : List Fl} (h : FileRow W v l) (hk : KpC S W W') (hS : ∀ g, v.ownBlock = some g → ¬ S g) : FileRow W' v l := by
  rcases h with h | ⟨g, cap, cur, rfl, hb, hc⟩
  · exact .inl h
  · exact .inr ⟨g, cap, cur, rfl, hk g cur _ (hS g rfl) hb, hc⟩
theorem FileRow.below {W W' : World} {v : Value} {l : List Fl} (h : FileRow W v l) (hk : Below W.heap.size W W') : FileRow W' v l := h.kp (S := fun _ => False) (KpC.of_below hk) (fun _ _ => id)
theorem FileRow.lt {W : World} {v : Value} {l : List Fl} (h : FileRow W v l) {g : Nat} (hg : v.ownBlock = some g) : g < W.heap.size := by
  rcases h with ⟨rfl, _⟩ | ⟨g', cap, cur, rfl, hb, _⟩
  · simp [Value.ownBlock] at hg
  · obtain rfl : g' = g := by simpa [Value.ownBlock] using hg
    exact hb.lt
theorem FileRow.slice {W : World} {v : Value} {l : List Fl} (h : FileRow W v l) : ∃ A c, v = .slice A l.length c := by
  rcases h with ⟨rfl, rfl⟩ | ⟨g, cap, cur, rfl, _⟩
  · exact ⟨none, 0, rfl⟩
  · exact ⟨_, _, rfl⟩
theorem FileRow.of_own {W : World} {B n : Nat} {v : Value} {l : List Fl} (h : W.ownsRow B 32 2 v n (fileCells l)) : FileRow W v l := by
  have hn : n = l.length := by have := h.1; rw [fileCells_length] at this; omega
  subst hn
  rcases h.2 with ⟨rfl, h0⟩ | ⟨g, cap, cur, rfl, _, hb, _, _, _, ht⟩
  · exact .inl ⟨rfl, List.eq_nil_of_length_eq_zero h0⟩
  · exact .inr ⟨g, cap, cur, rfl, hb, ht⟩
theorem FileRow.at_ {W : World} {A : Option Addr} {n c : Nat} {l : List Fl} (h : FileRow W (.slice A n c) l) (k : Nat) (hk : k < l.length) :
    ∃ g, A = some ⟨g, 0, none⟩ ∧ g < W.heap.size ∧ W.cell? ⟨g, k * 2, none⟩ = some (.string l[k].name) ∧ W.cell? ⟨g, k * 2 + 1, none⟩ = some (.string l[k].data) := by
  rcases h with ⟨_, rfl⟩ | ⟨g, cap, cur, hv, hb, hc⟩
  · simp at hk
  · injection hv with h1 h2 h3
    subst h1
    obtain ⟨e1, e2⟩ := fileCells_at l k hk
    rw [← hc, List.getElem?_take, if_pos (by omega)] at e1 e2
    exact ⟨g, rfl, hb.lt, hb.at_ _ _ (by simpa using e1), hb.at_ _ _ (by simpa using e2)⟩

def noIno : Ino := ⟨⟨#[]⟩, 0, []⟩
def intCells (l : List Nat) : List Value := l.map fun (n : Nat) => .int .i64 (n : Int)
theorem inoCells_set : ∀ (xs : List Ino) (vs : List Value) (i : Nat) (x : Ino) (v : Value), i < xs.length → i < vs.length → inoCells (xs.set i x) (vs.set i v) = (((inoCells xs vs).set (i * 3) (.string x.name)).set (i * 3 + 1) (.int .i64 x.size)).set (i * 3 + 2) v
  | y :: xs, u :: vs, 0, x, v, _, _ => by simp [inoCells]
  | y :: xs, u :: vs, i + 1, x, v, h, h' => by
    have := inoCells_set xs vs i x v (by simpa using h) (by simpa using h')
    unfold inoCells at *
    simp only [List.set_cons_succ, List.zip_cons_cons, List.flatMap_cons, this, show (i + 1) * 3 = i * 3 + 3 by omega, List.cons_append, List.nil_append, show i * 3 + 3 + 1 = i * 3 + 1 + 3 by omega, show i * 3 + 3 + 2 = i * 3 + 2 + 3 by omega]
theorem inoCells_set_ext (xs : List Ino) (vs : List Value) (i : Nat) (e : List (Nat × Nat)) (v : Value) (h : i < xs.length) (h' : i < vs.length) : inoCells (xs.set i { xs[i] with ext := e }) (vs.set i v) = (inoCells xs vs).set (i * 3 + 2) v := by
  rw [inoCells_set _ _ _ _ _ h h']
  obtain ⟨e1, e2, _⟩ := inoCells_at xs vs i h h'
  have e3 : (inoCells xs vs).set (i * 3) (.string xs[i].name) = inoCells xs vs := by
    obtain ⟨l1, l2⟩ := List.getElem?_eq_some_iff.1 e1
    rw [← l2, List.set_getElem_self]
  simp only [e3]
  obtain ⟨l1, l2⟩ := List.getElem?_eq_some_iff.1 e2
  rw [← l2, List.set_getElem_self]
theorem inoCells_rep (m : Nat) : inoCells (List.replicate m noIno) (List.replicate m (.slice none 0 0)) = (madeCells (Value.agg #[.string ⟨#[]⟩, .int .i64 0, .slice none 0 0]).cells (m * 3)).toList := by
  apply List.ext_getElem?
  intro j
  rcases Nat.lt_or_ge j (m * 3) with h | h
  · have hk : j / 3 < m := by omega
    obtain ⟨e1, e2, e3⟩ := inoCells_at (List.replicate m noIno) (List.replicate m (.slice none 0 0)) (j / 3) (by simpa using hk) (by simpa using hk)
    simp only [List.getElem_replicate] at e1 e2 e3
    have hz : (Value.agg #[.string ⟨#[]⟩, .int .i64 0, .slice none 0 0]).cells = #[.string ⟨#[]⟩, .int .i64 0, .slice none 0 0] := rfl
    have hr : (madeCells (Value.agg #[.string ⟨#[]⟩, .int .i64 0, .slice none 0 0]).cells (m * 3)).toList[j]? = some ((#[Value.string ⟨#[]⟩, .int .i64 0, .slice none 0 0])[j % 3]!) := by
      rw [hz]
      simp [madeCells, h]
    rw [hr]
    have h3 : j % 3 = 0 ∨ j % 3 = 1 ∨ j % 3 = 2 := by omega
    rcases h3 with h3 | h3 | h3 <;> rw [h3]
    · rw [show j / 3 * 3 = j by omega] at e1; exact e1
    · rw [show j / 3 * 3 + 1 = j by omega] at e2; exact e2
    · rw [show j / 3 * 3 + 2 = j by omega] at e3; exact e3
  · rw [List.getElem?_eq_none (by rw [inoCells_length _ _ (by simp)]; simpa using h), List.getElem?_eq_none (by simp [size_madeCells]; omega)]
theorem infoInt : (Tryd.prog.info? 3).map (fun i => (i.zero, i.size, i.bytes)) = some (some (.int .i64 0), 1, 8) := by kernel_rfl
set_option maxRecDepth 100000 in
theorem run_make_ino (m : Nat) (hm : m ≤ 16384) (w : World) : (Instr.makeSlice 49 (.int .i64 m) (.int .i64 m)).run Tryd.prog w = .ok (.slice (some ⟨w.heap.size, 0, none⟩) m m) (w.alloc (.cells (inoCells (List.replicate m noIno) (List.replicate m (.slice none 0 0))).toArray 55)) := by
  obtain ⟨i0, hi, hz0, hz1, hz2⟩ := info_parts infoIno
  rw [run_make (P := Tryd.prog) w 49 55 i0 _ Tryd.underlying49 hi hz0 .i64 .i64 m m (by omega) (Int.le_refl _) (by rw [hz2]; omega) (by omega), hz1, Int.toNat_natCast, inoCells_rep]
set_option maxRecDepth 100000 in
theorem run_make_ints (m : Nat) (hm : m ≤ 16384) (w : World) : (Instr.makeSlice 23 (.int .i64 m) (.int .i64 m)).run Tryd.prog w = .ok (.slice (some ⟨w.heap.size, 0, none⟩) m m) (w.alloc (.cells (intCells (List.replicate m 0)).toArray 3)) := by
  obtain ⟨i0, hi, hz0, hz1, hz2⟩ := info_parts infoInt
  rw [run_make (P := Tryd.prog) w 23 3 i0 _ Tryd.underlying23 hi hz0 .i64 .i64 m m (by omega) (Int.le_refl _) (by rw [hz2]; omega) (by omega), hz1, Int.toNat_natCast, Nat.mul_one]
  have h := toList_madeCells_one (.int .i64 0) m
  congr 3
  apply Array.ext'
  rw [show (Value.int .i64 0).cells = #[.int .i64 0] from rfl, h]
  simp [intCells]

/-- The inodes of these files and extents. -/
def inosOf (fs : List Fl) (ex : List (List (Nat × Nat))) : List Ino := List.zipWith (fun f e => ⟨f.name, f.data.size, e⟩) fs ex
theorem inosOf_length {fs : List Fl} {ex : List (List (Nat × Nat))} (h : ex.length = fs.length) : (inosOf fs ex).length = fs.length := by simp [inosOf, h]
theorem inosOf_at {fs : List Fl} {ex : List (List (Nat × Nat))} {i : Nat} (h : i < (inosOf fs ex).length) : ∃ (h1 : i < fs.length) (h2 : i < ex.length), (inosOf fs ex)[i] = ⟨fs[i].name, fs[i].data.size, ex[i]⟩ := by
  have hh := h
  simp only [inosOf, List.length_zipWith] at hh
  exact ⟨by omega, by omega, by simp [inosOf]⟩
theorem inosOf_set {fs : List Fl} {ex : List (List (Nat × Nat))} {i : Nat} (e : List (Nat × Nat)) (h : i < (inosOf fs ex).length) : inosOf fs (ex.set i e) = (inosOf fs ex).set i { (inosOf fs ex)[i] with ext := e } := by
  obtain ⟨h1, h2, h3⟩ := inosOf_at h
  rw [h3]
  apply List.ext_getElem?
  intro j
  simp only [inosOf, List.getElem?_zipWith, List.getElem?_set, List.length_zipWith]
  by_cases hj : i = j
  · subst hj
    simp [h1, h2]
    omega
  · simp [hj]

theorem own_slice2 {w : World} {B e size n : Nat} {v : Value} {xs : List Value} (h : w.ownsRow B e size v n xs) : ∃ A c, v = .slice A n c := by
  rcases h.2 with ⟨rfl, rfl⟩ | ⟨g, cap, cur, hv, _⟩
  · exact ⟨none, 0, rfl⟩
  · exact ⟨_, _, hv⟩
theorem sum_le_mul (M : Nat) : ∀ l : List Nat, (∀ x ∈ l, x ≤ M) → l.sum ≤ l.length * M
  | [], _ => by simp
  | x :: l, h => by
    have h1 := sum_le_mul M l (fun y hy => h y (List.mem_cons_of_mem _ hy))
    have h2 := h x (by simp)
    rw [List.sum_cons, List.length_cons, Nat.add_mul]
    omega
theorem pg_le {f : Fl} (h : f.data.size ≤ 1048576) : f.pg ≤ 16384 := by unfold Fl.pg pgs; omega
theorem LaidOk.dat_le {fs : List Fl} {s k i : Nat} {L : Laid} (h : LaidOk fs s k i L) (hd : ∀ f ∈ fs, f.data.size ≤ 1048576) : L.dat.length ≤ fs.length * 16384 := by
  rw [h.sum]
  refine Nat.le_trans (sum_le_mul 16384 _ ?_) (by rw [List.length_map, h.len]; exact Nat.le_refl _)
  intro x hx
  obtain ⟨e, he, rfl⟩ := List.mem_map.1 hx
  obtain ⟨j, hj, rfl⟩ := List.getElem_of_mem he
  have hj' : j < fs.length := by rw [← h.len]; exact hj
  rw [h.cut j hj' hj]
  have h1 := take_sum_le (cutsL fs[j].pg s) (if j < i then k + 1 else k)
  rw [cuts_sum] at h1
  have h2 := pg_le (hd _ (List.getElem_mem hj'))
  omega

/-- How they lie: a row of inodes, a row of what is left. -/
structure LaySt (W : World) (B gi gl : Nat) (fs : List Fl) (ex : List (List (Nat × Nat))) (ls : List Nat) (vs : List Value) : Prop where
  bi : Blk W gi 55 (inoCells (inosOf fs ex) vs).toArray
  bl : Blk W gl 3 (intCells ls).toArray
  ne : gi ≠ gl
  lenv : vs.length = fs.length
  lenx : ex.length = fs.length
  lenl : ls.length = fs.length
  own : ∀ j (h : j < ex.length) (h' : j < vs.length), W.ownsRow B 61 2 vs[j] ex[j].length (extCells ex[j])
  apart : ∀ i j (hi : i < vs.length) (hj : j < vs.length) g, vs[i].ownBlock = some g → vs[j].ownBlock = some g → i = j
section
variable {W W' : World} {B gi gl : Nat} {fs : List Fl} {ex : List (List (Nat × Nat))} {ls : List Nat} {vs : List Value}
theorem LaySt.alloc (h : LaySt W B gi gl fs ex ls vs) (o : Obj) : LaySt (W.alloc o) B gi gl fs ex ls vs :=
  ⟨h.bi.alloc o, h.bl.alloc o, h.ne, h.lenv, h.lenx, h.lenl, fun j hj hj' => (h.own j hj hj').alloc o, h.apart⟩
theorem LaySt.left_at (h : LaySt W B gi gl fs ex ls vs) (i : Nat) (hi : i < ls.length) : W.cell? ⟨gl, i, none⟩ = some (.int .i64 ls[i]) := h.bl.at_ _ _ (by simp [intCells, hi])
theorem LaySt.left_set (h : LaySt W B gi gl fs ex ls vs) (i n : Nat) : LaySt (W.setCell ⟨gl, i, none⟩ (.int .i64 n)) B gi gl fs ex (ls.set i n) vs := by
  refine ⟨h.bi.far h.ne _, ?_, h.ne, h.lenv, h.lenx, by simpa using h.lenl, fun j hj hj' => own_far (h.own j hj hj') (h.bl.not_row (by decide) (h.own j hj hj')) _, h.apart⟩
  have := h.bl.set_ i (.int .i64 n)
  unfold intCells at *
  rw [List.map_set]
  simpa using this
theorem LaySt.ext_at (h : LaySt W B gi gl fs ex ls vs) (i : Nat) (hi : i < fs.length) (hv : i < vs.length) : W.cell? ⟨gi, i * 3 + 2, none⟩ = some vs[i] := by
  obtain ⟨_, _, e⟩ := inoCells_at (inosOf fs ex) vs i (by rw [inosOf_length h.lenx]; exact hi) hv
  exact h.bi.at_ _ _ (by simpa using e)
/-- One more extent of file i. -/
theorem LaySt.push (h : LaySt W B gi gl fs ex ls vs) (i : Nat) (hi : i < fs.length) (hx : i < ex.length) (hv : i < vs.length) (e : Nat × Nat) (v' : Value) (hg : W.grownBy W' vs[i].ownBlock)
    (ho : W'.ownsRow B 61 2 v' (ex[i].length + 1) (extCells ex[i] ++ [.int .i64 e.1, .int .i64 e.2])) (hat : v'.ownBlock = vs[i].ownBlock ∨ v'.ownBlock = some W.heap.size) :
    LaySt (W'.setCell ⟨gi, i * 3 + 2, none⟩ v') B gi gl fs (ex.set i (ex[i] ++ [e])) ls (vs.set i v') := by
  have hi1 : Blk W' gi 55 (inoCells (inosOf fs ex) vs).toArray := h.bi.grown hg (fun e => h.bi.not_row (by decide) (h.own i hx hv) e.symm)
  have hl1 : Blk W' gl 3 (intCells ls).toArray := h.bl.grown hg (fun e => h.bl.not_row (by decide) (h.own i hx hv) e.symm)
  have hil : i < (inosOf fs ex).length := by rw [inosOf_length h.lenx]; exact hi
  have hlt : ∀ j (hj : j < vs.length) (hjx : j < ex.length) g, vs[j].ownBlock = some g → g < W.heap.size := fun j hj hjx g hgb => by
    have := (h.own j hjx hj).lt g hgb
    exact this.2
  refine ⟨?_, hl1.far (fun e => h.ne e.symm) _, h.ne, by simpa using h.lenv, by simpa using h.lenx, h.lenl, fun j hj hj' => ?_, fun a b ha hb g ga gb => ?_⟩
  · have := hi1.set_ (i * 3 + 2) v'
    rw [inosOf_set _ hil, inoCells_set_ext _ _ _ _ _ hil hv]
    simpa using this
  · simp only [List.getElem_set]
    simp only [List.length_set] at hj hj'
    by_cases hji : i = j
    · subst hji
      simp only [if_true]
      have hne := hi1.not_row (by decide) ho
      rw [List.length_append, List.length_cons, List.length_nil, Nat.zero_add, extCells_snoc]
      exact own_far ho hne _
    · simp only [if_neg hji]
      have h1 : W'.ownsRow B 61 2 vs[j] ex[j].length (extCells ex[j]) := (h.own j hj hj').kept hg (by
        cases hb : vs[j].ownBlock with
        | none => exact .inl rfl
        | some g => exact .inr (fun e => hji (h.apart i j hv hj' g e.symm hb)))
      exact own_far h1 (hi1.not_row (by decide) h1) _
  · simp only [List.length_set] at ha hb
    simp only [List.getElem_set] at ga gb
    by_cases h1 : i = a
    · by_cases h2 : i = b
      · omega
      · rw [if_pos h1] at ga
        rw [if_neg h2] at gb
        have := hlt b hb (by have := h.lenv; have := h.lenx; omega) g gb
        rcases hat with e | e
        · rw [e] at ga
          have := h.apart i b hv hb g ga gb
          omega
        · rw [e] at ga
          simp at ga
          omega
    · rw [if_neg h1] at ga
      by_cases h2 : i = b
      · rw [if_pos h2] at gb
        have := hlt a ha (by have := h.lenv; have := h.lenx; omega) g ga
        rcases hat with e | e
        · rw [e] at gb
          have := h.apart i a hv ha g gb ga
          omega
        · rw [e] at gb
          simp at gb
          omega
      · rw [if_neg h2] at gb
        exact h.apart a b ha hb g ga gb
end
end Go.Proofs.YtgkhgjihjbjfnaaDoor
