/- Files that are to be built: where their parts stand; of no program. -/
import Derived.Test.YtmbjflcmbenbdaaDoorFH
import Derived.Maps.AppendAt
namespace Go.Proofs.YtmbjflcmbenbdaaDoor
open Go.RowKit Go.Shelf
set_option linter.unusedVariables false
set_option linter.unusedSimpArgs false

/-- How many sectors each part of a file has. -/
def cutF (s : Nat) : Nat → Nat → List Nat
  | 0, n => if 0 < n then [n] else []
  | f + 1, n => if 0 < n then min n s :: cutF s f (n - min n s) else []
def cutsL (n s : Nat) : List Nat := cutF s 3 n
theorem cutF_sum (s : Nat) : ∀ f n, (cutF s f n).sum = n
  | 0, n => by unfold cutF; split <;> simp; omega
  | f + 1, n => by
    unfold cutF
    split
    · rw [List.sum_cons, cutF_sum s f]; omega
    · simp; omega
theorem cutF_len (s : Nat) : ∀ f n, (cutF s f n).length ≤ f + 1
  | 0, n => by unfold cutF; split <;> simp
  | f + 1, n => by
    unfold cutF
    have := cutF_len s f (n - min n s)
    split <;> simp; omega
theorem cutF_pos {s : Nat} (hs : 1 ≤ s) : ∀ f n, ∀ c ∈ cutF s f n, 1 ≤ c
  | 0, n, c, h => by unfold cutF at h; split at h <;> simp at h; omega
  | f + 1, n, c, h => by
    unfold cutF at h
    split at h
    · rcases List.mem_cons.1 h with h | h
      · omega
      · exact cutF_pos hs f _ c h
    · simp at h
/-- What part k has, of what is left. -/
theorem cutF_at {s : Nat} (hs : 1 ≤ s) : ∀ f n k, k ≤ f → (cutF s f n).getD k 0 = if k < f then min (n - ((cutF s f n).take k).sum) s else n - ((cutF s f n).take k).sum
  | 0, n, 0, _ => by unfold cutF; split <;> simp; omega
  | f + 1, n, 0, _ => by unfold cutF; split <;> simp; omega
  | f + 1, n, k + 1, h => by
    have ih := cutF_at hs f (n - min n s) k (by omega)
    unfold cutF
    split
    · rw [List.getD_cons_succ, ih, List.take_succ_cons, List.sum_cons]
      have e : ∀ x, n - min n s - x = n - (min n s + x) := fun x => by omega
      rw [e]
      by_cases hk : k < f
      · rw [if_pos hk, if_pos (by omega)]
      · rw [if_neg hk, if_neg (by omega)]
    · have : n = 0 := by omega
      subst this
      simp
theorem cuts_sum (n s : Nat) : (cutsL n s).sum = n := cutF_sum s 3 n
theorem cuts_len (n s : Nat) : (cutsL n s).length ≤ 4 := cutF_len s 3 n
theorem cuts_pos {n s : Nat} (hs : 1 ≤ s) : ∀ c ∈ cutsL n s, 1 ≤ c := cutF_pos hs 3 n
theorem cuts_at {n s : Nat} (hs : 1 ≤ s) {k : Nat} (hk : k ≤ 3) : (cutsL n s).getD k 0 = if k < 3 then min (n - ((cutsL n s).take k).sum) s else n - ((cutsL n s).take k).sum := cutF_at hs 3 n k hk
theorem cuts_there {n s : Nat} (hs : 1 ≤ s) (k : Nat) : 0 < (cutsL n s).getD k 0 ↔ k < (cutsL n s).length := by
  constructor
  · intro h
    rcases Nat.lt_or_ge k (cutsL n s).length with h1 | h1
    · exact h1
    · rw [List.getD, List.getElem?_eq_none h1] at h; simp at h
  · intro h
    rw [List.getD, List.getElem?_eq_getElem h]
    exact cuts_pos hs _ (List.getElem_mem h)
theorem take_sum_succ (l : List Nat) (k : Nat) : (l.take (k + 1)).sum = (l.take k).sum + l.getD k 0 := by
  rcases Nat.lt_or_ge k l.length with h | h
  · rw [List.take_succ_eq_append_getElem h, List.sum_append, List.getD, List.getElem?_eq_getElem h]; simp
  · rw [List.take_of_length_le (by omega), List.take_of_length_le h, List.getD, List.getElem?_eq_none h]; simp
theorem take_sum_le (l : List Nat) (k : Nat) : (l.take k).sum ≤ l.sum := by
  have := List.take_append_drop k l
  have h2 : (l.take k ++ l.drop k).sum = l.sum := by rw [this]
  rw [List.sum_append] at h2
  omega

/-- A file: its name and its bytes. -/
structure Fl where
  name : ByteArray
  data : ByteArray
/-- How many pages. -/
def Fl.pg (f : Fl) : Nat := pgs f.data.size
/-- Pages a .. a+n-1. -/
def pagesL (d : ByteArray) (a n : Nat) : List ByteArray := (List.range n).map fun j => pageOf d (a + j)
theorem pagesL_length (d : ByteArray) (a n : Nat) : (pagesL d a n).length = n := by simp [pagesL]
theorem pagesL_at (d : ByteArray) (a n j : Nat) (h : j < n) : (pagesL d a n)[j]? = some (pageOf d (a + j)) := by simp [pagesL, h]

/-- What is laid: each file's extents, and the sectors behind the inodes. -/
structure Laid where
  ex : List (List (Nat × Nat))
  dat : List ByteArray
/-- Part k of file i. -/
def Laid.add (fs : List Fl) (s k : Nat) (L : Laid) (i : Nat) : Laid :=
  match fs[i]? with
  | none => L
  | some f =>
    let c := (cutsL f.pg s).getD k 0
    if 0 < c then ⟨L.ex.set i (L.ex.getD i [] ++ [(1 + fs.length + L.dat.length, c)]), L.dat ++ pagesL f.data ((cutsL f.pg s).take k).sum c⟩ else L
def Laid.row (fs : List Fl) (s k : Nat) (L : Laid) (i : Nat) : Laid := (List.range i).foldl (Laid.add fs s k) L
def Laid.rows (fs : List Fl) (s k : Nat) : Laid := (List.range k).foldl (fun L k => L.row fs s k fs.length) ⟨List.replicate fs.length [], []⟩
theorem Laid.row_zero (fs : List Fl) (s k : Nat) (L : Laid) : L.row fs s k 0 = L := rfl
theorem Laid.row_succ (fs : List Fl) (s k : Nat) (L : Laid) (i : Nat) : L.row fs s k (i + 1) = (L.row fs s k i).add fs s k i := by
  unfold Laid.row
  rw [List.range_succ, List.foldl_append]
  rfl
theorem Laid.rows_succ (fs : List Fl) (s k : Nat) : Laid.rows fs s (k + 1) = (Laid.rows fs s k).row fs s k fs.length := by
  unfold Laid.rows
  rw [List.range_succ, List.foldl_append]
  rfl

/-- What holds of it: files below i have their parts up to k, the others those below k. -/
structure LaidOk (fs : List Fl) (s k i : Nat) (L : Laid) : Prop where
  len : L.ex.length = fs.length
  cut : ∀ j (h : j < fs.length) (h' : j < L.ex.length), L.ex[j].map (·.2) = (cutsL fs[j].pg s).take (if j < i then k + 1 else k)
  put : ∀ j (h : j < fs.length) (h' : j < L.ex.length) t (ht : t < L.ex[j].length), 1 + fs.length ≤ L.ex[j][t].1 ∧ L.ex[j][t].1 + L.ex[j][t].2 ≤ 1 + fs.length + L.dat.length ∧ ∀ n, n < L.ex[j][t].2 → L.dat[L.ex[j][t].1 - (1 + fs.length) + n]? = some (pageOf fs[j].data (ahd L.ex[j] t + n))
  all : ∀ q, q < L.dat.length → ∃ j, ∃ (h : j < L.ex.length), ∃ t, ∃ (ht : t < L.ex[j].length), ∃ n, n < L.ex[j][t].2 ∧ L.ex[j][t].1 + n = 1 + fs.length + q
  sum : L.dat.length = (L.ex.map fun e => (e.map (·.2)).sum).sum
theorem sum_set (l : List Nat) (i v : Nat) (h : i < l.length) : (l.set i v).sum + l[i] = l.sum + v := by
  induction l generalizing i with
  | nil => simp at h
  | cons a l ih =>
    cases i with
    | zero => simp; omega
    | succ i =>
      have := ih i (by simpa using h)
      simp at this ⊢
      omega
theorem ahd_snoc_lt (l : List (Nat × Nat)) (e : Nat × Nat) {t : Nat} (h : t ≤ l.length) : ahd (l ++ [e]) t = ahd l t := by
  unfold ahd
  rw [List.take_append_of_le_length h]
theorem ahd_full (l : List (Nat × Nat)) : ahd l l.length = (l.map (·.2)).sum := by unfold ahd; rw [List.take_length]

theorem LaidOk.start (fs : List Fl) (s : Nat) : LaidOk fs s 0 0 ⟨List.replicate fs.length [], []⟩ := by
  refine ⟨by simp, fun j h h' => by simp, fun j h h' t ht => by simp at ht, fun q hq => by simp at hq, ?_⟩
  simp only [List.length_nil]
  generalize fs.length = m
  induction m with
  | zero => rfl
  | succ m ih => simp [List.replicate_succ]
theorem LaidOk.add {fs : List Fl} {s k i : Nat} {L : Laid} (h : LaidOk fs s k i L) (hs : 1 ≤ s) (hk : k ≤ 3) (hi : i < fs.length) : LaidOk fs s k (i + 1) (L.add fs s k i) := by
  have hi' : i < L.ex.length := by rw [h.len]; exact hi
  unfold Laid.add
  rw [List.getElem?_eq_getElem hi]
  simp only
  have hc := cuts_there (n := fs[i].pg) hs k
  have hcut := h.cut i hi hi'
  rw [if_neg (by omega)] at hcut
  split
  · next h0 =>
    have hkl := hc.1 h0
    have hgd : L.ex.getD i [] = L.ex[i] := by rw [List.getD, List.getElem?_eq_getElem hi']; rfl
    rw [hgd]
    have hah : ahd L.ex[i] L.ex[i].length = ((cutsL fs[i].pg s).take k).sum := by rw [ahd_full, hcut]
    have hlen : L.ex[i].length = k := by
      have := congrArg List.length hcut
      rw [List.length_map, List.length_take] at this
      omega
    generalize hc0 : (cutsL fs[i].pg s).getD k 0 = c at *
    have hcc : (cutsL fs[i].pg s)[k]? = some c := by
      rw [List.getD, List.getElem?_eq_getElem hkl] at hc0
      rw [List.getElem?_eq_getElem hkl]
      simpa using hc0
    refine ⟨by simpa using h.len, fun j hj hj' => ?_, fun j hj hj' t ht => ?_, fun q hq => ?_, ?_⟩
    · simp only [List.getElem_set]
      by_cases hji : i = j
      · subst hji
        rw [if_pos rfl, if_pos (by omega), List.map_append, hcut]
        rw [List.take_add_one, hcc]
        rfl
      · simp only [List.length_set] at hj'
        rw [if_neg hji, h.cut j hj hj']
        congr 1
        by_cases h1 : j < i
        · rw [if_pos h1, if_pos (by omega)]
        · rw [if_neg h1, if_neg (by omega)]
    · simp only [List.getElem_set, List.length_append, pagesL_length] at ht ⊢
      by_cases hji : i = j
      · subst hji
        simp only [if_true] at ht ⊢
        simp only [List.length_append, List.length_cons, List.length_nil] at ht
        rcases Nat.lt_or_ge t L.ex[i].length with h1 | h1
        · obtain ⟨p1, p2, p3⟩ := h.put i hj hi' t h1
          simp only [List.getElem_append_left h1]
          refine ⟨p1, by omega, fun n hn => ?_⟩
          rw [ahd_snoc_lt _ _ (by omega)]
          have p4 := p3 n hn
          rw [List.getElem?_append_left (List.getElem?_eq_some_iff.1 p4).1]
          exact p4
        · have e : t = L.ex[i].length := by omega
          subst e
          simp only [List.getElem_append_right (Nat.le_refl _), Nat.sub_self, List.getElem_cons_zero]
          refine ⟨by omega, by omega, fun n hn => ?_⟩
          rw [ahd_snoc_lt _ _ (Nat.le_refl _), hah, List.getElem?_append_right (by omega)]
          rw [show 1 + fs.length + L.dat.length - (1 + fs.length) + n - L.dat.length = n by omega]
          exact pagesL_at _ _ _ _ hn
      · simp only [if_neg hji] at ht ⊢
        simp only [List.length_set] at hj'
        obtain ⟨p1, p2, p3⟩ := h.put j hj hj' t ht
        refine ⟨p1, by omega, fun n hn => ?_⟩
        have p4 := p3 n hn
        rw [List.getElem?_append_left (List.getElem?_eq_some_iff.1 p4).1]
        exact p4
    · simp only [List.length_append, pagesL_length] at hq
      rcases Nat.lt_or_ge q L.dat.length with h1 | h1
      · obtain ⟨j, hj, t, ht, n, hn, he⟩ := h.all q h1
        by_cases hji : i = j
        · subst hji
          refine ⟨i, by simpa using hi', t, by simp; omega, n, ?_, ?_⟩ <;> simp only [List.getElem_set, if_true, List.getElem_append_left ht] <;> assumption
        · refine ⟨j, by simpa using hj, t, by simpa [List.getElem_set, hji] using ht, n, ?_, ?_⟩ <;> simp only [List.getElem_set, if_neg hji] <;> assumption
      · refine ⟨i, by simpa using hi', L.ex[i].length, by simp, q - L.dat.length, ?_, ?_⟩
        · simp; omega
        · simp; omega
    · simp only [List.length_append, pagesL_length, List.map_set]
      have := sum_set (L.ex.map fun e => (e.map (·.2)).sum) i (((L.ex[i] ++ [(1 + fs.length + L.dat.length, c)]).map (·.2)).sum) (by simpa using hi')
      simp only [List.getElem_map, List.map_append, List.sum_append, List.map_cons, List.map_nil, List.sum_cons, List.sum_nil] at this
      have h2 := h.sum
      simp only [List.map_append, List.sum_append, List.map_cons, List.map_nil, List.sum_cons, List.sum_nil] at this ⊢
      omega
  · next h0 =>
    have hkl : (cutsL fs[i].pg s).length ≤ k := by
      rcases Nat.lt_or_ge k (cutsL fs[i].pg s).length with h1 | h1
      · exact absurd (hc.2 h1) h0
      · exact h1
    refine ⟨h.len, fun j hj hj' => ?_, h.put, h.all, h.sum⟩
    rw [h.cut j hj hj']
    by_cases hji : j = i
    · subst hji
      rw [if_neg (by omega), if_pos (by omega), List.take_of_length_le hkl, List.take_of_length_le (by omega)]
    · congr 1
      by_cases h1 : j < i
      · rw [if_pos h1, if_pos (by omega)]
      · rw [if_neg h1, if_neg (by omega)]
theorem LaidOk.row {fs : List Fl} {s k : Nat} {L : Laid} (h : LaidOk fs s k 0 L) (hs : 1 ≤ s) (hk : k ≤ 3) : ∀ i, i ≤ fs.length → LaidOk fs s k i (L.row fs s k i)
  | 0, _ => h
  | i + 1, hi => by
    rw [Laid.row_succ]
    exact (LaidOk.row h hs hk i (by omega)).add hs hk (by omega)
theorem LaidOk.next {fs : List Fl} {s k : Nat} {L : Laid} (h : LaidOk fs s k fs.length L) : LaidOk fs s (k + 1) 0 L :=
  ⟨h.len, fun j hj hj' => by rw [h.cut j hj hj', if_pos hj, if_neg (by omega)], h.put, h.all, h.sum⟩
theorem LaidOk.rows (fs : List Fl) {s : Nat} (hs : 1 ≤ s) : ∀ k, k ≤ 4 → LaidOk fs s k 0 (Laid.rows fs s k)
  | 0, _ => LaidOk.start fs s
  | k + 1, hk => by
    rw [Laid.rows_succ]
    exact (LaidOk.row (LaidOk.rows fs hs k (by omega)) hs (by omega) _ (Nat.le_refl _)).next
end Go.Proofs.YtmbjflcmbenbdaaDoor

/- Package files: how lay's inodes lie while they are made. -/
namespace Go.Proofs.YtmbjflcmbenbdaaDoor
open Go.RowKit Go.Shelf
set_option linter.unusedVariables false
set_option linter.unusedSimpArgs false

/-- Rows of files. -/
def fileCells (fs : List Fl) : List Value := fs.flatMap fun f => [.string f.name, .string f.data]
theorem fileCells_length : ∀ fs, (fileCells fs).length = fs.length * 2
  | [] => rfl
  | f :: fs => by
    have := fileCells_length fs
    unfold fileCells at *
    rw [List.flatMap_cons, List.length_append, this]
    simp; omega
theorem fileCells_at : ∀ (fs : List Fl) (k : Nat) (h : k < fs.length), (fileCells fs)[k * 2]? = some (.string fs[k].name) ∧ (fileCells fs)[k * 2 + 1]? = some (.string fs[k].data)
  | f :: fs, 0, _ => ⟨rfl, rfl⟩
  | f :: fs, k + 1, h => by
    have := fileCells_at fs k (by simpa using h)
    unfold fileCells at *
    rw [List.flatMap_cons, show (k + 1) * 2 = k * 2 + 2 by omega]
    exact this
theorem fileCells_snoc (fs : List Fl) (f : Fl) : fileCells (fs ++ [f]) = fileCells fs ++ [.string f.name, .string f.data] := by simp [fileCells]
/-- The slice v holds these files. -/
def FileRow (W : World) (v : Value) (fs : List Fl) : Prop :=
  (v = .slice none 0 0 ∧ fs = []) ∨ ∃ g cap cur, v = .slice (some ⟨g, 0, none⟩) fs.length cap ∧ Blk W g 63 cur ∧ cur.toList.take (fs.length * 2) = fileCells fs
theorem FileRow.kp {S : Nat → Prop} {W W' : World} {v : Value} {l : List Fl} (h : FileRow W v l) (hk : KpC S W W') (hS : ∀ g, v.ownBlock = some g → ¬ S g) : FileRow W' v l := by
  rcases h with h | ⟨g, cap, cur, rfl, hb, hc⟩
  · exact .inl h
  · exact .inr ⟨g, cap, cur, rfl, hk g cur _ (hS g rfl) hb, hc⟩
theorem FileRow.below {W W' : World} {v : Value} {l : List Fl} (h : FileRow W v l) (hk : Below W.heap.size W W') : FileRow W' v l := h.kp (S := fun _ => False) (KpC.of_below hk) (fun _ _ => id)
theorem FileRow.lt {W : World} {v : Value} {l : List Fl} (h : FileRow W v l) {g : Nat} (hg : v.ownBlock = some g) : g < W.heap.size := by
  rcases h with ⟨rfl, _⟩ | ⟨g', cap, cur, rfl, hb, _⟩
  · simp [Value.ownBlock] at hg
  · obtain rfl : g' = g := by simpa [Value.ownBlock] using hg
    exact hb.lt
theorem FileRow.slice {W : World} {v : Value} {l : List Fl} (h : FileRow W v l) : ∃ A c, v = .slice A l.length c := by
  rcases h with ⟨rfl, rfl⟩ | ⟨g, cap, cur, rfl, _⟩
  · exact ⟨none, 0, rfl⟩
  · exact ⟨_, _, rfl⟩
theorem FileRow.of_own {W : World} {B n : Nat} {v : Value} {l : List Fl} (h : W.ownsRow B 63 2 v n (fileCells l)) : FileRow W v l := by
  have hn : n = l.length := by have := h.1; rw [fileCells_length] at this; omega
  subst hn
  rcases h.2 with ⟨rfl, h0⟩ | ⟨g, cap, cur, rfl, _, hb, _, _, _, ht⟩
  · exact .inl ⟨rfl, List.eq_nil_of_length_eq_zero h0⟩
  · exact .inr ⟨g, cap, cur, rfl, hb, ht⟩
theorem FileRow.at_ {W : World} {A : Option Addr} {n c : Nat} {l : List Fl} (h : FileRow W (.slice A n c) l) (k : Nat) (hk : k < l.length) :
    ∃ g, A = some ⟨g, 0, none⟩ ∧ g < W.heap.size ∧ W.cell? ⟨g, k * 2, none⟩ = some (.string l[k].name) ∧ W.cell? ⟨g, k * 2 + 1, none⟩ = some (.string l[k].data) := by
  rcases h with ⟨_, rfl⟩ | ⟨g, cap, cur, hv, hb, hc⟩
  · simp at hk
  · injection hv with h1 h2 h3
    subst h1
    obtain ⟨e1, e2⟩ := fileCells_at l k hk
    rw [← hc, List.getElem?_take, if_pos (by omega)] at e1 e2
    exact ⟨g, rfl, hb.lt, hb.at_ _ _ (by simpa using e1), hb.at_ _ _ (by simpa using e2)⟩

def noIno : Ino := ⟨⟨#[]⟩, 0, []⟩
def intCells (l : List Nat) : List Value := l.map fun (n : Nat) => .int .i64 (n : Int)
theorem inoCells_set : ∀ (xs : List Ino) (vs : List Value) (i : Nat) (x : Ino) (v : Value), i < xs.length → i < vs.length → inoCells (xs.set i x) (vs.set i v) = (((inoCells xs vs).set (i * 3) (.string x.name)).set (i * 3 + 1) (.int .i64 x.size)).set (i * 3 + 2) v
  | y :: xs, u :: vs, 0, x, v, _, _ => by simp [inoCells]
  | y :: xs, u :: vs, i + 1, x, v, h, h' => by
    have := inoCells_set xs vs i x v (by simpa using h) (by simpa using h')
    unfold inoCells at *
    simp only [List.set_cons_succ, List.zip_cons_cons, List.flatMap_cons, this, show (i + 1) * 3 = i * 3 + 3 by omega, List.cons_append, List.nil_append, show i * 3 + 3 + 1 = i * 3 + 1 + 3 by omega, show i * 3 + 3 + 2 = i * 3 + 2 + 3 by omega]
theorem inoCells_set_ext (xs : List Ino) (vs : List Value) (i : Nat) (e : List (Nat × Nat)) (v : Value) (h : i < xs.length) (h' : i < vs.length) : inoCells (xs.set i { xs[i] with ext := e }) (vs.set i v) = (inoCells xs vs).set (i * 3 + 2) v := by
  rw [inoCells_set _ _ _ _ _ h h']
  obtain ⟨e1, e2, _⟩ := inoCells_at xs vs i h h'
  have e3 : (inoCells xs vs).set (i * 3) (.string xs[i].name) = inoCells xs vs := by
    obtain ⟨l1, l2⟩ := List.getElem?_eq_some_iff.1 e1
    rw [← l2, List.set_getElem_self]
  simp only [e3]
  obtain ⟨l1, l2⟩ := List.getElem?_eq_some_iff.1 e2
  rw [← l2, List.set_getElem_self]
theorem inoCells_rep (m : Nat) : inoCells (List.replicate m noIno) (List.replicate m (.slice none 0 0)) = (madeCells (Value.agg #[.string ⟨#[]⟩, .int .i64 0, .slice none 0 0]).cells (m * 3)).toList := by
  apply List.ext_getElem?
  intro j
  rcases Nat.lt_or_ge j (m * 3) with h | h
  · have hk : j / 3 < m := by omega
    obtain ⟨e1, e2, e3⟩ := inoCells_at (List.replicate m noIno) (List.replicate m (.slice none 0 0)) (j / 3) (by simpa using hk) (by simpa using hk)
    simp only [List.getElem_replicate] at e1 e2 e3
    have hz : (Value.agg #[.string ⟨#[]⟩, .int .i64 0, .slice none 0 0]).cells = #[.string ⟨#[]⟩, .int .i64 0, .slice none 0 0] := rfl
    have hr : (madeCells (Value.agg #[.string ⟨#[]⟩, .int .i64 0, .slice none 0 0]).cells (m * 3)).toList[j]? = some ((#[Value.string ⟨#[]⟩, .int .i64 0, .slice none 0 0])[j % 3]!) := by
      rw [hz]
      simp [madeCells, h]
    rw [hr]
    have h3 : j % 3 = 0 ∨ j % 3 = 1 ∨ j % 3 = 2 := by omega
    rcases h3 with h3 | h3 | h3 <;> rw [h3]
    · rw [show j / 3 * 3 = j by omega] at e1; exact e1
    · rw [show j / 3 * 3 + 1 = j by omega] at e2; exact e2
    · rw [show j / 3 * 3 + 2 = j by omega] at e3; exact e3
  · rw [List.getElem?_eq_none (by rw [inoCells_length _ _ (by simp)]; simpa using h), List.getElem?_eq_none (by simp [size_madeCells]; omega)]
set_option maxRecDepth 100000 in
theorem run_make_ino (m : Nat) (hm : m ≤ 16384) (w : World) : (Instr.makeSlice 64 (.int .i64 m) (.int .i64 m)).run Tryd.prog w = .ok (.slice (some ⟨w.heap.size, 0, none⟩) m m) (w.alloc (.cells (inoCells (List.replicate m noIno) (List.replicate m (.slice none 0 0))).toArray 67)) := by
  obtain ⟨i0, hi, hz0, hz1, hz2⟩ := info_parts infoIno
  rw [run_make (P := Tryd.prog) w 64 67 i0 _ Tryd.underlying64 hi hz0 .i64 .i64 m m (by omega) (Int.le_refl _) (by rw [hz2]; omega) (by omega), hz1, Int.toNat_natCast, inoCells_rep]
set_option maxRecDepth 100000 in
theorem run_make_intsF (m : Nat) (hm : m ≤ 16384) (w : World) : (Instr.makeSlice 22 (.int .i64 m) (.int .i64 m)).run Tryd.prog w = .ok (.slice (some ⟨w.heap.size, 0, none⟩) m m) (w.alloc (.cells (intCells (List.replicate m 0)).toArray 3)) := by
  obtain ⟨i0, hi, hz0, hz1, hz2⟩ := info_parts infoInt
  rw [run_make (P := Tryd.prog) w 22 3 i0 _ Tryd.underlying22 hi hz0 .i64 .i64 m m (by omega) (Int.le_refl _) (by rw [hz2]; omega) (by omega), hz1, Int.toNat_natCast, Nat.mul_one]
  have h := toList_madeCells_one (.int .i64 0) m
  congr 3
  apply Array.ext'
  rw [show (Value.int .i64 0).cells = #[.int .i64 0] from rfl, h]
  simp [intCells]

/-- The inodes of these files and extents. -/
def inosOf (fs : List Fl) (ex : List (List (Nat × Nat))) : List Ino := List.zipWith (fun f e => ⟨f.name, f.data.size, e⟩) fs ex
theorem inosOf_length {fs : List Fl} {ex : List (List (Nat × Nat))} (h : ex.length = fs.length) : (inosOf fs ex).length = fs.length := by simp [inosOf, h]
theorem inosOf_at {fs : List Fl} {ex : List (List (Nat × Nat))} {i : Nat} (h : i < (inosOf fs ex).length) : ∃ (h1 : i < fs.length) (h2 : i < ex.length), (inosOf fs ex)[i] = ⟨fs[i].name, fs[i].data.size, ex[i]⟩ := by
  have hh := h
  simp only [inosOf, List.length_zipWith] at hh
  exact ⟨by omega, by omega, by simp [inosOf]⟩
theorem inosOf_set {fs : List Fl} {ex : List (List (Nat × Nat))} {i : Nat} (e : List (Nat × Nat)) (h : i < (inosOf fs ex).length) : inosOf fs (ex.set i e) = (inosOf fs ex).set i { (inosOf fs ex)[i] with ext := e } := by
  obtain ⟨h1, h2, h3⟩ := inosOf_at h
  rw [h3]
  apply List.ext_getElem?
  intro j
  simp only [inosOf, List.getElem?_zipWith, List.getElem?_set, List.length_zipWith]
  by_cases hj : i = j
  · subst hj
    simp [h1, h2]
    omega
  · simp [hj]

theorem own_slice2 {w : World} {B e size n : Nat} {v : Value} {xs : List Value} (h : w.ownsRow B e size v n xs) : ∃ A c, v = .slice A n c := by
  rcases h.2 with ⟨rfl, rfl⟩ | ⟨g, cap, cur, hv, _⟩
  · exact ⟨none, 0, rfl⟩
  · exact ⟨_, _, hv⟩
theorem sum_le_mul (M : Nat) : ∀ l : List Nat, (∀ x ∈ l, x ≤ M) → l.sum ≤ l.length * M
  | [], _ => by simp
  | x :: l, h => by
    have h1 := sum_le_mul M l (fun y hy => h y (List.mem_cons_of_mem _ hy))
    have h2 := h x (by simp)
    rw [List.sum_cons, List.length_cons, Nat.add_mul]
    omega
theorem pg_le {f : Fl} (h : f.data.size ≤ 1048576) : f.pg ≤ 16384 := by unfold Fl.pg pgs; omega
theorem LaidOk.dat_le {fs : List Fl} {s k i : Nat} {L : Laid} (h : LaidOk fs s k i L) (hd : ∀ f ∈ fs, f.data.size ≤ 1048576) : L.dat.length ≤ fs.length * 16384 := by
  rw [h.sum]
  refine Nat.le_trans (sum_le_mul 16384 _ ?_) (by rw [List.length_map, h.len]; exact Nat.le_refl _)
  intro x hx
  obtain ⟨e, he, rfl⟩ := List.mem_map.1 hx
  obtain ⟨j, hj, rfl⟩ := List.getElem_of_mem he
  have hj' : j < fs.length := by rw [← h.len]; exact hj
  rw [h.cut j hj' hj]
  have h1 := take_sum_le (cutsL fs[j].pg s) (if j < i then k + 1 else k)
  rw [cuts_sum] at h1
  have h2 := pg_le (hd _ (List.getElem_mem hj'))
  omega

/-- How they lie: a row of inodes, a row of what is left. -/
structure LaySt (W : World) (B gi gl : Nat) (fs : List Fl) (ex : List (List (Nat × Nat))) (ls : List Nat) (vs : List Value) : Prop where
  bi : Blk W gi 67 (inoCells (inosOf fs ex) vs).toArray
  bl : Blk W gl 3 (intCells ls).toArray
  ne : gi ≠ gl
  lenv : vs.length = fs.length
  lenx : ex.length = fs.length
  lenl : ls.length = fs.length
  own : ∀ j (h : j < ex.length) (h' : j < vs.length), W.ownsRow B 70 2 vs[j] ex[j].length (extCells ex[j])
  apart : ∀ i j (hi : i < vs.length) (hj : j < vs.length) g, vs[i].ownBlock = some g → vs[j].ownBlock = some g → i = j
section
variable {W W' : World} {B gi gl : Nat} {fs : List Fl} {ex : List (List (Nat × Nat))} {ls : List Nat} {vs : List Value}
theorem LaySt.alloc (h : LaySt W B gi gl fs ex ls vs) (o : Obj) : LaySt (W.alloc o) B gi gl fs ex ls vs :=
  ⟨h.bi.alloc o, h.bl.alloc o, h.ne, h.lenv, h.lenx, h.lenl, fun j hj hj' => (h.own j hj hj').alloc o, h.apart⟩
theorem LaySt.left_at (h : LaySt W B gi gl fs ex ls vs) (i : Nat) (hi : i < ls.length) : W.cell? ⟨gl, i, none⟩ = some (.int .i64 ls[i]) := h.bl.at_ _ _ (by simp [intCells, hi])
theorem LaySt.left_set (h : LaySt W B gi gl fs ex ls vs) (i n : Nat) : LaySt (W.setCell ⟨gl, i, none⟩ (.int .i64 n)) B gi gl fs ex (ls.set i n) vs := by
  refine ⟨h.bi.far h.ne _, ?_, h.ne, h.lenv, h.lenx, by simpa using h.lenl, fun j hj hj' => own_far (h.own j hj hj') (h.bl.not_row (by decide) (h.own j hj hj')) _, h.apart⟩
  have := h.bl.set_ i (.int .i64 n)
  unfold intCells at *
  rw [List.map_set]
  simpa using this
theorem LaySt.ext_at (h : LaySt W B gi gl fs ex ls vs) (i : Nat) (hi : i < fs.length) (hv : i < vs.length) : W.cell? ⟨gi, i * 3 + 2, none⟩ = some vs[i] := by
  obtain ⟨_, _, e⟩ := inoCells_at (inosOf fs ex) vs i (by rw [inosOf_length h.lenx]; exact hi) hv
  exact h.bi.at_ _ _ (by simpa using e)
/-- One more extent of file i. -/
theorem LaySt.push (h : LaySt W B gi gl fs ex ls vs) (i : Nat) (hi : i < fs.length) (hx : i < ex.length) (hv : i < vs.length) (e : Nat × Nat) (v' : Value) (hg : W.grownBy W' vs[i].ownBlock)
    (ho : W'.ownsRow B 70 2 v' (ex[i].length + 1) (extCells ex[i] ++ [.int .i64 e.1, .int .i64 e.2])) (hat : v'.ownBlock = vs[i].ownBlock ∨ v'.ownBlock = some W.heap.size) :
    LaySt (W'.setCell ⟨gi, i * 3 + 2, none⟩ v') B gi gl fs (ex.set i (ex[i] ++ [e])) ls (vs.set i v') := by
  have hi1 : Blk W' gi 67 (inoCells (inosOf fs ex) vs).toArray := h.bi.grown hg (fun e => h.bi.not_row (by decide) (h.own i hx hv) e.symm)
  have hl1 : Blk W' gl 3 (intCells ls).toArray := h.bl.grown hg (fun e => h.bl.not_row (by decide) (h.own i hx hv) e.symm)
  have hil : i < (inosOf fs ex).length := by rw [inosOf_length h.lenx]; exact hi
  have hlt : ∀ j (hj : j < vs.length) (hjx : j < ex.length) g, vs[j].ownBlock = some g → g < W.heap.size := fun j hj hjx g hgb => by
    have := (h.own j hjx hj).lt g hgb
    exact this.2
  refine ⟨?_, hl1.far (fun e => h.ne e.symm) _, h.ne, by simpa using h.lenv, by simpa using h.lenx, h.lenl, fun j hj hj' => ?_, fun a b ha hb g ga gb => ?_⟩
  · have := hi1.set_ (i * 3 + 2) v'
    rw [inosOf_set _ hil, inoCells_set_ext _ _ _ _ _ hil hv]
    simpa using this
  · simp only [List.getElem_set]
    simp only [List.length_set] at hj hj'
    by_cases hji : i = j
    · subst hji
      simp only [if_true]
      have hne := hi1.not_row (by decide) ho
      rw [List.length_append, List.length_cons, List.length_nil, Nat.zero_add, extCells_snoc]
      exact own_far ho hne _
    · simp only [if_neg hji]
      have h1 : W'.ownsRow B 70 2 vs[j] ex[j].length (extCells ex[j]) := (h.own j hj hj').kept hg (by
        cases hb : vs[j].ownBlock with
        | none => exact .inl rfl
        | some g => exact .inr (fun e => hji (h.apart i j hv hj' g e.symm hb)))
      exact own_far h1 (hi1.not_row (by decide) h1) _
  · simp only [List.length_set] at ha hb
    simp only [List.getElem_set] at ga gb
    by_cases h1 : i = a
    · by_cases h2 : i = b
      · omega
      · rw [if_pos h1] at ga
        rw [if_neg h2] at gb
        have := hlt b hb (by have := h.lenv; have := h.lenx; omega) g gb
        rcases hat with e | e
        · rw [e] at ga
          have := h.apart i b hv hb g ga gb
          omega
        · rw [e] at ga
          simp at ga
          omega
    · rw [if_neg h1] at ga
      by_cases h2 : i = b
      · rw [if_pos h2] at gb
        have := hlt a ha (by have := h.lenv; have := h.lenx; omega) g ga
        rcases hat with e | e
        · rw [e] at gb
          have := h.apart i a hv ha g gb ga
          omega
        · rw [e] at gb
          simp at gb
          omega
      · rw [if_neg h2] at gb
        exact h.apart a b ha hb g ga gb
end
end Go.Proofs.YtmbjflcmbenbdaaDoor

/- Package files: lay. -/
namespace Go.Proofs.YtmbjflcmbenbdaaDoor
open Go.RowKit Go.Shelf
set_option linter.unusedVariables false
set_option linter.unusedSimpArgs false

/-- Files were laid. -/
def WasLaid (w : World) (fs : List Fl) (s : Nat) (e : Ending) (w' : World) : Prop :=
  ∃ gi gl ls vs, e = .returned (.tuple #[.slice (some ⟨gi, 0, none⟩) fs.length fs.length, .int .i64 (1 + fs.length + (Laid.rows fs s 4).dat.length : Nat)]) ∧ LaySt w' w.heap.size gi gl fs (Laid.rows fs s 4).ex ls vs ∧ w.heap.size ≤ gi ∧ Below w.heap.size w w'

end Go.Proofs.YtmbjflcmbenbdaaDoor
