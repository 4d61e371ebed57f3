/- Files that are to be built: where their parts stand; of no program. -/
import Derived.Test.YtgkhgjihjbjfnaaDoorFL
namespace Go.Proofs.YtgkhgjihjbjfnaaDoor
open Go.RowKit Go.Shelf
set_option linter.unusedVariables false
set_option linter.unusedSimpArgs false

/-- How many sectors each part of a file has. -/
def cutF (s : Nat) : Nat → Nat → List Nat
  | 0, n => if 0 < n then [n] else []
  | f + 1, n => if 0 < n then min n s :: cutF s f (n - min n s) else []
def cutsL (n s : Nat) : List Nat := cutF s 3 n
theorem cutF_sum (s : Nat) : ∀ f n, (cutF s f n).sum = n
  | 0, n => by unfold cutF; split <;> simp; omega
  | f + 1, n => by
    unfold cutF
    split
    · rw [List.sum_cons, cutF_sum s f]; omega
    · simp; omega
theorem cutF_len (s : Nat) : ∀ f n, (cutF s f n).length ≤ f + 1
  | 0, n => by unfold cutF; split <;> simp
  | f + 1, n => by
    unfold cutF
    have := cutF_len s f (n - min n s)
    split <;> simp; omega
theorem cutF_pos {s : Nat} (hs : 1 ≤ s) : ∀ f n, ∀ c ∈ cutF s f n, 1 ≤ c
  | 0, n, c, h => by unfold cutF at h; split at h <;> simp at h; omega
  | f + 1, n, c, h => by
    unfold cutF at h
    split at h
    · rcases List.mem_cons.1 h with h | h
      · omega
      · exact cutF_pos hs f _ c h
    · simp at h
/-- What part k has, of what is left. -/
theorem cutF_at {s : Nat} (hs : 1 ≤ s) : ∀ f n k, k ≤ f → (cutF s f n).getD k 0 = if k < f then min (n - ((cutF s f n).take k).sum) s else n - ((cutF s f n).take k).sum
  | 0, n, 0, _ => by unfold cutF; split <;> simp; omega
  | f + 1, n, 0, _ => by unfold cutF; split <;> simp; omega
  | f + 1, n, k + 1, h => by
    have ih := cutF_at hs f (n - min n s) k (by omega)
    unfold cutF
    split
    · rw [List.getD_cons_succ, ih, List.take_succ_cons, List.sum_cons]
      have e : ∀ x, n - min n s - x = n - (min n s + x) := fun x => by omega
      rw [e]
      by_cases hk : k < f
      · rw [if_pos hk, if_pos (by omega)]
      · rw [if_neg hk, if_neg (by omega)]
    · have : n = 0 := by omega
      subst this
      simp
theorem cuts_sum (n s : Nat) : (cutsL n s).sum = n := cutF_sum s 3 n
theorem cuts_len (n s : Nat) : (cutsL n s).length ≤ 4 := cutF_len s 3 n
theorem cuts_pos {n s : Nat} (hs : 1 ≤ s) : ∀ c ∈ cutsL n s, 1 ≤ c := cutF_pos hs 3 n
theorem cuts_at {n s : Nat} (hs : 1 ≤ s) {k : Nat} (hk : k ≤ 3) : (cutsL n s).getD k 0 = if k < 3 then min (n - ((cutsL n s).take k).sum) s else n - ((cutsL n s).take k).sum := cutF_at hs 3 n k hk
theorem cuts_there {n s : Nat} (hs : 1 ≤ s) (k : Nat) : 0 < (cutsL n s).getD k 0 ↔ k < (cutsL n s).length := by
  constructor
  · intro h
    rcases Nat.lt_or_ge k (cutsL n s).length with h1 | h1
    · exact h1
    · rw [List.getD, List.getElem?_eq_none h1] at h; simp at h
  · intro h
    rw [List.getD, List.getElem?_eq_getElem h]
    exact cuts_pos hs _ (List.getElem_mem h)
theorem take_sum_succ (l : List Nat) (k : Nat) : (l.take (k + 1)).sum = (l.take k).sum + l.getD k 0 := by
  rcases Nat.lt_or_ge k l.length with h | h
  · rw [List.take_succ_eq_append_getElem h, List.sum_append, List.getD, List.getElem?_eq_getElem h]; simp
  · rw [List.take_of_length_le (by omega), List.take_of_length_le h, List.getD, List.getElem?_eq_none h]; simp
theorem take_sum_le (l : List Nat) (k : Nat) : (l.take k).sum ≤ l.sum := by
  have := List.take_append_drop k l
  have h2 : (l.take k ++ l.drop k).sum = l.sum := by rw [this]
  rw [List.sum_append] at h2
  omega

/-- A file: its name and its bytes. -/
structure Fl where
  name : ByteArray
  data : ByteArray
/-- How many pages. -/
def Fl.pg (f : Fl) : Nat := pgs f.data.size
/-- Pages a .. a+n-1. -/
def pagesL (d : ByteArray) (a n : Nat) : List ByteArray := (List.range n).map fun j => pageOf d (a + j)
theorem pagesL_length (d : ByteArray) (a n : Nat) : (pagesL d a n).length = n := by simp [pagesL]
theorem pagesL_at (d : ByteArray) (a n j : Nat) (h : j < n) : (pagesL d a n)[j]? = some (pageOf d (a + j)) := by simp [pagesL, h]

/-- What is laid: each file's extents, and the sectors behind the inodes. -/
structure Laid where
  ex : List (List (Nat × Nat))
  dat : List ByteArray
/-- Part k of file i. -/
def Laid.add (fs : List Fl) (s k : Nat) (L : Laid) (i : Nat) : Laid :=
  match fs[i]? with
  | none => L
  | some f =>
    let c := (cutsL f.pg s).getD k 0
    if 0 < c then ⟨L.ex.set i (L.ex.getD i [] ++ [(1 + fs.length + L.dat.length, c)]), L.dat ++ pagesL f.data ((cutsL f.pg s).take k).sum c⟩ else L
def Laid.row (fs : List Fl) (s k : Nat) (L : Laid) (i : Nat) : Laid := (List.range i).foldl (Laid.add fs s k) L
def Laid.rows (fs : List Fl) (s k : Nat) : Laid := (List.range k).foldl (fun L k => L.row fs s k fs.length) ⟨List.replicate fs.length [], []⟩
theorem Laid.row_zero (fs : List Fl) (s k : Nat) (L : Laid) : L.row fs s k 0 = L := rfl
theorem Laid.row_succ (fs : List Fl) (s k : Nat) (L : Laid) (i : Nat) : L.row fs s k (i + 1) = (L.row fs s k i).add fs s k i := by
  unfold Laid.row
  rw [List.range_succ, List.foldl_append]
  rfl
theorem Laid.rows_succ (fs : List Fl) (s k : Nat) : Laid.rows fs s (k + 1) = (Laid.rows fs s k).row fs s k fs.length := by
  unfold Laid.rows
  rw [List.range_succ, List.foldl_append]
  rfl

/-- What holds of it: files below i have their parts up to k, the others those below k. -/
structure LaidOk (fs : List Fl) (s k i : Nat) (L : Laid) : Prop where
  len : L.ex.length = fs.length
  cut : ∀ j (h : j < fs.length) (h' : j < L.ex.length), L.ex[j].map (·.2) = (cutsL fs[j].pg s).take (if j < i then k + 1 else k)
  put : ∀ j (h : j < fs.length) (h' : j < L.ex.length) t (ht : t < L.ex[j].length), 1 + fs.length ≤ L.ex[j][t].1 ∧ L.ex[j][t].1 + L.ex[j][t].2 ≤ 1 + fs.length + L.dat.length ∧ ∀ n, n < L.ex[j][t].2 → L.dat[L.ex[j][t].1 - (1 + fs.length) + n]? = some (pageOf fs[j].data (ahd L.ex[j] t + n))
  all : ∀ q, q < L.dat.length → ∃ j, ∃ (h : j < L.ex.length), ∃ t, ∃ (ht : t < L.ex[j].length), ∃ n, n < L.ex[j][t].2 ∧ L.ex[j][t].1 + n = 1 + fs.length + q
  sum : L.dat.length = (L.ex.map fun e => (e.map (·.2)).sum).sum
theorem sum_set (l : List Nat) (i v : Nat) (h : i < l.length) : (l.set i v).sum + l[i] = l.sum + v := by
  induction l generalizing i with
  | nil => simp at h
  | cons a l ih =>
    cases i with
    | zero => simp; omega
    | succ i =>
      have := ih i (by simpa using h)
      simp at this ⊢
      omega
theorem ahd_snoc_lt (l : List (Nat × Nat)) (e : Nat × Nat) {t : Nat} (h : t ≤ l.length) : ahd (l ++ [e]) t = ahd l t := by
  unfold ahd
  rw [List.take_append_of_le_length h]
theorem ahd_full (l : List (Nat × Nat)) : ahd l l.length = (l.map (·.2)).sum := by unfold ahd; rw [List.take_length]

theorem LaidOk.start (fs : List Fl) (s : Nat) : LaidOk fs s 0 0 ⟨List.replicate fs.length [], []⟩ := by
  refine ⟨by simp, fun j h h' => by simp, fun j h h' t ht => by simp at ht, fun q hq => by simp at hq, ?_⟩
  simp only [List.length_nil]
  generalize fs.length = m
  induction m with
  | zero => rfl
  | succ m ih => simp [List.replicate_succ]
theorem LaidOk.add {fs : List Fl} {s k i : Nat} {L : Laid} (h : LaidOk fs s k i L) (hs : 1 ≤ s) (hk : k ≤ 3) (hi : i < fs.length) : LaidOk fs s k (i + 1) (L.add fs s k i) := by
  have hi' : i < L.ex.length := by rw [h.len]; exact hi
  unfold Laid.add
  rw [List.getElem?_eq_getElem hi]
  simp only
  have hc := cuts_there (n := fs[i].pg) hs k
  have hcut := h.cut i hi hi'
  rw [if_neg (by omega)] at hcut
  split
  · next h0 =>
    have hkl := hc.1 h0
    have hgd : L.ex.getD i [] = L.ex[i] := by rw [List.getD, List.getElem?_eq_getElem hi']; rfl
    rw [hgd]
    have hah : ahd L.ex[i] L.ex[i].length = ((cutsL fs[i].pg s).take k).sum := by rw [ahd_full, hcut]
    have hlen : L.ex[i].length = k := by
      have := congrArg List.length hcut
      rw [List.length_map, List.length_take] at this
      omega
    generalize hc0 : (cutsL fs[i].pg s).getD k 0 = c at *
    have hcc : (cutsL fs[i].pg s)[k]? = some c := by
      rw [List.getD, List.getElem?_eq_getElem hkl] at hc0
      rw [List.getElem?_eq_getElem hkl]
      simpa using hc0
    refine ⟨by simpa using h.len, fun j hj hj' => ?_, fun j hj hj' t ht => ?_, fun q hq => ?_, ?_⟩
    · simp only [List.getElem_set]
      by_cases hji : i = j
      · subst hji
        rw [if_pos rfl, if_pos (by omega), List.map_append, hcut]
        rw [List.take_add_one, hcc]
        rfl
      · simp only [List.length_set] at hj'
        rw [if_neg hji, h.cut j hj hj']
        congr 1
        by_cases h1 : j < i
        · rw [if_pos h1, if_pos (by omega)]
        · rw [if_neg h1, if_neg (by omega)]
    · simp only [List.getElem_set, List.length_append, pagesL_length] at ht ⊢
      by_cases hji : i = j
      · subst hji
        simp only [if_true] at ht ⊢
        simp only [List.length_append, List.length_cons, List.length_nil] at ht
        rcases Nat.lt_or_ge t L.ex[i].length with h1 | h1
        · obtain ⟨p1, p2, p3⟩ := h.put i hj hi' t h1
          simp only [List.getElem_append_left h1]
          refine ⟨p1, by omega, fun n hn => ?_⟩
          rw [ahd_snoc_lt _ _ (by omega)]
          have p4 := p3 n hn
          rw [List.getElem?_append_left (List.getElem?_eq_some_iff.1 p4).1]
          exact p4
        · have e : t = L.ex[i].length := by omega
          subst e
          simp only [List.getElem_append_right (Nat.le_refl _), Nat.sub_self, List.getElem_cons_zero]
          refine ⟨by omega, by omega, fun n hn => ?_⟩
          rw [ahd_snoc_lt _ _ (Nat.le_refl _), hah, List.getElem?_append_right (by omega)]
          rw [show 1 + fs.length + L.dat.length - (1 + fs.length) + n - L.dat.length = n by omega]
          exact pagesL_at _ _ _ _ hn
      · simp only [if_neg hji] at ht ⊢
        simp only [List.length_set] at hj'
        obtain ⟨p1, p2, p3⟩ := h.put j hj hj' t ht
        refine ⟨p1, by omega, fun n hn => ?_⟩
        have p4 := p3 n hn
        rw [List.getElem?_append_left (List.getElem?_eq_some_iff.1 p4).1]
        exact p4
    · simp only [List.length_append, pagesL_length] at hq
      rcases Nat.lt_or_ge q L.dat.length with h1 | h1
      · obtain ⟨j, hj, t, ht, n, hn, he⟩ := h.all q h1
        by_cases hji : i = j
        · subst hji
          refine ⟨i, by simpa using hi', t, by simp; omega, n, ?_, ?_⟩ <;> simp only [List.getElem_set, if_true, List.getElem_append_left ht] <;> assumption
        · refine ⟨j, by simpa using hj, t, by simpa [List.getElem_set, hji] using ht, n, ?_, ?_⟩ <;> simp only [List.getElem_set, if_neg hji] <;> assumption
      · refine ⟨i, by simpa using hi', L.ex[i].length, by simp, q - L.dat.length, ?_, ?_⟩
        · simp; omega
        · simp; omega
    · simp only [List.length_append, pagesL_length, List.map_set]
      have := sum_set (L.ex.map fun e => (e.map (·.2)).sum) i (((L.ex[i] ++ [(1 + fs.length + L.dat.length, c)]).map (·.2)).sum) (by simpa using hi')
      simp only [List.getElem_map, List.map_append, List.sum_append, List.map_cons, List.map_nil, List.sum_cons, List.sum_nil] at this
      have h2 := h.sum
      simp only [List.map_append, List.sum_append, List.map_cons, List.map_nil, List.sum_cons, List.sum_nil] at this ⊢
      omega
  · next h0 =>
    have hkl : (cutsL fs[i].pg s).length ≤ k := by
      rcases Nat.lt_or_ge k (cutsL fs[i].pg s).length with h1 | h1
      · exact absurd (hc.2 h1) h0
      · exact h1
    refine ⟨h.len, fun j hj hj' => ?_, h.put, h.all, h.sum⟩
    rw [h.cut j hj hj']
    by_cases hji : j = i
    · subst hji
      rw [if_neg (by omega), if_pos (by omega), List.take_of_length_le hkl, List.take_of_length_le (by omega)]
    · congr 1
      by_cases h1 : j < i
      · rw [if_pos h1, if_pos (by omega)]
      · rw [if_neg h1, if_neg (by omega)]
theorem LaidOk.row {fs : List Fl} {s k : Nat} {L : Laid} (h : LaidOk fs s k 0 L) (hs : 1 ≤ s) (hk : k ≤ 3) : ∀ i, i ≤ fs.length → LaidOk fs s k i (L.row fs s k i)
  | 0, _ => h
  | i + 1, hi => by
    rw [Laid.row_succ]
    exact (LaidOk.row h hs hk i (by omega)).add hs hk (by omega)
theorem LaidOk.next {fs : List Fl} {s k : Nat} {L : Laid} (h : LaidOk fs s k fs.length L) : LaidOk fs s (k + 1) 0 L :=
  ⟨h.len, fun j hj hj' => by rw [h.cut j hj hj', if_pos hj, if_neg (by omega)], h.put, h.all, h.sum⟩
theorem LaidOk.rows (fs : List Fl) {s : Nat} (hs : 1 ≤ s) : ∀ k, k ≤ 4 → LaidOk fs s k 0 (Laid.rows fs s k)
  | 0, _ => LaidOk.start fs s
  | k + 1, hk => by
    rw [Laid.rows_succ]
    exact (LaidOk.row (LaidOk.rows fs hs k (by omega)) hs (by omega) _ (Nat.le_refl _)).next
end Go.Proofs.YtgkhgjihjbjfnaaDoor
