/- Layer 4: files that are numbered. -/
import Derived.Test.YtgkhgjihjbjfnaaDoorFOp
import Derived.Test.YtgkhgjihjbjfnaaDoorFFew
namespace Go.Proofs.YtgkhgjihjbjfnaaDoor
open Go.RowKit Go.Shelf
set_option linter.unusedVariables false
set_option linter.unusedSimpArgs false

/-- The name of file i. -/
def nmB (i : Nat) : ByteArray := mkb [102, UInt8.ofNat (48 + i)]
theorem nmB_ok : ∀ i, i < 8 → nameOk (nmB i) = true := by decide +kernel
theorem nmB_inj : ∀ i, i < 8 → ∀ j, j < 8 → nmB i = nmB j → i = j := by decide +kernel
theorem nmB_none : ∀ i, i < 8 → nmB i ≠ (⟨#[110, 111, 110, 101]⟩ : ByteArray) := by decide +kernel
/-- The first k files are numbered. -/
def rn (fs : List Fl) : Nat → List Fl
  | 0 => fs
  | k + 1 => (rn fs k).set k ⟨nmB k, ((rn fs k)[k]?.map Fl.data).getD ⟨#[]⟩⟩
theorem rn_length (fs : List Fl) : ∀ k, (rn fs k).length = fs.length
  | 0 => rfl
  | k + 1 => by rw [rn, List.length_set, rn_length fs k]
theorem rn_at (fs : List Fl) : ∀ k i (h : i < (rn fs k).length), (rn fs k)[i].data = (fs[i]'(by rw [← rn_length fs k]; exact h)).data ∧ (i < k → (rn fs k)[i].name = nmB i)
  | 0, i, h => ⟨rfl, fun h => by omega⟩
  | k + 1, i, h => by
    have hl := rn_length fs k
    have h' : i < (rn fs k).length := by rw [hl, ← rn_length fs (k + 1)]; exact h
    obtain ⟨h1, h2⟩ := rn_at fs k i h'
    simp only [rn, List.getElem_set]
    by_cases e : k = i
    · subst e
      simp only [if_true]
      rw [List.getElem?_eq_getElem h']
      exact ⟨h1, fun _ => by simp⟩
    · simp only [if_neg e]
      exact ⟨h1, fun h => h2 (by omega)⟩
theorem rn_names (fs : List Fl) : (rn fs fs.length).map Fl.name = (List.range fs.length).map nmB := by
  apply List.ext_getElem (by simp [rn_length])
  intro i h1 h2
  simp only [List.getElem_map, List.getElem_range]
  exact (rn_at fs fs.length i (by simpa using h1)).2 (by simpa [rn_length] using h1)
theorem rn_ok {fs : List Fl} (h : fs.length ≤ 8) : namesOk (rn fs fs.length) := by
  refine ⟨fun f hf => ?_, ?_⟩
  · obtain ⟨i, hi, rfl⟩ := List.getElem_of_mem hf
    have hi' : i < fs.length := by rw [← rn_length fs fs.length]; exact hi
    rw [(rn_at fs _ i hi).2 hi']
    exact nmB_ok i (by omega)
  · rw [rn_names, List.nodup_iff_pairwise_ne]
    rw [List.pairwise_map]
    refine (List.nodup_iff_pairwise_ne.1 List.nodup_range).imp_of_mem ?_
    intro a b ha hb hab e
    have h1 := List.mem_range.1 ha
    have h2 := List.mem_range.1 hb
    exact hab (nmB_inj a (by omega) b (by omega) e)
theorem rn_none {fs : List Fl} (h : fs.length ≤ 8) : (⟨#[110, 111, 110, 101]⟩ : ByteArray) ∉ (rn fs fs.length).map Fl.name := by
  rw [rn_names]
  intro hm
  obtain ⟨i, hi, e⟩ := List.mem_map.1 hm
  exact nmB_none i (by have := List.mem_range.1 hi; omega) e
theorem rn_data {fs : List Fl} (h : Small8 fs) : ∀ f ∈ rn fs fs.length, f.data.size ≤ 599 := fun f hf => by
  obtain ⟨i, hi, rfl⟩ := List.getElem_of_mem hf
  have hi' : i < fs.length := by rw [← rn_length fs fs.length]; exact hi
  rw [(rn_at fs _ i hi).1]
  exact (h _ (List.getElem_mem hi')).2
theorem rn_can {fs : List Fl} (h : fs.length ≤ 8) (hs : Small8 fs) (s : Nat) (h1 : 1 ≤ s) : CanBe (rn fs fs.length) s :=
  can_few _ s (by rw [rn_length]; omega) (rn_ok h) (fun f hf => by have := rn_data hs f hf; omega) h1
theorem fileCells_set : ∀ (fs : List Fl) (k : Nat) (h : k < fs.length) (n : ByteArray), fileCells (fs.set k ⟨n, fs[k].data⟩) = (fileCells fs).set (k * 2) (.string n)
  | f :: fs, 0, _, n => by simp [fileCells]
  | f :: fs, k + 1, h, n => by
    have ih := fileCells_set fs k (by simpa using h) n
    have e : ∀ (f : Fl) (fs : List Fl), fileCells (f :: fs) = .string f.name :: .string f.data :: fileCells fs := fun f fs => by simp [fileCells]
    rw [List.set_cons_succ, e, e, show (k + 1) * 2 = k * 2 + 1 + 1 by omega, List.set_cons_succ, List.set_cons_succ]
    congr 2
theorem rn_store {W : World} {B g n cap k : Nat} {fs : List Fl} (h : W.ownsRow B 32 2 (.slice (some ⟨g, 0, none⟩) n cap) n (fileCells (rn fs k))) (hk : k < fs.length) :
    (W.setCell ⟨g, k * 2, none⟩ (.string (nmB k))).ownsRow B 32 2 (.slice (some ⟨g, 0, none⟩) n cap) n (fileCells (rn fs (k + 1))) := by
  have hk' : k < (rn fs k).length := by rw [rn_length]; exact hk
  have h1 := (h.stored (k * 2) (.string (nmB k))).1
  rw [← fileCells_set _ k hk'] at h1
  have e : rn fs (k + 1) = (rn fs k).set k ⟨nmB k, (rn fs k)[k].data⟩ := by
    rw [rn, List.getElem?_eq_getElem hk']
    rfl
  rw [e]
  exact h1
/-- string([]byte{'f', byte('0' + i)}). -/
theorem run_name (i : Nat) (hi : i < 8) (w : World) : (convert 35 9 (.slice (some ⟨w.heap.size, 0, none⟩) 2 2)).run Tryd.prog (w.alloc (.cells #[.int .u8 102, .int .u8 (48 + (i : Int))] 5)) = .ok (.string (nmB i)) (w.alloc (.cells #[.int .u8 102, .int .u8 (48 + (i : Int))] 5)) := by
  have e : (#[.int .u8 102, .int .u8 (48 + (i : Int))] : Array Value) = (Lib.byteCells [102, UInt8.ofNat (48 + i)]).toArray := by
    have h : ((UInt8.ofNat (48 + i)).toNat : Int) = 48 + (i : Int) := by rw [UInt8.toNat_ofNat']; omega
    unfold Lib.byteCells
    rw [List.map_cons, List.map_cons, h]
    rfl
  have hb := Blk.new w 5 #[.int .u8 102, .int .u8 (48 + (i : Int))]
  rw [e] at hb ⊢
  exact run_string_blk (P := Tryd.prog) _ 35 9 5 w.heap.size 2 5 [102, UInt8.ofNat (48 + i)] 2 rfl Tryd.underlying35 Tryd.underlying5 Tryd.underlying9 hb
theorem own_weaken2 {w : World} {B C e size n : Nat} {v : Value} {xs : List Value} (h : w.ownsRow B e size v n xs) (hc : C ≤ B) : w.ownsRow C e size v n xs := by
  obtain ⟨h1, h2⟩ := h
  refine ⟨h1, ?_⟩
  rcases h2 with h2 | ⟨g, cap, cur, hv, hbg, r⟩
  · exact .inl h2
  · exact .inr ⟨g, cap, cur, hv, by omega, r⟩
theorem mkb_snoc (l : List UInt8) (b : ByteArray) : mkb (l ++ b.data.toList) = mkb l ++ b := by
  conv => rhs; rw [← mkb_of b, mkb_append]
theorem fillS_sec (d : ByteArray) (n : Nat) : fillS d ((64 * n : Nat) : Int) = mkb (secL d 0 n) := by
  unfold fillS
  rw [if_neg (by omega), Int.toNat_natCast, secL_fill]
end Go.Proofs.YtgkhgjihjbjfnaaDoor
