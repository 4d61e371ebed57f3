/- Layer 12 (of no program): who has no users goes; who is left needs itself. -/
import Derived.Test.YtmkaehnekhejmaaGa
namespace Go.Proofs.Ytmkaehnekhejmaa
set_option linter.unusedVariables false
set_option linter.unusedSimpArgs false

/-- How often j is among the needs of those before i; of those that are not in P. -/
def cntB (E : Nat → List Nat) : Nat → Nat → Nat
  | 0, _ => 0
  | i + 1, j => cntB E i j + (E i).count j
def remU (E : Nat → List Nat) (P : List Nat) : Nat → Nat → Nat
  | 0, _ => 0
  | i + 1, j => remU E P i j + if i ∈ P then 0 else (E i).count j
theorem remU_nil (E : Nat → List Nat) (j : Nat) : ∀ n, remU E [] n j = cntB E n j
  | 0 => rfl
  | n + 1 => by unfold remU cntB; rw [remU_nil E j n, if_neg (by simp)]
theorem remU_out (E : Nat → List Nat) (P : List Nat) (i j : Nat) : ∀ n, n ≤ i → remU E (P ++ [i]) n j = remU E P n j
  | 0, _ => rfl
  | n + 1, h => by
    unfold remU
    rw [remU_out E P i j n (by omega)]
    have : (n ∈ P ++ [i]) ↔ n ∈ P := by simp; omega
    simp only [this]
theorem remU_take (E : Nat → List Nat) (P : List Nat) (i j : Nat) (hi : i ∉ P) : ∀ n, i < n → remU E (P ++ [i]) n j + (E i).count j = remU E P n j
  | n + 1, h => by
    unfold remU
    by_cases e : i = n
    · subst e
      rw [remU_out E P i j i (Nat.le_refl _), if_pos (by simp), if_neg hi]
      omega
    · have h1 := remU_take E P i j hi n (by omega)
      have : (n ∈ P ++ [i]) ↔ n ∈ P := by simp; omega
      simp only [this]
      omega
theorem remU_zero (E : Nat → List Nat) (P : List Nat) (j : Nat) : ∀ n, remU E P n j = 0 ↔ ∀ i, i < n → i ∉ P → j ∉ E i
  | 0 => by simp [remU]
  | n + 1 => by
    unfold remU
    have ih := remU_zero E P j n
    constructor
    · intro h i hi hp
      by_cases e : i = n
      · subst e
        rw [if_neg hp] at h
        exact List.count_eq_zero.1 (by omega)
      · exact ih.1 (by omega) i (by omega) hp
    · intro h
      rw [ih.2 (fun i hi => h i (by omega))]
      split
      · rfl
      · rename_i hp
        rw [List.count_eq_zero.2 (h n (by omega) hp)]
theorem cntB_le (E : Nat → List Nat) (j K : Nat) : ∀ n, (∀ i, i < n → (E i).length ≤ K) → cntB E n j ≤ n * K
  | 0, _ => by simp [cntB]
  | n + 1, h => by
    unfold cntB
    have h1 := cntB_le E j K n (fun i hi => h i (by omega))
    have h2 := h n (Nat.lt_succ_self _)
    have h3 := List.count_le_length (a := j) (l := E n)
    rw [Nat.succ_mul]
    omega
/-- f, at j another. -/
def upd (f : Nat → Nat) (j v : Nat) : Nat → Nat := fun i => if i = j then v else f i

/-- Where it stands: the first q of F have gone; of the needs of the one that goes, rest is ahead. -/
structure Kh (E : Nat → List Nat) (n q : Nat) (F : List Nat) (f : Nat → Nat) (rest : List Nat) : Prop where
  nd : F.Nodup
  lt : ∀ x ∈ F, x < n
  le : q ≤ F.length
  cnt : ∀ j, j < n → f j = remU E (F.take q) n j + rest.count j
  zero : ∀ j, j < n → (j ∈ F ↔ f j = 0)
  ord : ∀ (p j : Nat), F[p]? = some j → ∀ i, i < n → j ∈ E i → ∃ p', p' < p ∧ F[p']? = some i
theorem Kh.start (E : Nat → List Nat) (n : Nat) : Kh E n 0 ((List.range n).filter fun j => decide (cntB E n j = 0)) (cntB E n) [] := by
  refine ⟨List.Pairwise.filter _ List.nodup_range, fun x hx => by simpa using (List.mem_filter.1 hx).1, Nat.zero_le _, fun j hj => by rw [List.take_zero, remU_nil]; rfl, fun j hj => by simp [hj], ?_⟩
  intro p j hp i hi hj
  have hm := List.mem_of_getElem? hp
  have h0 : cntB E n j = 0 := by simpa using (List.mem_filter.1 hm).2
  rw [← remU_nil] at h0
  exact absurd hj ((remU_zero E [] j n).1 h0 i hi (by simp))
theorem Kh.take {E : Nat → List Nat} {n q : Nat} {F : List Nat} {f : Nat → Nat} (h : Kh E n q F f []) (hq : q < F.length) : Kh E n (q + 1) F f (E F[q]) := by
  refine ⟨h.nd, h.lt, hq, fun j hj => ?_, h.zero, h.ord⟩
  rw [List.take_succ_eq_append_getElem hq]
  have hn : F[q] ∉ F.take q := by
    intro hm
    obtain ⟨i, hi, he⟩ := List.getElem_of_mem hm
    rw [List.length_take] at hi
    rw [List.getElem_take] at he
    have := (List.getElem_inj (h₀ := by omega) (h₁ := hq) h.nd).1 he
    omega
  rw [remU_take E (F.take q) F[q] j hn n (h.lt _ (List.getElem_mem hq)), h.cnt j hj]
  simp
theorem Kh.pos {E : Nat → List Nat} {n q : Nat} {F : List Nat} {f : Nat → Nat} {j : Nat} {rest : List Nat} (h : Kh E n q F f (j :: rest)) (hj : j < n) : 0 < f j ∧ j ∉ F := by
  have h1 := h.cnt j hj
  rw [List.count_cons_self] at h1
  exact ⟨by omega, fun hm => by have := (h.zero j hj).1 hm; omega⟩
theorem Kh.one {E : Nat → List Nat} {n q : Nat} {F : List Nat} {f : Nat → Nat} {j : Nat} {rest : List Nat} (h : Kh E n q F f (j :: rest)) (hj : j < n) :
    Kh E n q (if f j - 1 = 0 then F ++ [j] else F) (upd f j (f j - 1)) rest := by
  obtain ⟨hp, hnm⟩ := h.pos hj
  have hcnt : ∀ i, i < n → upd f j (f j - 1) i = remU E (F.take q) n i + rest.count i := fun i hi => by
    have h1 := h.cnt i hi
    unfold upd
    split
    · rename_i e; subst e; rw [List.count_cons_self] at h1; omega
    · rename_i e; rw [List.count_cons_of_ne (fun e' => e e'.symm)] at h1; exact h1
  have htk : (if f j - 1 = 0 then F ++ [j] else F).take q = F.take q := by
    split
    · rw [List.take_append_of_le_length h.le]
    · rfl
  refine ⟨?_, ?_, ?_, fun i hi => by rw [htk]; exact hcnt i hi, ?_, ?_⟩
  · split
    · rw [List.nodup_append]
      exact ⟨h.nd, by simp, fun a ha b hb => by simp at hb; subst hb; exact fun e => hnm (e ▸ ha)⟩
    · exact h.nd
  · intro x hx
    split at hx
    · rcases List.mem_append.1 hx with h1 | h1
      · exact h.lt x h1
      · simp at h1; omega
    · exact h.lt x hx
  · have := h.le
    split
    · simp; omega
    · exact this
  · intro i hi
    unfold upd
    by_cases e : i = j
    · subst e
      rw [if_pos rfl]
      split
      · rename_i h0; simp [h0]
      · rename_i h0; simp [h0, hnm]
    · rw [if_neg e, ← h.zero i hi]
      split
      · simp [e]
      · exact Iff.rfl
  · intro p i hpi k hk hik
    split at hpi
    · rename_i h0
      rcases get_snoc hpi with h1 | ⟨h1, h2⟩
      · obtain ⟨p', hp', hq'⟩ := h.ord p i h1 k hk hik
        exact ⟨p', hp', by rw [if_pos h0]; exact get_app hq'⟩
      · subst h2
        have hz : remU E (F.take q) n i = 0 := by
          have := hcnt i hj
          unfold upd at this
          rw [if_pos rfl] at this
          omega
        have hm : k ∈ F.take q := by
          apply Decidable.byContradiction
          intro hm
          exact (remU_zero E (F.take q) i n).1 hz k hk hm hik
        obtain ⟨p', hp', he⟩ := List.getElem_of_mem hm
        rw [List.length_take] at hp'
        rw [List.getElem_take] at he
        refine ⟨p', by omega, ?_⟩
        rw [if_pos h0]
        exact get_app (by rw [List.getElem?_eq_getElem (by omega), he])
    · rename_i h0
      obtain ⟨p', hp', hq'⟩ := h.ord p i hpi k hk hik
      exact ⟨p', hp', by rw [if_neg h0]; exact hq'⟩

/-- Over needs, one at least. -/
inductive Tr1 (E : Nat → List Nat) (n : Nat) : Nat → Nat → Prop
  | base {i j : Nat} : i < n → j ∈ E i → Tr1 E n i j
  | tail {i k j : Nat} : Tr1 E n i k → k < n → j ∈ E k → Tr1 E n i j
theorem Tr1.trans {E : Nat → List Nat} {n i j k : Nat} (h : Tr1 E n i j) (g : Tr1 E n j k) : Tr1 E n i k := by
  induction g with
  | base hj hk => exact .tail h hj hk
  | tail _ hk hj ih => exact .tail ih hk hj
theorem Kh.rise {E : Nat → List Nat} {n q : Nat} {F : List Nat} {f : Nat → Nat} {rest : List Nat} (h : Kh E n q F f rest) {i j : Nat} (ht : Tr1 E n i j) : ∀ p : Nat, F[p]? = some j → ∃ p', p' < p ∧ F[p']? = some i := by
  induction ht with
  | base hi hj => exact fun p hp => h.ord p _ hp _ hi hj
  | tail _ hk hj ih =>
    intro p hp
    obtain ⟨p', h1, h2⟩ := h.ord p _ hp _ hk hj
    obtain ⟨p'', h3, h4⟩ := ih p' h2
    exact ⟨p'', by omega, h4⟩
/-- A row that goes back over needs, of more than there are, meets itself. -/
theorem meet_self : ∀ (n : Nat) (p : Nat → Nat), (∀ k, p k < n) → ∃ a b, a < b ∧ p a = p b := by
  intro n p hp
  apply Classical.byContradiction
  intro hno
  have hinj : ∀ a b, p a = p b → a = b := fun a b e => by
    rcases Nat.lt_trichotomy a b with h | h | h
    · exact absurd ⟨a, b, h, e⟩ hno
    · exact h
    · exact absurd ⟨b, a, h, e.symm⟩ hno
  have := nodup_lt n ((List.range (n + 1)).map p) (by
    rw [List.nodup_iff_pairwise_ne, List.pairwise_map]
    exact (List.nodup_iff_pairwise_ne.1 List.nodup_range).imp fun hab e => hab (hinj _ _ e)) (by
    intro x hx
    obtain ⟨a, _, rfl⟩ := List.mem_map.1 hx
    exact hp a)
  simp at this
  omega
theorem Kh.done {E : Nat → List Nat} {n : Nat} {F : List Nat} {f : Nat → Nat} (h : Kh E n F.length F f []) (hE : ∀ i, i < n → ∀ j ∈ E i, j < n) : F.length < n ↔ ∃ i, i < n ∧ Tr1 E n i i := by
  constructor
  · intro hlt
    have hex : ∃ x, x < n ∧ x ∉ F := by
      apply Classical.byContradiction
      intro hno
      have hall : ∀ x, x < n → x ∈ F := fun x hx => Classical.byContradiction fun hx' => hno ⟨x, hx, hx'⟩
      have : n ≤ F.length := by
        have h1 : ∀ m, m ≤ n → ∃ G : List Nat, G.length + m = F.length ∧ (∀ x, m ≤ x → x < n → x ∈ G) ∧ (∀ x ∈ G, x ∈ F) ∧ G.Nodup := by
          intro m
          induction m with
          | zero => exact fun _ => ⟨F, rfl, fun x _ hx => hall x hx, fun x hx => hx, h.nd⟩
          | succ m ih =>
            intro hm
            obtain ⟨G, g1, g2, g3, g4⟩ := ih (by omega)
            refine ⟨G.erase m, ?_, ?_, fun x hx => g3 x (List.mem_of_mem_erase hx), g4.erase m⟩
            · rw [List.length_erase_of_mem (g2 m (Nat.le_refl _) (by omega))]
              have := List.length_pos_of_mem (g2 m (Nat.le_refl _) (by omega))
              omega
            · intro x hx hxn
              exact (List.mem_erase_of_ne (by omega)).2 (g2 x (by omega) hxn)
        obtain ⟨G, g1, _⟩ := h1 n (Nat.le_refl _)
        omega
      omega
    obtain ⟨x0, hx0, hx0F⟩ := hex
    have hpred : ∀ x : {x : Nat // x < n ∧ x ∉ F}, ∃ y : {x : Nat // x < n ∧ x ∉ F}, x.1 ∈ E y.1 := by
      rintro ⟨x, hx, hxF⟩
      apply Classical.byContradiction
      intro hno
      apply hxF
      rw [h.zero x hx, h.cnt x hx, List.take_length]
      simp only [List.count_nil, Nat.add_zero]
      rw [remU_zero]
      intro i hi hiF hxi
      exact hno ⟨⟨i, hi, hiF⟩, hxi⟩
    let g : {x : Nat // x < n ∧ x ∉ F} → {x : Nat // x < n ∧ x ∉ F} := fun x => (hpred x).choose
    have hg : ∀ x, x.1 ∈ E (g x).1 := fun x => (hpred x).choose_spec
    let p : Nat → {x : Nat // x < n ∧ x ∉ F} := fun k => Nat.rec ⟨x0, hx0, hx0F⟩ (fun _ y => g y) k
    have hp : ∀ k, (p k).1 ∈ E (p (k + 1)).1 := fun k => hg (p k)
    have hpt : ∀ a d, Tr1 E n (p (a + d + 1)).1 (p a).1 := by
      intro a d
      induction d with
      | zero => exact .base (p (a + 0 + 1)).2.1 (hp a)
      | succ d ih => exact Tr1.trans (.base (p (a + (d + 1) + 1)).2.1 (hp (a + d + 1))) ih
    obtain ⟨a, b, hab, he⟩ := meet_self n (fun k => (p k).1) (fun k => (p k).2.1)
    refine ⟨(p a).1, (p a).2.1, ?_⟩
    have := hpt a (b - a - 1)
    rw [show a + (b - a - 1) + 1 = b by omega] at this
    rw [he]
    rw [he] at this
    exact this
  · rintro ⟨i, hi, ht⟩
    have hiF : i ∉ F := by
      intro hm
      obtain ⟨p, hp, he⟩ := List.getElem_of_mem hm
      have key : ∀ p : Nat, F[p]? ≠ some i := by
        intro p
        induction p using Nat.strongRecOn with
        | ind p ih =>
          intro hp
          obtain ⟨p', h1, h2⟩ := h.rise ht p hp
          exact ih p' h1 h2
      exact key p (by rw [List.getElem?_eq_getElem hp, he])
    have := nodup_lt n (i :: F) (List.nodup_cons.2 ⟨hiF, h.nd⟩) (fun x hx => by
      rcases List.mem_cons.1 hx with rfl | h1
      · exact hi
      · exact h.lt x h1)
    simp at this
    omega
theorem Kh.room {E : Nat → List Nat} {n q : Nat} {F : List Nat} {f : Nat → Nat} {rest : List Nat} (h : Kh E n q F f rest) : F.length ≤ n := nodup_lt n F h.nd h.lt

/-- The needs of the ith of a closure, by their places in it. -/
def edW (L : List Lb) (N : List ByteArray) (i : Nat) : List Nat := (needOf L (N.getD i default)).filterMap fun z => if z ∈ N then some (N.idxOf z) else none
theorem idx_lt {N : List ByteArray} {z : ByteArray} (h : z ∈ N) : N.idxOf z < N.length := List.idxOf_lt_length_of_mem h
theorem idx_at {N : List ByteArray} {z : ByteArray} (h : z ∈ N) : N[N.idxOf z]'(idx_lt h) = z := List.getElem_idxOf (idx_lt h)
theorem edW_lt (L : List Lb) (N : List ByteArray) (i : Nat) : ∀ j ∈ edW L N i, j < N.length := by
  intro j hj
  obtain ⟨z, hz, he⟩ := List.mem_filterMap.1 hj
  split at he
  · rename_i hm
    injection he with he
    subst he
    exact idx_lt hm
  · cases he
theorem edW_len (L : List Lb) (N : List ByteArray) (i : Nat) : (edW L N i).length ≤ (needOf L (N.getD i default)).length := List.length_filterMap_le _ _
theorem mem_edW {L : List Lb} {N : List ByteArray} {i j : Nat} (hi : i < N.length) (hj : j < N.length) (hnd : N.Nodup) : j ∈ edW L N i ↔ N[j] ∈ needOf L N[i] := by
  unfold edW
  rw [List.mem_filterMap, show N.getD i default = N[i] by rw [List.getD_eq_getElem?_getD, List.getElem?_eq_getElem hi]; rfl]
  constructor
  · rintro ⟨z, hz, he⟩
    split at he
    · rename_i hm
      injection he with he
      have := idx_at hm
      subst he
      rw [this]; exact hz
    · cases he
  · intro h
    refine ⟨N[j], h, ?_⟩
    rw [if_pos (List.getElem_mem hj)]
    congr 1
    exact (List.getElem_inj (h₀ := idx_lt (List.getElem_mem hj)) (h₁ := hj) hnd).1 (idx_at (List.getElem_mem hj))
/-- Who is left needs itself. -/
theorem cyc_iff (L : List Lb) (r : ByteArray) : (∃ i, i < (cloW L r).N.length ∧ Tr1 (edW L (cloW L r).N) (cloW L r).N.length i i) ↔ rndW L r = true := by
  rw [rndW_iff]
  have hi := clo_inv L r
  constructor
  · rintro ⟨i, hlt, ht⟩
    have key : ∀ a b, Tr1 (edW L (cloW L r).N) (cloW L r).N.length a b → ∀ (ha : a < (cloW L r).N.length) (hb : b < (cloW L r).N.length), ∃ z ∈ needOf L (cloW L r).N[a], there L z = true ∧ Rt L z (cloW L r).N[b] := by
      intro a b h
      induction h with
      | base h1 h2 =>
        intro ha hb
        exact ⟨_, (mem_edW ha hb hi.nd).1 h2, hi.th _ (List.getElem_mem hb), .refl _⟩
      | tail h1 h2 h3 ih =>
        intro ha hb
        obtain ⟨z, z1, z2, z3⟩ := ih ha h2
        exact ⟨z, z1, z2, .step z3 ((mem_edW h2 hb hi.nd).1 h3) (hi.th _ (List.getElem_mem hb))⟩
    obtain ⟨z, z1, z2, z3⟩ := key i i ht hlt hlt
    exact ⟨_, List.getElem_mem hlt, z, z1, z2, z3⟩
  · rintro ⟨x, hx, z, hz, htz, hr⟩
    obtain ⟨i, hlt, rfl⟩ := List.getElem_of_mem hx
    have key : ∀ y, Rt L z y → ∃ k, ∃ hk : k < (cloW L r).N.length, (cloW L r).N[k] = y ∧ Tr1 (edW L (cloW L r).N) (cloW L r).N.length i k := by
      intro y h
      induction h with
      | refl =>
        obtain ⟨k, hk, he⟩ := List.getElem_of_mem (clo_closed_there hx hz htz)
        exact ⟨k, hk, he, .base hlt ((mem_edW hlt hk hi.nd).2 (by rw [he]; exact hz))⟩
      | step h1 h2 h3 ih =>
        obtain ⟨k, hk, he, ht⟩ := ih
        have hm := clo_closed_there (List.getElem_mem hk) (by rw [he]; exact h2) h3
        obtain ⟨m, hm2, he2⟩ := List.getElem_of_mem hm
        exact ⟨m, hm2, he2, .tail ht hk ((mem_edW hk hm2 hi.nd).2 (by rw [he2, he]; exact h2))⟩
    obtain ⟨k, hk, he, ht⟩ := key _ hr
    have : k = i := (List.getElem_inj (h₀ := hk) (h₁ := hlt) hi.nd).1 he
    subst this
    exact ⟨k, hk, ht⟩
end Go.Proofs.Ytmkaehnekhejmaa
