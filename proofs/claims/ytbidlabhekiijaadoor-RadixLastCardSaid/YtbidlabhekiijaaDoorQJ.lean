/- RadixLast: what two rows of numbers say of a table; the rows in memory; what a drop does to the count. -/
import Derived.Test.YtbidlabhekiijaaDoorQH
import Derived.Maps.AppendAt
import Derived.Laws.OwnMore
namespace Go.Proofs.YtbidlabhekiijaaDoor
open Go.RowKit
set_option linter.unusedVariables false
set_option linter.unusedSimpArgs false

open Classical in
theorem cnt7_drop (M : Nat → Sl) (P : Nat) : cnt7 (setM M P Sl.zero) ≤ cnt7 M := by
  have h : ∀ j, lvN (setM M P Sl.zero) j ≤ lvN M j := fun j => by
    unfold lvN lvl
    rw [← List.countP_eq_length_filter, ← List.countP_eq_length_filter]
    refine List.countP_mono_left fun r _ hr => ?_
    simp only [decide_eq_true_eq] at hr ⊢
    refine ⟨?_, hr.2⟩
    obtain ⟨⟨p, e, hp⟩, _⟩ := hr
    refine ⟨p, e, fun hz => hp ?_⟩
    unfold setM
    split
    · rfl
    · exact hz
  have h1 := h 1
  have h2 := h 2
  have h3 := h 3
  unfold cnt7
  omega

/-- The entry that is set to a number. -/
def slN (n : Nat) : Sl := ⟨true, n % 2 == 1, false, false, (n : Nat)⟩
theorem slN_may {n : Nat} (h : n ≤ 1048576) : (slN n).may = true := by
  unfold Sl.may slN
  simp
  omega
/-- What is wanted of a page: dropped, or this number. -/
def Mean (M : Nat → Sl) (p : Nat) (x : Int) : Prop := (x = -1 ∧ M p = Sl.zero) ∨ ∃ n : Nat, x = n ∧ n < 1048576 ∧ M p = slN n
/-- Two rows: pages, and what is wanted of each. -/
structure Ms (M : Nat → Sl) (PS : List Nat) (WS : List Int) : Prop where
  len : WS.length = PS.length
  lt : ∀ j (h : j < PS.length), PS[j] < 4096
  ok : ∀ j (h : j < PS.length), Mean M PS[j] (WS[j]'(by omega))
/-- What is wanted, of which the first i are brought up to date for page k. -/
structure Upd (PS : List Nat) (WS WS' : List Int) (k : Nat) (n : Int) (i : Nat) : Prop where
  len : WS'.length = WS.length
  done : ∀ j (h : j < WS'.length), j < i → (∃ hp : j < PS.length, PS[j] = k) → WS'[j] = n
  same : ∀ j (h : j < WS'.length) (h' : j < WS.length), (i ≤ j ∨ ∀ hp : j < PS.length, PS[j] ≠ k) → WS'[j] = WS[j]
theorem Upd.start (PS : List Nat) (WS : List Int) (k : Nat) (n : Int) : Upd PS WS WS k n 0 := ⟨rfl, fun j _ h => absurd h (Nat.not_lt_zero _), fun j _ _ _ => rfl⟩
theorem Upd.skip {PS : List Nat} {WS WS' : List Int} {k i : Nat} {n : Int} (u : Upd PS WS WS' k n i) (hi : i < PS.length) (h : PS[i] ≠ k) : Upd PS WS WS' k n (i + 1) := by
  refine ⟨u.len, fun j hj hlt hp => ?_, fun j hj hj' hc => ?_⟩
  · rcases Nat.lt_or_ge j i with h1 | h1
    · exact u.done j hj h1 hp
    · obtain rfl : j = i := by omega
      obtain ⟨_, e⟩ := hp
      exact absurd e h
  · refine u.same j hj hj' ?_
    rcases hc with hc | hc
    · exact .inl (by omega)
    · exact .inr hc
theorem Upd.put {PS : List Nat} {WS WS' : List Int} {k i : Nat} {n : Int} (u : Upd PS WS WS' k n i) (hi : i < PS.length) (h : PS[i] = k) : Upd PS WS (WS'.set i n) k n (i + 1) := by
  refine ⟨by rw [List.length_set]; exact u.len, fun j hj hlt hp => ?_, fun j hj hj' hc => ?_⟩
  · rw [List.length_set] at hj
    rw [List.getElem_set]
    split
    · rfl
    · exact u.done j hj (by omega) hp
  · rw [List.length_set] at hj
    rw [List.getElem_set]
    split
    · rename_i e
      subst e
      rcases hc with hc | hc
      · omega
      · exact absurd h (hc hi)
    · exact u.same j hj hj' (by
        rcases hc with hc | hc
        · exact .inl (by omega)
        · exact .inr hc)
/-- A page was set, and what is wanted is up to date. -/
theorem Ms.set {M : Nat → Sl} {PS : List Nat} {WS WS' : List Int} {k n : Nat} (m : Ms M PS WS) (u : Upd PS WS WS' k n PS.length) (hn : n < 1048576) : Ms (setM M k (slN n)) PS WS' := by
  have hl : WS'.length = PS.length := u.len.trans m.len
  refine ⟨hl, m.lt, fun j hj => ?_⟩
  by_cases e : PS[j] = k
  · rw [u.done j (by omega) hj ⟨hj, e⟩]
    exact .inr ⟨n, rfl, hn, by rw [e, setM_same]⟩
  · rw [u.same j (by omega) (by rw [m.len]; exact hj) (.inr fun _ => e)]
    unfold Mean
    rw [setM_other e]
    exact m.ok j hj
theorem Ms.drop {M : Nat → Sl} {PS : List Nat} {WS WS' : List Int} {k : Nat} (m : Ms M PS WS) (u : Upd PS WS WS' k (-1) PS.length) : Ms (setM M k Sl.zero) PS WS' := by
  have hl : WS'.length = PS.length := u.len.trans m.len
  refine ⟨hl, m.lt, fun j hj => ?_⟩
  by_cases e : PS[j] = k
  · rw [u.done j (by omega) hj ⟨hj, e⟩]
    exact .inl ⟨rfl, by rw [e, setM_same]⟩
  · rw [u.same j (by omega) (by rw [m.len]; exact hj) (.inr fun _ => e)]
    unfold Mean
    rw [setM_other e]
    exact m.ok j hj
/-- A page that was not there comes behind. -/
theorem Ms.push {M : Nat → Sl} {PS : List Nat} {WS : List Int} {k n : Nat} (m : Ms M PS WS) (hk : k < 4096) (hm : M k = slN n) (hn : n < 1048576) : Ms M (PS ++ [k]) (WS ++ [(n : Int)]) := by
  refine ⟨by simp [m.len], fun j hj => ?_, fun j hj => ?_⟩
  · rcases Nat.lt_or_ge j PS.length with h | h
    · rw [List.getElem_append_left h]; exact m.lt j h
    · rw [List.getElem_append_right h]
      simp
      exact hk
  · rcases Nat.lt_or_ge j PS.length with h | h
    · rw [List.getElem_append_left h, List.getElem_append_left (by rw [m.len]; exact h)]; exact m.ok j h
    · have e : j = PS.length := by simp at hj; omega
      subst e
      rw [List.getElem_append_right (Nat.le_refl _), List.getElem_append_right (by rw [m.len]; exact Nat.le_refl _)]
      simp only [Nat.sub_self, m.len, List.getElem_cons_zero]
      exact .inr ⟨n, rfl, hn, hm⟩

/-- The two rows in memory: two blocks of the law's own, from B on. -/
structure Rm (cur : World) (B : Nat) (pv wv : Value) (PS : List Nat) (WS : List Int) : Prop where
  pag : cur.ownsRow B 3 1 pv PS.length (PS.map fun p => Value.int .i64 (p : Nat))
  wnt : cur.ownsRow B 3 1 wv WS.length (WS.map fun x => Value.int .i64 x)
  ne : ∀ g, pv.ownBlock = some g → wv.ownBlock ≠ some g
section
variable {cur nxt : World} {B : Nat} {pv wv : Value} {PS : List Nat} {WS : List Int}
theorem Rm.start (w : World) (B : Nat) : Rm w B (.slice none 0 0) (.slice none 0 0) [] [] := ⟨World.ownsRow_nil _ _ _ _, World.ownsRow_nil _ _ _ _, fun g h => by cases h⟩
theorem Rm.on (r : Rm cur B pv wv PS WS) (hb : Below cur.heap.size cur nxt) : Rm nxt B pv wv PS WS := ⟨own_below r.pag hb, own_below r.wnt hb, r.ne⟩
theorem Rm.but {S : Nat → Prop} (r : Rm cur B pv wv PS WS) (hb : But S cur nxt) (hS : ∀ k, B ≤ k → ¬ S k) : Rm nxt B pv wv PS WS := ⟨own_but7 r.pag hb hS, own_but7 r.wnt hb hS, r.ne⟩
theorem Rm.drewN (r : Rm cur B pv wv PS WS) (n : Nat) : Rm (cur.drewN n) B pv wv PS WS := ⟨r.pag, r.wnt, r.ne⟩
theorem Rm.alloc (r : Rm cur B pv wv PS WS) (o : Obj) : Rm (cur.alloc o) B pv wv PS WS := r.on ((Below.refl _ _).alloc (Nat.le_refl _) o)
theorem Rm.page_at (r : Rm cur B pv wv PS WS) {j : Nat} (hj : j < PS.length) : ∃ g c, pv = .slice (some ⟨g, 0, none⟩) PS.length c ∧ B ≤ g ∧ g < cur.heap.size ∧ cur.cell? ⟨g, j, none⟩ = some (.int .i64 (PS[j] : Nat)) := by
  obtain ⟨g, c, e⟩ := ownsRow_form7 r.pag (by omega)
  have h := r.pag
  rw [e] at h
  have hlt := h.lt g rfl
  refine ⟨g, c, e, hlt.1, hlt.2, ?_⟩
  rw [h.cellAt j (by omega)]
  simp [hj]
theorem Rm.want_at (r : Rm cur B pv wv PS WS) {j : Nat} (hj : j < WS.length) : ∃ g c, wv = .slice (some ⟨g, 0, none⟩) WS.length c ∧ B ≤ g ∧ g < cur.heap.size ∧ cur.cell? ⟨g, j, none⟩ = some (.int .i64 WS[j]) ∧ cur.frozen? ⟨g, j, none⟩ = false := by
  obtain ⟨g, c, e⟩ := ownsRow_form7 r.wnt (by omega)
  have h := r.wnt
  rw [e] at h
  have hlt := h.lt g rfl
  refine ⟨g, c, e, hlt.1, hlt.2, ?_, h.frozenAt j⟩
  rw [h.cellAt j (by omega)]
  simp [hj]
theorem Rm.store {g c : Nat} (r : Rm cur B pv (.slice (some ⟨g, 0, none⟩) WS.length c) PS WS) (j : Nat) (x : Int) : Rm (cur.setCell ⟨g, j, none⟩ (.int .i64 x)) B pv (.slice (some ⟨g, 0, none⟩) WS.length c) PS (WS.set j x) := by
  obtain ⟨h1, h2⟩ := r.wnt.stored j (.int .i64 x)
  refine ⟨r.pag.kept h2 (.inr fun e => r.ne g e rfl), ?_, r.ne⟩
  rw [List.length_set, List.map_set]
  exact h1
end
theorem but_grown {w w' : World} {row : Option Nat} (hg : w.grownBy w' row) : But (fun j => row = some j) w w' := ⟨hg.os, hg.tape, hg.output, hg.size, fun k hk hn => hg.block k hk fun e => hn e.symm⟩
theorem Tw.push {w cur w1 : World} {t p h g N B : Nat} {M : Nat → Sl} {o : Obj} {v : Value} {e size n : Nat} {xs : List Value} (s : Tw w cur t p h g N M) (hg : (cur.alloc o).grownBy w1 v.ownBlock) (ho : cur.ownsRow B e size v n xs) (hB : t < B ∧ p < B ∧ h < B ∧ g < B) (hw : w.heap.size ≤ B) : Tw w w1 t p h g N M :=
  (s.alloc o).thru (but_grown hg) fun j hj => by
    have := own_ge ho hj
    omega
theorem Rm.push1 {cur w1 : World} {B : Nat} {pv wv v' : Value} {PS : List Nat} {WS : List Int} {o : Obj} {K : Nat} (r : Rm cur B pv wv PS WS) (ho : w1.ownsRow B 3 1 v' (PS.length + 1) ((PS.map fun p => Value.int .i64 (p : Nat)) ++ [.int .i64 (K : Nat)])) (hg : (cur.alloc o).grownBy w1 pv.ownBlock) (hat : v'.ownBlock = pv.ownBlock ∨ v'.ownBlock = some (cur.alloc o).heap.size) : Rm w1 B v' wv (PS ++ [K]) WS := by
  have hw := own_below r.wnt ((Below.refl _ _).alloc (Nat.le_refl _) o)
  refine ⟨by simpa using ho, hw.kept hg ?_, fun g hgv hgw => ?_⟩
  · cases hwb : wv.ownBlock with
    | none => exact .inl rfl
    | some g => exact .inr fun e => r.ne g e.symm hwb
  · rcases hat with h | h
    · exact r.ne g (h ▸ hgv) hgw
    · rw [h] at hgv
      have := (hw.lt g hgw).2
      cases hgv
      omega
theorem Rm.push2 {cur w1 : World} {B : Nat} {pv wv v' : Value} {PS : List Nat} {WS : List Int} {o : Obj} {x : Int} (r : Rm cur B pv wv PS WS) (ho : w1.ownsRow B 3 1 v' (WS.length + 1) ((WS.map fun y => Value.int .i64 y) ++ [.int .i64 x])) (hg : (cur.alloc o).grownBy w1 wv.ownBlock) (hat : v'.ownBlock = wv.ownBlock ∨ v'.ownBlock = some (cur.alloc o).heap.size) : Rm w1 B pv v' PS (WS ++ [x]) := by
  have hp := own_below r.pag ((Below.refl _ _).alloc (Nat.le_refl _) o)
  refine ⟨hp.kept hg ?_, by simpa using ho, fun g hgp hgv => ?_⟩
  · cases hpb : pv.ownBlock with
    | none => exact .inl rfl
    | some g => exact .inr fun e => r.ne g hpb e.symm
  · rcases hat with h | h
    · exact r.ne g hgp (h ▸ hgv)
    · rw [h] at hgv
      have := (hp.lt g hgp).2
      cases hgv
      omega
end Go.Proofs.YtbidlabhekiijaaDoor
