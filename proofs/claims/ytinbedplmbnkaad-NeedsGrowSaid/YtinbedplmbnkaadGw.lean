/- For NeedsGrow: a list of libraries that is copied, grows, and is turned in one place. -/
import Derived.Test.YtinbedplmbnkaadGv
import Derived.Laws.AppendOwnNone
namespace Go.Proofs.Ytinbedplmbnkaad
open Go.RowKit
set_option linter.unusedVariables false
set_option linter.unusedSimpArgs false

/-- A list of libraries, its rows of needs wherever they are. -/
structure Mo (lo : Nat) (v : Value) (L : List Lb) (As : List (Option Addr × Nat)) (w : World) : Prop where
  own : w.ownsRow lo 34 2 v L.length (libCells L As)
  len : As.length = L.length
  rows : ∀ i (hi : i < L.length), StrRow w (As[i]'(by omega)).1 L[i].need
theorem Mo.below {lo : Nat} {v : Value} {L : List Lb} {As : List (Option Addr × Nat)} {w w' : World} (h : Mo lo v L As w) {n : Nat} (hn : n = w.heap.size) (hb : Below n w w') : Mo lo v L As w' :=
  ⟨own_below h.own (by rw [← hn]; exact hb), h.len, fun i hi => strRow_belowG (h.rows i hi) hn hb⟩
theorem Mo.form {lo : Nat} {v : Value} {L : List Lb} {As : List (Option Addr × Nat)} {w : World} (h : Mo lo v L As w) (h0 : 0 < L.length) : ∃ g c cur, v = .slice (some ⟨g, 0, none⟩) L.length c ∧ lo ≤ g ∧ Blk w g 34 cur ∧ ∀ (j : Nat) (u : Value), (libCells L As)[j]? = some u → cur[j]? = some u := by
  rcases h.own.2 with ⟨_, e⟩ | ⟨g, cap, cur, rfl, hbg, hg, _, _, _, ht⟩
  · omega
  · refine ⟨g, cap, cur, rfl, hbg, hg, fun j u hj => ?_⟩
    rw [← ht, List.getElem?_take] at hj
    split at hj
    · simpa using hj
    · cases hj
theorem Mo.row {lo : Nat} {v : Value} {L : List Lb} {As : List (Option Addr × Nat)} {w : World} (h : Mo lo v L As w) (hn : ∀ b ∈ L, b.name.size ≤ maxLen) (hl : ∀ b ∈ L, b.need.length ≤ 100000) (h0 : 0 < L.length) :
    ∃ g c, v = .slice (some ⟨g, 0, none⟩) L.length c ∧ LibRow w (some ⟨g, 0, none⟩) L := by
  obtain ⟨g, c, cur, hv, _, hb, hc⟩ := h.form h0
  refine ⟨g, c, hv, fun i hi => ?_⟩
  have hi2 : i < As.length := by have := h.len; omega
  obtain ⟨q0, q1⟩ := libCells_at h.len i hi
  exact ⟨⟨g, 0, none⟩, As[i].1, As[i].2, rfl, hb.lt, lbAt_blk hb (hc _ _ q0) (hc _ _ q1) (h.rows i hi) (hn _ (List.getElem_mem hi)) (hl _ (List.getElem_mem hi))⟩
theorem bld_cells {lo n c : Nat} {A : Option Addr} {L : List Lb} {As : List (Option Addr × Nat)} {w : World} (h : Bld lo (.slice A n c) L As w) (h0 : 0 < L.length) : ∃ g, A = some ⟨g, 0, none⟩ ∧ g < w.heap.size ∧ ∀ (j : Nat) (u : Value), (libCells L As)[j]? = some u → w.cell? ⟨g, j, none⟩ = some u := by
  rcases h.own.2 with ⟨_, e⟩ | ⟨g, cap, cur, hv, hbg, hg, _, _, _, ht⟩
  · omega
  · injection hv with e1 e2 e3
    have hb : Blk w g 34 cur := hg
    refine ⟨g, e1, hb.lt, fun j u hj => ?_⟩
    rw [← ht, List.getElem?_take] at hj
    split at hj
    · rw [hb.cell]; simpa using hj
    · cases hj
theorem libCells_one : ∀ (L : List Lb) (As : List (Option Addr × Nat)), ∀ u ∈ libCells L As, u.oneCell' = true := by
  intro L As u hu
  unfold libCells at hu
  rw [List.mem_flatMap] at hu
  obtain ⟨p, _, hp⟩ := hu
  simp at hp
  rcases hp with rfl | rfl <;> rfl
theorem libCells_set : ∀ {L : List Lb} {As : List (Option Addr × Nat)} (h : As.length = L.length) (k : Nat) (hk : k < L.length) (nd : List ByteArray) (A : Option Addr) (c : Nat),
    (libCells L As).set (k * 2 + 1) (.slice A nd.length c) = libCells (L.set k ⟨L[k].name, nd⟩) (As.set k (A, c))
  | b :: L, a :: As, h, 0, _, nd, A, c => rfl
  | b :: L, a :: As, h, k + 1, hk, nd, A, c => by
    have ih := libCells_set (L := L) (As := As) (by simpa using h) k (by simpa using hk) nd A c
    have e : ∀ (b : Lb) (a : Option Addr × Nat) (L : List Lb) (As : List (Option Addr × Nat)), libCells (b :: L) (a :: As) = .string b.name :: .slice a.1 b.need.length a.2 :: libCells L As := fun _ _ _ _ => rfl
    rw [List.set_cons_succ, List.set_cons_succ, e, e, show (k + 1) * 2 + 1 = (k * 2 + 1) + 1 + 1 by omega, List.set_cons_succ, List.set_cons_succ, ih]
    rfl
  | b :: L, [], h, _, _, _, _, _ => by simp at h
theorem own_setAt {w : World} {B e size n cap g i : Nat} {xs : List Value} (h : w.ownsRow B e size (.slice (some ⟨g, 0, none⟩) n cap) n xs) (u : Value) : (w.setCell ⟨g, i, none⟩ u).ownsRow B e size (.slice (some ⟨g, 0, none⟩) n cap) n (xs.set i u) := by
  obtain ⟨h1, h2⟩ := h
  refine ⟨by simpa using h1, ?_⟩
  rcases h2 with ⟨hv, _⟩ | ⟨g', cap', cur, hv, hB, hg, a, b, c, ht⟩
  · cases hv
  · have e1 : g = g' ∧ cap = cap' := by
      injection hv with q1 q2 q3
      injection q1 with q1
      injection q1 with q1
      exact ⟨q1, q3⟩
    obtain ⟨rfl, rfl⟩ := e1
    have hb : Blk w g e cur := hg
    refine .inr ⟨g, cap, cur.setIfInBounds i u, rfl, hB, hb.set_ i u, a, b, by simpa using c, ?_⟩
    rw [Array.toList_setIfInBounds, List.take_set, ht]
/-- One library's needs are turned. -/
theorem mo_turn {lo g c : Nat} {L : List Lb} {As : List (Option Addr × Nat)} {w : World} (ho : w.ownsRow lo 34 2 (.slice (some ⟨g, 0, none⟩) L.length c) L.length (libCells L As)) (hlen : As.length = L.length) (k : Nat) (hk : k < L.length) (nd : List ByteArray) (A : Option Addr) (cn : Nat)
    (hlow : ∀ i (hi : i < L.length), i ≠ k → ∀ v, But (· = g) w v → StrRow v (As[i]'(by omega)).1 L[i].need) (hAk : ∀ v, But (· = g) w v → StrRow v A nd) :
    Mo lo (.slice (some ⟨g, 0, none⟩) L.length c) (L.set k ⟨L[k].name, nd⟩) (As.set k (A, cn)) (w.setCell ⟨g, k * 2 + 1, none⟩ (.slice A nd.length cn)) := by
  have hb : But (· = g) w (w.setCell ⟨g, k * 2 + 1, none⟩ (.slice A nd.length cn)) := (But.refl (· = g) w).setCell (p := ⟨g, k * 2 + 1, none⟩) (.inl rfl) _
  refine ⟨?_, by simp [hlen], fun i hi => ?_⟩
  · have := own_setAt (i := k * 2 + 1) ho (.slice A nd.length cn)
    rw [libCells_set hlen k hk] at this
    simpa using this
  · have hi2 : i < L.length := by simpa using hi
    rw [List.getElem_set, List.getElem_set]
    by_cases e : k = i
    · rw [if_pos e, if_pos e]; exact hAk _ hb
    · rw [if_neg e, if_neg e]; exact hlow i hi2 (fun h => e h.symm) _ hb
theorem strs_cells {w : World} {ad : Addr} {l : List ByteArray} (h : StrRow w (some ad) l) : ∀ j u, (strs l)[j]? = some u → w.cell? (ad.add j) = some u := by
  intro j u hj
  have hl : j < l.length := by
    have := (List.getElem?_eq_some_iff.1 hj).1
    rw [strs_length] at this; exact this
  obtain ⟨ae, e, _, h2, _⟩ := h j hl
  injection e with e
  subst e
  rw [h2]
  simpa [strs, hl] using hj
theorem strs_one (l : List ByteArray) : ∀ u ∈ strs l, u.oneCell' = true := by
  intro u hu
  obtain ⟨x, _, rfl⟩ := List.mem_map.1 hu
  rfl
theorem SRow.but {S : Nat → Prop} {w w' : World} {A : Option Addr} {l : List ByteArray} (h : SRow w A l) (hb : But S w w') (hA : ∀ g, A = some ⟨g, 0, none⟩ → ¬ S g) : SRow w' A l := by
  rcases h with h | ⟨g, cs, e, h1, h2⟩
  · exact .inl h
  · exact .inr ⟨g, cs, e, h1.but hb (hA g e), h2⟩
theorem two_types {lo g c n : Nat} {X : Nat} {xs : List Value} {l : List ByteArray} {w : World} (ho : w.ownsRow lo 34 2 (.slice (some ⟨g, 0, none⟩) n c) n xs) (hs : SRow w (some ⟨X, 0, none⟩) l) (hl : l ≠ []) : X ≠ g := by
  intro e
  subst e
  rcases hs with h | ⟨g2, cs, e, h1, _⟩
  · exact hl h
  · injection e with e
    injection e with e
    subst e
    rcases ho.2 with ⟨hv, _⟩ | ⟨g3, cap, cur, hv, _, hg3, _⟩
    · cases hv
    · injection hv with e1
      injection e1 with e1
      injection e1 with e1
      subst e1
      unfold Blk at h1
      rw [h1] at hg3
      injection hg3 with hg3
      injection hg3 with _ hg3
      exact absurd hg3 (by decide)
theorem L1_at {L : List Lb} {r : ByteArray} {i : Nat} (h : i < L.length) (hi : i < (L1 L r).length) : (L1 L r)[i] = L[i] := List.getElem_append_left (bs := [⟨newB, [r]⟩]) h
theorem L1_last {L : List Lb} {r : ByteArray} (hi : L.length < (L1 L r).length) : (L1 L r)[L.length] = ⟨newB, [r]⟩ :=
  (List.getElem?_eq_some_iff.1 (show (L1 L r)[L.length]? = some ⟨newB, [r]⟩ from by simp [L1])).2
/-- append(x, l...) of a row of names, nil or not. -/
theorem wpList_append_names {w : World} {ops : Array Oper} {rest : List Oper} {o : Oper} {a : Act} {Q : Exit → Act → World → Prop} (hgd : o.guard = none) (s x : Operand)
    (ho : o.op = .call { callee := .builtin .append, args := #[s, x], argTypes := #[29, 29] }) (base : Nat)
    (v : Value) (n : Nat) (xs : List Value) (hs : a.eval s = v) (hown : w.ownsRow base 9 1 v n xs)
    (An : Option Addr) (nl cn : Nat) (l : List ByteArray) (hx : a.eval x = .slice An nl cn) (hl : l.length = nl) (hr : StrRow w An l) (hnil : An = none → cn = 0) (h63 : n + nl ≤ 100000) (hbase : base ≤ w.heap.size)
    (h : ∀ v' w', w'.ownsRow base 9 1 v' (n + nl) (xs ++ strs l) → w.grownBy w' v.ownBlock → wpList Try.prog ops Q rest (a.put o.dst v') w') : wpList Try.prog ops Q (o :: rest) a w := by
  obtain ⟨j0, hj, hy0, hy1, hy2⟩ := info_parts infoStr
  cases An with
  | some ad =>
    exact wpList_append_own w hgd s x 29 ho base 9 j0 (.string ⟨#[]⟩) 1 16 Try.underlying29 hj hy0 hy1 hy2 rfl (by decide) v n xs hs hown ad nl cn (strs l) hx (by rw [strs_length, hl, Nat.mul_one]) (strs_cells hr) (strs_one l) (by unfold maxLen; omega) (by omega) hbase (fun v' w' h1 h2 _ => h v' w' h1 h2)
  | none =>
    have h0 : l = [] := by
      cases l with
      | nil => rfl
      | cons y l => obtain ⟨_, e, _⟩ := hr 0 (by simp); cases e
    subst h0
    simp only [List.length_nil] at hl
    subst hl
    rw [hnil rfl] at hx
    exact wpList_append_own_none hgd s x 29 ho base 9 j0 1 Try.underlying29 hj v n xs hs hown hx (h v w (by simpa [strs] using hown) (World.grownBy.refl _ _))
end Go.Proofs.Ytinbedplmbnkaad
