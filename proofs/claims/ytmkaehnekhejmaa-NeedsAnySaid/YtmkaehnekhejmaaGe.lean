/- Package needs: gather's meet. -/
import Derived.Test.YtmkaehnekhejmaaGd
namespace Go.Proofs.Ytmkaehnekhejmaa
open Go.RowKit
set_option linter.unusedVariables false
set_option linter.unusedSimpArgs false

/-- Where each name that came up is. -/
def atF (s : Wk) (x : ByteArray) : Option Int := if x ∈ s.N then some ((s.N.idxOf x : Nat) : Int) else if x ∈ s.M then some (-1) else none
structure WOk (L : List Lb) (s : Wk) : Prop where
  nd : s.N.Nodup
  th : ∀ x ∈ s.N, there L x = true
  mis : ∀ x ∈ s.M, there L x = false
theorem WOk.start (L : List Lb) : WOk L ⟨[], [], []⟩ := ⟨List.nodup_nil, by simp, by simp⟩
theorem atF_known {L : List Lb} {s : Wk} {x : ByteArray} {z : Int} (h : WOk L s) (ha : atF s x = some z) (d : Nat) : meet1 L d s x = s := by
  unfold atF at ha
  unfold meet1
  split at ha
  · rename_i hm; rw [if_pos (h.th x hm), if_pos hm]
  · split at ha
    · rename_i hm; rw [h.mis x hm, if_neg (by simp), if_pos hm]
    · cases ha
theorem atF_none {s : Wk} {x : ByteArray} (ha : atF s x = none) : x ∉ s.N ∧ x ∉ s.M := by
  unfold atF at ha
  split at ha
  · cases ha
  · rename_i h1
    split at ha
    · cases ha
    · rename_i h2; exact ⟨h1, h2⟩
theorem atF_push {L : List Lb} {s : Wk} {x : ByteArray} (ha : atF s x = none) (ht : there L x = true) (d : Nat) :
    meet1 L d s x = ⟨s.N ++ [x], s.D ++ [d], s.M⟩ ∧ ∀ y, updM (atF s) x (s.N.length : Nat) y = atF ⟨s.N ++ [x], s.D ++ [d], s.M⟩ y := by
  obtain ⟨h1, h2⟩ := atF_none ha
  refine ⟨by unfold meet1; rw [if_pos ht, if_neg h1], fun y => ?_⟩
  unfold updM atF
  by_cases e : y = x
  · subst e
    rw [if_pos rfl, if_pos (by simp)]
    congr 2
    rw [List.idxOf_append, if_neg h1]
    simp
  · rw [if_neg e]
    by_cases hm : y ∈ s.N
    · rw [if_pos hm, if_pos (List.mem_append_left _ hm), List.idxOf_append, if_pos hm]
    · have h3 : ¬ y ∈ s.N ++ [x] := by simp [hm, e]
      show (if y ∈ s.N then _ else _) = (if y ∈ s.N ++ [x] then _ else _)
      rw [if_neg hm, if_neg h3]
theorem atF_miss {L : List Lb} {s : Wk} {x : ByteArray} (ha : atF s x = none) (ht : there L x = false) (d : Nat) :
    meet1 L d s x = ⟨s.N, s.D, s.M ++ [x]⟩ ∧ ∀ y, updM (atF s) x (-1) y = atF ⟨s.N, s.D, s.M ++ [x]⟩ y := by
  obtain ⟨h1, h2⟩ := atF_none ha
  refine ⟨by unfold meet1; rw [ht, if_neg (by simp), if_neg h2], fun y => ?_⟩
  unfold updM atF
  by_cases e : y = x
  · subst e
    rw [if_pos rfl, if_neg h1, if_pos (by simp)]
  · rw [if_neg e]
    by_cases hm : y ∈ s.N
    · rw [if_pos hm, if_pos hm]
    · rw [if_neg hm, if_neg hm]
      by_cases hm2 : y ∈ s.M
      · rw [if_pos hm2, if_pos (List.mem_append_left _ hm2)]
      · rw [if_neg hm2, if_neg (by simp [hm2, e])]
theorem WOk.meet {L : List Lb} {s : Wk} (h : WOk L s) (d : Nat) (x : ByteArray) : WOk L (meet1 L d s x) := by
  cases ha : atF s x with
  | some z => rw [atF_known h ha]; exact h
  | none =>
    obtain ⟨h1, h2⟩ := atF_none ha
    cases ht : there L x with
    | true =>
      rw [(atF_push ha ht d).1]
      refine ⟨?_, fun y hy => ?_, h.mis⟩
      · show (s.N ++ [x]).Nodup
        rw [List.nodup_append]
        exact ⟨h.nd, by simp, fun a hq b hb => by simp at hb; subst hb; exact fun e => h1 (e ▸ hq)⟩
      · rcases List.mem_append.1 hy with h3 | h3
        · exact h.th y h3
        · simp at h3; rw [h3]; exact ht
    | false =>
      rw [(atF_miss ha ht d).1]
      refine ⟨h.nd, h.th, fun y hy => ?_⟩
      rcases List.mem_append.1 hy with h3 | h3
      · exact h.mis y h3
      · simp at h3; rw [h3]; exact ht
theorem WOk.meets {L : List Lb} (d : Nat) : ∀ (l : List ByteArray) (s : Wk), WOk L s → WOk L (meetL L d s l)
  | [], s, h => h
  | x :: l, s, h => WOk.meets d l _ (h.meet d x)
theorem meetL_snoc (L : List Lb) (d : Nat) (s : Wk) (l : List ByteArray) (x : ByteArray) : meetL L d s (l ++ [x]) = meet1 L d (meetL L d s l) x := by simp [meetL, List.foldl_append]
theorem meet1_size (L : List Lb) (d : Nat) (s : Wk) (x : ByteArray) : (meet1 L d s x).N.length + (meet1 L d s x).M.length ≤ s.N.length + s.M.length + 1 ∧ (s.D.length = s.N.length → (meet1 L d s x).D.length = (meet1 L d s x).N.length) := by
  unfold meet1
  split <;> split <;> simp <;> omega
theorem meetL_size (L : List Lb) (d : Nat) : ∀ (l : List ByteArray) (s : Wk), (meetL L d s l).N.length + (meetL L d s l).M.length ≤ s.N.length + s.M.length + l.length ∧ (s.D.length = s.N.length → (meetL L d s l).D.length = (meetL L d s l).N.length)
  | [], s => ⟨Nat.le_refl _, fun h => h⟩
  | x :: l, s => by
    have h1 := meetL_size L d l (meet1 L d s x)
    have h2 := meet1_size L d s x
    have e : meetL L d s (x :: l) = meetL L d (meet1 L d s x) l := rfl
    rw [e, List.length_cons]
    exact ⟨by omega, fun h => h1.2 (h2.2 h)⟩

/-- Three rows of the call's own. -/
structure R3 (B : Nat) (v1 v2 v3 : Value) (X1 X2 X3 : List Value) (cur : World) : Prop where
  a : cur.ownsRow B 3 1 v1 X1.length X1
  b : cur.ownsRow B 3 1 v2 X2.length X2
  c : cur.ownsRow B 9 1 v3 X3.length X3
  n12 : ∀ g, v1.ownBlock = some g → v2.ownBlock ≠ some g
  n13 : ∀ g, v1.ownBlock = some g → v3.ownBlock ≠ some g
  n23 : ∀ g, v2.ownBlock = some g → v3.ownBlock ≠ some g
theorem own_belowG {w w' : World} {B e size n : Nat} {v : Value} {xs : List Value} (h : w.ownsRow B e size v n xs) (hb : Below w.heap.size w w') : w'.ownsRow B e size v n xs := own_below h hb
section
variable {cur c2 w1 : World} {B : Nat} {v1 v2 v3 v' : Value} {X1 X2 X3 : List Value} {x : Value}
theorem R3.start (B : Nat) (w : World) : R3 B (.slice none 0 0) (.slice none 0 0) (.slice none 0 0) [] [] [] w :=
  ⟨World.ownsRow_nil _ _ _ _, World.ownsRow_nil _ _ _ _, World.ownsRow_nil _ _ _ _, (fun g h => by cases h), (fun g h => by cases h), (fun g h => by cases h)⟩
theorem R3.on (r : R3 B v1 v2 v3 X1 X2 X3 cur) (hb : Below cur.heap.size cur c2) : R3 B v1 v2 v3 X1 X2 X3 c2 := ⟨own_below r.a hb, own_below r.b hb, own_below r.c hb, r.n12, r.n13, r.n23⟩
theorem R3.but {S : Nat → Prop} (r : R3 B v1 v2 v3 X1 X2 X3 cur) (hb : But S cur c2) (hS : ∀ k, S k → k < B) : R3 B v1 v2 v3 X1 X2 X3 c2 :=
  ⟨own_butG r.a hb (fun k hk e => by have := (r.a.lt k hk).1; have := hS k e; omega), own_butG r.b hb (fun k hk e => by have := (r.b.lt k hk).1; have := hS k e; omega), own_butG r.c hb (fun k hk e => by have := (r.c.lt k hk).1; have := hS k e; omega), r.n12, r.n13, r.n23⟩
theorem own_other {e1 e2 n1 n2 : Nat} {u1 u2 : Value} {Y2 : List Value} (h : cur.ownsRow B e2 1 u2 n2 Y2) (h2 : Below cur.heap.size cur c2) (hg : c2.grownBy w1 u1.ownBlock) (hn : ∀ g, u1.ownBlock = some g → u2.ownBlock ≠ some g) : w1.ownsRow B e2 1 u2 n2 Y2 := by
  refine (own_below h h2).kept hg ?_
  rcases h' : u2.ownBlock with _ | g
  · exact .inl rfl
  · exact .inr fun e => hn g e.symm h'
theorem ne_new {e2 n2 : Nat} {u1 u2 u' : Value} {Y2 : List Value} (h : cur.ownsRow B e2 1 u2 n2 Y2) (h2 : Below cur.heap.size cur c2) (hn : ∀ g, u1.ownBlock = some g → u2.ownBlock ≠ some g) (hat : u'.ownBlock = u1.ownBlock ∨ u'.ownBlock = some c2.heap.size) : ∀ g, u'.ownBlock = some g → u2.ownBlock ≠ some g := by
  intro g hv he
  rcases hat with h' | h'
  · exact hn g (h'.symm.trans hv) he
  · have h1 := (h.lt g he).2
    have h3 := h2.size
    rw [h'] at hv
    injection hv with hv
    omega
theorem R3.pushA (r : R3 B v1 v2 v3 X1 X2 X3 cur) (h2 : Below cur.heap.size cur c2) (ho : w1.ownsRow B 3 1 v' (X1.length + 1) (X1 ++ [x])) (hg : c2.grownBy w1 v1.ownBlock) (hat : v'.ownBlock = v1.ownBlock ∨ v'.ownBlock = some c2.heap.size) :
    R3 B v' v2 v3 (X1 ++ [x]) X2 X3 w1 :=
  ⟨by simpa using ho, own_other (e1 := 0) (n1 := 0) r.b h2 hg r.n12, own_other (e1 := 0) (n1 := 0) r.c h2 hg r.n13, ne_new r.b h2 r.n12 hat, ne_new r.c h2 r.n13 hat, r.n23⟩
theorem R3.pushB (r : R3 B v1 v2 v3 X1 X2 X3 cur) (h2 : Below cur.heap.size cur c2) (ho : w1.ownsRow B 3 1 v' (X2.length + 1) (X2 ++ [x])) (hg : c2.grownBy w1 v2.ownBlock) (hat : v'.ownBlock = v2.ownBlock ∨ v'.ownBlock = some c2.heap.size) :
    R3 B v1 v' v3 X1 (X2 ++ [x]) X3 w1 :=
  ⟨own_other (e1 := 0) (n1 := 0) r.a h2 hg (fun g h e => r.n12 g e h), by simpa using ho, own_other (e1 := 0) (n1 := 0) r.c h2 hg r.n23, fun g h e => ne_new r.a h2 (fun g h e => r.n12 g e h) hat g e h, r.n13, ne_new r.c h2 r.n23 hat⟩
theorem R3.pushC (r : R3 B v1 v2 v3 X1 X2 X3 cur) (h2 : Below cur.heap.size cur c2) (ho : w1.ownsRow B 9 1 v' (X3.length + 1) (X3 ++ [x])) (hg : c2.grownBy w1 v3.ownBlock) (hat : v'.ownBlock = v3.ownBlock ∨ v'.ownBlock = some c2.heap.size) :
    R3 B v1 v2 v' X1 X2 (X3 ++ [x]) w1 :=
  ⟨own_other (e1 := 0) (n1 := 0) r.a h2 hg (fun g h e => r.n13 g e h), own_other (e1 := 0) (n1 := 0) r.b h2 hg (fun g h e => r.n23 g e h), by simpa using ho, r.n12, fun g h e => ne_new r.a h2 (fun g h e => r.n13 g e h) hat g e h, fun g h e => ne_new r.b h2 (fun g h e => r.n23 g e h) hat g e h⟩
end
/-- A closure as it lies. -/
structure Cl (lo pc MC : Nat) (L : List Lb) (v1 v2 v3 : Value) (s : Wk) (w : World) : Prop where
  blk : Blk w pc 49 #[v1, v2, v3, .map (some MC)]
  rows : R3 lo v1 v2 v3 (nints (s.N.map (posL L))) (nints s.D) (strs s.M) w
  map : MapS MC (s.N.length + s.M.length) (atF s) w
  lt : lo ≤ w.heap.size
/-- What meet writes to. -/
def CS (lo pc MC : Nat) (k : Nat) : Prop := k = pc ∨ k = MC ∨ lo ≤ k
end Go.Proofs.Ytmkaehnekhejmaa
