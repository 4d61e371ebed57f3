/- The reference of layer 12: Of. -/
import Derived.Test.YtmkaehnekhejmaaGx
namespace Go.Proofs.Ytmkaehnekhejmaa
open Go.RowKit
set_option linter.unusedVariables false
set_option linter.unusedSimpArgs false

/-- Three rows of the call's own, of names, numbers and names. -/
structure Rw (B : Nat) (v1 v2 v3 : Value) (X1 X2 X3 : List Value) (cur : World) : Prop where
  a : cur.ownsRow B 9 1 v1 X1.length X1
  b : cur.ownsRow B 3 1 v2 X2.length X2
  c : cur.ownsRow B 9 1 v3 X3.length X3
  n12 : ∀ g, v1.ownBlock = some g → v2.ownBlock ≠ some g
  n13 : ∀ g, v1.ownBlock = some g → v3.ownBlock ≠ some g
  n23 : ∀ g, v2.ownBlock = some g → v3.ownBlock ≠ some g
section
variable {cur c2 w1 : World} {B : Nat} {v1 v2 v3 v' : Value} {X1 X2 X3 : List Value} {x : Value}
theorem Rw.start (B : Nat) (w : World) : Rw B (.slice none 0 0) (.slice none 0 0) (.slice none 0 0) [] [] [] w :=
  ⟨World.ownsRow_nil _ _ _ _, World.ownsRow_nil _ _ _ _, World.ownsRow_nil _ _ _ _, (fun g h => by cases h), (fun g h => by cases h), (fun g h => by cases h)⟩
theorem Rw.on (r : Rw B v1 v2 v3 X1 X2 X3 cur) (hb : Below cur.heap.size cur c2) : Rw B v1 v2 v3 X1 X2 X3 c2 := ⟨own_below r.a hb, own_below r.b hb, own_below r.c hb, r.n12, r.n13, r.n23⟩
theorem Rw.but {S : Nat → Prop} (r : Rw B v1 v2 v3 X1 X2 X3 cur) (hb : But S cur c2) (hS : ∀ k, S k → k < B) : Rw B v1 v2 v3 X1 X2 X3 c2 :=
  ⟨own_butG r.a hb (fun k hk e => by have := (r.a.lt k hk).1; have := hS k e; omega), own_butG r.b hb (fun k hk e => by have := (r.b.lt k hk).1; have := hS k e; omega), own_butG r.c hb (fun k hk e => by have := (r.c.lt k hk).1; have := hS k e; omega), r.n12, r.n13, r.n23⟩
theorem Rw.pushA (r : Rw B v1 v2 v3 X1 X2 X3 cur) (h2 : Below cur.heap.size cur c2) (ho : w1.ownsRow B 9 1 v' (X1.length + 1) (X1 ++ [x])) (hg : c2.grownBy w1 v1.ownBlock) (hat : v'.ownBlock = v1.ownBlock ∨ v'.ownBlock = some c2.heap.size) :
    Rw B v' v2 v3 (X1 ++ [x]) X2 X3 w1 :=
  ⟨by simpa using ho, own_other (e1 := 0) (n1 := 0) r.b h2 hg r.n12, own_other (e1 := 0) (n1 := 0) r.c h2 hg r.n13, ne_new r.b h2 r.n12 hat, ne_new r.c h2 r.n13 hat, r.n23⟩
theorem Rw.pushB (r : Rw B v1 v2 v3 X1 X2 X3 cur) (h2 : Below cur.heap.size cur c2) (ho : w1.ownsRow B 3 1 v' (X2.length + 1) (X2 ++ [x])) (hg : c2.grownBy w1 v2.ownBlock) (hat : v'.ownBlock = v2.ownBlock ∨ v'.ownBlock = some c2.heap.size) :
    Rw B v1 v' v3 X1 (X2 ++ [x]) X3 w1 :=
  ⟨own_other (e1 := 0) (n1 := 0) r.a h2 hg (fun g h e => r.n12 g e h), by simpa using ho, own_other (e1 := 0) (n1 := 0) r.c h2 hg r.n23, fun g h e => ne_new r.a h2 (fun g h e => r.n12 g e h) hat g e h, r.n13, ne_new r.c h2 r.n23 hat⟩
theorem Rw.pushC (r : Rw B v1 v2 v3 X1 X2 X3 cur) (h2 : Below cur.heap.size cur c2) (ho : w1.ownsRow B 9 1 v' (X3.length + 1) (X3 ++ [x])) (hg : c2.grownBy w1 v3.ownBlock) (hat : v'.ownBlock = v3.ownBlock ∨ v'.ownBlock = some c2.heap.size) :
    Rw B v1 v2 v' X1 X2 (X3 ++ [x]) w1 :=
  ⟨own_other (e1 := 0) (n1 := 0) r.a h2 hg (fun g h e => r.n13 g e h), own_other (e1 := 0) (n1 := 0) r.b h2 hg (fun g h e => r.n23 g e h), by simpa using ho, r.n12, fun g h e => ne_new r.a h2 (fun g h e => r.n13 g e h) hat g e h, fun g h e => ne_new r.b h2 (fun g h e => r.n23 g e h) hat g e h⟩
end

/-- A Walk as it lies, at pw. -/
structure Ow (lo pw : Nat) (v1 v2 v3 : Value) (N : List ByteArray) (D : List Nat) (M : List ByteArray) (w : World) : Prop where
  blk : Blk w pw 35 #[v1, v2, v3]
  rows : Rw lo v1 v2 v3 (strs N) (nints D) (strs M) w
  lt : lo ≤ w.heap.size
def OS (lo pw : Nat) (k : Nat) : Prop := k = pw ∨ lo ≤ k
theorem Ow.drewN {lo pw : Nat} {v1 v2 v3 : Value} {N M : List ByteArray} {D : List Nat} {w : World} (h : Ow lo pw v1 v2 v3 N D M w) (q : Nat) : Ow lo pw v1 v2 v3 N D M (w.drewN q) := ⟨h.blk.drewN q, h.rows.but ((But.refl (fun _ => False) w).drewN q) (fun _ h => h.elim), h.lt⟩
section
variable {lo pw : Nat} {v1 v2 v3 v' : Value} {N M : List ByteArray} {D : List Nat} {x : ByteArray} {d : Nat} {wr w1 : World} {o : Obj}
theorem Ow.stored (h : Ow lo pw v1 v2 v3 N D M wr) (hp : pw < lo) {u : Value} (hu : ∀ k, u.ownBlock = some k → lo ≤ k) (hg : ((wr.alloc o).drew).grownBy w1 u.ownBlock) (i : Nat) :
    Blk w1 pw 35 #[v1, v2, v3] ∧ But (OS lo pw) wr (w1.setCell ⟨pw, i, none⟩ v') ∧ But (· = pw) w1 (w1.setCell ⟨pw, i, none⟩ v') ∧ lo ≤ (w1.setCell ⟨pw, i, none⟩ v').heap.size := by
  have b1 := (h.blk.alloc o).drew.grown hg (fun e => by have := hu pw e.symm; omega)
  have hB : But (OS lo pw) wr w1 := (((But.refl _ wr).alloc o).drew).grown hg (fun k e => .inl (.inr (hu k e)))
  have hB2 : But (OS lo pw) wr (w1.setCell ⟨pw, i, none⟩ v') := hB.setCell (.inl (.inl rfl)) _
  exact ⟨b1, hB2, (But.refl (· = pw) w1).setCell (p := ⟨pw, i, none⟩) (.inl rfl) v', Nat.le_trans h.lt hB2.size⟩
theorem Ow.pushN (h : Ow lo pw v1 v2 v3 N D M wr) (hp : pw < lo) (ho : w1.ownsRow lo 9 1 v' (N.length + 1) (strs N ++ [.string x])) (hg : ((wr.alloc o).drew).grownBy w1 v1.ownBlock) (hat : v'.ownBlock = v1.ownBlock ∨ v'.ownBlock = some (wr.heap.size + 1)) :
    Ow lo pw v' v2 v3 (N ++ [x]) D M (w1.setCell ⟨pw, 0, none⟩ v') ∧ But (OS lo pw) wr (w1.setCell ⟨pw, 0, none⟩ v') ∧ w1.cell? ⟨pw, 0, none⟩ = some v1 ∧ w1.frozen? ⟨pw, 0, none⟩ = false := by
  obtain ⟨b1, hB, hs, hl⟩ := h.stored (v' := v') hp (fun k hk => (h.rows.a.lt k hk).1) hg 0
  have r1 := h.rows.pushA ((Below.refl _ _).alloc (Nat.le_refl _) o |>.drew) (by rw [strs_length]; exact ho) hg (by simpa using hat)
  refine ⟨⟨b1.set_ 0 _, by rw [strs_snoc]; exact r1.but hs (fun k hk => by have hk : k = pw := hk; omega), hl⟩, hB, b1.cell 0, b1.frozen 0⟩
theorem Ow.pushD (h : Ow lo pw v1 v2 v3 N D M wr) (hp : pw < lo) (ho : w1.ownsRow lo 3 1 v' (D.length + 1) (nints D ++ [.int .i64 (d : Int)])) (hg : ((wr.alloc o).drew).grownBy w1 v2.ownBlock) (hat : v'.ownBlock = v2.ownBlock ∨ v'.ownBlock = some (wr.heap.size + 1)) :
    Ow lo pw v1 v' v3 N (D ++ [d]) M (w1.setCell ⟨pw, 1, none⟩ v') ∧ But (OS lo pw) wr (w1.setCell ⟨pw, 1, none⟩ v') ∧ w1.cell? ⟨pw, 1, none⟩ = some v2 ∧ w1.frozen? ⟨pw, 1, none⟩ = false := by
  obtain ⟨b1, hB, hs, hl⟩ := h.stored (v' := v') hp (fun k hk => (h.rows.b.lt k hk).1) hg 1
  have r1 := h.rows.pushB ((Below.refl _ _).alloc (Nat.le_refl _) o |>.drew) (by rw [nints_length]; exact ho) hg (by simpa using hat)
  refine ⟨⟨b1.set_ 1 _, by rw [nints_snoc]; exact r1.but hs (fun k hk => by have hk : k = pw := hk; omega), hl⟩, hB, b1.cell 1, b1.frozen 1⟩
theorem Ow.pushM (h : Ow lo pw v1 v2 v3 N D M wr) (hp : pw < lo) (ho : w1.ownsRow lo 9 1 v' (M.length + 1) (strs M ++ [.string x])) (hg : ((wr.alloc o).drew).grownBy w1 v3.ownBlock) (hat : v'.ownBlock = v3.ownBlock ∨ v'.ownBlock = some (wr.heap.size + 1)) :
    Ow lo pw v1 v2 v' N D (M ++ [x]) (w1.setCell ⟨pw, 2, none⟩ v') ∧ But (OS lo pw) wr (w1.setCell ⟨pw, 2, none⟩ v') ∧ w1.cell? ⟨pw, 2, none⟩ = some v3 ∧ w1.frozen? ⟨pw, 2, none⟩ = false := by
  obtain ⟨b1, hB, hs, hl⟩ := h.stored (v' := v') hp (fun k hk => (h.rows.c.lt k hk).1) hg 2
  have r1 := h.rows.pushC ((Below.refl _ _).alloc (Nat.le_refl _) o |>.drew) (by rw [strs_length]; exact ho) hg (by simpa using hat)
  refine ⟨⟨b1.set_ 2 _, by rw [strs_snoc]; exact r1.but hs (fun k hk => by have hk : k = pw := hk; omega), hl⟩, hB, b1.cell 2, b1.frozen 2⟩
end
end Go.Proofs.Ytmkaehnekhejmaa
