/- A hash table of symbols: what is put into it, of no program. -/
import Derived.Test.YtkembimfkoganaaYA
import Derived.Test.YtkembimfkoganaaYF
namespace Go.Proofs.Ytkembimfkoganaa
open Go.RowKit
set_option linter.unusedVariables false
set_option linter.unusedSimpArgs false

/-- How many first ones there are. -/
def bN (n : Nat) : Nat := max n 1
theorem bN_pos (n : Nat) : 0 < bN n := by unfold bN; omega
def nmT (ns : List ByteArray) (i : Nat) : ByteArray := ns.getD i ⟨#[]⟩
def hN (ns : List ByteArray) (i : Nat) : Nat := hashL (nmT ns i).data.toList % bN ns.length
theorem hN_lt (ns : List ByteArray) (i : Nat) : hN ns i < bN ns.length := Nat.mod_lt _ (bN_pos _)
def putIn (ns : List ByteArray) (i : Nat) : Bool := decide (0 < i) && decide ((nmT ns i).size ≠ 0)
/-- The first ones and the next ones, so many symbols on. -/
def stT (ns : List ByteArray) : Nat → List Nat × List Nat
  | 0 => (List.replicate (bN ns.length) 0, List.replicate ns.length 0)
  | i + 1 => if putIn ns i then ((stT ns i).1.set (hN ns i) i, (stT ns i).2.set i ((stT ns i).1.getD (hN ns i) 0)) else stT ns i
theorem stT_l1 (ns : List ByteArray) : ∀ i, (stT ns i).1.length = bN ns.length
  | 0 => by simp [stT]
  | i + 1 => by unfold stT; split <;> simp [stT_l1 ns i]
theorem stT_l2 (ns : List ByteArray) : ∀ i, (stT ns i).2.length = ns.length
  | 0 => by simp [stT]
  | i + 1 => by unfold stT; split <;> simp [stT_l2 ns i]
theorem getD_mem_or {l : List Nat} (k : Nat) : l.getD k 0 = 0 ∨ l.getD k 0 ∈ l := by
  rcases Nat.lt_or_ge k l.length with h | h
  · right
    rw [List.getD_eq_getElem?_getD, List.getElem?_eq_getElem h]
    exact List.getElem_mem h
  · left
    rw [List.getD_eq_getElem?_getD, List.getElem?_eq_none h]
    rfl
theorem stT_le (ns : List ByteArray) : ∀ i, (∀ x ∈ (stT ns i).1, x ≤ i) ∧ (∀ x ∈ (stT ns i).2, x ≤ i)
  | 0 => by
    unfold stT
    constructor <;> (intro x hx; have := List.eq_of_mem_replicate hx; omega)
  | i + 1 => by
    obtain ⟨h1, h2⟩ := stT_le ns i
    unfold stT
    split
    · constructor
      · intro x hx
        rcases List.mem_or_eq_of_mem_set hx with h | h
        · have := h1 x h; omega
        · omega
      · intro x hx
        rcases List.mem_or_eq_of_mem_set hx with h | h
        · have := h2 x h; omega
        · rcases getD_mem_or (l := (stT ns i).1) (hN ns i) with h' | h'
          · omega
          · have := h1 _ h'; omega
    · exact ⟨fun x hx => by have := h1 x hx; omega, fun x hx => by have := h2 x hx; omega⟩
/-- The table's bytes. -/
def tabY (ns : List ByteArray) : List UInt8 := nbytes [bN ns.length, ns.length] ++ nbytes (stT ns ns.length).1 ++ nbytes (stT ns ns.length).2
theorem tabY_length (ns : List ByteArray) : (tabY ns).length = 8 + 4 * bN ns.length + 4 * ns.length := by
  unfold tabY
  rw [List.length_append, List.length_append, nbytes_length, nbytes_length, nbytes_length, stT_l1, stT_l2]
  rfl

/-- The two rows, while they are filled. -/
structure Ys (w : World) (R g1 g2 : Nat) (F N : List Nat) (W : World) : Prop where
  f : Blk W g1 3 (ncells F)
  n : Blk W g2 3 (ncells N)
  ne : g1 ≠ g2
  r1 : R ≤ g1
  r2 : R ≤ g2
  bel : Below R w W
section
variable {w W W' : World} {R g1 g2 : Nat} {F N : List Nat}
theorem Ys.set1 (h : Ys w R g1 g2 F N W) (k x : Nat) : Ys w R g1 g2 (F.set k x) N (W.setCell ⟨g1, k, none⟩ (.int .i64 (x : Int))) :=
  ⟨by rw [← ncells_set]; exact h.f.set_ k _, h.n.far (p := ⟨g1, k, none⟩) (fun e => h.ne e.symm) _, h.ne, h.r1, h.r2, h.bel.setCell (p := ⟨g1, k, none⟩) h.r1 _⟩
theorem Ys.set2 (h : Ys w R g1 g2 F N W) (k x : Nat) : Ys w R g1 g2 F (N.set k x) (W.setCell ⟨g2, k, none⟩ (.int .i64 (x : Int))) :=
  ⟨h.f.far (p := ⟨g2, k, none⟩) h.ne _, by rw [← ncells_set]; exact h.n.set_ k _, h.ne, h.r1, h.r2, h.bel.setCell (p := ⟨g2, k, none⟩) h.r2 _⟩
theorem Ys.below (h : Ys w R g1 g2 F N W) (hR : R ≤ W.heap.size) (hb : Below W.heap.size W W') : Ys w R g1 g2 F N W' :=
  ⟨h.f.below hb h.f.lt, h.n.below hb h.n.lt, h.ne, h.r1, h.r2, h.bel.trans (hb.mono hR)⟩
theorem Ys.start1 (w : World) (F N : List Nat) : Ys w w.heap.size w.heap.size (w.heap.size + 1) F N ((w.alloc (.cells (ncells F) 3)).alloc (.cells (ncells N) 3)).drew :=
  ⟨((Blk.new w _ _).alloc _).drew, by have := Blk.new (w.alloc (.cells (ncells F) 3)) 3 (ncells N); simpa using this.drew, by omega, Nat.le_refl _, by omega, (((Below.refl _ _).alloc (Nat.le_refl _) _).alloc (by simp) _).drew⟩
theorem Ys.start2 (w : World) (F N : List Nat) : Ys w w.heap.size (w.heap.size + 1) w.heap.size F N ((w.alloc (.cells (ncells N) 3)).alloc (.cells (ncells F) 3)).drew :=
  ⟨by have := Blk.new (w.alloc (.cells (ncells N) 3)) 3 (ncells F); simpa using this.drew, ((Blk.new w _ _).alloc _).drew, by omega, by omega, Nat.le_refl _, (((Below.refl _ _).alloc (Nat.le_refl _) _).alloc (by simp) _).drew⟩
end
end Go.Proofs.Ytkembimfkoganaa
