/- Layer 16: what the laws of steps share: a region, an entry and what is asked lie, and the table. -/
import Derived.Test.YtdfokgfcohfgeaaDoorMG
namespace Go.Proofs.YtdfokgfcohfgeaaDoor
open Go.RowKit Go.ChangeShapes Go.WideShapes Go.Deep
set_option linter.unusedVariables false
set_option linter.unusedSimpArgs false

/-- The region at R, the entry behind it, what is asked behind that. -/
structure Tri (w : World) (R : Nat) (r : Rg) (s : Sl) (q : Aq) (W : World) : Prop where
  br : Blk W R 23 r.cs
  bs : Blk W (R + 1) 25 s.cs
  bq : Blk W (R + 1 + 1) 27 q.cs
  tab : Askd W
  below : Below w.heap.size w W
  eq : R = w.heap.size
theorem Tri.on {w : World} {R : Nat} {r : Rg} {s : Sl} {q : Aq} {W W' : World} (h : Tri w R r s q W) (hb : Below W.heap.size W W') : Tri w R r s q W' :=
  ⟨h.br.below hb h.br.lt, h.bs.below hb h.bs.lt, h.bq.below hb h.bq.lt, h.tab.on hb, h.below.trans (hb.mono h.below.size), h.eq⟩
theorem Tri.drewN {w : World} {R : Nat} {r : Rg} {s : Sl} {q : Aq} {W : World} (h : Tri w R r s q W) (n : Nat) : Tri w R r s q (W.drewN n) :=
  ⟨h.br.drewN n, h.bs.drewN n, h.bq.drewN n, h.tab.drewN n, belowM h.below n, h.eq⟩
theorem Tri.drew {w : World} {R : Nat} {r : Rg} {s : Sl} {q : Aq} {W : World} (h : Tri w R r s q W) : Tri w R r s q W.drew :=
  ⟨h.br.drew, h.bs.drew, h.bq.drew, ⟨h.tab.tab⟩, h.below.drew, h.eq⟩
theorem Tri.alloc {w : World} {R : Nat} {r : Rg} {s : Sl} {q : Aq} {W : World} (h : Tri w R r s q W) (o : Obj) : Tri w R r s q (W.alloc o) := h.on ((Below.refl _ _).alloc (Nat.le_refl _) _)
theorem Tri.new {w : World} (hT : Askd w) (r : Rg) (s : Sl) (q : Aq) : Tri w w.heap.size r s q (((w.alloc (.cells r.cs 23)).alloc (.cells s.cs 25)).alloc (.cells q.cs 27)) := by
  have h0 := (Below.refl w.heap.size w).alloc (Nat.le_refl _) (.cells r.cs 23)
  have h1 := h0.alloc h0.size (.cells s.cs 25)
  have h2 := h1.alloc h1.size (.cells q.cs 27)
  refine ⟨((Blk.new _ _ _).alloc _).alloc _, ?_, ?_, hT.on h2, h2, rfl⟩
  · have := (Blk.new (w.alloc (.cells r.cs 23)) 25 s.cs).alloc (.cells q.cs 27)
    simpa using this
  · have := Blk.new ((w.alloc (.cells r.cs 23)).alloc (.cells s.cs 25)) 27 q.cs
    simpa using this
theorem Tri.set_ {w : World} {R : Nat} {r : Rg} {s : Sl} {q : Aq} {W : World} (h : Tri w R r s q W) (ht : 0 < w.heap.size) (s' : Sl) :
    Tri w R r s' q (((((W.setCell ⟨R + 1, 0, none⟩ (.bool s'.h)).setCell ⟨R + 1, 1, none⟩ (.bool s'.w)).setCell ⟨R + 1, 2, none⟩ (.bool s'.c)).setCell ⟨R + 1, 3, none⟩ (.bool s'.o)).setCell ⟨R + 1, 4, none⟩ (.int .i64 s'.n)) :=
  ⟨sl_set_farM h.br (by omega) s', sl_setM (show Blk W (R + 1) 25 #[.bool s.h, .bool s.w, .bool s.c, .bool s.o, .int .i64 s.n] from h.bs) s', sl_set_farM h.bq (by omega) s',
    h.tab.below (sl_set_belowM (Below.refl w.heap.size W) (by have := h.eq; omega) s') ht, sl_set_belowM h.below (by have := h.eq; omega) s', h.eq⟩
theorem Tri.cells {w : World} {R : Nat} {f t p k fl pg n u z a g : Int} {h sw c o th : Bool} {W : World} (H : Tri w R ⟨f, t, p, k, fl, pg⟩ ⟨h, sw, c, o, n⟩ ⟨th, u, z, a, g⟩ W) :
    W.cell? ⟨R, 0, none⟩ = some (.int .i64 f) ∧ W.cell? ⟨R, 1, none⟩ = some (.int .i64 t) ∧ W.cell? ⟨R, 2, none⟩ = some (.int .i64 p) ∧ W.cell? ⟨R, 3, none⟩ = some (.int .i64 k) ∧ W.cell? ⟨R, 4, none⟩ = some (.int .i64 fl) ∧ W.cell? ⟨R, 5, none⟩ = some (.int .i64 pg) ∧
    W.cell? ⟨R + 1, 0, none⟩ = some (.bool h) ∧ W.cell? ⟨R + 1, 1, none⟩ = some (.bool sw) ∧ W.cell? ⟨R + 1, 2, none⟩ = some (.bool c) ∧ W.cell? ⟨R + 1, 3, none⟩ = some (.bool o) ∧ W.cell? ⟨R + 1, 4, none⟩ = some (.int .i64 n) ∧
    W.cell? ⟨R + 1 + 1, 0, none⟩ = some (.bool th) ∧ W.cell? ⟨R + 1 + 1, 1, none⟩ = some (.int .i64 u) ∧ W.cell? ⟨R + 1 + 1, 2, none⟩ = some (.int .i64 z) :=
  ⟨H.br.at_ 0 _ rfl, H.br.at_ 1 _ rfl, H.br.at_ 2 _ rfl, H.br.at_ 3 _ rfl, H.br.at_ 4 _ rfl, H.br.at_ 5 _ rfl, H.bs.at_ 0 _ rfl, H.bs.at_ 1 _ rfl, H.bs.at_ 2 _ rfl, H.bs.at_ 3 _ rfl, H.bs.at_ 4 _ rfl, H.bq.at_ 0 _ rfl, H.bq.at_ 1 _ rfl, H.bq.at_ 2 _ rfl⟩
theorem Tri.frozen {w : World} {R : Nat} {r : Rg} {s : Sl} {q : Aq} {W : World} (H : Tri w R r s q W) :
    W.frozen? ⟨R + 1, 0, none⟩ = false ∧ W.frozen? ⟨R + 1, 1, none⟩ = false ∧ W.frozen? ⟨R + 1, 2, none⟩ = false ∧ W.frozen? ⟨R + 1, 3, none⟩ = false ∧ W.frozen? ⟨R + 1, 4, none⟩ = false :=
  ⟨H.bs.frozen 0, H.bs.frozen 1, H.bs.frozen 2, H.bs.frozen 3, H.bs.frozen 4⟩
/-- An entry that may be, or none. -/
def Sl.orNo (s : Sl) : Sl := if s.may = true then s else Sl.zero
theorem Sl.orNo_ok (s : Sl) : s.orNo.Ok := by
  unfold Sl.orNo
  by_cases h : s.may = true
  · rw [if_pos h]; exact .inr h
  · rw [if_neg h]; exact .inl rfl
end Go.Proofs.YtdfokgfcohfgeaaDoor
