/- The reference's pages as they lie. -/
import Derived.Test.YtmknkdfdkanijaaUS
import Derived.StillTailTactics
namespace Go.Proofs.Ytmknkdfdkanijaa
open Go.RowKit Go.ChangeShapes Go.WideShapes Go.Deep
set_option linter.unusedVariables false
set_option linter.unusedSimpArgs false

/-- The pages at ad: of each one the region, and whether it is some region's. -/
def OwnR (w : World) (ad : Addr) (f : Nat → Rg × Bool) : Prop := ∃ (g : Nat) (cs : Array Value), ad = ⟨g, 0, none⟩ ∧ Blk w g 45 cs ∧ cs.size = 28672 ∧ ∀ p, p < 4096 → (∀ j, j < 6 → cs[p * 7 + j]? = ((f p).1.cs)[j]?) ∧ cs[p * 7 + 6]? = some (.bool (f p).2)
/-- One page is another. -/
def updF (f : Nat → Rg × Bool) (p : Nat) (x : Rg × Bool) : Nat → Rg × Bool := fun q => if q = p then x else f q
theorem OwnR.below {w w' : World} {ad : Addr} {f : Nat → Rg × Bool} (h : OwnR w ad f) (hb : Below w.heap.size w w') : OwnR w' ad f := by
  obtain ⟨g, cs, e, h1, h2, h3⟩ := h
  exact ⟨g, cs, e, h1.below hb h1.lt, h2, h3⟩
theorem OwnR.but {S : Nat → Prop} {w w' : World} {ad : Addr} {f : Nat → Rg × Bool} (h : OwnR w ad f) (hb : But S w w') (hS : ¬ S ad.block) : OwnR w' ad f := by
  obtain ⟨g, cs, e, h1, h2, h3⟩ := h
  subst e
  exact ⟨g, cs, rfl, h1.but hb hS, h2, h3⟩
theorem OwnR.lt {w : World} {ad : Addr} {f : Nat → Rg × Bool} (h : OwnR w ad f) : ad.block < w.heap.size := by
  obtain ⟨g, cs, e, h1, h2, h3⟩ := h
  subst e
  exact h1.lt
theorem addV (g k j : Nat) (hj : 0 < j) : (⟨((⟨g, 0, none⟩ : Addr).add k).block, ((⟨g, 0, none⟩ : Addr).add k).off + j, none⟩ : Addr) = ⟨g, k + j, none⟩ := by
  have e1 : (⟨g, 0, none⟩ : Addr).add k = ⟨g, k, none⟩ := by unfold Addr.add; split <;> simp_all
  rw [e1]
theorem addV0 (g k : Nat) : (⟨g, 0, none⟩ : Addr).add k = ⟨g, k, none⟩ := by unfold Addr.add; split <;> simp_all
/-- A page's seven cells. -/
structure SevenAt (w : World) (ad : Addr) (p : Nat) (x : Rg × Bool) : Prop where
  c0 : w.cell? (ad.add (p * 7)) = some (.int .i64 x.1.f)
  c1 : w.cell? ⟨(ad.add (p * 7)).block, (ad.add (p * 7)).off + 1, none⟩ = some (.int .i64 x.1.t)
  c2 : w.cell? ⟨(ad.add (p * 7)).block, (ad.add (p * 7)).off + 2, none⟩ = some (.int .i64 x.1.p)
  c3 : w.cell? ⟨(ad.add (p * 7)).block, (ad.add (p * 7)).off + 3, none⟩ = some (.int .i64 x.1.k)
  c4 : w.cell? ⟨(ad.add (p * 7)).block, (ad.add (p * 7)).off + 4, none⟩ = some (.int .i64 x.1.fl)
  c5 : w.cell? ⟨(ad.add (p * 7)).block, (ad.add (p * 7)).off + 5, none⟩ = some (.int .i64 x.1.pg)
  c6 : w.cell? ⟨(ad.add (p * 7)).block, (ad.add (p * 7)).off + 6, none⟩ = some (.bool x.2)
  f0 : w.frozen? (ad.add (p * 7)) = false
  fj : ∀ j, w.frozen? ⟨(ad.add (p * 7)).block, (ad.add (p * 7)).off + j, none⟩ = false
theorem OwnR.seven {w : World} {ad : Addr} {f : Nat → Rg × Bool} (h : OwnR w ad f) {p : Nat} (hp : p < 4096) : SevenAt w ad p (f p) := by
  obtain ⟨g, cs, rfl, h1, h2, h3⟩ := h
  obtain ⟨h4, h5⟩ := h3 p hp
  have hj : ∀ j v, 0 < j → cs[p * 7 + j]? = some v → w.cell? ⟨((⟨g, 0, none⟩ : Addr).add (p * 7)).block, ((⟨g, 0, none⟩ : Addr).add (p * 7)).off + j, none⟩ = some v := fun j v hj hv => by
    rw [addV g _ j hj, h1.cell]; exact hv
  refine ⟨?_, hj 1 _ (by omega) (h4 1 (by omega)), hj 2 _ (by omega) (h4 2 (by omega)), hj 3 _ (by omega) (h4 3 (by omega)), hj 4 _ (by omega) (h4 4 (by omega)), hj 5 _ (by omega) (h4 5 (by omega)), hj 6 _ (by omega) h5, ?_, fun j => ?_⟩
  · rw [addV0, h1.cell]; exact h4 0 (by omega)
  · rw [addV0]; exact h1.frozen _
  · have e : ((⟨g, 0, none⟩ : Addr).add (p * 7)).block = g := by rw [addV0]
    rw [e]
    exact h1.frozen _
/-- One cell of a page is set. -/
theorem OwnR.cell_set {w : World} {ad : Addr} {f f' : Nat → Rg × Bool} (h : OwnR w ad f) {p : Nat} (hp : p < 4096) {j : Nat} (hj : j < 7) (v : Value) {a : Addr} (ha : a = ⟨ad.block, p * 7 + j, none⟩)
    (hf : ∀ q, q ≠ p → f' q = f q) (h6 : ∀ i, i < 6 → ((f' p).1.cs)[i]? = if i = j then some v else ((f p).1.cs)[i]?) (h7 : (some (.bool (f' p).2) : Option Value) = if j = 6 then some v else some (.bool (f p).2)) : OwnR (w.setCell a v) ad f' := by
  obtain ⟨g, cs, rfl, h1, h2, h3⟩ := h
  subst ha
  refine ⟨g, _, rfl, h1.set_ (p * 7 + j) v, by rw [Array.size_setIfInBounds]; exact h2, fun q hq => ?_⟩
  obtain ⟨h4, h5⟩ := h3 q hq
  have key : ∀ i, i < 7 → (cs.setIfInBounds (p * 7 + j) v)[q * 7 + i]? = if q = p ∧ i = j then some v else cs[q * 7 + i]? := fun i hi => by
    by_cases c : q = p ∧ i = j
    · rw [if_pos c, c.1, c.2, Array.getElem?_setIfInBounds_self_of_lt (by omega)]
    · rw [if_neg c, Array.getElem?_setIfInBounds_ne (by omega)]
  by_cases e : q = p
  · subst e
    refine ⟨fun i hi => ?_, ?_⟩
    · rw [key i (by omega), h6 i hi]
      by_cases c : i = j
      · rw [if_pos ⟨rfl, c⟩, if_pos c]
      · rw [if_neg (by omega), if_neg c]; exact h4 i hi
    · rw [key 6 (by omega), h7]
      by_cases c : j = 6
      · rw [if_pos ⟨rfl, c.symm⟩, if_pos c]
      · rw [if_neg (by omega), if_neg c]; exact h5
  · rw [hf q e]
    refine ⟨fun i hi => ?_, ?_⟩
    · rw [key i (by omega), if_neg (by omega)]; exact h4 i hi
    · rw [key 6 (by omega), if_neg (by omega)]; exact h5
theorem OwnR.where_ {w : World} {ad : Addr} {f : Nat → Rg × Bool} (h : OwnR w ad f) : ad = ⟨ad.block, 0, none⟩ := by
  obtain ⟨g, cs, rfl, h1, h2, h3⟩ := h
  rfl
/-- A page's mark is set. -/
theorem OwnR.mark {w : World} {ad : Addr} {f : Nat → Rg × Bool} (h : OwnR w ad f) {p : Nat} (hp : p < 4096) (b : Bool) : OwnR (w.setCell ⟨(ad.add (p * 7)).block, (ad.add (p * 7)).off + 6, none⟩ (.bool b)) ad (updF f p ((f p).1, b)) := by
  have hw := h.where_
  refine h.cell_set hp (j := 6) (by omega) _ (by rw [hw]; exact addV _ _ 6 (by omega)) (fun q hq => by unfold updF; rw [if_neg hq]) (fun i hi => ?_) ?_
  · unfold updF; rw [if_pos rfl, if_neg (by omega)]
  · unfold updF; rw [if_pos rfl, if_pos rfl]
/-- A page's Perm is set. -/
theorem OwnR.perm {w : World} {ad : Addr} {f : Nat → Rg × Bool} (h : OwnR w ad f) {p : Nat} (hp : p < 4096) (c : Int) : OwnR (w.setCell ⟨(ad.add (p * 7)).block, (ad.add (p * 7)).off + 2, none⟩ (.int .i64 c)) ad (updF f p ({ (f p).1 with p := c }, (f p).2)) := by
  have hw := h.where_
  refine h.cell_set hp (j := 2) (by omega) _ (by rw [hw]; exact addV _ _ 2 (by omega)) (fun q hq => by unfold updF; rw [if_neg hq]) (fun i hi => ?_) ?_
  · unfold updF
    rw [if_pos rfl]
    match i, hi with
    | 0, _ | 1, _ | 2, _ | 3, _ | 4, _ | 5, _ => rfl
  · unfold updF; rw [if_pos rfl, if_neg (by omega)]
/-- A page is another. -/
theorem OwnR.all {w : World} {ad : Addr} {f : Nat → Rg × Bool} (h : OwnR w ad f) {p : Nat} (hp : p < 4096) (r : Rg) (b : Bool) :
    OwnR (((((((w.setCell (ad.add (p * 7)) (.int .i64 r.f)).setCell ⟨(ad.add (p * 7)).block, (ad.add (p * 7)).off + 1, none⟩ (.int .i64 r.t)).setCell ⟨(ad.add (p * 7)).block, (ad.add (p * 7)).off + 2, none⟩ (.int .i64 r.p)).setCell ⟨(ad.add (p * 7)).block, (ad.add (p * 7)).off + 3, none⟩ (.int .i64 r.k)).setCell ⟨(ad.add (p * 7)).block, (ad.add (p * 7)).off + 4, none⟩ (.int .i64 r.fl)).setCell ⟨(ad.add (p * 7)).block, (ad.add (p * 7)).off + 5, none⟩ (.int .i64 r.pg)).setCell ⟨(ad.add (p * 7)).block, (ad.add (p * 7)).off + 6, none⟩ (.bool b)) ad (updF f p (r, b)) ∧
    But (fun k => k = ad.block) w (((((((w.setCell (ad.add (p * 7)) (.int .i64 r.f)).setCell ⟨(ad.add (p * 7)).block, (ad.add (p * 7)).off + 1, none⟩ (.int .i64 r.t)).setCell ⟨(ad.add (p * 7)).block, (ad.add (p * 7)).off + 2, none⟩ (.int .i64 r.p)).setCell ⟨(ad.add (p * 7)).block, (ad.add (p * 7)).off + 3, none⟩ (.int .i64 r.k)).setCell ⟨(ad.add (p * 7)).block, (ad.add (p * 7)).off + 4, none⟩ (.int .i64 r.fl)).setCell ⟨(ad.add (p * 7)).block, (ad.add (p * 7)).off + 5, none⟩ (.int .i64 r.pg)).setCell ⟨(ad.add (p * 7)).block, (ad.add (p * 7)).off + 6, none⟩ (.bool b)) := by
  have hw := h.where_
  have hbk : (ad.add (p * 7)).block = ad.block := by unfold Addr.add; split <;> rfl
  have e0 : ad.add (p * 7) = ⟨ad.block, p * 7 + 0, none⟩ := by rw [hw]; exact addV0 _ _
  have ej : ∀ j, 0 < j → (⟨(ad.add (p * 7)).block, (ad.add (p * 7)).off + j, none⟩ : Addr) = ⟨ad.block, p * 7 + j, none⟩ := fun j hj => by rw [hw]; exact addV _ _ j hj
  have up : ∀ (x y : Rg × Bool) q, q ≠ p → updF f p x q = updF f p y q := fun x y q hq => by unfold updF; rw [if_neg hq, if_neg hq]
  have h0 : OwnR w ad (updF f p (f p)) := by
    have : updF f p (f p) = f := by
      funext q
      unfold updF
      by_cases e : q = p
      · rw [if_pos e, e]
      · rw [if_neg e]
    rw [this]; exact h
  generalize f p = z at h0
  obtain ⟨⟨z0, z1, z2, z3, z4, z5⟩, zb⟩ := z
  have st : ∀ (w : World) (x y : Rg × Bool) (j : Nat) (v : Value) (a : Addr), j < 7 → OwnR w ad (updF f p x) → a = ⟨ad.block, p * 7 + j, none⟩ → (∀ i, i < 6 → (y.1.cs)[i]? = if i = j then some v else (x.1.cs)[i]?) → ((some (.bool y.2) : Option Value) = if j = 6 then some v else some (.bool x.2)) → OwnR (w.setCell a v) ad (updF f p y) := fun w x y j v a hj h ha h6 h7 => by
    refine h.cell_set hp hj v ha (up y x) ?_ ?_
    · have ex : updF f p x p = x := by unfold updF; rw [if_pos rfl]
      have ey : updF f p y p = y := by unfold updF; rw [if_pos rfl]
      rw [ex, ey]; exact h6
    · have ex : updF f p x p = x := by unfold updF; rw [if_pos rfl]
      have ey : updF f p y p = y := by unfold updF; rw [if_pos rfl]
      rw [ex, ey]; exact h7
  have six : ∀ (i : Nat), i < 6 → i = 0 ∨ i = 1 ∨ i = 2 ∨ i = 3 ∨ i = 4 ∨ i = 5 := fun i hi => by omega
  have s0 := st _ _ (⟨r.f, z1, z2, z3, z4, z5⟩, zb) 0 (.int .i64 r.f) _ (by omega) h0 e0 (fun i hi => by rcases six i hi with rfl | rfl | rfl | rfl | rfl | rfl <;> rfl) rfl
  have s1 := st _ _ (⟨r.f, r.t, z2, z3, z4, z5⟩, zb) 1 (.int .i64 r.t) _ (by omega) s0 (ej 1 (by omega)) (fun i hi => by rcases six i hi with rfl | rfl | rfl | rfl | rfl | rfl <;> rfl) rfl
  have s2 := st _ _ (⟨r.f, r.t, r.p, z3, z4, z5⟩, zb) 2 (.int .i64 r.p) _ (by omega) s1 (ej 2 (by omega)) (fun i hi => by rcases six i hi with rfl | rfl | rfl | rfl | rfl | rfl <;> rfl) rfl
  have s3 := st _ _ (⟨r.f, r.t, r.p, r.k, z4, z5⟩, zb) 3 (.int .i64 r.k) _ (by omega) s2 (ej 3 (by omega)) (fun i hi => by rcases six i hi with rfl | rfl | rfl | rfl | rfl | rfl <;> rfl) rfl
  have s4 := st _ _ (⟨r.f, r.t, r.p, r.k, r.fl, z5⟩, zb) 4 (.int .i64 r.fl) _ (by omega) s3 (ej 4 (by omega)) (fun i hi => by rcases six i hi with rfl | rfl | rfl | rfl | rfl | rfl <;> rfl) rfl
  have s5 := st _ _ (⟨r.f, r.t, r.p, r.k, r.fl, r.pg⟩, zb) 5 (.int .i64 r.pg) _ (by omega) s4 (ej 5 (by omega)) (fun i hi => by rcases six i hi with rfl | rfl | rfl | rfl | rfl | rfl <;> rfl) rfl
  have s6 := st _ _ (r, b) 6 (.bool b) _ (by omega) s5 (ej 6 (by omega)) (fun i hi => by rcases six i hi with rfl | rfl | rfl | rfl | rfl | rfl <;> rfl) rfl
  refine ⟨s6, ?_⟩
  have hb0 : But (fun k => k = ad.block) w w := But.refl _ _
  exact ((((((hb0.setCell (p := ad.add (p * 7)) (.inl hbk) _).setCell (p := ⟨(ad.add (p * 7)).block, (ad.add (p * 7)).off + 1, none⟩) (.inl hbk) _).setCell (p := ⟨(ad.add (p * 7)).block, (ad.add (p * 7)).off + 2, none⟩) (.inl hbk) _).setCell (p := ⟨(ad.add (p * 7)).block, (ad.add (p * 7)).off + 3, none⟩) (.inl hbk) _).setCell (p := ⟨(ad.add (p * 7)).block, (ad.add (p * 7)).off + 4, none⟩) (.inl hbk) _).setCell (p := ⟨(ad.add (p * 7)).block, (ad.add (p * 7)).off + 5, none⟩) (.inl hbk) _).setCell (p := ⟨(ad.add (p * 7)).block, (ad.add (p * 7)).off + 6, none⟩) (.inl hbk) _
/-- The same, the place written out. -/
structure SevenL (w : World) (g p : Nat) (x : Rg × Bool) : Prop where
  c0 : w.cell? ⟨g, p * 7, none⟩ = some (.int .i64 x.1.f)
  c1 : w.cell? ⟨g, p * 7 + 1, none⟩ = some (.int .i64 x.1.t)
  c2 : w.cell? ⟨g, p * 7 + 2, none⟩ = some (.int .i64 x.1.p)
  c3 : w.cell? ⟨g, p * 7 + 3, none⟩ = some (.int .i64 x.1.k)
  c4 : w.cell? ⟨g, p * 7 + 4, none⟩ = some (.int .i64 x.1.fl)
  c5 : w.cell? ⟨g, p * 7 + 5, none⟩ = some (.int .i64 x.1.pg)
  c6 : w.cell? ⟨g, p * 7 + 6, none⟩ = some (.bool x.2)
  fj : ∀ j, w.frozen? ⟨g, j, none⟩ = false
theorem OwnR.sevenL {w : World} {g : Nat} {f : Nat → Rg × Bool} (h : OwnR w ⟨g, 0, none⟩ f) {p : Nat} (hp : p < 4096) : SevenL w g p (f p) := by
  have hs := h.seven hp
  obtain ⟨g', cs, e, h1, h2, h3⟩ := h
  cases e
  obtain ⟨c0, c1, c2, c3, c4, c5, c6, f0, fj⟩ := hs
  rw [addV0] at c0
  rw [addV _ _ _ (by omega)] at c1 c2 c3 c4 c5 c6
  exact ⟨c0, c1, c2, c3, c4, c5, c6, fun j => h1.frozen j⟩
theorem OwnR.allL {w : World} {g : Nat} {f : Nat → Rg × Bool} (h : OwnR w ⟨g, 0, none⟩ f) {p : Nat} (hp : p < 4096) (r : Rg) (b : Bool) :
    OwnR (((((((w.setCell ⟨g, p * 7, none⟩ (.int .i64 r.f)).setCell ⟨g, p * 7 + 1, none⟩ (.int .i64 r.t)).setCell ⟨g, p * 7 + 2, none⟩ (.int .i64 r.p)).setCell ⟨g, p * 7 + 3, none⟩ (.int .i64 r.k)).setCell ⟨g, p * 7 + 4, none⟩ (.int .i64 r.fl)).setCell ⟨g, p * 7 + 5, none⟩ (.int .i64 r.pg)).setCell ⟨g, p * 7 + 6, none⟩ (.bool b)) ⟨g, 0, none⟩ (updF f p (r, b)) ∧
    But (fun k => k = g) w (((((((w.setCell ⟨g, p * 7, none⟩ (.int .i64 r.f)).setCell ⟨g, p * 7 + 1, none⟩ (.int .i64 r.t)).setCell ⟨g, p * 7 + 2, none⟩ (.int .i64 r.p)).setCell ⟨g, p * 7 + 3, none⟩ (.int .i64 r.k)).setCell ⟨g, p * 7 + 4, none⟩ (.int .i64 r.fl)).setCell ⟨g, p * 7 + 5, none⟩ (.int .i64 r.pg)).setCell ⟨g, p * 7 + 6, none⟩ (.bool b)) := by
  have h1 := h.all hp r b
  rw [addV0] at h1
  exact h1
theorem OwnR.markL {w : World} {g : Nat} {f : Nat → Rg × Bool} (h : OwnR w ⟨g, 0, none⟩ f) {p : Nat} (hp : p < 4096) (b : Bool) : OwnR (w.setCell ⟨g, p * 7 + 6, none⟩ (.bool b)) ⟨g, 0, none⟩ (updF f p ((f p).1, b)) := by
  have h1 := h.mark hp b
  rw [addV0] at h1
  exact h1
theorem OwnR.permL {w : World} {g : Nat} {f : Nat → Rg × Bool} (h : OwnR w ⟨g, 0, none⟩ f) {p : Nat} (hp : p < 4096) (c : Int) : OwnR (w.setCell ⟨g, p * 7 + 2, none⟩ (.int .i64 c)) ⟨g, 0, none⟩ (updF f p ({ (f p).1 with p := c }, (f p).2)) := by
  have h1 := h.perm hp c
  rw [addV0] at h1
  exact h1
theorem infoOwn : (Try.prog.info? 45).map (fun i => (i.zero, i.size, i.bytes)) = some (some (.agg #[.int .i64 0, .int .i64 0, .int .i64 0, .int .i64 0, .int .i64 0, .int .i64 0, .bool false]), 7, 56) := by kernel_rfl
theorem own_made (w : World) : OwnR (w.alloc (.cells (madeCells #[.int .i64 0, .int .i64 0, .int .i64 0, .int .i64 0, .int .i64 0, .int .i64 0, .bool false] 28672) 45)) ⟨w.heap.size, 0, none⟩ (fun _ => (zeroR, false)) := by
  refine ⟨_, _, rfl, Blk.new _ _ _, size_madeCells _ _, fun p hp => ?_⟩
  have key : ∀ j, j < 7 → (madeCells #[.int .i64 0, .int .i64 0, .int .i64 0, .int .i64 0, .int .i64 0, .int .i64 0, .bool false] 28672)[p * 7 + j]? = (#[.int .i64 0, .int .i64 0, .int .i64 0, .int .i64 0, .int .i64 0, .int .i64 0, .bool false] : Array Value)[j]? := fun j hj => by
    have hlt : p * 7 + j < 28672 := by omega
    have hm : (p * 7 + j) % 7 = j := by omega
    unfold madeCells
    rw [Array.getElem?_map, Array.getElem?_range]
    rw [if_pos hlt]
    show some (_[(p * 7 + j) % 7]!) = _
    rw [hm]
    match j, hj with
    | 0, _ | 1, _ | 2, _ | 3, _ | 4, _ | 5, _ | 6, _ => rfl
  refine ⟨fun j hj => ?_, key 6 (by omega)⟩
  rw [key j (by omega)]
  match j, hj with
  | 0, _ | 1, _ | 2, _ | 3, _ | 4, _ | 5, _ => rfl

/-- What is some region's page may be. -/
def OkF (f : Nat → Rg × Bool) : Prop := ∀ p : Nat, p < 4096 → (f p).2 = true → (f p).1.May ∧ (f p).1.f = p ∧ (f p).1.t = p + 1
end Go.Proofs.Ytmknkdfdkanijaa
