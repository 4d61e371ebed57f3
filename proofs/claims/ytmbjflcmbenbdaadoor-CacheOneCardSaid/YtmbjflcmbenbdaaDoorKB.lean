/- Package cache: a map whose keys are structs, and whose elements are; the ring's row; a world up to a place. -/
import Derived.Test.YtmbjflcmbenbdaaDoorKA
import Derived.Test.YtmbjflcmbenbdaaDoorFOp
import Derived.Test.YtmbjflcmbenbdaaDoorLaw
import Derived.DeepKeys4
import Derived.Maps.OwnSet
namespace Go.Proofs.YtmbjflcmbenbdaaDoor
open Go.RowKit Go.Maps
set_option linter.unusedVariables false
set_option linter.unusedSimpArgs false

def keyV (f q : Int) : Value := .agg #[.int .i64 f, .int .i64 q]
def keyL (f q : Int) : Lit := .string (keyBytes [.int .i64 f, .int .i64 q])
theorem rowKC : (40 : TypeId) < Tryd.prog.types.size := of_decide_eq_true (by kernel_rfl)
theorem wideKC : (match Tryd.prog.underlying 40 with | some (.array _ _) | some (.struct _) => true | _ => false) = true := by rw [Tryd.underlying40]
set_option maxRecDepth 100000 in
theorem lawKC : Keyed Tryd.prog 40 := Keyed.of_law (deep_law_laid laidOut (m := 2) (by omega) rowKC (by kernel_rfl) wideKC)
theorem cellsKC : Tryd.prog.cellsOf 40 = 2 := by kernel_rfl
theorem cellsIntC : Tryd.prog.cellsOf 3 = 1 := by kernel_rfl
theorem keyTypeKC : Tryd.prog.keyType 40 = true := by kernel_rfl
theorem formedKC (c0 c1 : Value) : (Value.agg #[c0, c1]).formed Tryd.prog 40 = true := by simp [Value.formed, Tryd.underlying40, cellsKC]
set_option maxRecDepth 100000 in
theorem keyOfKC {f q : Int} (hf : (Lit.int .i64 f).wf = true) (hq : (Lit.int .i64 q).wf = true) : keyOf Tryd.prog 40 (keyV f q) = some (keyL f q) := by
  obtain ⟨m, hm⟩ : ∃ m, Tryd.prog.types.size = m + 1 := ⟨Tryd.prog.types.size - 1, by have h : (40 : Nat) < Tryd.prog.types.size := rowKC; omega⟩
  unfold keyOf keyV keyL
  rw [Tryd.underlying40]
  simp only [keyTypeKC, formedKC, Bool.and_self, if_true, hm]
  simp [Program.keyLits, Tryd.underlying40, Tryd.underlying3, cellsKC, cellsIntC, hf, hq, Value.cells]
theorem keyL_inj {f q f' q' : Int} (h1 : (Lit.int .i64 f).wf = true) (h2 : (Lit.int .i64 q).wf = true) (h3 : (Lit.int .i64 f').wf = true) (h4 : (Lit.int .i64 q').wf = true) (h : keyL f q = keyL f' q') : f = f' ∧ q = q' := by
  have e := lawKC.inj (keyOfKC h1 h2) (by rw [h]; exact keyOfKC h3 h4)
  unfold keyV at e
  simpa using e
theorem keyL_key (f q : Int) : WideAt.IsKeyLit (keyL f q) := trivial

/-- How a page's place reads. -/
def pgElem (v : Value) : Option (DataW Unit × List MemPlace) := match v with
  | .agg cs => match cs.toList with
    | [.int .i64 a, .bool b] => if (Lit.int .i64 a).wf = true then some (.agg [.lit (.int .i64 a), .lit (.bool b)], []) else none
    | _ => none
  | _ => none
def pgD (p : Int × Bool) : DataW Unit := .agg [.lit (.int .i64 p.1), .lit (.bool p.2)]
def pgV (p : Int × Bool) : Value := .agg #[.int .i64 p.1, .bool p.2]
theorem pgElem_mk {p : Int × Bool} (h : (Lit.int .i64 p.1).wf = true) : pgElem (pgV p) = some (pgD p, []) := by simp [pgElem, pgV, pgD, h]
theorem pgElem_inv {v : Value} {z : DataW Unit × List MemPlace} (h : pgElem v = some z) : ∃ p, v = pgV p ∧ z = (pgD p, []) ∧ (Lit.int .i64 p.1).wf = true := by
  unfold pgElem at h
  split at h
  · rename_i cs
    split at h
    · rename_i a b hl
      split at h
      · rename_i hw
        refine ⟨(a, b), ?_, ?_, hw⟩
        · unfold pgV
          congr 1
          apply Array.ext'
          simpa using hl
        · injection h with h; exact h.symm
      · cases h
    · cases h
  · cases h
theorem pgD_inj {p p' : Int × Bool} (h : pgD p = pgD p') : p = p' := by
  unfold pgD at h
  injection h with h
  simp at h
  exact Prod.ext h.1 h.2
theorem zeroPgC (w : World) : (zeroValue 87).run Tryd.prog w = .ok (pgV (0, false)) w := by kernel_rfl

/-- A map from keys to places of pages: g, n of them. -/
def KMap (M : Nat) (g : Int → Int → Option (Int × Bool)) (n : Nat) (w : World) : Prop :=
  ∃ D : DataW Unit, w.ownsMap Tryd.prog 40 pgElem M n D ∧ Maps.size D = n ∧ ∀ f q, (Lit.int .i64 f).wf = true → (Lit.int .i64 q).wf = true → Maps.has D (keyL f q) = (g f q).isSome ∧ D.atKey (keyL f q) (pgD (0, false)) = pgD ((g f q).getD (0, false))
def upG (g : Int → Int → Option (Int × Bool)) (f q : Int) (p : Option (Int × Bool)) : Int → Int → Option (Int × Bool) := fun f' q' => if f' = f ∧ q' = q then p else g f' q'
theorem own_tight {w : World} {M n : Nat} {D : DataW Unit} (h : w.ownsMap Tryd.prog 40 pgElem M n D) : w.ownsMap Tryd.prog 40 pgElem M (Maps.size D) D := by
  obtain ⟨es, clock, hb, F, hs, rfl⟩ := h
  exact ⟨es, clock, hb, F, by rw [Maps.size_eq, length_read]; exact Nat.le_refl _, rfl⟩
section
variable {M n : Nat} {g g' : Int → Int → Option (Int × Bool)} {w w' : World} {f q : Int}
theorem KMap.congr (h : KMap M g n w) (e : ∀ f q, g f q = g' f q) : KMap M g' n w := by
  have : g = g' := funext fun f => funext fun q => e f q
  rw [← this]; exact h
theorem KMap.made (w : World) : KMap w.heap.size (fun _ _ => none) 0 (w.alloc (.map #[] 0)) :=
  ⟨.map [], World.ownsMap_made _ _ _ _, rfl, fun f q _ _ => ⟨rfl, rfl⟩⟩
theorem KMap.lt (h : KMap M g n w) : M < w.heap.size := by obtain ⟨D, hown, _⟩ := h; exact hown.lt
theorem KMap.but {S : Nat → Prop} (h : KMap M g n w) (hb : But S w w') (hS : ¬ S M) : KMap M g n w' := by
  obtain ⟨D, ⟨es, clock, hm, F, hs, hD⟩, h2⟩ := h
  exact ⟨D, ⟨es, clock, (hb.block M (Array.getElem?_eq_some_iff.1 hm).1 hS).trans hm, F, hs, hD⟩, h2⟩
theorem KMap.not_blk (h : KMap M g n w) {b : Nat} {t : TypeId} {cs : Array Value} (hb : Blk w b t cs) : M ≠ b := by
  obtain ⟨D, ⟨es, clock, hm, _⟩, _⟩ := h
  rintro rfl
  unfold Blk at hb
  rw [hm] at hb
  injection hb with hb
  cases hb
theorem KMap.not_own (h : KMap M g n w) {B e size m : Nat} {v : Value} {xs : List Value} (ho : w.ownsRow B e size v m xs) : v.ownBlock ≠ some M := by
  obtain ⟨D, ⟨es, clock, hm, _⟩, _⟩ := h
  intro hv
  rcases ho.2 with ⟨rfl, _⟩ | ⟨b, cap, cur, rfl, _, hb, _⟩
  · simp [Value.ownBlock] at hv
  · simp [Value.ownBlock] at hv
    subst hv
    rw [hm] at hb
    injection hb with hb
    cases hb
theorem KMap.ok (h : KMap M g n w) (hf : (Lit.int .i64 f).wf = true) (hq : (Lit.int .i64 q).wf = true) : (Instr.lookup 82 (.map (some M)) (keyV f q) true).run Tryd.prog w = .ok (.tuple #[pgV ((g f q).getD (0, false)), .bool (g f q).isSome]) w := by
  obtain ⟨D, hown, _, hat⟩ := h
  obtain ⟨h1, h2⟩ := hat f q hf hq
  obtain ⟨v, ps, hrun, hv⟩ := hown.look_ok lawKC Tryd.underlying82 (zeroPgC w) (pgElem_mk (p := (0, false)) (by decide)) (keyOfKC hf hq)
  obtain ⟨p, rfl, hp, _⟩ := pgElem_inv hv
  have hp := congrArg Prod.fst hp
  simp only at hp
  rw [h2] at hp
  rw [hrun, h1, pgD_inj hp]
theorem KMap.look (h : KMap M g n w) (hf : (Lit.int .i64 f).wf = true) (hq : (Lit.int .i64 q).wf = true) : (Instr.lookup 82 (.map (some M)) (keyV f q) false).run Tryd.prog w = .ok (pgV ((g f q).getD (0, false))) w := by
  obtain ⟨D, hown, _, hat⟩ := h
  obtain ⟨h1, h2⟩ := hat f q hf hq
  obtain ⟨v, ps, hrun, hv⟩ := hown.lookup lawKC Tryd.underlying82 (zeroPgC w) (pgElem_mk (p := (0, false)) (by decide)) (keyOfKC hf hq)
  obtain ⟨p, rfl, hp, _⟩ := pgElem_inv hv
  have hp := congrArg Prod.fst hp
  simp only at hp
  rw [h2] at hp
  rw [hrun, pgD_inj hp]
theorem KMap.put (h : KMap M g n w) (hn : n < 1000000) (hf : (Lit.int .i64 f).wf = true) (hq : (Lit.int .i64 q).wf = true) (p : Int × Bool) (hp : (Lit.int .i64 p.1).wf = true) :
    ∃ w', (Instr.mapUpdate 82 (.map (some M)) (keyV f q) (pgV p)).run Tryd.prog w = .ok () w' ∧ KMap M (upG g f q (some p)) (if (g f q).isSome then n else n + 1) w' ∧ w.grownBy w' (some M) := by
  obtain ⟨D, hown, hsz, hat⟩ := h
  obtain ⟨w', hrun, r1, r2⟩ := hown.update lawKC Tryd.underlying82 (by unfold maxLen; omega) (keyOfKC hf hq) (pgElem_mk hp)
  have hsz2 : Maps.size (D.put (keyL f q) (pgD p)) = if (g f q).isSome then n else n + 1 := by
    rw [Maps.size_put (hown.tidy lawKC), (hat f q hf hq).1, hsz]
  refine ⟨w', hrun, ⟨_, hsz2 ▸ own_tight r1, hsz2, fun f' q' hf' hq' => ?_⟩, r2⟩
  unfold upG
  by_cases e : f' = f ∧ q' = q
  · obtain ⟨rfl, rfl⟩ := e
    rw [if_pos ⟨rfl, rfl⟩]
    exact ⟨Maps.has_put_same hown.isMap (keyL_key _ _) _, Maps.atKey_put_same hown.isMap (keyL_key _ _) _ _⟩
  · rw [if_neg e]
    have hne : keyL f' q' ≠ keyL f q := fun e' => e (keyL_inj hf' hq' hf hq e')
    exact ⟨(Maps.has_put_other hne _).trans (hat f' q' hf' hq').1, (Maps.atKey_put_other hne _ _).trans (hat f' q' hf' hq').2⟩
theorem KMap.drop (h : KMap M g n w) (hf : (Lit.int .i64 f).wf = true) (hq : (Lit.int .i64 q).wf = true) (hin : (g f q).isSome = true) (ty : TypeId) :
    ∃ w', (Builtin.delete_ #[82, 40] ty #[.map (some M), keyV f q]).run Tryd.prog w = .ok (.tuple #[]) w' ∧ KMap M (upG g f q none) (n - 1) w' ∧ w.grownBy w' (some M) := by
  obtain ⟨D, hown, hsz, hat⟩ := h
  obtain ⟨w', hrun, r1, r2⟩ := hown.drop lawKC Tryd.underlying82 (keyOfKC hf hq) ty
  have hsz2 : Maps.size (D.del (keyL f q)) = n - 1 := by
    have h3 := Maps.size_del (k := keyL f q) (hown.tidy lawKC)
    rw [(hat f q hf hq).1, hin, hsz] at h3
    simp at h3
    omega
  refine ⟨w', hrun, ⟨_, hsz2 ▸ own_tight r1, hsz2, fun f' q' hf' hq' => ?_⟩, r2.grown⟩
  unfold upG
  by_cases e : f' = f ∧ q' = q
  · obtain ⟨rfl, rfl⟩ := e
    rw [if_pos ⟨rfl, rfl⟩]
    exact ⟨Maps.has_del_same, Maps.atKey_del_same _⟩
  · rw [if_neg e]
    have hne : keyL f' q' ≠ keyL f q := fun e' => e (keyL_inj hf' hq' hf hq e')
    exact ⟨(Maps.has_del_other hne).trans (hat f' q' hf' hq').1, (Maps.atKey_del_other hne _).trans (hat f' q' hf' hq').2⟩
end

/-- The cells of the ring's row. -/
def keyCells (R : List Pg) : List Value := R.flatMap fun x => [.int .i64 x.f, .int .i64 x.q]
theorem keyCells_length : ∀ R, (keyCells R).length = R.length * 2
  | [] => rfl
  | x :: R => by have := keyCells_length R; simp [keyCells] at *; omega
theorem keyCells_key {R R' : List Pg} (h : R.map Pg.key = R'.map Pg.key) : keyCells R = keyCells R' := by
  have e : ∀ L : List Pg, keyCells L = (L.map Pg.key).flatMap fun p => [.int .i64 p.1, .int .i64 p.2] := fun L => by
    unfold keyCells; rw [List.flatMap_map]; rfl
  rw [e, e, h]
theorem keyCells_at : ∀ (R : List Pg) (k : Nat) (h : k < R.length), (keyCells R)[k * 2]? = some (.int .i64 R[k].f) ∧ (keyCells R)[k * 2 + 1]? = some (.int .i64 R[k].q)
  | x :: R, 0, _ => ⟨rfl, rfl⟩
  | x :: R, k + 1, h => by
    obtain ⟨h1, h2⟩ := keyCells_at R k (by simpa using h)
    have e : keyCells (x :: R) = .int .i64 x.f :: .int .i64 x.q :: keyCells R := rfl
    rw [e, show (k + 1) * 2 = k * 2 + 2 by omega, show k * 2 + 2 + 1 = (k * 2 + 1) + 2 by omega]
    exact ⟨by simpa using h1, by simpa using h2⟩
theorem keyCells_snoc (R : List Pg) (x : Pg) : keyCells (R ++ [x]) = keyCells R ++ [.int .i64 x.f, .int .i64 x.q] := by simp [keyCells]

/-- A world up to a place. -/
def trunc (M : Nat) (W : World) : World := { W with heap := W.heap.extract 0 M }
theorem trunc_size {M : Nat} {W : World} (h : M ≤ W.heap.size) : (trunc M W).heap.size = M := by simp [trunc]; omega
theorem trunc_at {M : Nat} {W : World} {k : Nat} (hk : k < M) : (trunc M W).heap[k]? = W.heap[k]? := by
  show (W.heap.extract 0 M)[k]? = _
  rw [Array.getElem?_extract]
  simp
  intro h
  omega
theorem trunc_below {M : Nat} {W : World} (h : M ≤ W.heap.size) : Below M (trunc M W) W := ⟨rfl, rfl, rfl, by rw [trunc_size h]; exact h, fun k hk => (trunc_at hk).symm⟩
theorem trunc_but {S : Nat → Prop} {M : Nat} {W W' : World} (h : M ≤ W.heap.size) (hb : But S W W') : But S (trunc M W) (trunc M W') :=
  ⟨hb.os, hb.tape, hb.output, by rw [trunc_size h, trunc_size (Nat.le_trans h hb.size)]; exact Nat.le_refl _, fun k hk hn => by
    rw [trunc_size h] at hk
    rw [trunc_at hk, trunc_at hk]
    exact hb.block k (by omega) hn⟩
theorem Blk.trunc {M : Nat} {W : World} {b : Nat} {t : TypeId} {cs : Array Value} (h : Blk W b t cs) (hb : b < M) : Blk (trunc M W) b t cs := (trunc_at hb).trans h
/-- Files that were opened when the world went up to M. -/
def OpenIn (M : Nat) (fs : List Fl) (s : Nat) (W : World) (B p pd gd : Nat) : Prop := M ≤ W.heap.size ∧ OpenSt fs s (trunc M W) B p pd gd
section
variable {M s B p pd gd : Nat} {fs : List Fl} {W W' : World}
theorem OpenIn.open_ (h : OpenIn M fs s W B p pd gd) : OpenSt fs s W B p pd gd := h.2.below (by rw [trunc_size h.1]; exact trunc_below h.1)
theorem OpenIn.of (h : OpenSt fs s W B p pd gd) : OpenIn W.heap.size fs s W B p pd gd := by
  refine ⟨Nat.le_refl _, ?_⟩
  have e : trunc W.heap.size W = W := by unfold trunc; simp
  rw [e]; exact h
theorem OpenIn.keep (h : OpenIn M fs s W B p pd gd) (hb : Below M W W') : OpenIn M fs s W' B p pd gd := by
  refine ⟨Nat.le_trans h.1 hb.size, h.2.below ?_⟩
  rw [trunc_size h.1]
  exact ⟨hb.os, hb.tape, hb.output, by rw [trunc_size h.1, trunc_size (Nat.le_trans h.1 hb.size)]; exact Nat.le_refl _, fun k hk => by rw [trunc_at hk, trunc_at hk]; exact hb.block k hk⟩
theorem OpenIn.disk (h : OpenIn M fs s W B p pd gd) : pd < M ∧ gd < M := by
  obtain ⟨_, D, _, hd⟩ := h.2
  have h1 := hd.head.lt
  have h2 := hd.row.lt
  rw [trunc_size h.1] at h1 h2
  exact ⟨h1, h2⟩
theorem OpenIn.told (h : OpenIn M fs s W B p pd gd) (hb : But (· = pd) W W') (h' : OpenSt fs s W' B p pd gd) : OpenIn M fs s W' B p pd gd := by
  obtain ⟨h1, h2⟩ := h.disk
  obtain ⟨_, D, hs, hd⟩ := h'
  exact ⟨Nat.le_trans h.1 hb.size, h.2.told (trunc_but h.1 hb) ⟨D, hs, hd.ne, hd.head.trunc h1, hd.row.trunc h2, hd.all, hd.len⟩⟩
end
end Go.Proofs.YtmbjflcmbenbdaaDoor
