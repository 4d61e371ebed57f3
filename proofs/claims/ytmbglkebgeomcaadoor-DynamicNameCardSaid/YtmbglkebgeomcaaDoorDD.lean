/- Package dynamic: Read. -/
import Derived.Test.YtmbglkebgeomcaaDoorDC
import Derived.Maps.Views
namespace Go.Proofs.YtmbglkebgeomcaaDoor
open Go.RowKit
open Go.Maps (Keyed int_keyed keyOf_int_mk IsMap)
set_option linter.unusedVariables false
set_option linter.unusedSimpArgs false

theorem results_dyn_tmp {P : Program} {fn : Func} {p u : Tmp} {ty : TypeId} (h : fn.results = #[.cell p ty, .tmp u]) (tmps : Array Value) (w : World) (g : Nat) (t : TypeId) (cs : Array Value) (fr : Nat × Nat) (d : TypeDesc)
    (hp : tmps.getD p undef = .pointer (some ⟨g, 0, none⟩)) (hg : w.heap[g]? = some (.cells cs t fr))
    (hu : P.underlying ty = some d) (hd : (match d with | .struct _ | .array _ _ => true | _ => false) = true) (hi : (P.info? ty).map (·.size) = some cs.size) :
    (results fn tmps).run P w = .ok (.tuple #[.agg cs, tmps.getD u undef]) w := by
  rw [results_cell_tmp h, hp]
  show ((loadVar ty ⟨g, 0, none⟩).run P w).andThen _ = _
  rw [run_loadVar_row w g t ty cs fr d hg hu hd hi]
  rfl

/-- How often a tag is among entries. -/
def cntI (L : List (Int × Int)) (t : Int) : Int := ((L.countP fun e => e.1 == t : Nat) : Int)
/-- The entries that say something, up to the end; none, if they can't stand so. -/
def rdL : List (Int × Int) → List (Int × Int) → Option (List (Int × Int))
  | [], _ => none
  | e :: r, L => if e.1 = 0 then some L else if mostI e.1 = 0 then rdL r L else if cntI L e.1 = mostI e.1 then none else if mayI e.1 e.2 = true then rdL r (L ++ [e]) else none
def entAt (s : ByteArray) (i : Nat) : Int × Int := (getN s (i * 16) 8, getN s (i * 16 + 8) 8)
def entsOf (s : ByteArray) : List (Int × Int) := (List.range (s.size / 16)).map (entAt s)
def dynL (L : List (Int × Int)) : Dyn := L.foldl (fun d e => d.say e.1 e.2) Dyn.none
def readO (s : ByteArray) : Option (List (Int × Int)) := rdL (entsOf s) []
def readD (s : ByteArray) : Dyn := match readO s with
  | some L => dynL L
  | none => Dyn.none
def readE (s : ByteArray) : Int := if (readO s).isSome then 0 else 17
theorem dynL_snoc (L : List (Int × Int)) (e : Int × Int) : dynL (L ++ [e]) = (dynL L).say e.1 e.2 := by simp [dynL, List.foldl_append]
theorem cntI_snoc (L : List (Int × Int)) (e : Int × Int) (t : Int) : cntI (L ++ [e]) t = cntI L t + if e.1 = t then 1 else 0 := by
  unfold cntI
  rw [List.countP_append]
  by_cases h : e.1 = t
  · simp [h]
  · simp [h]
theorem cntI_nonneg (L : List (Int × Int)) (t : Int) : 0 ≤ cntI L t := by unfold cntI; omega
theorem cntI_le (L : List (Int × Int)) (t : Int) : cntI L t ≤ L.length := by unfold cntI; have := List.countP_le_length (p := fun e : Int × Int => e.1 == t) (l := L); omega
theorem needed_fold : ∀ (L : List (Int × Int)) (d : Dyn), (L.foldl (fun d e => d.say e.1 e.2) d).needed.length ≤ d.needed.length + L.length
  | [], d => by simp
  | e :: L, d => by
    have h := needed_fold L (d.say e.1 e.2)
    rw [List.foldl_cons, List.length_cons]
    refine Nat.le_trans h ?_
    unfold Dyn.say
    split <;> simp <;> omega
theorem needed_le (L : List (Int × Int)) : (dynL L).needed.length ≤ L.length := by
  have := needed_fold L Dyn.none
  simpa [dynL, Dyn.none] using this
theorem getN_nonneg (s : ByteArray) (a n : Int) : 0 ≤ getN s a n := by unfold getN; split <;> omega
theorem getN_u64 (s : ByteArray) (a : Int) : (Lit.int .u64 (getN s a 8)).wf = true := by
  have e1 : IntKind.u64.min = 0 := rfl
  have e2 : IntKind.u64.max = 18446744073709551615 := by decide
  unfold getN
  split
  · have := getL_lt64 (l := partL s a.toNat 8) (by unfold partL; simp; omega)
    simp only [show (8 : Int).toNat = 8 from rfl]
    simp [Lit.wf, e1, e2]
    omega
  · decide
theorem may_le {t v : Int} (h : mayI t v = true) : v ≤ 1099511627776 := by
  unfold mayI at h
  split at h
  · have := eq_of_beq h; omega
  · split at h
    · have := eq_of_beq h; omega
    · split at h
      · simp at h; omega
      · simpa using h

/-- The map of how often each tag was there. -/
theorem law64 : Keyed Tryd.prog 42 := int_keyed Tryd.underlying42
theorem zeroInt (w : World) : (zeroValue 3).run Tryd.prog w = .ok (.int .i64 0) w := by kernel_rfl
def Cm (M : Nat) (L : List (Int × Int)) (w : World) : Prop := ∃ D : DataW Unit, w.ownsMap Tryd.prog 42 (plainElem Tryd.prog 3) M L.length D ∧ IsMap D ∧ ∀ t, (Lit.int .u64 t).wf = true → D.atKey (.int .u64 t) (.lit (.int .i64 0)) = .lit (.int .i64 (cntI L t))
theorem Cm.look {M : Nat} {L : List (Int × Int)} {w : World} (h : Cm M L w) {t : Int} (ht : (Lit.int .u64 t).wf = true) :
    (Instr.lookup 47 (.map (some M)) (.int .u64 t) false).run Tryd.prog w = .ok (.int .i64 (cntI L t)) w := by
  obtain ⟨D, hown, _, hat⟩ := h
  obtain ⟨c, hrun, hc, _⟩ := hown.lookup_int law64 Tryd.underlying47 Tryd.underlying3 (zeroInt _) (keyOf_int_mk Tryd.underlying42 ht)
  rw [hat t ht] at hc
  injection hc with hc
  injection hc with _ hc
  rw [hrun, ← hc]
theorem Cm.made (w : World) : Cm w.heap.size [] (w.alloc (.map #[] 0)) :=
  ⟨.map [], World.ownsMap_made _ _ _ _, ⟨[], rfl⟩, fun t _ => rfl⟩
theorem Cm.but {S : Nat → Prop} {M : Nat} {L : List (Int × Int)} {w w' : World} (h : Cm M L w) (hb : But S w w') (hS : ¬ S M) : Cm M L w' := by
  obtain ⟨D, ⟨es, clock, hm, F, hs, hD⟩, h2⟩ := h
  exact ⟨D, ⟨es, clock, (hb.block M (Array.getElem?_eq_some_iff.1 hm).1 hS).trans hm, F, hs, hD⟩, h2⟩
theorem Cm.put {M : Nat} {L : List (Int × Int)} {w' : World} {e : Int × Int} {D : DataW Unit} (h2 : IsMap D) (h3 : ∀ t, (Lit.int .u64 t).wf = true → D.atKey (.int .u64 t) (.lit (.int .i64 0)) = .lit (.int .i64 (cntI L t)))
    (he : (Lit.int .u64 e.1).wf = true) (hown : w'.ownsMap Tryd.prog 42 (plainElem Tryd.prog 3) M (L.length + 1) (D.put (.int .u64 e.1) (.lit (.int .i64 (cntI L e.1 + 1))))) : Cm M (L ++ [e]) w' := by
  refine ⟨_, by simpa using hown, h2.put _ _, fun t ht => ?_⟩
  rw [cntI_snoc]
  by_cases h : e.1 = t
  · subst h
    rw [if_pos rfl]
    exact Go.Maps.atKey_put_same h2 (by trivial) _ _
  · rw [if_neg h, Int.add_zero, ← h3 t ht]
    exact Go.Maps.atKey_put_other (fun e' => h (by injection e' with _ e'; exact e'.symm)) _ _

/-- A table's record, stored whole at g. -/
def setDyn (w : World) (g : Nat) (v : Value) (d : Dyn) : World :=
  ((((((((w.setCell ⟨g, 0, none⟩ v).setCell ⟨g, 1, none⟩ (.int .i64 (d.f 1))).setCell ⟨g, 2, none⟩ (.int .i64 (d.f 2))).setCell ⟨g, 3, none⟩ (.int .i64 (d.f 3))).setCell ⟨g, 4, none⟩ (.int .i64 (d.f 4))).setCell ⟨g, 5, none⟩ (.int .i64 (d.f 5))).setCell ⟨g, 6, none⟩ (.int .i64 (d.f 6))).setCell ⟨g, 7, none⟩ (.int .i64 (d.f 7))).setCell ⟨g, 8, none⟩ (.int .i64 (d.f 8))
theorem blk9 {w : World} {g : Nat} {x0 x1 x2 x3 x4 x5 x6 x7 x8 : Value} (h : Blk w g 26 #[x0, x1, x2, x3, x4, x5, x6, x7, x8]) (a0 a1 a2 a3 a4 a5 a6 a7 a8 : Value) :
    Blk (((((((((w.setCell ⟨g, 0, none⟩ a0).setCell ⟨g, 1, none⟩ a1).setCell ⟨g, 2, none⟩ a2).setCell ⟨g, 3, none⟩ a3).setCell ⟨g, 4, none⟩ a4).setCell ⟨g, 5, none⟩ a5).setCell ⟨g, 6, none⟩ a6).setCell ⟨g, 7, none⟩ a7).setCell ⟨g, 8, none⟩ a8) g 26 #[a0, a1, a2, a3, a4, a5, a6, a7, a8] := by
  have h1 := ((((((((h.set_ 0 a0).set_ 1 a1).set_ 2 a2).set_ 3 a3).set_ 4 a4).set_ 5 a5).set_ 6 a6).set_ 7 a7).set_ 8 a8
  simpa only [List.setIfInBounds_toArray, List.set_cons_zero, List.set_cons_succ] using h1
theorem setDyn_blk {w : World} {g : Nat} {d0 : Dyn} {v0 : Value} (h : Blk w g 26 (d0.cs v0)) (v : Value) (d : Dyn) : Blk (setDyn w g v d) g 26 (d.cs v) := by
  unfold Dyn.cs at h ⊢
  unfold setDyn
  exact blk9 h _ _ _ _ _ _ _ _ _
theorem but_set {w w' : World} {g : Nat} (h : But (· = g) w w') (i : Nat) (u : Value) : But (· = g) w (w'.setCell ⟨g, i, none⟩ u) := h.setCell (.inl rfl) u
theorem setDyn_but (w : World) (g : Nat) (v : Value) (d : Dyn) : But (· = g) w (setDyn w g v d) :=
  but_set (but_set (but_set (but_set (but_set (but_set (but_set (but_set (but_set (But.refl _ w) _ _) _ _) _ _) _ _) _ _) _ _) _ _) _ _) _ _
/-- Where Read stands: R is the block of its answer. -/
structure Rst (w : World) (R : Nat) (L : List (Int × Int)) (v : Value) (wr : World) : Prop where
  res : Blk wr R 26 (Dyn.none.cs (.slice none 0 0))
  sd : Sd (R + 1) (R + 3) v (dynL L) wr
  map : Cm (R + 2) L wr
  low : Below R w wr
  wf : (dynL L).wf
theorem Rst.start (w : World) : Rst w w.heap.size [] (.slice none 0 0) (((w.alloc (.cells (Dyn.none.cs (.slice none 0 0)) 26)).alloc (.cells (Dyn.none.cs (.slice none 0 0)) 26)).alloc (.map #[] 0)) := by
  have h1 := (Blk.new w 26 (Dyn.none.cs (.slice none 0 0))).alloc (.cells (Dyn.none.cs (.slice none 0 0)) 26)
  have h2 := Blk.new (w.alloc (.cells (Dyn.none.cs (.slice none 0 0)) 26)) 26 (Dyn.none.cs (.slice none 0 0))
  have h3 := Cm.made ((w.alloc (.cells (Dyn.none.cs (.slice none 0 0)) 26)).alloc (.cells (Dyn.none.cs (.slice none 0 0)) 26))
  have e1 : (w.alloc (.cells (Dyn.none.cs (.slice none 0 0)) 26)).heap.size = w.heap.size + 1 := by simp
  have e2 : ((w.alloc (.cells (Dyn.none.cs (.slice none 0 0)) 26)).alloc (.cells (Dyn.none.cs (.slice none 0 0)) 26)).heap.size = w.heap.size + 2 := by simp
  rw [e1] at h2
  rw [e2] at h3
  exact ⟨h1.alloc _, ⟨h2.alloc _, World.ownsRow_nil _ _ _ _, by simp⟩, h3, (((Below.refl _ _).alloc (Nat.le_refl _) _).alloc (by simp) _).alloc (by simp; omega) _, Dyn.none_wf⟩

theorem Rst.drewN {w wr : World} {R : Nat} {L : List (Int × Int)} {v : Value} (h : Rst w R L v wr) (n : Nat) : Rst w R L v (wr.drewN n) :=
  ⟨h.res.drewN n, ⟨h.sd.blk.drewN n, h.sd.own, h.sd.le⟩, h.map, Below.drewN h.low n, h.wf⟩
theorem Rst.cells {w wr : World} {R : Nat} {L : List (Int × Int)} {v : Value} (h : Rst w R L v wr) :
    (wr.cell? ⟨R, 0, none⟩ = some (.slice none 0 0) ∧ wr.cell? ⟨R, 1, none⟩ = some (.int .i64 0) ∧ wr.cell? ⟨R, 2, none⟩ = some (.int .i64 0) ∧ wr.cell? ⟨R, 3, none⟩ = some (.int .i64 0) ∧ wr.cell? ⟨R, 4, none⟩ = some (.int .i64 0) ∧ wr.cell? ⟨R, 5, none⟩ = some (.int .i64 0) ∧ wr.cell? ⟨R, 6, none⟩ = some (.int .i64 0) ∧ wr.cell? ⟨R, 7, none⟩ = some (.int .i64 0) ∧ wr.cell? ⟨R, 8, none⟩ = some (.int .i64 0)) ∧
    (wr.frozen? ⟨R, 0, none⟩ = false ∧ wr.frozen? ⟨R, 1, none⟩ = false ∧ wr.frozen? ⟨R, 2, none⟩ = false ∧ wr.frozen? ⟨R, 3, none⟩ = false ∧ wr.frozen? ⟨R, 4, none⟩ = false ∧ wr.frozen? ⟨R, 5, none⟩ = false ∧ wr.frozen? ⟨R, 6, none⟩ = false ∧ wr.frozen? ⟨R, 7, none⟩ = false ∧ wr.frozen? ⟨R, 8, none⟩ = false) :=
  ⟨⟨h.res.cell 0, h.res.cell 1, h.res.cell 2, h.res.cell 3, h.res.cell 4, h.res.cell 5, h.res.cell 6, h.res.cell 7, h.res.cell 8⟩,
   ⟨h.res.frozen 0, h.res.frozen 1, h.res.frozen 2, h.res.frozen 3, h.res.frozen 4, h.res.frozen 5, h.res.frozen 6, h.res.frozen 7, h.res.frozen 8⟩⟩
theorem dyn_vals {wr : World} {g : Nat} {v : Value} (d : Dyn) (h : Blk wr g 26 (d.cs v)) :
    wr.cell? ⟨g, 0, none⟩ = some v ∧ wr.cell? ⟨g, 1, none⟩ = some (.int .i64 (d.f 1)) ∧ wr.cell? ⟨g, 2, none⟩ = some (.int .i64 (d.f 2)) ∧ wr.cell? ⟨g, 3, none⟩ = some (.int .i64 (d.f 3)) ∧ wr.cell? ⟨g, 4, none⟩ = some (.int .i64 (d.f 4)) ∧ wr.cell? ⟨g, 5, none⟩ = some (.int .i64 (d.f 5)) ∧ wr.cell? ⟨g, 6, none⟩ = some (.int .i64 (d.f 6)) ∧ wr.cell? ⟨g, 7, none⟩ = some (.int .i64 (d.f 7)) ∧ wr.cell? ⟨g, 8, none⟩ = some (.int .i64 (d.f 8)) :=
  ⟨h.cell 0, h.cell 1, h.cell 2, h.cell 3, h.cell 4, h.cell 5, h.cell 6, h.cell 7, h.cell 8⟩
theorem Rst.vals {w wr : World} {R : Nat} {L : List (Int × Int)} {v : Value} (h : Rst w R L v wr) :
    wr.cell? ⟨R + 1, 0, none⟩ = some v ∧ wr.cell? ⟨R + 1, 1, none⟩ = some (.int .i64 ((dynL L).f 1)) ∧ wr.cell? ⟨R + 1, 2, none⟩ = some (.int .i64 ((dynL L).f 2)) ∧ wr.cell? ⟨R + 1, 3, none⟩ = some (.int .i64 ((dynL L).f 3)) ∧ wr.cell? ⟨R + 1, 4, none⟩ = some (.int .i64 ((dynL L).f 4)) ∧ wr.cell? ⟨R + 1, 5, none⟩ = some (.int .i64 ((dynL L).f 5)) ∧ wr.cell? ⟨R + 1, 6, none⟩ = some (.int .i64 ((dynL L).f 6)) ∧ wr.cell? ⟨R + 1, 7, none⟩ = some (.int .i64 ((dynL L).f 7)) ∧ wr.cell? ⟨R + 1, 8, none⟩ = some (.int .i64 ((dynL L).f 8)) :=
  dyn_vals _ h.sd.blk
theorem Rst.slice {w wr : World} {R : Nat} {L : List (Int × Int)} {v : Value} (h : Rst w R L v wr) : ∃ A c, v = .slice A (dynL L).needed.length c :=
  own_slice h.sd.own
theorem dyn_yes {w wr : World} {R c n : Nat} {d : Dyn} {A : Option Addr} (hres : Blk wr R 26 (Dyn.none.cs (.slice none 0 0))) (hn : d.needed.length = n) (hsd : Sd (R + 1) (R + 3) (.slice A n c) d wr) (hlow : Below R w wr) (hwf : d.wf) :
    Blk (setDyn wr R (.slice A n c) d) R 26 (d.cs (.slice A n c)) ∧ IntRow (setDyn wr R (.slice A n c) d) A d.needed ∧ Below R w (setDyn wr R (.slice A n c) d) := by
  have hbut := setDyn_but wr R (.slice A n c) d
  have hblk := setDyn_blk hres (.slice A n c) d
  generalize setDyn wr R (.slice A n c) d = W at *
  have hlt := hres.lt
  have hS : ∀ k, (fun x => x = R) k → R ≤ k := fun k hk => by simp only at hk; omega
  refine ⟨hblk, ?_, hlow.trans (hbut.below (Nat.le_of_lt hlt) hS)⟩
  have hq : ∀ k, (Value.slice A n c).ownBlock = some k → ¬ (fun x => x = R) k := fun k hk e => by
    have := (hsd.own.lt k hk).1
    simp only at e
    omega
  have ho := own_butD hsd.own hbut hq
  obtain ⟨-, A', c', hv, hr⟩ := intRow_own ho hwf.need
  have hA : A = A' := by injection hv
  rw [hA]
  exact hr
theorem Rst.yes {w wr : World} {R c : Nat} {L : List (Int × Int)} {A : Option Addr} (h : Rst w R L (.slice A (dynL L).needed.length c) wr) :
    Blk (setDyn wr R (.slice A (dynL L).needed.length c) (dynL L)) R 26 ((dynL L).cs (.slice A (dynL L).needed.length c)) ∧ IntRow (setDyn wr R (.slice A (dynL L).needed.length c) (dynL L)) A (dynL L).needed ∧ Below R w (setDyn wr R (.slice A (dynL L).needed.length c) (dynL L)) :=
  dyn_yes h.res rfl h.sd h.low h.wf
theorem Rst.no {w wr : World} {R : Nat} {L : List (Int × Int)} {v : Value} (h : Rst w R L v wr) :
    Blk (setDyn wr R (.slice none 0 0) Dyn.none) R 26 (Dyn.none.cs (.slice none 0 0)) ∧ Below R w (setDyn wr R (.slice none 0 0) Dyn.none) := by
  have hbut := setDyn_but wr R (.slice none 0 0) Dyn.none
  have hblk := setDyn_blk h.res (.slice none 0 0) Dyn.none
  generalize setDyn wr R (.slice none 0 0) Dyn.none = W at *
  have hS : ∀ k, (fun x => x = R) k → R ≤ k := fun k hk => by simp only at hk; omega
  exact ⟨hblk, h.low.trans (hbut.below (Nat.le_of_lt h.res.lt) hS)⟩

/-- A table and an error were told. -/
def DynET (w : World) (d : Dyn) (er : Int) (e : Ending) (w' : World) : Prop := ∃ A c, e = .returned (.tuple #[.agg (d.cs (.slice A d.needed.length c)), .int .i64 er]) ∧ IntRow w' A d.needed ∧ Below w.heap.size w w'

set_option maxRecDepth 100000 in
set_option maxHeartbeats 3200000 in
theorem dread_any (s : ByteArray) (w : World) (hs : s.size ≤ 16000) :
    Calls Tryd.prog 8 #[.string s] w (DynET w (readD s) (readE s)) := by
  have hmm := @run_makeMap Tryd.prog
  have hstart := Rst.start w
  have HR := Lib.hid (show readD s = readD s ∧ readE s = readE s from ⟨rfl, rfl⟩)
  obtain ⟨R, hR⟩ : ∃ R, w.heap.size = R := ⟨_, rfl⟩
  rw [hR] at hstart
  obtain ⟨N, hN⟩ : ∃ N, s.size / 16 = N := ⟨_, rfl⟩
  have hdiv : (s.size : Int).tdiv 16 = (N : Int) := by
    rw [← hN, Int.tdiv_eq_ediv_of_nonneg (by omega)]
    omega
  have hN16 : N ≤ 1000 := by omega
  have hw64 : wrap64 (N : Int) = N := IntWalk.wrap64_in _ (by omega)
  have hw65 : IntKind.i64.wrap (N : Int) = N := IntWalk.i64_in _ (by omega)
  have HN := Lib.hid hN
  have HS := Lib.hid hs
  clear hN
  unfold Dyn.cs Dyn.none at hstart
  simp only at hstart
  go_enter Tryd.func8, Tryd.ntmps8
  go_wp2_with fail
  go_step3
  go_wp2_with fail
  go_step3
  go_wp2_with fail
  generalize hW : ((w.alloc (.cells #[.slice none 0 0, .int .i64 0, .int .i64 0, .int .i64 0, .int .i64 0, .int .i64 0, .int .i64 0, .int .i64 0, .int .i64 0] 26)).alloc (.cells #[.slice none 0 0, .int .i64 0, .int .i64 0, .int .i64 0, .int .i64 0, .int .i64 0, .int .i64 0, .int .i64 0, .int .i64 0] 26)).alloc (.map #[] 0) = W0 at *
  clear hW
  have H0 := Lib.hid hstart
  have hent : (entsOf s).length = N := by unfold entsOf; rw [List.length_map, List.length_range]; exact HN.out
  have HE := Lib.hid (fun (k : Nat) (hk : k < N) => show (entsOf s).drop k = entAt s k :: (entsOf s).drop (k + 1) from by
    rw [List.drop_eq_getElem_cons (by rw [hent]; exact hk)]
    congr 1
    unfold entsOf
    simp)
  have HEN := Lib.hid (show (entsOf s).drop N = [] from List.drop_eq_nil_of_le (Nat.le_of_eq hent))
  clear hstart hent HR
  go_loopw [6, 17] (fun b i wr => ∃ (k : Nat) (L : List (Int × Int)) (v : Value), k ≤ N ∧ i = .int .i64 k ∧ b = .bool false ∧ Hid (readO s = rdL ((entsOf s).drop k) L) ∧ Hid (L.length ≤ k) ∧ Hid (Rst w R L v wr)) (fun _ i _ => N - (intOf i).toNat)
  case atStart => exact ⟨0, [], _, Nat.zero_le _, rfl, rfl, Lib.hid (by simp [readO]), Lib.hid (Nat.le_refl _), H0⟩
  case round =>
    obtain ⟨k, L, v, hk, rfl, rfl, HRD, HLL, HST⟩ := hrel
    obtain ⟨A, c, rfl⟩ := HST.out.slice
    by_cases hlt : k < N
    · obtain ⟨P, hP⟩ : ∃ P : Int, (k : Int) * 16 = P := ⟨_, rfl⟩
      have hP1 : IntKind.i64.wrap ((k : Int) * 16) = P := by rw [hP]; exact IntWalk.i64_in _ (by omega)
      obtain ⟨Q, hQ⟩ : ∃ Q : Int, P + 8 = Q := ⟨_, rfl⟩
      have hQ1 : IntKind.i64.wrap (P + 8) = Q := by rw [hQ]; exact IntWalk.i64_in _ (by omega)
      have wfi : ∀ z : Int, 0 ≤ z → z ≤ 100000 → (Lit.int .i64 z).wf = true := fun z h0 h1 => by
        have e1 : IntKind.i64.min = -9223372036854775808 := rfl
        have e2 : IntKind.i64.max = 9223372036854775807 := by decide
        simp [Lit.wf, e1, e2]
        omega
      have hg1 := fun v => get_any s P 8 v (wfi P (by omega) (by omega)) (by decide) (by have := HS.out; omega)
      have hg2 := fun v => get_any s Q 8 v (wfi Q (by omega) (by omega)) (by decide) (by have := HS.out; omega)
      have hrd := HRD.out
      rw [HE.out k hlt] at hrd
      have hea : entAt s k = (getN s P 8, getN s Q 8) := by unfold entAt; rw [← hQ, ← hP]
      rw [hea] at hrd
      have ht64 := getN_u64 s P
      have hv64 := getN_u64 s Q
      have hv0 := getN_nonneg s Q 8
      generalize getN s P 8 = t at *
      generalize getN s Q 8 = x at *
      generalize hol s.size P 8 = b1 at *
      generalize hol s.size Q 8 = b2 at *
      unfold rdL at hrd
      simp only at hrd
      have HG1 := Lib.hid hg1
      have HG2 := Lib.hid hg2
      clear hg1 hg2 hea hP hQ wfi HRD
      by_cases ht0 : t = 0
      · subst ht0
        rw [if_pos rfl] at hrd
        have hfin := HST.out.yes
        have hres : readD s = dynL L ∧ readE s = 0 := by unfold readD readE; rw [hrd]; exact ⟨rfl, rfl⟩
        obtain ⟨⟨r0, r1, r2, r3, r4, r5, r6, r7, r8⟩, f0, f1, f2, f3, f4, f5, f6, f7, f8⟩ := HST.out.cells
        obtain ⟨x0, x1, x2, x3, x4, x5, x6, x7, x8⟩ := HST.out.vals
        have HRES := Lib.hid hres
        clear hres hrd HST HE HEN H0 HLL
        generalize dynL L = d at *
        have hcs : d.cs (.slice A d.needed.length c) = d.cs (.slice A d.needed.length c) := rfl
        obtain ⟨d1, e1⟩ : ∃ z, d.f 1 = z := ⟨_, rfl⟩
        obtain ⟨d2, e2⟩ : ∃ z, d.f 2 = z := ⟨_, rfl⟩
        obtain ⟨d3, e3⟩ : ∃ z, d.f 3 = z := ⟨_, rfl⟩
        obtain ⟨d4, e4⟩ : ∃ z, d.f 4 = z := ⟨_, rfl⟩
        obtain ⟨d5, e5⟩ : ∃ z, d.f 5 = z := ⟨_, rfl⟩
        obtain ⟨d6, e6⟩ : ∃ z, d.f 6 = z := ⟨_, rfl⟩
        obtain ⟨d7, e7⟩ : ∃ z, d.f 7 = z := ⟨_, rfl⟩
        obtain ⟨d8, e8⟩ : ∃ z, d.f 8 = z := ⟨_, rfl⟩
        unfold setDyn at hfin
        rw [e1, e2, e3, e4, e5, e6, e7, e8] at hfin
        unfold Dyn.cs at hfin hcs
        rw [e1, e2, e3, e4, e5, e6, e7, e8] at hfin
        conv at hcs => lhs; rw [e1, e2, e3, e4, e5, e6, e7, e8]
        rw [e1] at x1
        rw [e2] at x2
        rw [e3] at x3
        rw [e4] at x4
        rw [e5] at x5
        rw [e6] at x6
        rw [e7] at x7
        rw [e8] at x8
        have HCS := Lib.hid hcs
        obtain ⟨n, hn⟩ : ∃ n, d.needed.length = n := ⟨_, rfl⟩
        rw [hn] at x0 hfin
        have HF := Lib.hid hfin
        have HN2 := Lib.hid hn
        clear hfin e1 e2 e3 e4 e5 e6 e7 e8 hn hcs
        go_wp2_with (first
          | (go_at_call 17; with_reducible refine (HG1.out _).mono ?_; rintro e w' ⟨rfl, rfl⟩) | (go_at_call 17; with_reducible refine (HG2.out _).mono ?_; rintro e w' ⟨rfl, rfl⟩))
        obtain ⟨hRf, hrow, hBf⟩ := HF.out
        clear HF
        generalize World.setCell _ _ _ = W5 at *
        try rw [Exit.noGoto_ret]
        refine bodyPost_ret (results_dyn_tmp rfl _ _ R 26 _ (0, 0) _ rfl hRf Tryd.underlying26 rfl (by kernel_rfl)) rfl ?_
        obtain ⟨q1, q2⟩ := HRES.out
        rw [q1, q2]
        refine ⟨A, c, ?_, hrow, by rw [hR]; exact hBf⟩
        unfold Dyn.cs
        rw [← HCS.out, HN2.out]
        rfl
      · rw [if_neg ht0] at hrd
        have htb : (t == 0) = false := by simpa using ht0
        have hm := fun v => dmost_any t v
        obtain ⟨m, hmm2⟩ : ∃ m, mostI t = m := ⟨_, rfl⟩
        rw [hmm2] at hm hrd
        have HM := Lib.hid hm
        have HMQ := Lib.hid (show ∀ v, Calls Tryd.prog 18 #[.int .u64 t] v fun e w' => e = .returned (.int .i64 m) ∧ w' = v from fun v => (hm v).mono fun _ _ ⟨a, b⟩ => ⟨a, b.symm⟩)
        clear hm
        by_cases hm0 : m = 0
        · subst hm0
          rw [if_pos rfl] at hrd
          have HRD2 := Lib.hid hrd
          clear hrd
          go_wp2_with (first
          | (go_at_call 17; with_reducible refine (HG1.out _).mono ?_; rintro e w' ⟨rfl, rfl⟩) | (go_at_call 17; with_reducible refine (HG2.out _).mono ?_; rintro e w' ⟨rfl, rfl⟩)
          | (go_at_call 18; with_reducible refine (HM.out _).mono ?_; rintro e w' ⟨rfl, rfl⟩))
          go_roundw
          case rel => exact ⟨k + 1, L, _, by omega, by go_num, rfl, HRD2, Lib.hid (by have := HLL.out; omega), HST⟩
          case measure => simp [intOf]; omega
        · rw [if_neg hm0] at hrd
          have hmb : (m == 0) = false := by simpa using hm0
          have hlk := fun n => (HST.out.drewN n).map.look ht64
          obtain ⟨cn, hcn⟩ : ∃ cn, cntI L t = cn := ⟨_, rfl⟩
          rw [hcn] at hlk hrd
          by_cases hce : cn = m
          · have hceb : (cn == m) = true := by simpa using hce
            rw [if_pos hce] at hrd
            subst hce
            go_wp2_with (first
              | (go_at_call 17; with_reducible refine (HG1.out _).mono ?_; rintro e w' ⟨rfl, rfl⟩) | (go_at_call 17; with_reducible refine (HG2.out _).mono ?_; rintro e w' ⟨rfl, rfl⟩)
              | (go_at_call 18; with_reducible refine (HM.out _).mono ?_; rintro e w' ⟨rfl, rfl⟩))
            go_quiet ((go_at_call 18; exact Calls.quiet_of_same (HMQ.out _)))
            have HS2 := Lib.hid (HST.out.drewN nq)
            generalize wr.drewN nq = w2 at *
            clear hlk
            have hfin := (HS2.out).no
            have hres : readD s = Dyn.none ∧ readE s = 17 := by unfold readD readE; rw [hrd]; exact ⟨rfl, rfl⟩
            obtain ⟨⟨r0, r1, r2, r3, r4, r5, r6, r7, r8⟩, f0, f1, f2, f3, f4, f5, f6, f7, f8⟩ := (HS2.out).cells
            unfold setDyn Dyn.cs Dyn.none at hfin
            simp only at hfin
            have HF := Lib.hid hfin
            have HRES := Lib.hid hres
            clear hfin hres hrd
            go_wp2
            obtain ⟨hRf, hBf⟩ := HF.out
            clear HF
            generalize World.setCell _ _ _ = W5 at *
            try rw [Exit.noGoto_ret]
            refine bodyPost_ret (results_dyn_tmp rfl _ _ R 26 _ (0, 0) _ rfl hRf Tryd.underlying26 rfl (by kernel_rfl)) rfl ?_
            obtain ⟨q1, q2⟩ := HRES.out
            rw [q1, q2]
            exact ⟨none, 0, rfl, fun i hi => absurd hi (by simp [Dyn.none]), by rw [hR]; exact hBf⟩
          · have hceb : (cn == m) = false := by simpa using hce
            rw [if_neg hce] at hrd
            have hcn0 : 0 ≤ cn ∧ cn ≤ 1000 := by rw [← hcn]; have := cntI_nonneg L t; have := cntI_le L t; have := HLL.out; omega
            have hmay := fun v => dmay_any t x hv0 v
            have hmx := fun h => may_le (t := t) (v := x) h
            obtain ⟨my, hmy⟩ : ∃ my, mayI t x = my := ⟨_, rfl⟩
            rw [hmy] at hmay hmx hrd
            have HMAY := Lib.hid hmay
            clear hmay
            go_wp2_with (first
              | (go_at_call 17; with_reducible refine (HG1.out _).mono ?_; rintro e w' ⟨rfl, rfl⟩) | (go_at_call 17; with_reducible refine (HG2.out _).mono ?_; rintro e w' ⟨rfl, rfl⟩)
              | (go_at_call 18; with_reducible refine (HM.out _).mono ?_; rintro e w' ⟨rfl, rfl⟩))
            go_quiet ((go_at_call 18; exact Calls.quiet_of_same (HMQ.out _)))
            have HS2 := Lib.hid (HST.out.drewN nq)
            generalize wr.drewN nq = w2 at *
            clear hlk
            cases my
            case false =>
              rw [if_neg (by simp)] at hrd
              have hfin := (HS2.out).no
              have hres : readD s = Dyn.none ∧ readE s = 17 := by unfold readD readE; rw [hrd]; exact ⟨rfl, rfl⟩
              obtain ⟨⟨r0, r1, r2, r3, r4, r5, r6, r7, r8⟩, f0, f1, f2, f3, f4, f5, f6, f7, f8⟩ := (HS2.out).cells
              unfold setDyn Dyn.cs Dyn.none at hfin
              simp only at hfin
              have HF := Lib.hid hfin
              have HRES := Lib.hid hres
              clear hfin hres hrd
              go_wp2_with (go_at_call 19; with_reducible refine (HMAY.out _).mono ?_; rintro e w' ⟨rfl, rfl⟩)
              obtain ⟨hRf, hBf⟩ := HF.out
              clear HF
              generalize World.setCell _ _ _ = W5 at *
              try rw [Exit.noGoto_ret]
              refine bodyPost_ret (results_dyn_tmp rfl _ _ R 26 _ (0, 0) _ rfl hRf Tryd.underlying26 rfl (by kernel_rfl)) rfl ?_
              obtain ⟨q1, q2⟩ := HRES.out
              rw [q1, q2]
              exact ⟨none, 0, rfl, fun i hi => absurd hi (by simp [Dyn.none]), by rw [hR]; exact hBf⟩
            case true =>
              rw [if_pos rfl] at hrd
              have hx40 := hmx rfl
              have hxw : wrap64 x = x := IntWalk.wrap64_in _ (by omega)
              have hxi : IntKind.i64.wrap x = x := IntWalk.i64_in _ (by omega)
              have hcw : IntKind.i64.wrap (cn + 1) = cn + 1 := IntWalk.i64_in _ (by omega)
              have hcwf : (Lit.int .i64 (cn + 1)).wf = true := WalkArith.wf_i64 (by omega)
              have hxwf : (Lit.int .i64 x).wf = true := WalkArith.wf_i64 (by omega)
              have hlk := HS2.out.map.look ht64
              rw [hcn] at hlk
              obtain ⟨D, hown, hD, hat⟩ := HS2.out.map
              have hkey : keyOf Tryd.prog 42 (.int .u64 t) = some (.int .u64 t) := keyOf_int_mk Tryd.underlying42 ht64
              have HSAY := Lib.hid (fun v (h : Sd (R + 1) (R + 3) (.slice A (dynL L).needed.length c) (dynL L) v) => say_any (R + 1) (R + 3) _ _ t x v h (by omega) (by have := needed_le L; have := HLL.out; omega))
              have HLL2 := HLL.out
              have HRD2 := Lib.hid hrd
              have HCN := Lib.hid hcn
              clear hrd hcn hmm2 hmx hmy
              obtain ⟨i0, hi0, hz0, hz1, hz2⟩ := info_parts infoInt
              go_wp2_with (first
                | (go_at_call 19; with_reducible refine (HMAY.out _).mono ?_; rintro e w' ⟨rfl, rfl⟩)
                | (go_at_call 20; with_reducible refine (HSAY.out _ HSD3.out).mono ?_; rintro e w4 ⟨rfl, hex4, hbut4⟩)
                | (at_mapUpdate; refine wpList_mapUpdate_own _ rfl _ _ _ 47 rfl 42 3 law64 Tryd.underlying47 _ (R + 1 + 1) L.length _ rfl hown (by unfold maxLen; omega) _ _ _ rfl rfl hkey _ [] (plainElem_int Tryd.underlying3 hcwf) ?_; intro w3 hown3 hgrow3
                   have HSD3 := Lib.hid (show Sd (R + 1) (R + 3) (.slice A (dynL L).needed.length c) (dynL L) w3 from
                     ⟨HS2.out.sd.blk.grown hgrow3 (by simp), HS2.out.sd.own.kept hgrow3 (.inr (fun e => by have := (HS2.out.sd.own.lt _ e).1; omega)), Nat.le_trans HS2.out.sd.le hgrow3.size⟩)
                   have HM3 := Lib.hid hown3
                   have HG3 := Lib.hid hgrow3
                   clear hown3 hgrow3))
              obtain ⟨v', hsd4⟩ := hex4
              have HST4 : Rst w R (L ++ [(t, x)]) v' w4 := by
                have hres3 : Blk w3 R 26 (Dyn.none.cs (.slice none 0 0)) := HS2.out.res.grown HG3.out (by simp; omega)
                have hlow3 : Below R w w3 := HS2.out.low.grown HG3.out (by have := HS2.out.low.size; omega) (fun j hj => by cases hj; omega)
                refine ⟨hres3.but hbut4 (by omega), ?_, ?_, hlow3.trans (hbut4.below (by have := hlow3.size; omega) (fun k hk => by omega)), ?_⟩
                · rw [dynL_snoc]; exact hsd4
                · refine Cm.but (S := fun k => k = R + 1 ∨ R + 3 ≤ k) (w := w3) ?_ hbut4 (by omega)
                  exact Cm.put (e := (t, x)) hD hat ht64 (by rw [HCN.out]; exact HM3.out)
                · rw [dynL_snoc]; exact Dyn.say_wf HS2.out.wf hxwf
              have HST5 := Lib.hid HST4
              clear HST4 hsd4 hbut4 hown hat hD HSD3 HM3 HG3 HS2 HSAY
              go_roundw
              case rel => exact ⟨k + 1, L ++ [(t, x)], _, by omega, by go_num, rfl, HRD2, Lib.hid (by simp; omega), HST5⟩
              case measure => simp [intOf]; omega
    · obtain rfl : k = N := by omega
      have hrd : readO s = none := by rw [HRD.out, HEN.out]; rfl
      have hfin := (HST.out).no
      have hres : readD s = Dyn.none ∧ readE s = 17 := by unfold readD readE; rw [hrd]; exact ⟨rfl, rfl⟩
      obtain ⟨⟨r0, r1, r2, r3, r4, r5, r6, r7, r8⟩, f0, f1, f2, f3, f4, f5, f6, f7, f8⟩ := (HST.out).cells
      unfold setDyn Dyn.cs Dyn.none at hfin
      simp only at hfin
      have HF := Lib.hid hfin
      have HRES := Lib.hid hres
      clear hfin hres hrd
      go_wp2
      obtain ⟨hRf, hBf⟩ := HF.out
      clear HF
      generalize World.setCell _ _ _ = W5 at *
      try rw [Exit.noGoto_ret]
      refine bodyPost_ret (results_dyn_tmp rfl _ _ R 26 _ (0, 0) _ rfl hRf Tryd.underlying26 rfl (by kernel_rfl)) rfl ?_
      obtain ⟨q1, q2⟩ := HRES.out
      rw [q1, q2]
      exact ⟨none, 0, rfl, fun i hi => absurd hi (by simp [Dyn.none]), by rw [hR]; exact hBf⟩
end Go.Proofs.YtmbglkebgeomcaaDoor
