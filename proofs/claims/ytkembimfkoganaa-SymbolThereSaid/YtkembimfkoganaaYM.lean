/- Package symbol: Find. -/
import Derived.Test.YtkembimfkoganaaYK
import Derived.Test.YtkembimfkoganaaYA
import Derived.Test.YtkembimfkoganaaDF
import Derived.Deep.RegionHeld3
import Derived.BigRegion
import Derived.Deep.CutRange
import Derived.Deep.CutBlock
import Derived.RegionTactic
namespace Go.Proofs.Ytkembimfkoganaa
open Go.RowKit Go.Shelf
set_option linter.unusedVariables false
set_option linter.unusedSimpArgs false
attribute [local go_sem] Oper.semAt_some

/-- What chain's iterator promises. -/
theorem chain_stops (n : Nat) (hn : 1 ≤ n) (bv bd bh : Nat) (s : ByteArray) (d : Dyn) (u : Value) (H : Nat) (hHl : H < 4294967296) (hd : d.wf) (hs : s.size ≤ 1000000) (S : Nat → Prop) (w : World) (L : List Nat) (hL : L = seqY s (d.f 4) H)
    (hS1 : ¬ S bv) (hS2 : ¬ S bd) (hS3 : ¬ S bh) (hbv : Blk w bv 9 #[.string s]) (hbd : Blk w bd 38 (d.cs u)) (hbh : Blk w bh 30 #[.int .u32 H]) :
    SeqStopsK Fence.wide n Try.prog 34 #[.pointer (some ⟨bv, 0, none⟩), .pointer (some ⟨bd, 0, none⟩), .pointer (some ⟨bh, 0, none⟩)] (encY L) (KpC S) (fun ys => ys = List.finRange L.length) (fun pre => ∃ k, k ≤ L.length ∧ pre = upF L.length k) L.length w := fun l J Jx W hW hJ _ hY h0 =>
  chain1_in n hn l bv bd bh s d u H hHl hd hs S L hL J Jx W hS1 hS2 hS3 hJ hY (hbv.below hW hbv.lt) (hbd.below hW hbd.lt) (hbh.below hW hbh.lt) h0

/-- Is it that symbol? -/
def okY (s : ByteArray) (d : Dyn) (nm : ByteArray) (i : Nat) : Bool := (rdS s (d.f 3) i).d && (nameOk s d (rdS s (d.f 3) i).n && (nameS s d (rdS s (d.f 3) i).n).toList == nm.toList)
/-- What Find tells. -/
def fndI (s : ByteArray) (d : Dyn) (nm : ByteArray) : Option Nat := (seqY s (d.f 4) (hashL nm.data.toList)).find? (okY s d nm)
def fndS (s : ByteArray) (d : Dyn) (nm : ByteArray) : Sy := match fndI s d nm with | some i => rdS s (d.f 3) i | none => ⟨0, false, 0⟩

/-- Find's own cells. -/
structure Fr (w : World) (R p1 p2 p3 p4 p5 : Nat) (s : ByteArray) (d : Dyn) (u : Value) (nm : ByteArray) (f : Sy) (ok : Bool) (W : World) : Prop where
  b0 : Blk W R 9 #[.string s]
  b1 : Blk W p1 38 (d.cs u)
  b2 : Blk W p2 9 #[.string nm]
  b3 : Blk W p3 23 #[.int .i64 0, .bool false, .int .i64 0]
  b4 : Blk W p4 23 f.cs
  b5 : Blk W p5 4 #[.bool ok]
  bel : Below R w W
section
variable {w W W' : World} {R p1 p2 p3 p4 p5 : Nat} {s : ByteArray} {d : Dyn} {u : Value} {nm : ByteArray} {f : Sy} {ok : Bool}
theorem Fr.below (h : Fr w R p1 p2 p3 p4 p5 s d u nm f ok W) (hb : Below W.heap.size W W') : Fr w R p1 p2 p3 p4 p5 s d u nm f ok W' :=
  ⟨h.b0.below hb h.b0.lt, h.b1.below hb h.b1.lt, h.b2.below hb h.b2.lt, h.b3.below hb h.b3.lt, h.b4.below hb h.b4.lt, h.b5.below hb h.b5.lt, h.bel.trans (hb.mono (Nat.le_of_lt h.b0.lt))⟩
theorem Fr.drew (h : Fr w R p1 p2 p3 p4 p5 s d u nm f ok W) : Fr w R p1 p2 p3 p4 p5 s d u nm f ok W.drew := ⟨h.b0.drew, h.b1.drew, h.b2.drew, h.b3.drew, h.b4.drew, h.b5.drew, h.bel.drew⟩
theorem Fr.start (w : World) (s : ByteArray) (d : Dyn) (u : Value) (nm : ByteArray) (R p1 p2 p3 p4 p5 : Nat) (hR : w.heap.size = R) (h1 : R + 1 = p1) (h2 : p1 + 1 = p2) (h3 : p2 + 1 = p3) (h4 : p3 + 1 = p4) (h5 : p4 + 1 = p5) : Fr w R p1 p2 p3 p4 p5 s d u nm ⟨0, false, 0⟩ false
    ((((((w.alloc (.cells #[.string s] 9)).alloc (.cells (d.cs u) 38)).alloc (.cells #[.string nm] 9)).alloc (.cells #[.int .i64 0, .bool false, .int .i64 0] 23)).alloc (.cells #[.int .i64 0, .bool false, .int .i64 0] 23)).alloc (.cells #[.bool false] 4)) := by
  subst h5 h4 h3 h2 h1 hR
  refine ⟨?_, ?_, ?_, ?_, ?_, ?_, ?_⟩
  · exact (((((Blk.new w _ _).alloc _).alloc _).alloc _).alloc _).alloc _
  · have := (((((Blk.new (w.alloc (.cells #[.string s] 9)) 38 (d.cs u)).alloc (.cells #[.string nm] 9)).alloc (.cells #[.int .i64 0, .bool false, .int .i64 0] 23)).alloc (.cells #[.int .i64 0, .bool false, .int .i64 0] 23)).alloc (.cells #[.bool false] 4))
    simpa using this
  · have := ((((Blk.new ((w.alloc (.cells #[.string s] 9)).alloc (.cells (d.cs u) 38)) 9 #[.string nm]).alloc (.cells #[.int .i64 0, .bool false, .int .i64 0] 23)).alloc (.cells #[.int .i64 0, .bool false, .int .i64 0] 23)).alloc (.cells #[.bool false] 4))
    simpa using this
  · have := (((Blk.new (((w.alloc (.cells #[.string s] 9)).alloc (.cells (d.cs u) 38)).alloc (.cells #[.string nm] 9)) 23 #[.int .i64 0, .bool false, .int .i64 0]).alloc (.cells #[.int .i64 0, .bool false, .int .i64 0] 23)).alloc (.cells #[.bool false] 4))
    simpa using this
  · have := ((Blk.new ((((w.alloc (.cells #[.string s] 9)).alloc (.cells (d.cs u) 38)).alloc (.cells #[.string nm] 9)).alloc (.cells #[.int .i64 0, .bool false, .int .i64 0] 23)) 23 #[.int .i64 0, .bool false, .int .i64 0]).alloc (.cells #[.bool false] 4))
    simpa [Sy.cs] using this
  · have := Blk.new (((((w.alloc (.cells #[.string s] 9)).alloc (.cells (d.cs u) 38)).alloc (.cells #[.string nm] 9)).alloc (.cells #[.int .i64 0, .bool false, .int .i64 0] 23)).alloc (.cells #[.int .i64 0, .bool false, .int .i64 0] 23)) 4 #[.bool false]
    simpa using this
  · exact ((((((Below.refl _ w).alloc (Nat.le_refl _) _).alloc (by simp) _).alloc (by simp; omega) _).alloc (by simp; omega) _).alloc (by simp; omega) _).alloc (by simp; omega) _
/-- The cells that Find's calls are handed. -/
structure FrC (s : ByteArray) (d : Dyn) (u : Value) (nm : ByteArray) (R p1 p2 : Nat) (v : World) : Prop where
  s0 : v.cell? ⟨R, 0, none⟩ = some (.string s)
  n0 : v.cell? ⟨p2, 0, none⟩ = some (.string nm)
  c0 : v.cell? ⟨p1, 0, none⟩ = some u
  c1 : v.cell? ⟨p1, 1, none⟩ = some (.int .i64 (d.f 1))
  c2 : v.cell? ⟨p1, 2, none⟩ = some (.int .i64 (d.f 2))
  c3 : v.cell? ⟨p1, 3, none⟩ = some (.int .i64 (d.f 3))
  c4 : v.cell? ⟨p1, 4, none⟩ = some (.int .i64 (d.f 4))
  c5 : v.cell? ⟨p1, 5, none⟩ = some (.int .i64 (d.f 5))
  c6 : v.cell? ⟨p1, 6, none⟩ = some (.int .i64 (d.f 6))
  c7 : v.cell? ⟨p1, 7, none⟩ = some (.int .i64 (d.f 7))
  c8 : v.cell? ⟨p1, 8, none⟩ = some (.int .i64 (d.f 8))
theorem Fr.cells (h : Fr w R p1 p2 p3 p4 p5 s d u nm f ok W) : FrC s d u nm R p1 p2 W :=
  ⟨h.b0.cell 0, h.b2.cell 0, h.b1.cell 0, h.b1.cell 1, h.b1.cell 2, h.b1.cell 3, h.b1.cell 4, h.b1.cell 5, h.b1.cell 6, h.b1.cell 7, h.b1.cell 8⟩
end

theorem chain_cells {w v v2 : World} {R p1 p2 p3 p4 p5 H : Nat} {s : ByteArray} {d : Dyn} {u : Value} {nm : ByteArray} {f : Sy} {ok : Bool} (h : Fr w R p1 p2 p3 p4 p5 s d u nm f ok v)
    (hw : v2 = ((v.alloc (.cells #[.string s] 9)).alloc (.cells #[u, .int .i64 (d.f 1), .int .i64 (d.f 2), .int .i64 (d.f 3), .int .i64 (d.f 4), .int .i64 (d.f 5), .int .i64 (d.f 6), .int .i64 (d.f 7), .int .i64 (d.f 8)] 38)).alloc (.cells #[.int .u32 H] 30)) :
    Hid (Fr w R p1 p2 p3 p4 p5 s d u nm f ok v2) ∧ Hid (p5 < v.heap.size ∧ Blk v2 v.heap.size 9 #[.string s] ∧ Blk v2 (v.heap.size + 1) 38 (d.cs u) ∧ Blk v2 (v.heap.size + 2) 30 #[.int .u32 H]) := by
  subst hw
  refine ⟨Lib.hid (h.below ((((Below.refl _ v).alloc (Nat.le_refl _) _).alloc (by simp) _).alloc (by simp; omega) _)), Lib.hid ⟨h.b5.lt, ?_, ?_, ?_⟩⟩
  · exact ((Blk.new v _ _).alloc _).alloc _
  · have := (Blk.new (v.alloc (.cells #[.string s] 9)) 38 (d.cs u)).alloc (.cells #[.int .u32 H] 30)
    simpa [Dyn.cs] using this
  · have := Blk.new ((v.alloc (.cells #[.string s] 9)).alloc (.cells #[u, .int .i64 (d.f 1), .int .i64 (d.f 2), .int .i64 (d.f 3), .int .i64 (d.f 4), .int .i64 (d.f 5), .int .i64 (d.f 6), .int .i64 (d.f 7), .int .i64 (d.f 8)] 38)) 30 #[.int .u32 H]
    simpa using this

theorem chnL_lt (num : Nat → Nat) (cnt b : Nat) : ∀ m at_, ∀ x ∈ chnL num cnt b m at_, x < cnt
  | 0, _, x, h => by simp [chnL] at h
  | m + 1, at_, x, h => by
    unfold chnL at h
    split at h
    · simp at h
    · rcases List.mem_cons.1 h with e | e
      · rw [e]; omega
      · exact chnL_lt num cnt b m _ x e
theorem seqY_lt (s : ByteArray) (f : Int) (H : Nat) : ∀ x ∈ seqY s f H, x ≤ 4096 := by
  intro x h
  unfold seqY at h
  split at h
  · simp at h
  · have := chnL_lt _ _ _ _ _ x h
    have := cntV_le s f
    omega
theorem rdS_wf (s : ByteArray) (f i : Int) : (Lit.int .i64 (rdS s f i).n).wf = true := by
  unfold rdS
  split
  · have := getN_in (restS s f) (i * 24) 4 (by omega)
    simp only [show ((4 : Nat) : Int) = 4 from rfl] at this
    exact WalkArith.wf_i64 (n := getN (restS s f) (i * 24) 4) (by omega)
  · decide
theorem KeepsFrom.of_belowY {B : Nat} {W W' : World} (h : Below W.heap.size W W') : KeepsFrom B W W' := ⟨h.size, fun k o _ ho _ => (h.block k (Array.getElem?_eq_some_iff.1 ho).1).trans ho⟩
/-- The blocks are unlike. -/
structure PsY (R p1 p2 p3 p4 p5 : Nat) : Prop where
  a : R < p1
  b : p1 < p2
  c : p2 < p3
  d : p3 < p4
  e : p4 < p5
theorem Fr.own {β : Type} {w : World} {R p1 p2 p3 p4 p5 : Nat} {s : ByteArray} {d : Dyn} {u : Value} {nm : ByteArray} {f : Sy} {ok : Bool} {B : Nat} (hw : w.heap.size = R) (hB : R ≤ B) : OwnFrom B (fun (_ : β) W => Fr w R p1 p2 p3 p4 p5 s d u nm f ok W) := fun s0 X Y row hs hg hr =>
  ⟨Blk.ownF B _ _ _ s0 X Y row hs.b0 hg hr, Blk.ownF B _ _ _ s0 X Y row hs.b1 hg hr, Blk.ownF B _ _ _ s0 X Y row hs.b2 hg hr, Blk.ownF B _ _ _ s0 X Y row hs.b3 hg hr, Blk.ownF B _ _ _ s0 X Y row hs.b4 hg hr, Blk.ownF B _ _ _ s0 X Y row hs.b5 hg hr,
    ownFrom_below (Nat.le_of_eq hw.symm) hB s0 X Y row hs.bel hg hr⟩
theorem Fr.found {w v : World} {R p1 p2 p3 p4 p5 : Nat} {s : ByteArray} {d : Dyn} {u : Value} {nm : ByteArray} {f : Sy} {ok : Bool} (h : Fr w R p1 p2 p3 p4 p5 s d u nm f ok v) (hp : PsY R p1 p2 p3 p4 p5) (n z : Int) (b : Bool) :
    Fr w R p1 p2 p3 p4 p5 s d u nm ⟨n, b, z⟩ true ((((v.setCell ⟨p4, 0, none⟩ (.int .i64 n)).setCell ⟨p4, 1, none⟩ (.bool b)).setCell ⟨p4, 2, none⟩ (.int .i64 z)).setCell ⟨p5, 0, none⟩ (.bool true)) := by
  obtain ⟨h1, h2, h3, h4, h5⟩ := hp
  have far : ∀ {g : Nat} {t : TypeId} {cs : Array Value}, g ≠ p4 → g ≠ p5 → Blk v g t cs → Blk ((((v.setCell ⟨p4, 0, none⟩ (.int .i64 n)).setCell ⟨p4, 1, none⟩ (.bool b)).setCell ⟨p4, 2, none⟩ (.int .i64 z)).setCell ⟨p5, 0, none⟩ (.bool true)) g t cs :=
    fun a c hb => (((hb.far (p := ⟨p4, 0, none⟩) a _).far (p := ⟨p4, 1, none⟩) a _).far (p := ⟨p4, 2, none⟩) a _).far (p := ⟨p5, 0, none⟩) c _
  refine ⟨far (by omega) (by omega) h.b0, far (by omega) (by omega) h.b1, far (by omega) (by omega) h.b2, far (by omega) (by omega) h.b3, ?_, ?_, ?_⟩
  · have := (((h.b4.set_ 0 (.int .i64 n)).set_ 1 (.bool b)).set_ 2 (.int .i64 z)).far (p := ⟨p5, 0, none⟩) (by show p4 ≠ p5; omega) (.bool true)
    simpa [Sy.cs] using this
  · have := (((h.b5.far (p := ⟨p4, 0, none⟩) (by show p5 ≠ p4; omega) (.int .i64 n)).far (p := ⟨p4, 1, none⟩) (by show p5 ≠ p4; omega) (.bool b)).far (p := ⟨p4, 2, none⟩) (by show p5 ≠ p4; omega) (.int .i64 z)).set_ 0 (.bool true)
    simpa using this
  · exact (((h.bel.setCell (p := ⟨p4, 0, none⟩) (by show R ≤ p4; omega) _).setCell (p := ⟨p4, 1, none⟩) (by show R ≤ p4; omega) _).setCell (p := ⟨p4, 2, none⟩) (by show R ≤ p4; omega) _).setCell (p := ⟨p5, 0, none⟩) (by show R ≤ p5; omega) _

theorem Fr.told {w v : World} {R p1 p2 p3 p4 p5 D : Nat} {s : ByteArray} {d : Dyn} {u : Value} {nm : ByteArray} {f : Sy} {ok : Bool} {o : Obj} (h : Fr w R p1 p2 p3 p4 p5 s d u nm f ok v) (hp : PsY R p1 p2 p3 p4 p5) (hw : w.heap.size = R) (hD : p5 < D) (hK : v.heap[D]? = some o) (ho : o.isCells = false) (ho2 : o.isWalk = false) (n z : Int) (b : Bool) :
    (((v.setCell ⟨p3, 0, none⟩ (.int .i64 n)).setCell ⟨p3, 1, none⟩ (.bool b)).setCell ⟨p3, 2, none⟩ (.int .i64 z)).drew.heap[D]? = some o ∧
    ∀ o', ((((v.setCell ⟨p3, 0, none⟩ (.int .i64 n)).setCell ⟨p3, 1, none⟩ (.bool b)).setCell ⟨p3, 2, none⟩ (.int .i64 z)).drew.putObj D o').heap[p3]? = some (.cells #[.int .i64 n, .bool b, .int .i64 z] 23 (0, 0)) ∧ Below R w ((((v.setCell ⟨p3, 0, none⟩ (.int .i64 n)).setCell ⟨p3, 1, none⟩ (.bool b)).setCell ⟨p3, 2, none⟩ (.int .i64 z)).drew.putObj D o') := by
  obtain ⟨h1, h2, h3, h4, h5⟩ := hp
  have hk : (((v.setCell ⟨p3, 0, none⟩ (.int .i64 n)).setCell ⟨p3, 1, none⟩ (.bool b)).setCell ⟨p3, 2, none⟩ (.int .i64 z)).drew.heap[D]? = some o :=
    ((Below.heap_setCell _ ⟨p3, 2, none⟩ _ D (by show D ≠ p3; omega)).trans ((Below.heap_setCell _ ⟨p3, 1, none⟩ _ D (by show D ≠ p3; omega)).trans (Below.heap_setCell _ ⟨p3, 0, none⟩ _ D (by show D ≠ p3; omega)))).trans hK
  refine ⟨hk, fun o' => ⟨?_, ?_⟩⟩
  · rw [World.putObj_heap_other (by omega)]
    have hbk := ((((h.b3.set_ 0 (.int .i64 n)).set_ 1 (.bool b)).set_ 2 (.int .i64 z))).drew
    have hbk2 : Blk (((v.setCell ⟨p3, 0, none⟩ (.int .i64 n)).setCell ⟨p3, 1, none⟩ (.bool b)).setCell ⟨p3, 2, none⟩ (.int .i64 z)).drew p3 23 #[.int .i64 n, .bool b, .int .i64 z] := by simpa using hbk
    exact hbk2
  · have hb := (((h.bel.setCell (p := ⟨p3, 0, none⟩) (by show R ≤ p3; omega) (.int .i64 n)).setCell (p := ⟨p3, 1, none⟩) (by show R ≤ p3; omega) (.bool b)).setCell (p := ⟨p3, 2, none⟩) (by show R ≤ p3; omega) (.int .i64 z)).drew
    exact hb.trans (belowK_b (w := w) (Nat.le_of_eq hw.symm) _ D _ _ (by omega) hk ho ho2)
/-- How a name may be, or not. -/
def okc (q1 q2 OK : Bool) : Prop := (q1 = false ∧ OK = false) ∨ (q1 = true ∧ q2 = false ∧ OK = false) ∨ (q1 = true ∧ q2 = true ∧ OK = true)
/-- A round's slots. -/
def tmY (s nm : ByteArray) (d : Dyn) (u : Value) (R p1 p2 p3 p4 p5 X i : Nat) (u16 u17 u18 u19 : Value) : Array Value :=
  #[.string s, .agg #[u, .int .i64 (d.f 1), .int .i64 (d.f 2), .int .i64 (d.f 3), .int .i64 (d.f 4), .int .i64 (d.f 5), .int .i64 (d.f 6), .int .i64 (d.f 7), .int .i64 (d.f 8)], .string nm, .pointer (some ⟨R, 0, none⟩), .pointer (some ⟨p1, 0, none⟩), .pointer (some ⟨p2, 0, none⟩), .pointer (some ⟨p3, 0, none⟩), .bool false, .pointer (some ⟨p4, 0, none⟩), .pointer (some ⟨p5, 0, none⟩), .int .i64 (i : Nat), undef, undef, undef, undef, .agg #[.int .i64 0, .bool false, .int .i64 0], u16, u17, u18, u19, .func (.func 34) #[] #[.pointer (some ⟨X, 0, none⟩), .pointer (some ⟨X + 1, 0, none⟩), .pointer (some ⟨X + 2, 0, none⟩)], .int .i64 (i : Nat), undef, undef, undef, undef, undef, undef, undef, undef, undef, undef, undef, undef, undef, undef, undef, undef, undef, undef, undef, undef, undef, undef, undef, undef, undef, undef, undef]
set_option maxRecDepth 100000 in
set_option maxHeartbeats 4000000 in
theorem sfind_any (s : ByteArray) (d : Dyn) (u : Value) (nm : ByteArray) (w : World) (hd : d.wf) (hs : s.size ≤ 1000000) (hm : nm.size ≤ 1000) :
    Calls Try.prog 17 #[.string s, .agg (d.cs u), .string nm] w fun e w' => e = .returned (.tuple #[.agg (fndS s d nm).cs, .bool (fndI s d nm).isSome]) ∧ Below w.heap.size w w' := by
  have HH := Lib.hid (fun v => hash_any nm v (by omega))
  have HC := Lib.hid (fun v => chain_any s d u (hashL nm.data.toList) v)
  have hHl := hashL_lt nm.data.toList
  have HRD := Lib.hid (fun i v (hi : i ≤ 1000000) => sread_any s d u (i : Nat) v hd (WalkArith.wf_i64 (by omega)) hs)
  have HNA := Lib.hid (fun a v (ha : (Lit.int .i64 a).wf = true) => name_any s d u a v hd ha hs)
  obtain ⟨FI, hFI⟩ : ∃ x, fndI s d nm = x := ⟨_, rfl⟩
  obtain ⟨FS, hFS⟩ : ∃ x, fndS s d nm = x := ⟨_, rfl⟩
  rw [hFI, hFS]
  have HFI := Lib.hid hFI
  have HFS := Lib.hid hFS
  obtain ⟨R, hR⟩ : ∃ R, w.heap.size = R := ⟨_, rfl⟩
  obtain ⟨p1, hp1⟩ : ∃ p, R + 1 = p := ⟨_, rfl⟩
  obtain ⟨p2, hp2⟩ : ∃ p, p1 + 1 = p := ⟨_, rfl⟩
  obtain ⟨p3, hp3⟩ : ∃ p, p2 + 1 = p := ⟨_, rfl⟩
  obtain ⟨p4, hp4⟩ : ∃ p, p3 + 1 = p := ⟨_, rfl⟩
  obtain ⟨p5, hp5⟩ : ∃ p, p4 + 1 = p := ⟨_, rfl⟩
  have HF0 := Fr.start w s d u nm R p1 p2 p3 p4 p5 hR hp1 hp2 hp3 hp4 hp5
  obtain ⟨W0, hW0⟩ : ∃ W0, ((((((w.alloc (.cells #[.string s] 9)).alloc (.cells (d.cs u) 38)).alloc (.cells #[.string nm] 9)).alloc (.cells #[.int .i64 0, .bool false, .int .i64 0] 23)).alloc (.cells #[.int .i64 0, .bool false, .int .i64 0] 23)).alloc (.cells #[.bool false] 4)) = W0 := ⟨_, rfl⟩
  rw [hW0] at HF0
  unfold Dyn.cs at hW0 HC HRD HNA ⊢
  have HF0 := Lib.hid HF0
  have HW0 := Lib.hid hW0
  have HP := Lib.hid (And.intro hp1 (And.intro hp2 (And.intro hp3 (And.intro hp4 hp5))))
  clear hFI hFS hW0 hp1 hp2 hp3 hp4 hp5
  refine callsIn_wide (n := 3).1 ?_
  refine callsIn_of_wp_marks Try.func17 rfl trivial ?_ rfl
  simp only [Try.ntmps17, List.size_toArray, List.length_cons, List.length_nil, Nat.reduceAdd, Nat.reduceSub, Array.replicate_succ, Array.replicate_zero, List.push_toArray, List.append_toArray, List.nil_append, List.cons_append]
  refine wpIn_wide.2 ?_
  go_wp2_with fail
  go_step3
  go_wp2_with fail
  go_step3
  go_upto_region 2 with fail
  rw [HW0.out, HP.out.1, HP.out.2.1, HP.out.2.2.1, HP.out.2.2.2.1, HP.out.2.2.2.2]
  clear HW0
  obtain ⟨H, hH⟩ : ∃ H, hashL nm.data.toList = H := ⟨_, rfl⟩
  rw [hH] at HH HC hHl
  have HHE := Lib.hid hH
  clear hH
  go_cut [20] from 16 to 20 (fun x wx => ∃ X, x = .func (.func 34) #[] #[.pointer (some ⟨X, 0, none⟩), .pointer (some ⟨X + 1, 0, none⟩), .pointer (some ⟨X + 2, 0, none⟩)] ∧ Hid (Fr w R p1 p2 p3 p4 p5 s d u nm ⟨0, false, 0⟩ false wx ∧ p5 < X ∧ Blk wx X 9 #[.string s] ∧ Blk wx (X + 1) 38 (d.cs u) ∧ Blk wx (X + 2) 30 #[.int .u32 H]))
  case first =>
    have kF := Lib.hid HF0.out.drew
    obtain ⟨e0, e1, e2, e3, e4, e5, e6, e7, e8, e9, e10⟩ := kF.out.cells
    go_region_held3 (fun w' => w'.cell? ⟨R, 0, none⟩ = some (.string s) ∧ w'.cell? ⟨p2, 0, none⟩ = some (.string nm) ∧ w'.cell? ⟨p1, 0, none⟩ = some u ∧ w'.cell? ⟨p1, 1, none⟩ = some (.int .i64 (d.f 1)) ∧ w'.cell? ⟨p1, 2, none⟩ = some (.int .i64 (d.f 2)) ∧ w'.cell? ⟨p1, 3, none⟩ = some (.int .i64 (d.f 3)) ∧ w'.cell? ⟨p1, 4, none⟩ = some (.int .i64 (d.f 4)) ∧ w'.cell? ⟨p1, 5, none⟩ = some (.int .i64 (d.f 5)) ∧ w'.cell? ⟨p1, 6, none⟩ = some (.int .i64 (d.f 6)) ∧ w'.cell? ⟨p1, 7, none⟩ = some (.int .i64 (d.f 7)) ∧ w'.cell? ⟨p1, 8, none⟩ = some (.int .i64 (d.f 8)) ∧ Hid (Fr w R p1 p2 p3 p4 p5 s d u nm ⟨0, false, 0⟩ false w'))
      (first | exact ⟨e0, e1, e2, e3, e4, e5, e6, e7, e8, e9, e10, kF⟩ | exact ⟨e0, e1, e2, e3, e4, e5, e6, e7, e8, e9, e10, kG⟩ | exact ⟨e0, e1, e2, e3, e4, e5, e6, e7, e8, e9, e10, kH⟩)
      (first
      | (go_at_call 11; with_reducible refine (HH.out _).mono ?_; rintro e v1 ⟨rfl, hb⟩; rcases ‹(_ : Prop) ∧ _ ∧ _ ∧ _ ∧ _ ∧ _ ∧ _ ∧ _ ∧ _ ∧ _ ∧ _ ∧ Hid (Fr _ _ _ _ _ _ _ _ _ _ _ _ _ _)› with ⟨-, -, -, -, -, -, -, -, -, -, -, kF⟩; clear e0 e1 e2 e3 e4 e5 e6 e7 e8 e9 e10; have kG := Lib.hid (kF.out.below hb); clear hb kF; obtain ⟨e0, e1, e2, e3, e4, e5, e6, e7, e8, e9, e10⟩ := kG.out.cells)
      | (go_at_call 28; with_reducible refine (HC.out _).mono ?_; rintro e v2 ⟨rfl, hw2⟩; obtain ⟨kH, HX⟩ := chain_cells kG.out hw2; clear kG hw2 e0 e1 e2 e3 e4 e5 e6 e7 e8 e9 e10; obtain ⟨e0, e1, e2, e3, e4, e5, e6, e7, e8, e9, e10⟩ := kH.out.cells))
    all_goals
      go_wp2
      go_meet
      exact ⟨_, rfl, Lib.hid ⟨kH.out, HX.out⟩⟩
  case rest =>
    obtain ⟨X, rfl, HX⟩ := hcut
    clear HF0 HH HC
    obtain ⟨L, hL⟩ : ∃ L, seqY s (d.f 4) H = L := ⟨_, rfl⟩
    have hLm := seqY_lt s (d.f 4) H
    rw [hL] at hLm
    have HLM := Lib.hid hLm
    have hPs : PsY R p1 p2 p3 p4 p5 := by
      obtain ⟨a, b, c, e, f⟩ := HP.out
      exact ⟨by omega, by omega, by omega, by omega, by omega⟩
    have HFD := Lib.hid (show FI = L.find? (okY s d nm) ∧ FS = (match L.find? (okY s d nm) with | some i => rdS s (d.f 3) (i : Nat) | none => ⟨0, false, 0⟩) from by
      have e : fndI s d nm = L.find? (okY s d nm) := by unfold fndI; rw [HHE.out, hL]
      exact ⟨by rw [← HFI.out, e], by rw [← HFS.out]; unfold fndS; rw [e]⟩)
    have hwc : R ≤ wc.heap.size := Nat.le_of_lt HX.out.1.b0.lt
    have hXp : p5 < X := HX.out.2.1
    have hXw : p5 < wc.heap.size := HX.out.1.b5.lt
    go_wp2_with fail
    refine (wpIn_wide (n := 3)).1 ?_
    refine wpIn_rangeFunc_ownH rfl (by omega) (gf := 34) (lb := #[.pointer (some ⟨X, 0, none⟩), .pointer (some ⟨X + 1, 0, none⟩), .pointer (some ⟨X + 2, 0, none⟩)]) rfl trivial (enters_of Try.func34 (by kernel_rfl) rfl)
      (chain_stops (3 - 1) (by omega) X (X + 1) (X + 2) s d u H (by omega) hd hs (fun k => k = p4 ∨ k = p5) wc L hL.symm (by have := hPs.e; omega) (by have := hPs.e; omega) (by have := hPs.e; omega) HX.out.2.2.1 HX.out.2.2.2.1 HX.out.2.2.2.2) KpC.trans kpC_b (Below.refl _ _) (fun _ => rfl)
      (fun pre W => (∀ j ∈ pre, okY s d nm L[j.1] = false) ∧ Fr w R p1 p2 p3 p4 p5 s d u nm ⟨0, false, 0⟩ false W)
      (fun c pre W => (c = .exit 0 ∧ ∃ ini last, pre = ini ++ [last] ∧ (∀ j ∈ ini, okY s d nm L[j.1] = false) ∧ okY s d nm L[last.1] = true ∧ Fr w R p1 p2 p3 p4 p5 s d u nm (rdS s (d.f 3) (L[last.1] : Nat)) true W))
      (fun s0 Y Z row hs0 hg hr => ⟨hs0.1, Fr.own hR hwc () Y Z row hs0.2 hg hr⟩)
      (fun c s0 Y Z row hs0 hg hr => by obtain ⟨hc, ini, last, a1, a2, a3, a4⟩ := hs0; exact ⟨hc, ini, last, a1, a2, a3, Fr.own hR hwc () Y Z row a4 hg hr⟩)
      ⟨by simp, HX.out.1⟩
      (fun x a' W => a' = { tmps := tmY s nm d u R p1 p2 p3 p4 p5 X L[x.1] u16 u17 u18 u19, defers := [] })
      (fun x a' _ Y Z row hs0 hg hr => hs0)
      ?assign ?body ?done ?stop
    case assign =>
      rintro l pre x W K ⟨h1, h2⟩ hK
      simp only [encY] at *
      gi_wp2
      exact hK _ _ (KeepsFrom.refl _ _) (KpC.refl _ _) ⟨h1, h2⟩ rfl
    case body =>
      rintro l pre x a' W hl _ ⟨h1, hF⟩ rfl hlt
      unfold tmY
      have hi : L[x.1] ≤ 4096 := HLM.out _ (List.getElem_mem _)
      have hfin2 : okY s d nm L[x.1] = false → ∀ j ∈ pre ++ [x], okY s d nm L[j.1] = false := fun hp j hj => by
        rcases List.mem_append.1 hj with h | h
        · exact h1 j h
        · rw [List.mem_singleton.1 h]; exact hp
      have hfin1 : ∀ W', okY s d nm L[x.1] = true → Fr w R p1 p2 p3 p4 p5 s d u nm (rdS s (d.f 3) (L[x.1] : Nat)) true W' → ∃ ini last, pre ++ [x] = ini ++ [last] ∧ (∀ j ∈ ini, okY s d nm L[j.1] = false) ∧ okY s d nm L[last.1] = true ∧ Fr w R p1 p2 p3 p4 p5 s d u nm (rdS s (d.f 3) (L[last.1] : Nat)) true W' := fun W' hp hb => ⟨pre, x, rfl, h1, hp, hb⟩
      have hok : okY s d nm L[x.1] = ((rdS s (d.f 3) (L[x.1] : Nat)).d && (nameOk s d (rdS s (d.f 3) (L[x.1] : Nat)).n && (nameS s d (rdS s (d.f 3) (L[x.1] : Nat)).n).toList == nm.toList)) := rfl
      have hr := fun v => HRD.out L[x.1] v (by omega)
      have hzw := rdS_wf s (d.f 3) (L[x.1] : Nat)
      have hna := fun v => HNA.out (rdS s (d.f 3) (L[x.1] : Nat)).n v hzw
      have HF1 := Lib.hid hfin1
      have HF2 := Lib.hid hfin2
      have hsz := nameS_size s d (rdS s (d.f 3) (L[x.1] : Nat)).n
      generalize okY s d nm L[x.1] = OK at *
      obtain ⟨b, hb⟩ : ∃ b, rdOk s (d.f 3) (L[x.1] : Nat) = b := ⟨_, rfl⟩
      rw [hb] at hr
      generalize rdS s (d.f 3) (L[x.1] : Nat) = Z at *
      obtain ⟨zn, zd, zv⟩ := Z
      unfold Sy.cs at hr
      simp only at hok hr hzw hna hsz
      generalize nameOk s d zn = q1 at *
      generalize nameS s d zn = NS at *
      generalize L[x.1] = i at *
      obtain ⟨q2, hq2⟩ : ∃ q, (NS.toList == nm.toList) = q := ⟨_, rfl⟩
      rw [hq2] at hok
      have HR := Lib.hid hr
      have HN := Lib.hid hna
      obtain ⟨e0, e1, e2, e3, e4, e5, e6, e7, e8, e9, e10⟩ := hF.cells
      have HF := Lib.hid hF
      clear hfin1 hfin2 h1 hr hna hF hb hLm hzw hL hi HLM HRD HNA HFD HFI HFS HHE
      cases zd
      · have HV := Lib.hid (show OK = false by rw [hok]; rfl)
        clear hok
        gi_wp2_with (refine ⟨trivial, ?_⟩; gi_at_call 16; refine (CallsIn.inRound l (callsIn_wide.2 (HR.out _))).mono ?_; rintro e v1 ⟨rfl, hb1⟩)
        have hB2 := hb1.alloc hb1.size (.cells #[.int .i64 zn, .bool false, .int .i64 zv] 23)
        exact ⟨KeepsFrom.of_belowY hB2, KpC.of_below hB2, HF2.out HV.out, HF.out.below hB2⟩
      · have hca : okc q1 q2 OK := by rw [hok]; cases q1 <;> cases q2 <;> simp [okc]
        clear hok
        have HPS := Lib.hid hPs
        have HPN := Lib.hid (show p5 ≠ p4 from by have := hPs.e; omega)
        clear hPs
        rcases hca with ⟨rfl, hV⟩ | ⟨rfl, rfl, hV⟩ | ⟨rfl, rfl, hV⟩
        all_goals
          have HV := Lib.hid hV
          clear hV
          gi_wp2_with (first
            | (refine ⟨trivial, ?_⟩; gi_at_call 16; refine (CallsIn.inRound l (callsIn_wide.2 (HR.out _))).mono ?_; rintro e v1 ⟨rfl, hb1⟩; have hB2 := hb1.alloc hb1.size (.cells #[.int .i64 zn, .bool true, .int .i64 zv] 23); have hY := Blk.new v1 23 #[.int .i64 zn, .bool true, .int .i64 zv]; clear e0 e1 e2 e3 e4 e5 e6 e7 e8 e9 e10; obtain ⟨e0, e1, e2, e3, e4, e5, e6, e7, e8, e9, e10⟩ := (HF.out.below hB2).cells)
            | (refine ⟨trivial, ?_⟩; gi_at_call 29; refine (CallsIn.inRound l (callsIn_wide.2 (HN.out _))).mono ?_; rintro e v3 ⟨rfl, hb3⟩; have hY3 := hY.below hb3 hY.lt; have hF3 := (HF.out.below hB2).below hb3; clear e0 e1 e2 e3 e4 e5 e6 e7 e8 e9 e10; obtain ⟨e0, e1, e2, e3, e4, e5, e6, e7, e8, e9, e10⟩ := hF3.cells; have y0 := hY3.at_ 0 _ rfl; have y1 := hY3.at_ 1 _ rfl; have y2 := hY3.at_ 2 _ rfl; have g0 := hF3.b4.frozen 0; have g1 := hF3.b4.frozen 1; have g2 := hF3.b4.frozen 2; have z0 := hF3.b4.at_ 0 _ rfl; have z1 := hF3.b4.at_ 1 _ rfl; have z2 := hF3.b4.at_ 2 _ rfl; have hB5 := ((hF3.b5.far (p := ⟨p4, 0, none⟩) HPN.out (.int .i64 zn)).far (p := ⟨p4, 1, none⟩) HPN.out (.bool true)).far (p := ⟨p4, 2, none⟩) HPN.out (.int .i64 zv); have z3 := hB5.at_ 0 _ rfl; have g3 := hB5.frozen 0))
        · have hB4 := hB2.trans (hb3.mono hB2.size)
          exact ⟨KeepsFrom.of_belowY hB4, KpC.of_below hB4, HF2.out HV.out, hF3⟩
        · have hB4 := hB2.trans (hb3.mono hB2.size)
          exact ⟨KeepsFrom.of_belowY hB4, KpC.of_below hB4, HF2.out HV.out, hF3⟩
        · have hB4 := hB2.trans (hb3.mono hB2.size)
          exact ⟨(KeepsFrom.of_belowY hB4).trans ((((KeepsOthers.setCell _ _ _).from _).trans ((KeepsOthers.setCell _ _ _).from _)).trans (((KeepsOthers.setCell _ _ _).from _).trans ((KeepsOthers.setCell _ _ _).from _))), rfl, HF1.out _ HV.out (hF3.found HPS.out zn zv true)⟩
    case done =>
      rintro D ys W hD rfl ⟨h1, hF⟩ hK
      have hnone : L.find? (okY s d nm) = none := by
        rw [List.find?_eq_none]
        intro y hy
        obtain ⟨j, hj, rfl⟩ := List.getElem_of_mem hy
        rw [h1 ⟨j, hj⟩ (List.mem_finRange _)]
        simp
      have HV := Lib.hid (show FI = none ∧ FS = ⟨0, false, 0⟩ from by obtain ⟨e1, e2⟩ := HFD.out; rw [hnone] at e1 e2; exact ⟨e1, e2⟩)
      clear hnone h1
      have q1 : p3 ≠ p5 := by have := hPs.d; have := hPs.e; omega
      have q2 : p5 ≠ p3 := fun e => q1 e.symm
      have q3 : (p3 == p5) = false := by simpa using q1
      have q4 : (p5 == p3) = false := by simpa using q2
      have HPS := Lib.hid hPs
      have hDp : p5 < D := by omega
      clear hPs HP HLM HRD HNA HX hL hLm HFI HFS HHE HFD hXp
      have c0 : W.cell? ⟨p4, 0, none⟩ = some (.int .i64 0) := hF.b4.at_ 0 _ rfl
      have c1 : W.cell? ⟨p4, 1, none⟩ = some (.bool false) := hF.b4.at_ 1 _ rfl
      have c2 : W.cell? ⟨p4, 2, none⟩ = some (.int .i64 0) := hF.b4.at_ 2 _ rfl
      have c3 := hF.b5.at_ 0 _ rfl
      have r0 := hF.b3.at_ 0 _ rfl
      have r1 := hF.b3.at_ 1 _ rfl
      have r2 := hF.b3.at_ 2 _ rfl
      have g0 := hF.b3.frozen 0
      have g1 := hF.b3.frozen 1
      have g2 := hF.b3.frozen 2
      have HT := Lib.hid (hF.told HPS.out hR hDp hK rfl rfl 0 0 false)
      clear hF
      go_wp2_with fail
      go_region
      go_wp2
      rw [Exit.noGoto_ret]
      refine ⟨by simp, .inl ⟨_, _, rfl, run_takeDeferred HT.out.1, ?_⟩⟩
      refine ⟨_, results_sy_tmp rfl _ _ p3 23 _ (0, 0) _ rfl (HT.out.2 _).1 Try.underlying23 rfl (by kernel_rfl), by rw [HV.out.1, HV.out.2]; rfl, by rw [hR]; exact (HT.out.2 _).2⟩
    case stop =>
      rintro D c pre W hD ⟨k, hk, rfl⟩ ⟨rfl, ini, last, e1, e2, e3, hF⟩ hK
      obtain ⟨k', rfl⟩ : ∃ k', k = k' + 1 := by
        cases k with
        | zero => simp [upF] at e1
        | succ k' => exact ⟨k', rfl⟩
      have hkl : k' < L.length := hk
      rw [upF_succ hkl] at e1
      obtain ⟨rfl, e5⟩ := List.append_inj' e1 rfl
      have e6 : last = ⟨k', hkl⟩ := by simpa using e5.symm
      subst e6
      simp only at hF e3
      have hsome : L.find? (okY s d nm) = some L[k'] := by
        rw [List.find?_eq_some_iff_getElem]
        refine ⟨e3, k', hkl, rfl, fun j hj => ?_⟩
        rw [e2 ⟨j, by omega⟩ (by unfold upF; rw [List.mem_take_iff_getElem]; exact ⟨j, by simp; omega, by simp⟩)]
        rfl
      have HV := Lib.hid (show FI = some L[k'] ∧ FS = rdS s (d.f 3) (L[k'] : Nat) from by obtain ⟨e1, e2⟩ := HFD.out; rw [hsome] at e1 e2; exact ⟨e1, e2⟩)
      clear hsome e1 e2 e3 e5
      obtain ⟨fi, hfi⟩ : ∃ fi, L[k'] = fi := ⟨_, rfl⟩
      rw [hfi] at HV hF
      obtain ⟨⟨zn, zd, zv⟩, hZ⟩ : ∃ Z, rdS s (d.f 3) (fi : Nat) = Z := ⟨_, rfl⟩
      rw [hZ] at HV hF
      clear hfi hZ
      have q1 : p3 ≠ p5 := by have := hPs.d; have := hPs.e; omega
      have q2 : p5 ≠ p3 := fun e => q1 e.symm
      have q3 : (p3 == p5) = false := by simpa using q1
      have q4 : (p5 == p3) = false := by simpa using q2
      have HPS := Lib.hid hPs
      have hDp : p5 < D := by omega
      clear hPs HP HLM HRD HNA HX hL hLm HFI HFS HHE HFD hXp
      have c0 : W.cell? ⟨p4, 0, none⟩ = some (.int .i64 zn) := hF.b4.at_ 0 _ rfl
      have c1 : W.cell? ⟨p4, 1, none⟩ = some (.bool zd) := hF.b4.at_ 1 _ rfl
      have c2 : W.cell? ⟨p4, 2, none⟩ = some (.int .i64 zv) := hF.b4.at_ 2 _ rfl
      have c3 := hF.b5.at_ 0 _ rfl
      have r0 := hF.b3.at_ 0 _ rfl
      have r1 := hF.b3.at_ 1 _ rfl
      have r2 := hF.b3.at_ 2 _ rfl
      have g0 := hF.b3.frozen 0
      have g1 := hF.b3.frozen 1
      have g2 := hF.b3.frozen 2
      have HT := Lib.hid (hF.told HPS.out hR hDp hK rfl rfl zn zv zd)
      clear hF
      gi_wp2
      go_wp2_with fail
      go_region
      go_wp2
      rw [Exit.noGoto_ret]
      refine ⟨by simp, .inl ⟨_, _, rfl, run_takeDeferred HT.out.1, ?_⟩⟩
      refine ⟨_, results_sy_tmp rfl _ _ p3 23 _ (0, 0) _ rfl (HT.out.2 _).1 Try.underlying23 rfl (by kernel_rfl), by rw [HV.out.1, HV.out.2]; rfl, by rw [hR]; exact (HT.out.2 _).2⟩
end Go.Proofs.Ytkembimfkoganaa
