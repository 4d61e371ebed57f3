/- A pool, and a block of the law's own beside it. -/
import Derived.Test.YtbidlabhekiijaaDoorPF
namespace Go.Proofs.YtbidlabhekiijaaDoor
open Go.RowKit
set_option linter.unusedVariables false

/-- A pool of the law's own, and a block beside it. -/
structure Mm (w cur : World) (p h g b : Nat) (t : TypeId) (cs : Array Value) (X : Pol) : Prop where
  sw : Pw w cur p h g X
  blk : Blk cur b t cs
  bp : b ≠ p
  bh : b ≠ h
  bg : b ≠ g
  wb : w.heap.size ≤ b
section
variable {w cur nxt : World} {p h g b : Nat} {t : TypeId} {cs : Array Value} {X Y : Pol}
theorem Mm.new (s : Pw w cur p h g X) (t : TypeId) (cs : Array Value) : Mm w (cur.alloc (.cells cs t)) p h g cur.heap.size t cs X := by
  have l1 := s.pl.head.lt
  have l2 := s.pl.row.lt
  have l3 := s.pl.byt.lt
  exact ⟨s.alloc _, Blk.new _ _ _, by omega, by omega, by omega, s.bel.size⟩
theorem Mm.on (s : Mm w cur p h g b t cs X) (hb : Below cur.heap.size cur nxt) : Mm w nxt p h g b t cs X := ⟨s.sw.on hb, s.blk.below hb s.blk.lt, s.bp, s.bh, s.bg, s.wb⟩
theorem Mm.but (s : Mm w cur p h g b t cs X) (hb : But (fun j => j = h ∨ j = g) cur nxt) (ha : Pl nxt p h g Y) : Mm w nxt p h g b t cs Y :=
  ⟨s.sw.but hb ha, s.blk.but hb (by have := s.bh; have := s.bg; omega), s.bp, s.bh, s.bg, s.wb⟩
theorem Mm.buth (s : Mm w cur p h g b t cs X) (hb : But (· = h) cur nxt) (ha : Pl nxt p h g Y) : Mm w nxt p h g b t cs Y := s.but (hb.mono fun _ e => .inl e) ha
theorem Mm.butg (s : Mm w cur p h g b t cs X) (hb : But (· = g) cur nxt) (ha : Pl nxt p h g Y) : Mm w nxt p h g b t cs Y := s.but (hb.mono fun _ e => .inr e) ha
theorem Mm.drewN (s : Mm w cur p h g b t cs X) (n : Nat) : Mm w (cur.drewN n) p h g b t cs X := ⟨s.sw.drewN n, s.blk.drewN n, s.bp, s.bh, s.bg, s.wb⟩
theorem Mm.drew (s : Mm w cur p h g b t cs X) : Mm w cur.drew p h g b t cs X := s.drewN 1
theorem Pw.far {q : Addr} (s : Pw w cur p h g X) (hp : p ≠ q.block) (hh : h ≠ q.block) (hg : g ≠ q.block) (hq : w.heap.size ≤ q.block) (u : Value) : Pw w (cur.setCell q u) p h g X :=
  ⟨s.wp, s.wh, s.wg, s.bel.setCell hq u, s.pl.far hp hh hg u, s.tab.but ((But.refl (· = q.block) cur).setCell (p := q) (.inl rfl) u) (fun e => by have := s.pos; omega), s.pos⟩
theorem Mm.store (s : Mm w cur p h g b t cs X) (i : Nat) (u : Value) : Mm w (cur.setCell ⟨b, i, none⟩ u) p h g b t (cs.setIfInBounds i u) X :=
  ⟨s.sw.far (q := ⟨b, i, none⟩) (fun e => s.bp e.symm) (fun e => s.bh e.symm) (fun e => s.bg e.symm) s.wb u, s.blk.set_ i u, s.bp, s.bh, s.bg, s.wb⟩
end
section
variable {w v : World} {p h g b : Nat} {t : TypeId} {cs : Array Value} {X : Pol}
theorem mm_take (s : Mm w v p h g b t cs X) : Calls Tryd.prog 35 #[.pointer (some ⟨p, 0, none⟩)] v fun e v' => e = .returned (.tuple #[.int .i64 (tkV X.H), .int .i64 (tkE X.H)]) ∧ Mm w v' p h g b t cs X.tkX :=
  (ptake_any s.sw.pl).mono fun e v' ⟨he, hb, ha⟩ => ⟨he, s.but hb ha⟩
theorem mm_drop (s : Mm w v p h g b t cs X) (f : Int) : Calls Tryd.prog 48 #[.pointer (some ⟨p, 0, none⟩), .int .i64 f] v fun e v' => e = .returned (.int .i64 (askE X.H f)) ∧ Mm w v' p h g b t cs (X.addX f (-1)) :=
  (pdrop_any s.sw.pl f).mono fun e v' ⟨he, hb, ha⟩ => ⟨he, s.buth hb ha⟩
theorem mm_bytes (s : Mm w v p h g b t cs X) (f : Int) : Calls Tryd.prog 54 #[.pointer (some ⟨p, 0, none⟩), .int .i64 f] v fun e v' => e = .returned (.tuple #[.string (X.byS f), .int .i64 (askE X.H f)]) ∧ Mm w v' p h g b t cs X :=
  (pgbytes_any s.sw.pl f).mono fun e v' ⟨he, hb⟩ => ⟨he, s.on hb⟩
theorem mm_load (s : Mm w v p h g b t cs X) (f at_ kd : Int) (hat : (Lit.int .i64 at_).wf = true) (hkd : (Lit.int .i64 kd).wf = true) : Calls Tryd.prog 63 #[.pointer (some ⟨p, 0, none⟩), .int .i64 f, .int .i64 at_, .int .i64 kd] v fun e v' =>
    e = .returned (.tuple #[.int .u64 (ldV X.H X.S f at_ kd), .int .i64 (wdE X.H f at_ kd)]) ∧ Mm w v' p h g b t cs X :=
  (pload_any s.sw.pl f at_ kd hat hkd s.sw.tab).mono fun e v' ⟨he, hb⟩ => ⟨he, s.on hb⟩
theorem mm_store (s : Mm w v p h g b t cs X) (f at_ kd x : Int) (hat : (Lit.int .i64 at_).wf = true) (hkd : (Lit.int .i64 kd).wf = true) (hx : (Lit.int .u64 x).wf = true) : Calls Tryd.prog 60 #[.pointer (some ⟨p, 0, none⟩), .int .i64 f, .int .i64 at_, .int .i64 kd, .int .u64 x] v fun e v' =>
    e = .returned (.int .i64 (wdE X.H f at_ kd)) ∧ Mm w v' p h g b t cs (X.stX f at_ kd x) :=
  (pstore_any s.sw.pl f at_ kd x hat hkd hx s.sw.tab).mono fun e v' ⟨he, hb, ha⟩ => ⟨he, s.butg hb ha⟩
end
end Go.Proofs.YtbidlabhekiijaaDoor
