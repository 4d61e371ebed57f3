/- Layer 6: what the laws share: a pool of the law's own, its calls; awake. -/
import Derived.Test.YtbidlabhekiijaaDoorPE
import Derived.Test.YtbidlabhekiijaaDoorWLa
namespace Go.Proofs.YtbidlabhekiijaaDoor
open Go.RowKit
set_option linter.unusedVariables false

theorem Tab.but {S : Nat → Prop} {w w' : World} (h : Tab w) (hb : But S w w') (hS : ¬ S 0) : Tab w' := by
  intro i hi
  rw [← h i hi]
  exact World.cell?_of_block (hb.block _ h.pos hS)

/-- What a call to a pool leaves: nothing of w but the pool has turned. -/
structure Pw (w cur : World) (p h g : Nat) (X : Pol) : Prop where
  wp : w.heap.size ≤ p
  wh : w.heap.size ≤ h
  wg : w.heap.size ≤ g
  bel : Below w.heap.size w cur
  pl : Pl cur p h g X
  tab : Tab cur
  pos : 0 < w.heap.size
section
variable {w cur nxt : World} {p h g : Nat} {X Y : Pol}
theorem Pw.on (s : Pw w cur p h g X) (hb : Below cur.heap.size cur nxt) : Pw w nxt p h g X := ⟨s.wp, s.wh, s.wg, s.bel.trans (hb.mono s.bel.size), s.pl.on hb, s.tab.below hb s.tab.pos, s.pos⟩
theorem Pw.but (s : Pw w cur p h g X) (hb : But (fun j => j = h ∨ j = g) cur nxt) (ha : Pl nxt p h g Y) : Pw w nxt p h g Y :=
  ⟨s.wp, s.wh, s.wg, s.bel.trans (hb.below s.bel.size (fun j e => by have := s.wh; have := s.wg; omega)), ha, s.tab.but hb (fun e => by have := s.wh; have := s.wg; have := s.pos; omega), s.pos⟩
theorem Pw.buth (s : Pw w cur p h g X) (hb : But (· = h) cur nxt) (ha : Pl nxt p h g Y) : Pw w nxt p h g Y := s.but (hb.mono fun _ e => .inl e) ha
theorem Pw.butg (s : Pw w cur p h g X) (hb : But (· = g) cur nxt) (ha : Pl nxt p h g Y) : Pw w nxt p h g Y := s.but (hb.mono fun _ e => .inr e) ha
theorem Pw.drewN (s : Pw w cur p h g X) (n : Nat) : Pw w (cur.drewN n) p h g X := ⟨s.wp, s.wh, s.wg, Below.drewN s.bel n, s.pl.drewN n, s.tab, s.pos⟩
theorem Pw.drew (s : Pw w cur p h g X) : Pw w cur.drew p h g X := s.drewN 1
theorem Pw.alloc (s : Pw w cur p h g X) (o : Obj) : Pw w (cur.alloc o) p h g X := s.on ((Below.refl _ _).alloc (Nat.le_refl _) o)
/-- A pool is made where w stood. -/
def PwMade (w : World) (n : Nat) (e : Ending) (w' : World) : Prop := ∃ p h g, e = .returned (.pointer (some ⟨p, 0, none⟩)) ∧ Pw w w' p h g (newP n)
end

theorem pw_new {w v : World} (hB : Below w.heap.size w v) (hT : Tab v) (hp : 0 < w.heap.size) (n : Nat) (h1 : 1 ≤ n) (h2 : n ≤ 4096) : Calls Tryd.prog 16 #[.int .i64 n] v (PwMade w n) :=
  (pnew_made n v h1 h2).mono fun e v' ⟨p, h, g, he, l1, l2, l3, hb, ha⟩ => ⟨p, h, g, he, Nat.le_trans hB.size l1, Nat.le_trans hB.size l2, Nat.le_trans hB.size l3, hB.trans (hb.mono hB.size), ha, hT.below hb hT.pos, hp⟩
section
variable {w v : World} {p h g : Nat} {X : Pol}
theorem pw_take (s : Pw w v p h g X) : Calls Tryd.prog 35 #[.pointer (some ⟨p, 0, none⟩)] v fun e v' => e = .returned (.tuple #[.int .i64 (tkV X.H), .int .i64 (tkE X.H)]) ∧ Pw w v' p h g X.tkX :=
  (ptake_any s.pl).mono fun e v' ⟨he, hb, ha⟩ => ⟨he, s.but hb ha⟩
theorem pw_drop (s : Pw w v p h g X) (f : Int) : Calls Tryd.prog 48 #[.pointer (some ⟨p, 0, none⟩), .int .i64 f] v fun e v' => e = .returned (.int .i64 (askE X.H f)) ∧ Pw w v' p h g (X.addX f (-1)) :=
  (pdrop_any s.pl f).mono fun e v' ⟨he, hb, ha⟩ => ⟨he, s.buth hb ha⟩
theorem pw_bytes (s : Pw w v p h g X) (f : Int) : Calls Tryd.prog 54 #[.pointer (some ⟨p, 0, none⟩), .int .i64 f] v fun e v' => e = .returned (.tuple #[.string (X.byS f), .int .i64 (askE X.H f)]) ∧ Pw w v' p h g X :=
  (pgbytes_any s.pl f).mono fun e v' ⟨he, hb⟩ => ⟨he, s.on hb⟩
theorem pw_load (s : Pw w v p h g X) (f at_ kd : Int) (hat : (Lit.int .i64 at_).wf = true) (hkd : (Lit.int .i64 kd).wf = true) : Calls Tryd.prog 63 #[.pointer (some ⟨p, 0, none⟩), .int .i64 f, .int .i64 at_, .int .i64 kd] v fun e v' =>
    e = .returned (.tuple #[.int .u64 (ldV X.H X.S f at_ kd), .int .i64 (wdE X.H f at_ kd)]) ∧ Pw w v' p h g X :=
  (pload_any s.pl f at_ kd hat hkd s.tab).mono fun e v' ⟨he, hb⟩ => ⟨he, s.on hb⟩
theorem pw_store (s : Pw w v p h g X) (f at_ kd x : Int) (hat : (Lit.int .i64 at_).wf = true) (hkd : (Lit.int .i64 kd).wf = true) (hx : (Lit.int .u64 x).wf = true) : Calls Tryd.prog 60 #[.pointer (some ⟨p, 0, none⟩), .int .i64 f, .int .i64 at_, .int .i64 kd, .int .u64 x] v fun e v' =>
    e = .returned (.int .i64 (wdE X.H f at_ kd)) ∧ Pw w v' p h g (X.stX f at_ kd x) :=
  (pstore_any s.pl f at_ kd x hat hkd hx s.tab).mono fun e v' ⟨he, hb, ha⟩ => ⟨he, s.butg hb ha⟩
end

/-- The number of a page's word. -/
theorem u64_wrap_range (n : Int) : 0 ≤ IntKind.u64.wrap n ∧ IntKind.u64.wrap n < 18446744073709551616 := by rw [IntKind.wrap_u64]; omega

end Go.Proofs.YtbidlabhekiijaaDoor
