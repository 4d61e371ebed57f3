/- Layer 6: what the laws share: a pool of the law's own, its calls; awake. -/
import Derived.Test.YtdelmhcbmlbojaaDoorPE
import Derived.Test.YtdelmhcbmlbojaaDoorWLa
namespace Go.Proofs.YtdelmhcbmlbojaaDoor
open Go.RowKit
set_option linter.unusedVariables false

theorem Tab.but {S : Nat → Prop} {w w' : World} (h : Tab w) (hb : But S w w') (hS : ¬ S 0) : Tab w' := by
  intro i hi
  rw [← h i hi]
  exact World.cell?_of_block (hb.block _ h.pos hS)

/-- What a call to a pool leaves: nothing of w but the pool has turned. -/
structure Pw (w cur : World) (p h g : Nat) (X : Pol) : Prop where
  wp : w.heap.size ≤ p
  wh : w.heap.size ≤ h
  wg : w.heap.size ≤ g
  bel : Below w.heap.size w cur
  pl : Pl cur p h g X
  tab : Tab cur
  pos : 0 < w.heap.size
section
variable {w cur nxt : World} {p h g : Nat} {X Y : Pol}
theorem Pw.on (s : Pw w cur p h g X) (hb : Below cur.heap.size cur nxt) : Pw w nxt p h g X := ⟨s.wp, s.wh, s.wg, s.bel.trans (hb.mono s.bel.size), s.pl.on hb, s.tab.below hb s.tab.pos, s.pos⟩
theorem Pw.but (s : Pw w cur p h g X) (hb : But (fun j => j = h ∨ j = g) cur nxt) (ha : Pl nxt p h g Y) : Pw w nxt p h g Y :=
  ⟨s.wp, s.wh, s.wg, s.bel.trans (hb.below s.bel.size (fun j e => by have := s.wh; have := s.wg; omega)), ha, s.tab.but hb (fun e => by have := s.wh; have := s.wg; have := s.pos; omega), s.pos⟩
theorem Pw.buth (s : Pw w cur p h g X) (hb : But (· = h) cur nxt) (ha : Pl nxt p h g Y) : Pw w nxt p h g Y := s.but (hb.mono fun _ e => .inl e) ha
theorem Pw.butg (s : Pw w cur p h g X) (hb : But (· = g) cur nxt) (ha : Pl nxt p h g Y) : Pw w nxt p h g Y := s.but (hb.mono fun _ e => .inr e) ha
theorem Pw.drewN (s : Pw w cur p h g X) (n : Nat) : Pw w (cur.drewN n) p h g X := ⟨s.wp, s.wh, s.wg, Below.drewN s.bel n, s.pl.drewN n, s.tab, s.pos⟩
theorem Pw.drew (s : Pw w cur p h g X) : Pw w cur.drew p h g X := s.drewN 1
theorem Pw.alloc (s : Pw w cur p h g X) (o : Obj) : Pw w (cur.alloc o) p h g X := s.on ((Below.refl _ _).alloc (Nat.le_refl _) o)
/-- A pool is made where w stood. -/
def PwMade (w : World) (n : Nat) (e : Ending) (w' : World) : Prop := ∃ p h g, e = .returned (.pointer (some ⟨p, 0, none⟩)) ∧ Pw w w' p h g (newP n)
end

theorem pw_new {w v : World} (hB : Below w.heap.size w v) (hT : Tab v) (hp : 0 < w.heap.size) (n : Nat) (h1 : 1 ≤ n) (h2 : n ≤ 4096) : Calls Tryd.prog 11 #[.int .i64 n] v (PwMade w n) :=
  (pnew_made n v h1 h2).mono fun e v' ⟨p, h, g, he, l1, l2, l3, hb, ha⟩ => ⟨p, h, g, he, Nat.le_trans hB.size l1, Nat.le_trans hB.size l2, Nat.le_trans hB.size l3, hB.trans (hb.mono hB.size), ha, hT.below hb hT.pos, hp⟩
section
variable {w v : World} {p h g : Nat} {X : Pol}
theorem pw_take (s : Pw w v p h g X) : Calls Tryd.prog 14 #[.pointer (some ⟨p, 0, none⟩)] v fun e v' => e = .returned (.tuple #[.int .i64 (tkV X.H), .int .i64 (tkE X.H)]) ∧ Pw w v' p h g X.tkX :=
  (ptake_any s.pl).mono fun e v' ⟨he, hb, ha⟩ => ⟨he, s.but hb ha⟩
theorem pw_hold (s : Pw w v p h g X) (f : Int) : Calls Tryd.prog 16 #[.pointer (some ⟨p, 0, none⟩), .int .i64 f] v fun e v' => e = .returned (.int .i64 (askE X.H f)) ∧ Pw w v' p h g (X.addX f 1) :=
  (phold_any s.pl f).mono fun e v' ⟨he, hb, ha⟩ => ⟨he, s.buth hb ha⟩
theorem pw_drop (s : Pw w v p h g X) (f : Int) : Calls Tryd.prog 18 #[.pointer (some ⟨p, 0, none⟩), .int .i64 f] v fun e v' => e = .returned (.int .i64 (askE X.H f)) ∧ Pw w v' p h g (X.addX f (-1)) :=
  (pdrop_any s.pl f).mono fun e v' ⟨he, hb, ha⟩ => ⟨he, s.buth hb ha⟩
theorem pw_bytes (s : Pw w v p h g X) (f : Int) : Calls Tryd.prog 19 #[.pointer (some ⟨p, 0, none⟩), .int .i64 f] v fun e v' => e = .returned (.tuple #[.string (X.byS f), .int .i64 (askE X.H f)]) ∧ Pw w v' p h g X :=
  (pgbytes_any s.pl f).mono fun e v' ⟨he, hb⟩ => ⟨he, s.on hb⟩
theorem pw_fill (s : Pw w v p h g X) (f : Int) (t : ByteArray) (ht : t.size ≤ 281474976710656) : Calls Tryd.prog 21 #[.pointer (some ⟨p, 0, none⟩), .int .i64 f, .string t] v fun e v' => e = .returned (.int .i64 (X.flE f t)) ∧ Pw w v' p h g (X.flX f t) :=
  (pfill_any s.pl f t ht).mono fun e v' ⟨he, hb, ha⟩ => ⟨he, s.butg hb ha⟩
theorem pw_copy (s : Pw w v p h g X) (f : Int) : Calls Tryd.prog 23 #[.pointer (some ⟨p, 0, none⟩), .int .i64 f] v fun e v' => e = .returned (.tuple #[.int .i64 (cpV X.H f), .int .i64 (cpE X.H f)]) ∧ Pw w v' p h g (X.cpX f) :=
  (pcopy_any s.pl f).mono fun e v' ⟨he, hb, ha⟩ => ⟨he, s.but hb ha⟩
theorem pw_load (s : Pw w v p h g X) (f at_ kd : Int) (hat : (Lit.int .i64 at_).wf = true) (hkd : (Lit.int .i64 kd).wf = true) : Calls Tryd.prog 25 #[.pointer (some ⟨p, 0, none⟩), .int .i64 f, .int .i64 at_, .int .i64 kd] v fun e v' =>
    e = .returned (.tuple #[.int .u64 (ldV X.H X.S f at_ kd), .int .i64 (wdE X.H f at_ kd)]) ∧ Pw w v' p h g X :=
  (pload_any s.pl f at_ kd hat hkd s.tab).mono fun e v' ⟨he, hb⟩ => ⟨he, s.on hb⟩
theorem pw_store (s : Pw w v p h g X) (f at_ kd x : Int) (hat : (Lit.int .i64 at_).wf = true) (hkd : (Lit.int .i64 kd).wf = true) (hx : (Lit.int .u64 x).wf = true) : Calls Tryd.prog 27 #[.pointer (some ⟨p, 0, none⟩), .int .i64 f, .int .i64 at_, .int .i64 kd, .int .u64 x] v fun e v' =>
    e = .returned (.int .i64 (wdE X.H f at_ kd)) ∧ Pw w v' p h g (X.stX f at_ kd x) :=
  (pstore_any s.pl f at_ kd x hat hkd hx s.tab).mono fun e v' ⟨he, hb, ha⟩ => ⟨he, s.butg hb ha⟩
end

/-- The number of a page's word. -/
theorem u64_wrap_range (n : Int) : 0 ≤ IntKind.u64.wrap n ∧ IntKind.u64.wrap n < 18446744073709551616 := by rw [IntKind.wrap_u64]; omega

set_option maxHeartbeats 1600000 in
theorem awake6_any (w : World) (hT : Tab w) : Calls Tryd.prog 10 #[] w fun e w' => e = .returned (.bool true) ∧ Below w.heap.size w w' := by
  have HN := Lib.hid (pw_new (Below.refl w.heap.size w) hT hT.pos 4 (by omega) (by omega))
  have e0 : (newP 4).tkX.H = [1, 0, 0, 0] := by decide +kernel
  have e1 : wdE (newP 4).tkX.H 0 8 2 = 0 := by decide +kernel
  have e2 : wdE ((newP 4).tkX.stX 0 8 2 258).H 0 8 1 = 0 := by decide +kernel
  have e3 : ldV ((newP 4).tkX.stX 0 8 2 258).H ((newP 4).tkX.stX 0 8 2 258).S 0 8 1 = 2 := by decide +kernel
  have HK := Lib.hid (fun (v : World) p h g (s : Pw w v p h g (newP 4)) => (pw_take s).mono (R' := fun e v' => e = .returned (.tuple #[.int .i64 0, .int .i64 0]) ∧ Pw w v' p h g (newP 4).tkX) fun e v' ⟨he, hs⟩ => ⟨he.trans rfl, hs⟩)
  have HS := Lib.hid (fun (v : World) p h g (s : Pw w v p h g (newP 4).tkX) => (pw_store s 0 8 2 258 (by decide) (by decide) (by decide)).mono (R' := fun e v' => e = .returned (.int .i64 0) ∧ Pw w v' p h g ((newP 4).tkX.stX 0 8 2 258)) fun e v' ⟨he, hs⟩ => ⟨by rw [he, e1], hs⟩)
  have HL := Lib.hid (fun (v : World) p h g (s : Pw w v p h g ((newP 4).tkX.stX 0 8 2 258)) => (pw_load s 0 8 1 (by decide) (by decide)).mono (R' := fun e v' => e = .returned (.tuple #[.int .u64 2, .int .i64 0]) ∧ Below w.heap.size w v') fun e v' ⟨he, hs⟩ => ⟨by rw [he, e2, e3], hs.bel⟩)
  clear e0 e1 e2 e3 hT
  generalize (newP 4).tkX.stX 0 8 2 258 = X2 at *
  generalize (newP 4).tkX = X1 at *
  unfold PwMade at HN
  generalize newP 4 = X0 at *
  go_enter Tryd.func10, Tryd.ntmps10
  go_wp2_with (first
    | (go_at_call 11; refine HN.out.mono ?_; rintro e v1 ⟨p, h, g, rfl, hS⟩)
    | (go_at_call 14; refine (HK.out _ _ _ _ hS).mono ?_; rintro e v2 ⟨rfl, hS2⟩; clear hS)
    | (go_at_call 27; refine (HS.out _ _ _ _ hS2).mono ?_; rintro e v3 ⟨rfl, hS3⟩; clear hS2)
    | (go_at_call 25; refine (HL.out _ _ _ _ hS3).mono ?_; rintro e v4 ⟨rfl, hS4⟩; clear hS3))
  go_ret
  exact ⟨rfl, hS4⟩
end Go.Proofs.YtdelmhcbmlbojaaDoor
