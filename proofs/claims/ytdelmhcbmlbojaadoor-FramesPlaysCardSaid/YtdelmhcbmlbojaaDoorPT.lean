/- FramesPlays: both pools side by side. -/
import Derived.Test.YtdelmhcbmlbojaaDoorPS
import Derived.Test.YtdelmhcbmlbojaaDoorBits
import Derived.Test.YtdelmhcbmlbojaaDoorOpen
import Derived.Deep.CutRange
import Derived.BigQuiet
namespace Go.Proofs.YtdelmhcbmlbojaaDoor.lawPlays
open Go.ChangeShapes Go.WideShapes Go.ChangeAt Go.RowKit
set_option linter.unusedVariables false

/-- A call. -/
structure OpD where
  kind : Int
  frame : Int
  at_ : Int
  word : Int
  bits : Int
  s : ByteArray
  short : Bool
/-- A slice of calls. -/
def OpRow (w : World) (A : Option Addr) (l : List OpD) : Prop := ∀ i (hi : i < l.length), ∃ ad, A = some ad ∧ ad.block < w.heap.size ∧ w.cell? (ad.add (i * 7)) = some (.int .i64 l[i].kind) ∧ w.cell? (ad.add (i * 7 + 1)) = some (.int .i64 l[i].frame) ∧
  w.cell? (ad.add (i * 7 + 2)) = some (.int .i64 l[i].at_) ∧ w.cell? (ad.add (i * 7 + 3)) = some (.int .i64 l[i].word) ∧ w.cell? (ad.add (i * 7 + 4)) = some (.int .u64 l[i].bits) ∧ w.cell? (ad.add (i * 7 + 5)) = some (.string l[i].s) ∧ w.cell? (ad.add (i * 7 + 6)) = some (.bool l[i].short) ∧
  (Lit.int .i64 l[i].at_).wf = true ∧ (Lit.int .i64 l[i].word).wf = true ∧ (Lit.int .u64 l[i].bits).wf = true ∧ l[i].s.size ≤ maxLen
theorem openOps {H : Type} {enc : TypeId × Value → H} {w : World} {base : Nat} {spare : Nat → Bool} {held : Bool} {r : Reach} {b0 : Nat} {v : Value} {d : DataW H} {ps : List MemPlace}
    (hv : Value.okWide Tryd.prog w r b0 22 v) (h : DataW.Trod enc Tryd.prog w base spare held 22 v d ps) : ∃ A l c, v = .slice A (List.length l) c ∧ l.length ≤ maxLen ∧ OpRow w A l := by
  obtain ⟨A, n, c, rfl, hn, hi⟩ := open_fields_row Tryd.underlying22 Tryd.underlying30 (by kernel_rfl) (by kernel_rfl) (by decide) hv h
  obtain ⟨zs, hl, hz⟩ := list_of (Q := fun i (z : OpD) => ∃ ad, A = some ad ∧ ad.block < w.heap.size ∧ w.cell? (ad.add (i * 7)) = some (.int .i64 z.kind) ∧ w.cell? (ad.add (i * 7 + 1)) = some (.int .i64 z.frame) ∧
      w.cell? (ad.add (i * 7 + 2)) = some (.int .i64 z.at_) ∧ w.cell? (ad.add (i * 7 + 3)) = some (.int .i64 z.word) ∧ w.cell? (ad.add (i * 7 + 4)) = some (.int .u64 z.bits) ∧ w.cell? (ad.add (i * 7 + 5)) = some (.string z.s) ∧ w.cell? (ad.add (i * 7 + 6)) = some (.bool z.short) ∧
      (Lit.int .i64 z.at_).wf = true ∧ (Lit.int .i64 z.word).wf = true ∧ (Lit.int .u64 z.bits).wf = true ∧ z.s.size ≤ maxLen) n (fun i h => by
    obtain ⟨ad, rfl, hb, hf⟩ := hi i h
    obtain ⟨u0, y0, m0, hc0, h0⟩ := hf 0 _ rfl
    obtain ⟨u1, y1, m1, hc1, h1⟩ := hf 1 _ rfl
    obtain ⟨u2, y2, m2, hc2, h2⟩ := hf 2 _ rfl
    obtain ⟨u3, y3, m3, hc3, h3⟩ := hf 3 _ rfl
    obtain ⟨u4, y4, m4, hc4, h4⟩ := hf 4 _ rfl
    obtain ⟨u5, y5, m5, hc5, h5⟩ := hf 5 _ rfl
    obtain ⟨u6, y6, m6, hc6, h6⟩ := hf 6 _ rfl
    obtain ⟨z0, e0, _, w0⟩ := DataW.trod_int Tryd.underlying3 h0
    obtain ⟨z1, e1, _, w1⟩ := DataW.trod_int Tryd.underlying3 h1
    obtain ⟨z2, e2, _, w2⟩ := DataW.trod_int Tryd.underlying3 h2
    obtain ⟨z3, e3, _, w3⟩ := DataW.trod_int Tryd.underlying3 h3
    obtain ⟨z4, e4, _, w4⟩ := DataW.trod_int Tryd.underlying28 h4
    obtain ⟨z5, e5, _, w5⟩ := DataW.trod_string Tryd.underlying9 h5
    obtain ⟨z6, e6, _⟩ := DataW.trod_bool Tryd.underlying4 h6
    injection e0 with e0
    injection e1 with e1
    injection e2 with e2
    injection e3 with e3
    injection e4 with e4
    injection e5 with e5
    injection e6 with e6
    subst e0 e1 e2 e3 e4 e5 e6
    exact ⟨⟨z0, z1, z2, z3, z4, z5, z6⟩, ad, rfl, hb, by simpa using hc0, by simpa using hc1, by simpa using hc2, by simpa using hc3, by simpa using hc4, by simpa using hc5, by simpa using hc6, w2, w3, w4, w5⟩)
  subst hl
  exact ⟨A, zs, c, rfl, hn, hz⟩

/-- What the pool has to do with the document's. -/
structure Rel (n : Nat) (X : Pol) (T : List ByteArray) : Prop where
  lenH : X.H.length = n
  lenS : X.S.length = n
  lenT : T.length = n
  S : ∀ (k : Nat) (c : Int), X.H[k]? = some c → c ≠ 0 → X.S[k]? = T[k]?
section
variable {n : Nat} {X : Pol} {T : List ByteArray}
theorem Rel.put (r : Rel n X T) (j : Nat) (c : Int) (t : ByteArray) : Rel n ⟨X.H.set j c, X.S.set j t⟩ (T.set j t) := by
  have h1 := r.lenH
  have h2 := r.lenS
  have h3 := r.lenT
  refine ⟨by simpa using h1, by simpa using h2, by simpa using h3, fun k d hk hd => ?_⟩
  simp only at hk ⊢
  rw [List.getElem?_set] at hk
  rw [List.getElem?_set, List.getElem?_set]
  by_cases e : j = k
  · subst e
    rw [if_pos rfl, if_pos rfl, h2, h3]
  · rw [if_neg e] at hk
    rw [if_neg e, if_neg e]
    exact r.S k d hk hd
theorem Rel.sets (r : Rel n X T) (j : Nat) (t : ByteArray) : Rel n { X with S := X.S.set j t } (T.set j t) := by
  have h2 := r.lenS
  have h3 := r.lenT
  refine ⟨r.lenH, by simpa using h2, by simpa using h3, fun k d hk hd => ?_⟩
  simp only at hk ⊢
  rw [List.getElem?_set, List.getElem?_set]
  by_cases e : j = k
  · subst e
    rw [if_pos rfl, if_pos rfl, h2, h3]
  · rw [if_neg e, if_neg e]
    exact r.S k d hk hd
theorem Rel.take (r : Rel n X T) : X.tkX.H = tkH X.H ∧ Rel n X.tkX (tkT X.H T) := by
  unfold Pol.tkX tkH tkT
  by_cases h : freeAt X.H < X.H.length
  · rw [if_pos h, if_pos h, if_pos h]
    exact ⟨rfl, r.put _ _ _⟩
  · rw [if_neg h, if_neg h, if_neg h]
    exact ⟨rfl, r⟩
theorem Rel.add (r : Rel n X T) (z d : Int) : (X.addX z d).H = addH X.H z d ∧ Rel n (X.addX z d) T := by
  refine ⟨Pol.addX_H X z d, ?_⟩
  refine ⟨by rw [Pol.addX_H, addH_len, r.lenH], by rw [Pol.addX_S, r.lenS], r.lenT, fun k c hk hc => ?_⟩
  rw [Pol.addX_S]
  rw [Pol.addX_H] at hk
  unfold addH at hk
  split at hk
  · rename_i h0
    obtain ⟨j, rfl, hj, hx⟩ := askE_zero h0
    rw [Int.toNat_natCast, List.getElem?_set] at hk
    by_cases e : j = k
    · subst e
      exact r.S j _ (List.getElem?_eq_getElem hj) hx
    · rw [if_neg e] at hk
      exact r.S k c hk hc
  · exact r.S k c hk hc
theorem Rel.getD (r : Rel n X T) {z : Int} (h0 : askE X.H z = 0) : X.S.getD z.toNat ⟨#[]⟩ = T.getD z.toNat ⟨#[]⟩ := by
  obtain ⟨j, rfl, hj, hx⟩ := askE_zero h0
  rw [Int.toNat_natCast, List.getD, List.getD, r.S j _ (List.getElem?_eq_getElem hj) hx]
theorem Rel.bytes (r : Rel n X T) (z : Int) : X.byS z = rgtS X.H T z := by
  unfold Pol.byS rgtS
  by_cases h0 : askE X.H z = 0
  · rw [if_pos h0, if_pos h0, r.getD h0]
  · rw [if_neg h0, if_neg h0]
theorem Rel.fill (r : Rel n X T) (z : Int) (t : ByteArray) : Rel n (X.flX z t) (rflT X.H T z t) := by
  unfold Pol.flX rflT
  show Rel n (if rflE X.H z t = 0 then _ else _) _
  by_cases h : rflE X.H z t = 0
  · rw [if_pos h, if_pos h]
    exact r.sets _ _
  · rw [if_neg h, if_neg h]
    exact r
theorem Rel.copy (r : Rel n X T) (z : Int) : (X.cpX z).H = cpH X.H z ∧ Rel n (X.cpX z) (cpT X.H T z) := by
  unfold Pol.cpX cpH cpT
  by_cases h : cpE X.H z = 0
  · rw [if_pos h, if_pos h, if_pos h, r.getD (cpE_zero h).1]
    exact ⟨rfl, r.put _ _ _⟩
  · rw [if_neg h, if_neg h, if_neg h]
    exact ⟨rfl, r⟩
theorem Rel.load (r : Rel n X T) (z a k : Int) : ldV X.H X.S z a k = ldV X.H T z a k := by
  unfold ldV
  by_cases h : wdE X.H z a k = 0
  · rw [if_pos h, if_pos h, r.getD (wdE_zero h).1]
  · rw [if_neg h, if_neg h]
theorem Rel.store (r : Rel n X T) (z a k x : Int) : Rel n (X.stX z a k x) (stT X.H T z a k x) := by
  unfold Pol.stX stT
  by_cases h : wdE X.H z a k = 0
  · rw [if_pos h, if_pos h, r.getD (wdE_zero h).1]
    exact r.sets _ _
  · rw [if_neg h, if_neg h]
    exact r
theorem Rel.whole (r : Rel n X T) (h : All64 X.S) : Whole X.H T := fun k hk hx => by
  have e := r.S k _ (List.getElem?_eq_getElem hk) hx
  have hS : k < X.S.length := by rw [r.lenS, ← r.lenH]; exact hk
  exact ⟨X.S[k], by rw [← e, List.getElem?_eq_getElem hS], h _ (List.getElem_mem hS)⟩
end

structure Ad where
  p : Nat
  h : Nat
  g : Nat
  q : Nat
  h2 : Nat
  s2 : Nat
theorem pw_side {w cur nxt : World} {p h g : Nat} {X : Pol} {S : Nat → Prop} (s : Pw w cur p h g X) (hb : But S cur nxt) (hS : ∀ j, S j → w.heap.size ≤ j ∧ j ≠ p ∧ j ≠ h ∧ j ≠ g) : Pw w nxt p h g X :=
  ⟨s.wp, s.wh, s.wg, s.bel.trans (hb.below s.bel.size (fun j e => (hS j e).1)), s.pl.but hb (fun e => (hS _ e).2.1 rfl) (fun e => (hS _ e).2.2.1 rfl) (fun e => (hS _ e).2.2.2 rfl), s.tab.but hb (fun e => by have h1 := (hS _ e).1; have h2 := s.pos; omega), s.pos⟩
/-- Both pools. -/
structure Two (w cur : World) (a : Ad) (X : Pol) (H : List Int) (T : List ByteArray) : Prop where
  sw : Pw w cur a.p a.h a.g X
  rf : Rf cur a.q a.h2 a.s2 H T
  w2 : w.heap.size ≤ a.q ∧ w.heap.size ≤ a.h2 ∧ w.heap.size ≤ a.s2
  d2 : ∀ j, (j = a.q ∨ j = a.h2 ∨ j = a.s2) → j ≠ a.p ∧ j ≠ a.h ∧ j ≠ a.g
section
variable {w cur nxt : World} {a : Ad} {X Y : Pol} {H H' : List Int} {T T' : List ByteArray}
theorem Two.on (t : Two w cur a X H T) (hb : Below cur.heap.size cur nxt) : Two w nxt a X H T := ⟨t.sw.on hb, t.rf.on hb, t.w2, t.d2⟩
theorem Two.drewN (t : Two w cur a X H T) (n : Nat) : Two w (cur.drewN n) a X H T := ⟨t.sw.drewN n, t.rf.drewN n, t.w2, t.d2⟩
theorem Two.butA (t : Two w cur a X H T) (hb : But (fun j => j = a.h ∨ j = a.g) cur nxt) (ha : Pl nxt a.p a.h a.g Y) : Two w nxt a Y H T := by
  have d1 := t.d2 a.q (.inl rfl)
  have d2 := t.d2 a.h2 (.inr (.inl rfl))
  have d3 := t.d2 a.s2 (.inr (.inr rfl))
  exact ⟨t.sw.but hb ha, t.rf.but hb (by omega) (by omega) (by omega), t.w2, t.d2⟩
theorem Two.butR (t : Two w cur a X H T) (hb : But (fun j => j = a.h2 ∨ j = a.s2) cur nxt) (hr : Rf nxt a.q a.h2 a.s2 H' T') : Two w nxt a X H' T' :=
  ⟨pw_side t.sw hb (fun j e => ⟨by have := t.w2; omega, t.d2 j (.inr e)⟩), hr, t.w2, t.d2⟩
end
/-- Both pools, and the call that is made. -/
structure Rd (w cur : World) (a : Ad) (bo : Nat) (cs : Array Value) (X : Pol) (H : List Int) (T : List ByteArray) : Prop where
  two : Two w cur a X H T
  blk : Blk cur bo 30 cs
  nb : bo ≠ a.h ∧ bo ≠ a.g ∧ bo ≠ a.h2 ∧ bo ≠ a.s2
section
variable {w cur nxt : World} {a : Ad} {bo : Nat} {cs : Array Value} {X Y : Pol} {H H' : List Int} {T T' : List ByteArray}
theorem Rd.new (t : Two w cur a X H T) (cs : Array Value) : Rd w (cur.alloc (.cells cs 30)) a cur.heap.size cs X H T := by
  have l2 := t.sw.pl.row.lt
  have l3 := t.sw.pl.byt.lt
  have l4 := t.rf.row.lt
  have l5 := t.rf.srow.lt
  exact ⟨t.on ((Below.refl _ _).alloc (Nat.le_refl _) _), Blk.new _ _ _, by omega, by omega, by omega, by omega⟩
theorem Rd.on (r : Rd w cur a bo cs X H T) (hb : Below cur.heap.size cur nxt) : Rd w nxt a bo cs X H T := ⟨r.two.on hb, r.blk.below hb r.blk.lt, r.nb⟩
theorem Rd.drewN (r : Rd w cur a bo cs X H T) (n : Nat) : Rd w (cur.drewN n) a bo cs X H T := ⟨r.two.drewN n, r.blk.drewN n, r.nb⟩
theorem Rd.drew (r : Rd w cur a bo cs X H T) : Rd w cur.drew a bo cs X H T := r.drewN 1
theorem Rd.butA (r : Rd w cur a bo cs X H T) (hb : But (fun j => j = a.h ∨ j = a.g) cur nxt) (ha : Pl nxt a.p a.h a.g Y) : Rd w nxt a bo cs Y H T := ⟨r.two.butA hb ha, r.blk.but hb (by have := r.nb; omega), r.nb⟩
theorem Rd.butR (r : Rd w cur a bo cs X H T) (hb : But (fun j => j = a.h2 ∨ j = a.s2) cur nxt) (hr : Rf nxt a.q a.h2 a.s2 H' T') : Rd w nxt a bo cs X H' T' := ⟨r.two.butR hb hr, r.blk.but hb (by have := r.nb; omega), r.nb⟩
theorem rd_take (r : Rd w cur a bo cs X H T) : Calls Tryd.prog 14 #[.pointer (some ⟨a.p, 0, none⟩)] cur fun e v => e = .returned (.tuple #[.int .i64 (tkV X.H), .int .i64 (tkE X.H)]) ∧ Rd w v a bo cs X.tkX H T :=
  (ptake_any r.two.sw.pl).mono fun e v ⟨he, hb, ha⟩ => ⟨he, r.butA hb ha⟩
theorem rd_rtake (r : Rd w cur a bo cs X H T) : Calls Tryd.prog 15 #[.pointer (some ⟨a.q, 0, none⟩)] cur fun e v => e = .returned (.tuple #[.int .i64 (tkV H), .int .i64 (tkE H)]) ∧ Rd w v a bo cs X (tkH H) (tkT H T) :=
  (rtake_any r.two.rf).mono fun e v ⟨he, hb, hr⟩ => ⟨he, r.butR hb hr⟩
theorem rd_hold (r : Rd w cur a bo cs X H T) (z : Int) : Calls Tryd.prog 16 #[.pointer (some ⟨a.p, 0, none⟩), .int .i64 z] cur fun e v => e = .returned (.int .i64 (askE X.H z)) ∧ Rd w v a bo cs (X.addX z 1) H T :=
  (phold_any r.two.sw.pl z).mono fun e v ⟨he, hb, ha⟩ => ⟨he, r.butA (hb.mono fun _ e => .inl e) ha⟩
theorem rd_drop (r : Rd w cur a bo cs X H T) (z : Int) : Calls Tryd.prog 18 #[.pointer (some ⟨a.p, 0, none⟩), .int .i64 z] cur fun e v => e = .returned (.int .i64 (askE X.H z)) ∧ Rd w v a bo cs (X.addX z (-1)) H T :=
  (pdrop_any r.two.sw.pl z).mono fun e v ⟨he, hb, ha⟩ => ⟨he, r.butA (hb.mono fun _ e => .inl e) ha⟩
theorem rd_radd (r : Rd w cur a bo cs X H T) (z d : Int) : Calls Tryd.prog 17 #[.pointer (some ⟨a.q, 0, none⟩), .int .i64 z, .int .i64 d] cur fun e v => e = .returned (.int .i64 (askE H z)) ∧ Rd w v a bo cs X (addH H z d) T :=
  (radd_any r.two.rf z d).mono fun e v ⟨he, hb, hr⟩ => ⟨he, r.butR (hb.mono fun _ e => .inl e) hr⟩
theorem rd_bytes (r : Rd w cur a bo cs X H T) (z : Int) : Calls Tryd.prog 19 #[.pointer (some ⟨a.p, 0, none⟩), .int .i64 z] cur fun e v => e = .returned (.tuple #[.string (X.byS z), .int .i64 (askE X.H z)]) ∧ Rd w v a bo cs X H T :=
  (pgbytes_any r.two.sw.pl z).mono fun e v ⟨he, hb⟩ => ⟨he, r.on hb⟩
theorem rd_rbytes (r : Rd w cur a bo cs X H T) (z : Int) : Calls Tryd.prog 20 #[.pointer (some ⟨a.q, 0, none⟩), .int .i64 z] cur fun e v => e = .returned (.tuple #[.string (rgtS H T z), .int .i64 (askE H z)]) ∧ cur = v := rbytes_any r.two.rf z
theorem rd_fill (r : Rd w cur a bo cs X H T) (z : Int) (t : ByteArray) (ht : t.size ≤ 281474976710656) : Calls Tryd.prog 21 #[.pointer (some ⟨a.p, 0, none⟩), .int .i64 z, .string t] cur fun e v => e = .returned (.int .i64 (X.flE z t)) ∧ Rd w v a bo cs (X.flX z t) H T :=
  (pfill_any r.two.sw.pl z t ht).mono fun e v ⟨he, hb, ha⟩ => ⟨he, r.butA (hb.mono fun _ e => .inr e) ha⟩
theorem rd_rfill (r : Rd w cur a bo cs X H T) (z : Int) (t : ByteArray) (ht : t.size ≤ 281474976710656) : Calls Tryd.prog 22 #[.pointer (some ⟨a.q, 0, none⟩), .int .i64 z, .string t] cur fun e v => e = .returned (.int .i64 (rflE H z t)) ∧ Rd w v a bo cs X H (rflT H T z t) :=
  (rpfill_any r.two.rf z t ht).mono fun e v ⟨he, hb, hr⟩ => ⟨he, r.butR (hb.mono fun _ e => .inr e) hr⟩
theorem rd_copy (r : Rd w cur a bo cs X H T) (z : Int) : Calls Tryd.prog 23 #[.pointer (some ⟨a.p, 0, none⟩), .int .i64 z] cur fun e v => e = .returned (.tuple #[.int .i64 (cpV X.H z), .int .i64 (cpE X.H z)]) ∧ Rd w v a bo cs (X.cpX z) H T :=
  (pcopy_any r.two.sw.pl z).mono fun e v ⟨he, hb, ha⟩ => ⟨he, r.butA hb ha⟩
theorem rd_rcopy (r : Rd w cur a bo cs X H T) (z : Int) : Calls Tryd.prog 24 #[.pointer (some ⟨a.q, 0, none⟩), .int .i64 z] cur fun e v => e = .returned (.tuple #[.int .i64 (cpV H z), .int .i64 (cpE H z)]) ∧ Rd w v a bo cs X (cpH H z) (cpT H T z) :=
  (rcopy_any r.two.rf z).mono fun e v ⟨he, hb, hr⟩ => ⟨he, r.butR hb hr⟩
theorem rd_load (r : Rd w cur a bo cs X H T) (z u k : Int) (hu : (Lit.int .i64 u).wf = true) (hk : (Lit.int .i64 k).wf = true) : Calls Tryd.prog 25 #[.pointer (some ⟨a.p, 0, none⟩), .int .i64 z, .int .i64 u, .int .i64 k] cur fun e v => e = .returned (.tuple #[.int .u64 (ldV X.H X.S z u k), .int .i64 (wdE X.H z u k)]) ∧ Rd w v a bo cs X H T :=
  (pload_any r.two.sw.pl z u k hu hk r.two.sw.tab).mono fun e v ⟨he, hb⟩ => ⟨he, r.on hb⟩
theorem rd_rload (r : Rd w cur a bo cs X H T) (hw : Whole H T) (z u k : Int) (hu : (Lit.int .i64 u).wf = true) (hk : (Lit.int .i64 k).wf = true) : Calls Tryd.prog 26 #[.pointer (some ⟨a.q, 0, none⟩), .int .i64 z, .int .i64 u, .int .i64 k] cur fun e v => e = .returned (.tuple #[.int .u64 (ldV H T z u k), .int .i64 (wdE H z u k)]) ∧ cur = v := rload_any r.two.rf hw z u k hu hk
theorem rd_store (r : Rd w cur a bo cs X H T) (z u k x : Int) (hu : (Lit.int .i64 u).wf = true) (hk : (Lit.int .i64 k).wf = true) (hx : (Lit.int .u64 x).wf = true) : Calls Tryd.prog 27 #[.pointer (some ⟨a.p, 0, none⟩), .int .i64 z, .int .i64 u, .int .i64 k, .int .u64 x] cur fun e v => e = .returned (.int .i64 (wdE X.H z u k)) ∧ Rd w v a bo cs (X.stX z u k x) H T :=
  (pstore_any r.two.sw.pl z u k x hu hk hx r.two.sw.tab).mono fun e v ⟨he, hb, ha⟩ => ⟨he, r.butA (hb.mono fun _ e => .inr e) ha⟩
theorem rd_rstore (r : Rd w cur a bo cs X H T) (hw : Whole H T) (z u k x : Int) (hu : (Lit.int .i64 u).wf = true) (hk : (Lit.int .i64 k).wf = true) (hx : (Lit.int .u64 x).wf = true) : Calls Tryd.prog 28 #[.pointer (some ⟨a.q, 0, none⟩), .int .i64 z, .int .i64 u, .int .i64 k, .int .u64 x] cur fun e v => e = .returned (.int .i64 (wdE H z u k)) ∧ Rd w v a bo cs X H (stT H T z u k x) :=
  (rstore_any r.two.rf hw z u k x hu hk hx).mono fun e v ⟨he, hb, hr⟩ => ⟨he, r.butR (hb.mono fun _ e => .inr e) hr⟩
end

end Go.Proofs.YtdelmhcbmlbojaaDoor.lawPlays
