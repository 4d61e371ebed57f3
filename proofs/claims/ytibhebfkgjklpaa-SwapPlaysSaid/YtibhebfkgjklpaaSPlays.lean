/- SwapPlays: for any number of slots (its rest by 16) and any calls (fifty at most): an area goes on as the document's does. -/
import Derived.Test.YtibhebfkgjklpaaSR
import Derived.Test.YtibhebfkgjklpaaBits
import Derived.Deep.CutRange
namespace Go.Proofs.Ytibhebfkgjklpaa.lawPlays
open Go.ChangeShapes Go.WideShapes Go.ChangeAt Go.RowKit
set_option linter.unusedVariables false

/-- A call. -/
structure OpD where
  kind : Int
  num : Int
  slot : Int
  short : Bool
/-- A slice of calls. -/
def OpRow (w : World) (A : Option Addr) (l : List OpD) : Prop := ∀ i (hi : i < l.length), ∃ ad, A = some ad ∧ ad.block < w.heap.size ∧ w.cell? (ad.add (i * 4)) = some (.int .i64 l[i].kind) ∧ w.cell? (ad.add (i * 4 + 1)) = some (.int .i64 l[i].num) ∧
  w.cell? (ad.add (i * 4 + 2)) = some (.int .i64 l[i].slot) ∧ w.cell? (ad.add (i * 4 + 3)) = some (.bool l[i].short)
theorem openOps {H : Type} {enc : TypeId × Value → H} {w : World} {base : Nat} {spare : Nat → Bool} {held : Bool} {r : Reach} {b0 : Nat} {v : Value} {d : DataW H} {ps : List MemPlace}
    (hv : Value.okWide Try.prog w r b0 22 v) (h : DataW.Trod enc Try.prog w base spare held 22 v d ps) : ∃ A l c, v = .slice A (List.length l) c ∧ l.length ≤ maxLen ∧ OpRow w A l := by
  obtain ⟨A, n, c, rfl, hn, hi⟩ := open_fields_row Try.underlying22 Try.underlying33 (by kernel_rfl) (by kernel_rfl) (by decide) hv h
  obtain ⟨zs, hl, hz⟩ := list_of (Q := fun i (z : OpD) => ∃ ad, A = some ad ∧ ad.block < w.heap.size ∧ w.cell? (ad.add (i * 4)) = some (.int .i64 z.kind) ∧ w.cell? (ad.add (i * 4 + 1)) = some (.int .i64 z.num) ∧
      w.cell? (ad.add (i * 4 + 2)) = some (.int .i64 z.slot) ∧ w.cell? (ad.add (i * 4 + 3)) = some (.bool z.short)) n (fun i h => by
    obtain ⟨ad, rfl, hb, hf⟩ := hi i h
    obtain ⟨u0, y0, m0, hc0, h0⟩ := hf 0 _ rfl
    obtain ⟨u1, y1, m1, hc1, h1⟩ := hf 1 _ rfl
    obtain ⟨u2, y2, m2, hc2, h2⟩ := hf 2 _ rfl
    obtain ⟨u3, y3, m3, hc3, h3⟩ := hf 3 _ rfl
    obtain ⟨z0, e0, _, w0⟩ := DataW.trod_int Try.underlying3 h0
    obtain ⟨z1, e1, _, w1⟩ := DataW.trod_int Try.underlying3 h1
    obtain ⟨z2, e2, _, w2⟩ := DataW.trod_int Try.underlying3 h2
    obtain ⟨z3, e3, _⟩ := DataW.trod_bool Try.underlying4 h3
    injection e0 with e0
    injection e1 with e1
    injection e2 with e2
    injection e3 with e3
    subst e0 e1 e2 e3
    exact ⟨⟨z0, z1, z2, z3⟩, ad, rfl, hb, by simpa using hc0, by simpa using hc1, by simpa using hc2, by simpa using hc3⟩)
  subst hl
  exact ⟨A, zs, c, rfl, hn, hz⟩

/-- What the area has to do with the document's. -/
structure Rel (n : Nat) (X : Swp) (T : List ByteArray) : Prop where
  fit : Fit X
  first : X.first = 3
  lenH : X.H.length = n
  lenT : T.length = n
  S : ∀ (k : Nat) (c : Int), X.H[k]? = some c → c ≠ 0 → X.D.S[3 + k]? = T[k]?
section
variable {n : Nat} {X : Swp} {T : List ByteArray}
theorem Rel.put (r : Rel n X T) (t : ByteArray) : X.ptE t = rptE X.H t ∧ X.ptV t = rptV X.H t ∧ (X.ptX t).H = rptH X.H t ∧ Rel n (X.ptX t) (rptT X.H T t) := by
  have e1 := r.fit.ptE t
  refine ⟨e1, by unfold Swp.ptV rptV; rw [e1], ?_⟩
  by_cases h0 : rptE X.H t = 0
  · obtain ⟨h64, hf⟩ := rptE_zero h0
    obtain ⟨_, _, P⟩ := r.fit.put h64 hf
    have eH : rptH X.H t = X.H.set (freeAt X.H) 1 := by unfold rptH; rw [if_pos h0]
    have eT : rptT X.H T t = T.set (freeAt X.H) t := by unfold rptT; rw [if_pos h0]
    rw [eH, eT]
    refine ⟨P.H, P.fit, by rw [P.first, r.first], by rw [P.H, List.length_set, r.lenH], by rw [List.length_set, r.lenT], fun k c hk hc => ?_⟩
    have hS := r.fit.f1
    have h3 := r.first
    rw [P.S, r.first, show ((3 : Int) + (freeAt X.H : Int)).toNat = 3 + freeAt X.H by omega, List.getElem?_set, List.getElem?_set]
    rw [P.H, List.getElem?_set] at hk
    by_cases e : freeAt X.H = k
    · subst e
      have hlT := r.lenT
      have hlH := r.lenH
      rw [if_pos rfl, if_pos rfl, if_pos (by omega), if_pos (by omega)]
    · rw [if_neg e] at hk
      rw [if_neg (by omega), if_neg e]
      exact r.S k c hk hc
  · have eX : X.ptX t = X := by unfold Swp.ptX; rw [if_neg (by rw [e1]; exact h0)]
    have eH : rptH X.H t = X.H := by unfold rptH; rw [if_neg h0]
    have eT : rptT X.H T t = T := by unfold rptT; rw [if_neg h0]
    rw [eX, eH, eT]
    exact ⟨rfl, r⟩
theorem Rel.get (r : Rel n X T) (z : Int) : X.gtE z = askE X.H z ∧ X.gtS z = rgtS X.H T z ∧ (X.gtX z).H = X.H ∧ Rel n (X.gtX z) T := by
  obtain ⟨f1, f2, f3, f4⟩ := r.fit.gt z
  refine ⟨r.fit.gtE z, ?_, f3, f1, by rw [f2, r.first], by rw [f3, r.lenH], r.lenT, fun k c hk hc => by rw [f3] at hk; rw [f4]; exact r.S k c hk hc⟩
  unfold Swp.gtS rgtS
  by_cases h0 : askE X.H z = 0
  · rw [if_pos h0, if_pos h0]
    obtain ⟨k, rfl, hk, hx⟩ := askE_zero h0
    unfold Dsk.rdS
    rw [if_pos (r.fit.has hk), r.first, show ((3 : Int) + (k : Int)).toNat = 3 + k by omega, Int.toNat_natCast]
    simp only [List.getD]
    rw [r.S k _ (List.getElem?_eq_getElem hk) hx]
  · rw [if_neg h0, if_neg h0]
theorem Rel.add (r : Rel n X T) (z d : Int) : Rel n (X.addX z d) T := by
  obtain ⟨f1, f2, f3⟩ := r.fit.add z d
  refine ⟨f1, by rw [f2, r.first], by rw [addX_H, addH_len, r.lenH], r.lenT, fun k c hk hc => ?_⟩
  rw [f3]
  rw [addX_H] at hk
  unfold addH at hk
  split at hk
  · rename_i h0
    obtain ⟨j, rfl, hj, hx⟩ := askE_zero h0
    rw [Int.toNat_natCast, List.getElem?_set] at hk
    by_cases e : j = k
    · subst e
      exact r.S j _ (List.getElem?_eq_getElem hj) hx
    · rw [if_neg e] at hk
      exact r.S k c hk hc
  · exact r.S k c hk hc
end

structure Ad where
  p : Nat
  g : Nat
  q : Nat
  h : Nat
  q2 : Nat
  h2 : Nat
  s2 : Nat
/-- Both areas. -/
structure Two (w cur : World) (a : Ad) (X : Swp) (H : List Int) (T : List ByteArray) : Prop where
  sw : Sw w cur a.p a.g a.q a.h X
  rf : Rf cur a.q2 a.h2 a.s2 H T
  w2 : w.heap.size ≤ a.q2 ∧ w.heap.size ≤ a.h2 ∧ w.heap.size ≤ a.s2
  d2 : ∀ j, (j = a.q2 ∨ j = a.h2 ∨ j = a.s2) → j ≠ a.p ∧ j ≠ a.g ∧ j ≠ a.q ∧ j ≠ a.h
section
variable {w cur nxt : World} {a : Ad} {X Y : Swp} {H H' : List Int} {T T' : List ByteArray}
theorem Two.on (t : Two w cur a X H T) (hb : Below cur.heap.size cur nxt) : Two w nxt a X H T := ⟨t.sw.on hb, t.rf.on hb, t.w2, t.d2⟩
theorem Two.drewN (t : Two w cur a X H T) (n : Nat) : Two w (cur.drewN n) a X H T := ⟨t.sw.drewN n, t.rf.drewN n, t.w2, t.d2⟩
theorem Two.butA (t : Two w cur a X H T) (hb : But (fun j => j = a.p ∨ j = a.g ∨ j = a.h) cur nxt) (ha : Ar nxt a.p a.g a.q a.h Y) : Two w nxt a Y H T := by
  have d1 := t.d2 a.q2 (.inl rfl)
  have d2 := t.d2 a.h2 (.inr (.inl rfl))
  have d3 := t.d2 a.s2 (.inr (.inr rfl))
  exact ⟨t.sw.but hb ha, t.rf.but hb (by rintro (e | e | e) <;> omega) (by rintro (e | e | e) <;> omega) (by rintro (e | e | e) <;> omega), t.w2, t.d2⟩
theorem Two.butR (t : Two w cur a X H T) (hb : But (fun j => j = a.h2 ∨ j = a.s2) cur nxt) (hr : Rf nxt a.q2 a.h2 a.s2 H' T') : Two w nxt a X H' T' := by
  have d2 := t.d2 a.h2 (.inr (.inl rfl))
  have d3 := t.d2 a.s2 (.inr (.inr rfl))
  have hw := t.w2
  exact ⟨⟨t.sw.wp, t.sw.wg, t.sw.wq, t.sw.wh, t.sw.bel.trans (hb.below t.sw.bel.size (fun j e => by omega)), t.sw.ar.but hb (by omega) (by omega) (by omega) (by omega)⟩, hr, t.w2, t.d2⟩
end
/-- Both areas, and the call that is made. -/
structure Rd (w cur : World) (a : Ad) (bo : Nat) (cs : Array Value) (X : Swp) (H : List Int) (T : List ByteArray) : Prop where
  two : Two w cur a X H T
  blk : Blk cur bo 33 cs
  nb : bo ≠ a.p ∧ bo ≠ a.g ∧ bo ≠ a.h ∧ bo ≠ a.h2 ∧ bo ≠ a.s2
section
variable {w cur nxt : World} {a : Ad} {bo : Nat} {cs : Array Value} {X Y : Swp} {H H' : List Int} {T T' : List ByteArray}
theorem Rd.new (t : Two w cur a X H T) (cs : Array Value) : Rd w (cur.alloc (.cells cs 33)) a cur.heap.size cs X H T := by
  have l1 := t.sw.ar.dk.head.lt
  have l2 := t.sw.ar.dk.row.lt
  have l3 := t.sw.ar.row.lt
  have l4 := t.rf.row.lt
  have l5 := t.rf.srow.lt
  exact ⟨t.on ((Below.refl _ _).alloc (Nat.le_refl _) _), Blk.new _ _ _, by omega, by omega, by omega, by omega, by omega⟩
theorem Rd.on (r : Rd w cur a bo cs X H T) (hb : Below cur.heap.size cur nxt) : Rd w nxt a bo cs X H T := ⟨r.two.on hb, r.blk.below hb r.blk.lt, r.nb⟩
theorem Rd.drewN (r : Rd w cur a bo cs X H T) (n : Nat) : Rd w (cur.drewN n) a bo cs X H T := ⟨r.two.drewN n, r.blk.drewN n, r.nb⟩
theorem Rd.drew (r : Rd w cur a bo cs X H T) : Rd w cur.drew a bo cs X H T := r.drewN 1
theorem Rd.butA (r : Rd w cur a bo cs X H T) (hb : But (fun j => j = a.p ∨ j = a.g ∨ j = a.h) cur nxt) (ha : Ar nxt a.p a.g a.q a.h Y) : Rd w nxt a bo cs Y H T := ⟨r.two.butA hb ha, r.blk.but hb (by have := r.nb; omega), r.nb⟩
theorem Rd.butR (r : Rd w cur a bo cs X H T) (hb : But (fun j => j = a.h2 ∨ j = a.s2) cur nxt) (hr : Rf nxt a.q2 a.h2 a.s2 H' T') : Rd w nxt a bo cs X H' T' := ⟨r.two.butR hb hr, r.blk.but hb (by have := r.nb; omega), r.nb⟩

theorem rd_put {n : Nat} (r : Rd w cur a bo cs X H T) (l : Rel n X T) (t : ByteArray) (ht : t.size ≤ 281474976710656) : Calls Try.prog 14 #[.pointer (some ⟨a.q, 0, none⟩), .string t] cur fun e v => e = .returned (.tuple #[.int .i64 (rptV X.H t), .int .i64 (rptE X.H t)]) ∧ Rd w v a bo cs (X.ptX t) H T := by
  obtain ⟨e1, e2, _, _⟩ := l.put t
  have := put_any r.two.sw.ar t ht
  rw [e1, e2] at this
  exact this.mono fun e v ⟨he, hb, ha⟩ => ⟨he, r.butA hb ha⟩
theorem rd_rput (r : Rd w cur a bo cs X H T) (t : ByteArray) (ht : t.size ≤ 281474976710656) : Calls Try.prog 15 #[.pointer (some ⟨a.q2, 0, none⟩), .string t] cur fun e v => e = .returned (.tuple #[.int .i64 (rptV H t), .int .i64 (rptE H t)]) ∧ Rd w v a bo cs X (rptH H t) (rptT H T t) :=
  (rput_any5 r.two.rf t ht).mono fun e v ⟨he, hb, hr⟩ => ⟨he, r.butR hb hr⟩
theorem rd_get {n : Nat} (r : Rd w cur a bo cs X H T) (l : Rel n X T) (z : Int) : Calls Try.prog 16 #[.pointer (some ⟨a.q, 0, none⟩), .int .i64 z] cur fun e v => e = .returned (.tuple #[.string (rgtS X.H T z), .int .i64 (askE X.H z)]) ∧ Rd w v a bo cs (X.gtX z) H T := by
  obtain ⟨e1, e2, _, _⟩ := l.get z
  have := get_any r.two.sw.ar z
  rw [e1, e2] at this
  exact this.mono fun e v ⟨he, hb, ha⟩ => ⟨he, r.butA (hb.mono fun _ e => .inl e) ha⟩
theorem rd_rget (r : Rd w cur a bo cs X H T) (z : Int) : Calls Try.prog 17 #[.pointer (some ⟨a.q2, 0, none⟩), .int .i64 z] cur fun e v => e = .returned (.tuple #[.string (rgtS H T z), .int .i64 (askE H z)]) ∧ cur = v := rget_any r.two.rf z
theorem rd_hold (r : Rd w cur a bo cs X H T) (z : Int) : Calls Try.prog 18 #[.pointer (some ⟨a.q, 0, none⟩), .int .i64 z] cur fun e v => e = .returned (.int .i64 (askE X.H z)) ∧ Rd w v a bo cs (X.addX z 1) H T :=
  (hold_any r.two.sw.ar z).mono fun e v ⟨he, hb, ha⟩ => ⟨he, r.butA (hb.mono fun _ e => .inr (.inr e)) ha⟩
theorem rd_free (r : Rd w cur a bo cs X H T) (z : Int) : Calls Try.prog 20 #[.pointer (some ⟨a.q, 0, none⟩), .int .i64 z] cur fun e v => e = .returned (.int .i64 (askE X.H z)) ∧ Rd w v a bo cs (X.addX z (-1)) H T :=
  (free_any r.two.sw.ar z).mono fun e v ⟨he, hb, ha⟩ => ⟨he, r.butA (hb.mono fun _ e => .inr (.inr e)) ha⟩
theorem rd_radd (r : Rd w cur a bo cs X H T) (z d : Int) : Calls Try.prog 19 #[.pointer (some ⟨a.q2, 0, none⟩), .int .i64 z, .int .i64 d] cur fun e v => e = .returned (.int .i64 (askE H z)) ∧ Rd w v a bo cs X (addH H z d) T :=
  (radd_any r.two.rf z d).mono fun e v ⟨he, hb, hr⟩ => ⟨he, r.butR (hb.mono fun _ e => .inl e) hr⟩
end

set_option maxRecDepth 100000 in
set_option maxHeartbeats 6400000 in
theorem walk (sl : Int) (A : Option Addr) (l : List OpD) (c : Nat) (w : World) (ws : (Lit.int .i64 sl).wf = true) (hm : l.length ≤ maxLen) (hz : OpRow w A l) :
    Calls Try.prog 3 #[.int .i64 sl, .slice A l.length c] w fun e w' => e = .returned (.bool true) ∧ Below w.heap.size w w' := by
  unfold maxLen at hm
  obtain ⟨n, hn, hn16⟩ : ∃ n : Nat, bits .and .i64 sl 15 = n ∧ n < 16 := by
    have e : bits .and .i64 sl 15 = sl % (2 : Int) ^ 4 := i64_and_mask sl 4 15 (by omega) (by decide)
    rw [show (2 : Int) ^ 4 = 16 by decide] at e
    exact ⟨(sl % 16).toNat, by rw [e]; omega, by omega⟩
  have HA := Lib.hid (fun w => awake5_any w)
  have HN := Lib.hid (fun w => new_made 20 w (by omega) (by omega))
  have HS := Lib.hid (fun (w : World) p g (d : Dk w p g (newD 20)) => snew_made d 3 n ⟨by omega, by omega, by omega, by simp [newD]; omega⟩)
  have HR := Lib.hid (fun w => rnew_any n (by omega) w)
  have HP := Lib.hid (fun n w => page_any n w)
  have HZ := Lib.hid hz
  clear hz
  have hB := Below.refl w.heap.size w
  go_enter Try.func3, Try.ntmps3
  go_wp2_with (first
    | (go_at_call 9; refine (HA.out _).mono ?_; rintro e v0 ⟨rfl, hb⟩; replace hB := hB.trans (hb.mono hB.size); clear hb)
    | (go_at_call 11; refine (HN.out _).mono ?_; rintro e v1 ⟨p, g, rfl, hp, hg, hb, hd⟩)
    | (go_at_call 10; refine (HS.out _ _ _ hd).mono ?_; rintro e v2 ⟨q, h, rfl, hq, hh, hb2, ha⟩
       have hS : Sw w v2 p g q h (newX (newD 20) 3 n) := by
         have s1 := hB.size
         have s2 := hb.size
         exact ⟨Nat.le_trans s1 hp, Nat.le_trans s1 hg, by omega, by omega, (hB.trans (hb.mono s1)).trans (hb2.mono (by omega)), ha⟩
       clear hp hg hb hd hq hh hb2 ha hB)
    | (go_at_call 12; refine (HR.out _).mono ?_; rintro e v3 ⟨q2, h2, s2, rfl, hq2, hh2, hs2, hb3, hr3⟩
       have hT : Two w v3 ⟨p, g, q, h, q2, h2, s2⟩ (newX (newD 20) 3 n) (newX (newD 20) 3 n).H (List.replicate n ⟨#[]⟩) := by
         have s1 := hS.bel.size
         have l1 := hS.ar.dk.head.lt
         have l2 := hS.ar.dk.row.lt
         have l3 := hS.ar.head.lt
         have l4 := hS.ar.row.lt
         exact ⟨hS.on hb3, hr3, ⟨Nat.le_trans s1 hq2, Nat.le_trans s1 hh2, Nat.le_trans s1 hs2⟩, fun j e => by show j ≠ p ∧ j ≠ g ∧ j ≠ q ∧ j ≠ h; have e' : j = q2 ∨ j = h2 ∨ j = s2 := e; omega⟩
       clear hS hq2 hh2 hs2 hb3 hr3))
  have hL : Rel n (newX (newD 20) 3 n) (List.replicate n ⟨#[]⟩) := ⟨newX_fit (n := 20) (first := 3) (k := n) (by omega), rfl, by simp [newX], by simp, fun k c hk hc => by
    simp only [newX] at hk
    rw [List.getElem?_replicate] at hk
    split at hk
    · injection hk with hk
      exact absurd hk.symm hc
    · cases hk⟩
  have HT := Lib.hid hT
  have HL := Lib.hid hL
  clear hT hL
  go_loopw [10, 12, 13, 14, 15, 16, 17, 18, 19, 20, 21, 22] (fun i _ _ _ _ _ _ _ _ _ _ _ wr => ∃ (k : Nat) (X : Swp) (T : List ByteArray), k ≤ l.length ∧ k ≤ 50 ∧ i = .int .i64 k ∧ Two w wr ⟨p, g, q, h, q2, h2, s2⟩ X X.H T ∧ Rel n X T) (fun i _ _ _ _ _ _ _ _ _ _ _ _ => l.length - (intOf i).toNat)
  case atStart => exact ⟨0, _, _, Nat.zero_le _, by omega, rfl, HT.out, HL.out⟩
  case round =>
    clear HT HL
    obtain ⟨k, X, T, hk, hk50, rfl, hT, hL⟩ := hrel
    by_cases hlt : k < l.length ∧ k < 50
    · obtain ⟨hk1, hk2⟩ := hlt
      have d50 : decide ((k : Int) < 50) = true := decide_eq_true (by omega)
      obtain ⟨ad, rfl, hab, hc0, hc1, hc2, hc3⟩ := HZ.out k hk1
      have hbk : ∀ i, (ad.add i).block < w.heap.size := fun i => by rw [show (ad.add i).block = ad.block by unfold Addr.add; split <;> rfl]; exact hab
      replace hc0 := (hT.sw.bel.cell (hbk _)).trans hc0
      replace hc1 : wr.cell? { block := (ad.add (k * 4)).block, off := (ad.add (k * 4)).off + 1, spot := none } = some (.int .i64 l[k].num) := by
        show wr.cell? ((ad.add (k * 4)).add 1) = _
        rw [Go.Deep.add_add]
        exact (hT.sw.bel.cell (hbk _)).trans hc1
      replace hc2 : wr.cell? { block := (ad.add (k * 4)).block, off := (ad.add (k * 4)).off + 2, spot := none } = some (.int .i64 l[k].slot) := by
        show wr.cell? ((ad.add (k * 4)).add 2) = _
        rw [Go.Deep.add_add]
        exact (hT.sw.bel.cell (hbk _)).trans hc2
      replace hc3 : wr.cell? { block := (ad.add (k * 4)).block, off := (ad.add (k * 4)).off + 3, spot := none } = some (.bool l[k].short) := by
        show wr.cell? ((ad.add (k * 4)).add 3) = _
        rw [Go.Deep.add_add]
        exact (hT.sw.bel.cell (hbk _)).trans hc3
      clear hbk
      generalize l[k].kind = kd at *
      generalize l[k].num = nu at *
      generalize l[k].slot = z at *
      generalize l[k].short = sh at *
      obtain ⟨m, hmk, hm0, hm4⟩ : ∃ m : Int, bits .and .i64 kd 3 = m ∧ 0 ≤ m ∧ m < 4 := by
        have e : bits .and .i64 kd 3 = kd % (2 : Int) ^ 2 := i64_and_mask kd 2 3 (by omega) (by decide)
        exact ⟨_, e, Int.emod_nonneg _ (by decide), Int.emod_lt_of_pos _ (by decide)⟩
      have hR := Rd.new hT #[.int .i64 kd, .int .i64 nu, .int .i64 z, .bool sh]
      go_upto_region 11 with fail
      obtain ⟨bo, hbo⟩ : ∃ bo, wr.heap.size = bo := ⟨_, rfl⟩
      rw [hbo] at hR ⊢
      generalize wr.alloc (.cells #[.int .i64 kd, .int .i64 nu, .int .i64 z, .bool sh] 33) = W at *
      have HR1 := Lib.hid hR
      have HL := Lib.hid hL
      clear hT hL hbo hc0 hc1 hc2 hc3 hab
      first | go_values | go_skip | go_guarded | go_step | go_upon | go_back | go_simp
      first | go_values | go_skip | go_guarded | go_step | go_upon | go_back | go_simp
      first | go_values | go_skip | go_guarded | go_step | go_upon | go_back | go_simp
      first | go_values | go_skip | go_guarded | go_step | go_upon | go_back | go_simp
      first | go_values | go_skip | go_guarded | go_step | go_upon | go_back | go_simp
      first | go_values | go_skip | go_guarded | go_step | go_upon | go_back | go_simp
      first | go_values | go_skip | go_guarded | go_step | go_upon | go_back | go_simp
      first | go_values | go_skip | go_guarded | go_step | go_upon | go_back | go_simp
      go_cut [12, 13, 14, 15, 16, 17, 18, 19, 20, 21] from 40 to 169 (fun s12 _ _ _ _ _ _ _ _ _ wx => s12 = .bool true ∧ ∃ X T, Rd w wx ⟨p, g, q, h, q2, h2, s2⟩ bo #[.int .i64 kd, .int .i64 nu, .int .i64 z, .bool sh] X X.H T ∧ Rel n X T)
      case first =>
        have hrel := fun (t : ByteArray) => HL.out.put t
        by_cases hm0' : m = 0
        · subst hm0'
          have c0 := HR1.out.blk.at_ 0 _ rfl
          have c1 := HR1.out.blk.at_ 1 _ rfl
          have hG := pageS_size nu
          have hX := fun v => page_any nu v
          generalize pageS nu = G at *
          have hG1 : 63 ≤ G.size := by omega
          have hG2 : G.size ≤ 64 := by omega
          have HXB := Lib.hid hX
          have hGF : G.size ≤ 281474976710656 := by omega
          have hGE : (G.extract 0 63).size ≤ 281474976710656 := by rw [extract_mkb, mkb_size, List.length_take, List.length_drop, len_data]; omega
          clear hG hX
          cases sh
          · go_wp2_with (first
              | (go_at_call 13; refine (HXB.out _).mono ?_; rintro e v4 ⟨rfl, hb4⟩; have hR4 := HR1.out.on hb4; have c3 := hR4.blk.at_ 3 _ rfl; clear hb4)
              | (go_at_call 14; refine (rd_put hR4 HL.out G hGF).mono ?_; rintro e v5 ⟨rfl, hR5⟩; clear hR4 c3)
              | (go_at_call 15; refine (rd_rput hR5 G hGF).mono ?_; rintro e v6 ⟨rfl, hR6⟩; clear hR5))
            go_meet
            obtain ⟨_, _, h3, h4⟩ := hrel G
            exact ⟨rfl, _, _, by rw [h3]; exact hR6, h4⟩
          · go_wp2_with (first
              | (go_at_call 13; refine (HXB.out _).mono ?_; rintro e v4 ⟨rfl, hb4⟩; have hR4 := HR1.out.on hb4; have c3 := hR4.blk.at_ 3 _ rfl; clear hb4)
              | (go_at_call 14; refine (rd_put hR4 HL.out _ hGE).mono ?_; rintro e v5 ⟨rfl, hR5⟩; clear hR4 c3)
              | (go_at_call 15; refine (rd_rput hR5 _ hGE).mono ?_; rintro e v6 ⟨rfl, hR6⟩; clear hR5))
            go_meet
            obtain ⟨_, _, h3, h4⟩ := hrel (G.extract 0 63)
            exact ⟨rfl, _, _, by rw [h3]; exact hR6, h4⟩
        · have hz0 : (m == 0) = false := by simpa using hm0'
          by_cases hm1 : m = 1
          · subst hm1
            have c0 := HR1.out.blk.at_ 0 _ rfl
            have c2 := HR1.out.blk.at_ 2 _ rfl
            go_wp2_with (first
              | (go_at_call 16; refine (rd_get HR1.out HL.out z).mono ?_; rintro e v5 ⟨rfl, hR5⟩; have c5 := hR5.blk.at_ 2 _ rfl)
              | (go_at_call 17; refine (rd_rget hR5 z).mono ?_; rintro e v6 ⟨rfl, rfl⟩))
            go_meet
            obtain ⟨_, _, h3, h4⟩ := HL.out.get z
            exact ⟨rfl, _, _, by rw [h3]; exact hR5, h4⟩
          · have hz1 : (m == 1) = false := by simpa using hm1
            by_cases hm2 : m = 2
            · subst hm2
              have c0 := HR1.out.blk.at_ 0 _ rfl
              have a0 := HR1.out.drew.blk.at_ 2 _ rfl
              go_wp2
              go_region_held3 (fun w' => w'.cell? ⟨bo, 2, none⟩ = some (.int .i64 z))
                (first | exact a0)
                (first
                | (go_at_call 18; refine (rd_hold HR1.out.drew z).mono ?_; rintro e v5 ⟨rfl, hR5⟩; clear a0; have a0 := hR5.blk.at_ 2 _ rfl)
                | (go_at_call 19; refine (rd_radd hR5 z 1).mono ?_; rintro e v6 ⟨rfl, hR6⟩; clear a0; have a0 := hR6.blk.at_ 2 _ rfl))
              go_wp2
              go_meet
              exact ⟨rfl, _, _, by rw [addX_H]; exact hR6, HL.out.add z 1⟩
            · have hz2 : (m == 2) = false := by simpa using hm2
              have c0 := HR1.out.blk.at_ 0 _ rfl
              have a0 := HR1.out.drew.blk.at_ 2 _ rfl
              go_wp2
              go_region_held3 (fun w' => w'.cell? ⟨bo, 2, none⟩ = some (.int .i64 z))
                (first | exact a0)
                (first
                | (go_at_call 20; refine (rd_free HR1.out.drew z).mono ?_; rintro e v5 ⟨rfl, hR5⟩; clear a0; have a0 := hR5.blk.at_ 2 _ rfl)
                | (go_at_call 19; refine (rd_radd hR5 z (-1)).mono ?_; rintro e v6 ⟨rfl, hR6⟩; clear a0; have a0 := hR6.blk.at_ 2 _ rfl))
              go_wp2
              go_meet
              exact ⟨rfl, _, _, by rw [addX_H]; exact hR6, HL.out.add z (-1)⟩
      case rest =>
        obtain ⟨rfl, Y, T2, hR2, hL2⟩ := hcut
        clear HR1 HL hR
        generalize wc = W2 at *
        have HL2 := Lib.hid hL2
        have HT2 := Lib.hid hR2.two
        have HU1 := Lib.hid (fun m => sused_any (hR2.two.sw.ar.drewN m))
        have HU2 := Lib.hid (fun m => rused_any (hR2.two.rf.drewN m))
        have HU3 := Lib.hid (fun m => held_any (hR2.two.sw.ar.drewN m) z)
        have hsl := fun m => slots_any (hR2.two.sw.ar.drewN m)
        rw [hL2.lenH] at hsl
        have HU4 := Lib.hid hsl
        have c2 := hR2.blk.at_ 2 _ rfl
        clear hsl
        by_cases hin : 0 ≤ z ∧ z < n
        · obtain ⟨hz0, hz1⟩ := hin
          obtain ⟨t, rfl⟩ : ∃ t : Nat, z = t := ⟨z.toNat, by omega⟩
          have htl : t < Y.H.length := by rw [hL2.lenH]; omega
          have e : heldI Y.H t = Y.H[t] := by unfold heldI; simp [htl]
          rw [e] at HU3
          have c4 := hR2.two.rf.head.at_ 0 _ rfl
          have c5 := hR2.two.rf.row.at_ t _ (icells_at htl)
          have hn2 := hL2.lenH
          simp only at c4 c5
          generalize Y.H[t] = x at *
          generalize usedN Y.H = u at *
          have ht2 : (t : Int) < (Y.H.length : Int) := by omega
          clear e hR2 hL2
          generalize Y.H.length = n2 at *
          clear hn2
          go_wp2
          go_quiet (fail)
          go_wp2_with (first
            | (go_at_call 21; refine (HU1.out _).mono ?_; rintro e v6 ⟨rfl, rfl⟩)
            | (go_at_call 22; refine (HU2.out _).mono ?_; rintro e v6 ⟨rfl, rfl⟩)
            | (go_at_call 23; refine (HU3.out _).mono ?_; rintro e v6 ⟨rfl, rfl⟩)
            | (go_at_call 24; refine (HU4.out _).mono ?_; rintro e v6 ⟨rfl, rfl⟩))
          go_roundw
          case rel => exact ⟨k + 1, Y, T2, by omega, by omega, by go_num, HT2.out.drewN _, HL2.out⟩
          case measure => simp [intOf]; omega
        · have e : heldI Y.H z = 0 := by unfold heldI; rw [if_neg (by rw [hL2.lenH]; exact hin)]
          have hv3 := held_any hR2.two.sw.ar z
          rw [e] at hv3
          have hv4 := slots_any hR2.two.sw.ar
          rw [hL2.lenH] at hv4
          have HV1 := Lib.hid (sused_any hR2.two.sw.ar)
          have HV2 := Lib.hid (rused_any hR2.two.rf)
          have HV3 := Lib.hid hv3
          have HV4 := Lib.hid hv4
          have hor : z < 0 ∨ (0 ≤ z ∧ (n : Int) ≤ z) := by omega
          clear e hv3 hv4 hR2 hL2 HU1 HU2 HU3 HU4 hin
          generalize usedN Y.H = u at *
          rcases hor with h1 | ⟨h1, h2⟩
          all_goals
            go_wp2_with (first
              | (go_at_call 21; refine HV1.out.mono ?_; rintro e v6 ⟨rfl, rfl⟩)
              | (go_at_call 22; refine HV2.out.mono ?_; rintro e v6 ⟨rfl, rfl⟩)
              | (go_at_call 23; refine HV3.out.mono ?_; rintro e v6 ⟨rfl, rfl⟩)
              | (go_at_call 24; refine HV4.out.mono ?_; rintro e v6 ⟨rfl, rfl⟩))
            go_roundw
            case rel => exact ⟨k + 1, Y, T2, by omega, by omega, by go_num, HT2.out, HL2.out⟩
            case measure => simp [intOf]; omega
    · have HT := Lib.hid hT
      have hl2 : (k < l.length ∧ ¬ k < 50) ∨ ¬ k < l.length := by omega
      clear hlt hT hL
      rcases hl2 with ⟨h1, h2⟩ | h1
      all_goals
        go_wp2
        go_ret
        exact ⟨rfl, HT.out.sw.bel⟩

set_option maxRecDepth 100000 in
theorem lifted (os : Os) (started : os.Started) (H : Type) (enc : TypeId × Value → H) :
    ReturnsInHanded {} Try.checked os 3 .any (Rows.swapPlaysSpec.pre6 enc Try.prog Try.f3 Rows.swapPlaysRow.domain false) (Rows.swapPlaysSpec.post enc Try.prog Try.f3 false true false false) := by
  refine returnsInHanded_of_change (C := Try.checked) own started (by kernel_rfl) Try.func3
    (ChangeSpec.witness6 (enc := enc) (C := Try.checked) false ⟨#[], #[.int .i64 0, .slice none 0 0], []⟩ 8 (by kernel_rfl) (by kernel_rfl) (by kernel_rfl) (by kernel_rfl)) ?_
  intro W base args ds gs before hval0 hW hcnd _
  have hval : ∀ (j : Nat) t v, Try.f3.params[j]? = some t → args[j]? = some v → Value.okWide Try.prog W .any base t v := hval0
  have hW' := hW
  obtain ⟨p, q, hA0, hV, rfl, hfz, hnd⟩ := hW
  have hA : DataW.TrodAll enc Try.prog W 0 (fun _ => true) true Try.f3.params.toList args.toList ds p := hA0
  rw [Try.params3] at hA hval
  obtain ⟨v0, vs0, d0, ds0, p0, q0, hargs, rfl, rfl, h0, r0⟩ := trodAll_cons hA
  obtain ⟨v1, vs1, d1, ds1, p1, q1, rfl, rfl, rfl, h1, r1⟩ := trodAll_cons r0
  obtain ⟨rfl, rfl, rfl⟩ := trodAll_nil r1
  obtain rfl : args = #[v0, v1] := by cases args; simp_all
  obtain ⟨rfl, rfl⟩ := trodVars_none hV
  have k0 := h0
  have lt0 : ∀ x ∈ p0, x.block < W.heap.size := by obtain ⟨m, hm⟩ := k0; exact DataW.trod_lt m _ _ _ hm
  obtain ⟨a0, rfl, _, _, w0⟩ := open_int Try.underlying3 (hval 0 3 v0 rfl rfl) h0
  have k1 := h1
  have lt1 : ∀ x ∈ p1, x.block < W.heap.size := by obtain ⟨m, hm⟩ := k1; exact DataW.trod_lt m _ _ _ hm
  obtain ⟨LA1, Ll1, Lc1, rfl, Lm1, Lr1⟩ := openOps (hval 1 22 v1 rfl rfl) h1
  clear hA0 hval0
  refine (walk a0 LA1 Ll1 Lc1 W w0 Lm1 Lr1).mono fun e W' ⟨he, bel⟩ => ?_
  subst he
  exact ⟨_, rfl, _, _, _, [], _, [], hW', trodAll_mk1 (shut_bool Try.underlying4 _), (trodAll_cons_mk (Below.trod laidOut (by kernel_rfl) (of_decide_eq_true (by kernel_rfl)) k0 bel lt0) (trodAll_cons_mk (Below.trod laidOut (by kernel_rfl) (of_decide_eq_true (by kernel_rfl)) k1 bel lt1) trodAll_mk0)), rfl, bel.frame _, fun h => by cases h⟩
theorem over : Rows.swapPlaysRow.holds Try.pinned (OpenSpec.ofChange Rows.swapPlaysSpec) :=
  OpenClaim.holds_of_wide 3 Try.f3 rfl rfl rfl rfl rfl rfl rfl ⟨rfl, rfl, rfl, rfl, rfl⟩ rfl rfl rfl rfl rfl (by kernel_rfl) Try.func3 (by kernel_rfl)
    (of_decide_eq_true (by kernel_rfl)) (by unfold Func.isWrapper; first | (rw [if_pos (by decide +kernel)]; kernel_rfl) | (rw [if_neg (by decide +kernel)]; exact ⟨rfl, rfl⟩))
    (fun os started H enc _ => lifted os started H enc)
/-- The statement. -/
theorem proved : Rows.SwapPlaysSaid := over
end Go.Proofs.Ytibhebfkgjklpaa.lawPlays
