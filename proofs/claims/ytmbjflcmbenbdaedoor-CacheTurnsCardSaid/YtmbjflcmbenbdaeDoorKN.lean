/- Layer 14's laws: how a cache goes on, and the chapter's example. -/
import Derived.Test.YtmbjflcmbenbdaeDoorKM
namespace Go.Proofs.YtmbjflcmbenbdaeDoor
open Go.RowKit Go.Maps
set_option linter.unusedVariables false
set_option linter.unusedSimpArgs false

/-- A block of the law's own beside the cache. -/
def KOk (a : Ad) (v : Value) (W : World) (j : Nat) : Prop := j < W.heap.size ∧ a.M ≤ j ∧ j ≠ a.pp ∧ ¬ Sy a v j
/-- A cache of the law's own: o is how often the law holds each frame; K are blocks of the law's own. -/
structure Ls (w : World) (a : Ad) (n : Nat) (K : Nat → Prop) (C : Cc) (o : Nat → Nat) (W : World) : Prop where
  ca : ∃ v, Ca fs3 2 W a v C ∧ ∀ j, K j → KOk a v W j
  inv : Inv n dat3 C o
  few : n ≤ 4096
  own : w.heap.size ≤ a.N
  bel : Below w.heap.size w W
/-- .. and what a call turned. -/
def Nx (w : World) (a : Ad) (n : Nat) (K : Nat → Prop) (C : Cc) (o : Nat → Nat) (W W' : World) : Prop := Ls w a n K C o W' ∧ But (fun j => ¬ K j) W W'
section
variable {w W W' : World} {a : Ad} {n : Nat} {K K' : Nat → Prop} {C C' : Cc} {o o' : Nat → Nat} {v v' : Value}
theorem Ca.sy_ge (A : Ca fs3 2 W a v C) (j : Nat) (h : Sy a v j) : a.N ≤ j := by
  have h1 := A.hN
  rcases h with h | h | h | h | h | h
  · have := A.hh; omega
  · have := A.hg; omega
  · have := A.hc; omega
  · have := A.hm; omega
  · have := A.hd; omega
  · have := (A.apart.2.2.2.2.2.2.2.2.2.2.2.2 j h).1; omega
theorem Ls.next (S : Ls w a n K C o W) (A : Ca fs3 2 W a v C) (hK : ∀ j, K j → KOk a v W j) (A' : Ca fs3 2 W' a v' C') (I : Inv n dat3 C' o') (t : Turned a v W v' W') : Nx w a n K C' o' W W' := by
  refine ⟨⟨⟨v', A', fun j hj => ?_⟩, I, S.few, S.own, S.bel.trans (t.1.below S.bel.size fun j hj => Nat.le_trans S.own (A.sy_ge j hj))⟩, t.1.mono fun j hs hj => (hK j hj).2.2.2 hs⟩
  obtain ⟨k1, k2, k3, k4⟩ := hK j hj
  refine ⟨Nat.lt_of_lt_of_le k1 t.1.size, k2, k3, fun h => ?_⟩
  rcases h with h | h | h | h | h | h
  · exact k4 (.inl h)
  · exact k4 (.inr (.inl h))
  · exact k4 (.inr (.inr (.inl h)))
  · exact k4 (.inr (.inr (.inr (.inl h))))
  · exact k4 (.inr (.inr (.inr (.inr (.inl h)))))
  · rcases t.2 j h with h' | h'
    · exact k4 (.inr (.inr (.inr (.inr (.inr h')))))
    · omega
theorem Ls.grow (S : Ls w a n K C o W) (hb : Below W.heap.size W W') (hK : ∀ j, K' j → K j ∨ W.heap.size ≤ j ∧ j < W'.heap.size) : Ls w a n K' C o W' := by
  obtain ⟨v, A, k⟩ := S.ca
  refine ⟨⟨v, A.below hb, fun j hj => ?_⟩, S.inv, S.few, S.own, S.bel.trans (hb.mono S.bel.size)⟩
  rcases hK j hj with h | h
  · obtain ⟨k1, k2, k3, k4⟩ := k j h
    exact ⟨Nat.lt_of_lt_of_le k1 hb.size, k2, k3, k4⟩
  · obtain ⟨l1, _, _, _, _, l6, _⟩ := A.lts
    exact ⟨h.2, by omega, by omega, A.not_old j h.1⟩
theorem Ls.on (S : Ls w a n K C o W) (hb : Below W.heap.size W W') : Ls w a n K C o W' := S.grow hb fun j hj => .inl hj
/-- The law writes to its own blocks. -/
theorem Ls.aside (S : Ls w a n K C o W) (hb : But K W W') : Ls w a n K C o W' := by
  obtain ⟨v, A, k⟩ := S.ca
  have hN := A.hN
  refine ⟨⟨v, A.aside hb fun j hj => ?_, fun j hj => ?_⟩, S.inv, S.few, S.own, S.bel.trans (hb.below S.bel.size fun j hj => by have := (k j hj).2.1; have := S.own; omega)⟩
  · obtain ⟨k1, k2, k3, k4⟩ := k j hj
    exact ⟨k2, k3, fun e => k4 (.inl e), fun e => k4 (.inr (.inl e)), fun e => k4 (.inr (.inr (.inl e))), fun e => k4 (.inr (.inr (.inr (.inl e)))), fun e => k4 (.inr (.inr (.inr (.inr (.inr e)))))⟩
  · obtain ⟨k1, k2, k3, k4⟩ := k j hj
    exact ⟨Nat.lt_of_lt_of_le k1 hb.size, k2, k3, k4⟩
/-- A block of the law's own is as it was behind a call. -/
theorem Nx.blk (h : Nx w a n K C o W W') {b : Nat} {t : TypeId} {cs : Array Value} (hb : Blk W b t cs) (hk : K b) : Blk W' b t cs := hb.but h.2 fun h => h hk
theorem Ls.alloc (S : Ls w a n K C o W) (ob : Obj) : Ls w a n K C o (W.alloc ob) := S.on ((Below.refl _ _).alloc (Nat.le_refl _) ob)
theorem Ls.drew (S : Ls w a n K C o W) : Ls w a n K C o W.drew := S.on (Below.refl _ _).drew
theorem Ls.lt (S : Ls w a n K C o W) (x : Pg) (hx : x ∈ C.R) : x.fr < n := S.inv.fr _ (mem_fr hx)
theorem ls_made (w v : World) (hv : Below w.heap.size w v) (n : Nat) (h1 : 1 ≤ n) (h2 : n ≤ 4096) : Calls Tryd.prog 5 #[.int .i64 n] v fun e w' => ∃ a, e = .returned (.tuple #[.pointer (some ⟨a.pc, 0, none⟩), .pointer (some ⟨a.pp, 0, none⟩)]) ∧ Ls w a n (fun _ => False) (newC n) (fun _ => 0) w' :=
  (made_any v n h1 h2).mono fun e w' ⟨a, u, he, hA, hN, hb⟩ => ⟨a, he, ⟨u, hA, fun _ h => h.elim⟩, Inv.new n dat3, h2, Nat.le_trans hv.size hN, hv.trans (hb.mono hv.size)⟩
theorem ls_hit (S : Ls w a n K C o W) {x : Pg} (hx : pgF C.R x.f x.q = some x) (hin : 0 ≤ x.q ∧ x.q < pgsOf fs3 x.f) (ho : o x.fr < 1000) (hh : C.hits ≤ 1000000) :
    Calls Tryd.prog 6 #[.pointer (some ⟨a.pc, 0, none⟩), .agg #[.int .i64 x.f, .int .i64 x.q]] W fun e W' => e = .returned (.tuple #[.int .i64 x.fr, .int .i64 0]) ∧ Nx w a n K (C.hit x) (bump o x.fr) W W' := by
  obtain ⟨v, A, hK⟩ := S.ca
  have hxm := (pgF_some hx).1
  exact (cget_hit can3 (by omega) A hx hin (S.inv.ask (mem_fr hxm)) hh).mono fun e W' ⟨he, v', A', t⟩ => ⟨he, S.next A hK A' (S.inv.hit hxm ho) t⟩
theorem ls_fill (S : Ls w a n K C o W) (k : Nat) (hk : k < fs3.length) (q : Nat) (hq : (q : Int) < pgsOf fs3 k) (hx : pgF C.R k q = none) (hroom : freeAt C.X.H < C.X.H.length) (hf : C.fills ≤ 1000000) :
    Calls Tryd.prog 6 #[.pointer (some ⟨a.pc, 0, none⟩), .agg #[.int .i64 (k : Int), .int .i64 (q : Int)]] W fun e W' => e = .returned (.tuple #[.int .i64 (freeAt C.X.H : Nat), .int .i64 0]) ∧ Nx w a n K (C.fill k q (dat3 k q)) (bump o (freeAt C.X.H)) W W' := by
  obtain ⟨v, A, hK⟩ := S.ca
  have I := (S.inv.fill hroom k q (pgF_none.1 hx) (dat3_size _ _)).1
  have hm := I.many
  have hl : C.R.length + 1 ≤ 4096 := by
    have e : (C.fill k q (dat3 k q)).R.length = C.R.length + 1 := by simp [Cc.fill]
    have := S.few
    omega
  rw [dat3_at hk] at I ⊢
  rw [pgsOf_at hk] at hq
  exact (cget_fill can3 (by omega) A k hk q (by omega) hx hroom hf hl).mono fun e W' ⟨he, v', A', t⟩ => ⟨he, S.next A hK A' I t⟩
theorem ls_full (S : Ls w a n K C o W) (f q : Int) (hf : (Lit.int .i64 f).wf = true) (hq : (Lit.int .i64 q).wf = true) (hx : pgF C.R f q = none) (hin : 0 ≤ q ∧ q < pgsOf fs3 f) (hroom : ¬ freeAt C.X.H < C.X.H.length) :
    Calls Tryd.prog 6 #[.pointer (some ⟨a.pc, 0, none⟩), .agg #[.int .i64 f, .int .i64 q]] W fun e W' => e = .returned (.tuple #[.int .i64 0, .int .i64 18]) ∧ Nx w a n K C o W W' := by
  obtain ⟨v, A, hK⟩ := S.ca
  exact (cget_full can3 (by omega) A f q hf hq hx hin hroom).mono fun e W' ⟨he, v', A', t⟩ => ⟨he, S.next A hK A' S.inv t⟩
theorem ls_no (S : Ls w a n K C o W) (f q : Int) (hno : ¬ (0 ≤ q ∧ q < pgsOf fs3 f)) :
    Calls Tryd.prog 6 #[.pointer (some ⟨a.pc, 0, none⟩), .agg #[.int .i64 f, .int .i64 q]] W fun e W' => e = .returned (.tuple #[.int .i64 0, .int .i64 14]) ∧ Ls w a n K C o W' := by
  obtain ⟨v, A, hK⟩ := S.ca
  exact (cget_no can3 (by omega) A f q hno).mono fun e W' ⟨he, hb⟩ => ⟨he, S.on hb⟩
theorem ls_drop (S : Ls w a n K C o W) (k : Nat) (hk : 0 < o k) :
    Calls Tryd.prog 7 #[.pointer (some ⟨a.pp, 0, none⟩), .int .i64 (k : Int)] W fun e W' => e = .returned (.int .i64 0) ∧ Nx w a n K { C with X := C.X.addX k (-1) } (less o k) W W' := by
  obtain ⟨v, A, hK⟩ := S.ca
  have ha := S.inv.ask (S.inv.own k hk)
  have hd := pdrop_any A.pool (k : Int)
  rw [ha] at hd
  exact hd.mono fun e W' ⟨he, hb, hp⟩ => ⟨he, S.next A hK (A.pooled (hb.mono fun _ e => .inl e) hp) (S.inv.drop hk) (Turned.but hb fun j e => .inl e)⟩
theorem ls_evict (S : Ls w a n K C o W) :
    Calls Tryd.prog 8 #[.pointer (some ⟨a.pc, 0, none⟩)] W fun e W' => e = .returned (evV C.evK) ∧ Nx w a n K C.evC o W W' := by
  obtain ⟨v, A, hK⟩ := S.ca
  have hl := A.len
  have hfr : ∀ x ∈ C.R, x.fr < 4096 := fun x hx => by have := S.lt x hx; have := S.few; omega
  have hh : C.hand ≤ 4096 := by rcases S.inv.hand with h | ⟨_, h⟩ <;> omega
  exact (evict_any A hfr hh).mono fun e W' ⟨he, v', A', t⟩ => ⟨he, S.next A hK A' S.inv.evict.1 t⟩
theorem ls_has (S : Ls w a n K C o W) (f q : Int) (hf : (Lit.int .i64 f).wf = true) (hq : (Lit.int .i64 q).wf = true) :
    Calls Tryd.prog 9 #[.pointer (some ⟨a.pc, 0, none⟩), .agg #[.int .i64 f, .int .i64 q]] W fun e W' => e = .returned (hasV C.R f q) ∧ Below W.heap.size W W' := by
  obtain ⟨v, A, hK⟩ := S.ca
  exact chas_any A hf hq
theorem ls_len (S : Ls w a n K C o W) : Calls Tryd.prog 10 #[.pointer (some ⟨a.pc, 0, none⟩)] W fun e W' => e = .returned (.int .i64 C.R.length) ∧ W = W' := by
  obtain ⟨v, A, hK⟩ := S.ca; exact clen_any A
theorem ls_hits (S : Ls w a n K C o W) : Calls Tryd.prog 11 #[.pointer (some ⟨a.pc, 0, none⟩)] W fun e W' => e = .returned (.int .i64 C.hits) ∧ W = W' := by
  obtain ⟨v, A, hK⟩ := S.ca; exact chits_any A
theorem ls_fills (S : Ls w a n K C o W) : Calls Tryd.prog 12 #[.pointer (some ⟨a.pc, 0, none⟩)] W fun e W' => e = .returned (.int .i64 C.fills) ∧ W = W' := by
  obtain ⟨v, A, hK⟩ := S.ca; exact cfills_any A
theorem ls_held (S : Ls w a n K C o W) (k : Nat) (hk : k < n) : Calls Tryd.prog 25 #[.pointer (some ⟨a.pp, 0, none⟩), .int .i64 (k : Int)] W fun e W' => e = .returned (.int .i64 ((o k + if k ∈ C.R.map Pg.fr then 1 else 0 : Nat) : Int)) ∧ W = W' := by
  obtain ⟨v, A, hK⟩ := S.ca
  have h := pheld_any A.pool (k : Int)
  rw [S.inv.hd hk] at h
  exact h
end

/-- The chapter's example: its caches. -/
def C14 (S : List ByteArray) (h : Int) (R : List Pg) (hits : Nat) : Cc := ⟨⟨[h, 0, 0, 0], S⟩, R, 0, hits, 1⟩
theorem c14_fill : ∃ S, (newC 4).fill (1 : Nat) (0 : Nat) (dat3 (1 : Nat) (0 : Nat)) = C14 S 2 [⟨1, 0, 0, false⟩] 0 ∧ freeAt (newC 4).X.H = 0 := by
  have hf : freeAt (newC 4).X.H < (newC 4).X.H.length := by decide
  refine ⟨(newC 4).X.S.set 0 (dat3 (1 : Nat) (0 : Nat)), ?_, rfl⟩
  unfold Cc.fill
  rw [(Inv.new 4 dat3).take hf _ (dat3_size _ _)]
  rfl
theorem c14_drop (S : List ByteArray) (R : List Pg) (t : Nat) : ({ C14 S 2 R t with X := (C14 S 2 R t).X.addX (0 : Nat) (-1) } : Cc) = C14 S 1 R t := by
  simp [C14, Pol.addX, askE, wrap64]
theorem c14_hit (S : List ByteArray) : (C14 S 1 [⟨1, 0, 0, false⟩] 0).hit ⟨1, 0, 0, false⟩ = C14 S 2 [⟨1, 0, 0, true⟩] 1 := by
  simp [C14, Cc.hit, wantL, Pol.addX, askE, wrap64]
theorem c14_ev (S : List ByteArray) : (C14 S 1 [⟨1, 0, 0, true⟩] 1).evK = some ⟨1, 0, 0, false⟩ ∧ (C14 S 1 [⟨1, 0, 0, true⟩] 1).evC = ⟨⟨[0, 0, 0, 0], S⟩, [], 0, 1, 1⟩ := by
  constructor <;> simp [C14, Cc.evK, Cc.evC, Cc.look, Cc.rm, roundC, passB, passL, staleL, heldI, Pol.addX, askE, wrap64]
theorem c14_none (S : List ByteArray) : (⟨⟨[0, 0, 0, 0], S⟩, [], 0, 1, 1⟩ : Cc).evK = none ∧ (⟨⟨[0, 0, 0, 0], S⟩, [], 0, 1, 1⟩ : Cc).evC = ⟨⟨[0, 0, 0, 0], S⟩, [], 0, 1, 1⟩ := ⟨by rfl, by rfl⟩
end Go.Proofs.YtmbjflcmbenbdaeDoor
