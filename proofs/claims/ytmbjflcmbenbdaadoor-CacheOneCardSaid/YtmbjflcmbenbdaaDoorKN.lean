/- Layer 14's laws: how a cache goes on, and the chapter's example. -/
import Derived.Test.YtmbjflcmbenbdaaDoorKL
import Derived.Test.YtmbjflcmbenbdaaDoorOpen
import Derived.Deep.Fields
namespace Go.Proofs.YtmbjflcmbenbdaaDoor
open Go.RowKit Go.Maps
set_option linter.unusedVariables false
set_option linter.unusedSimpArgs false

/-- A block of the law's own beside the cache. -/
def KOk (a : Ad) (v : Value) (W : World) (j : Nat) : Prop := j < W.heap.size ∧ a.M ≤ j ∧ j ≠ a.pp ∧ ¬ Sy a v j
/-- A cache of the law's own: o is how often the law holds each frame; K are blocks of the law's own. -/
structure Ls (w : World) (a : Ad) (n : Nat) (K : Nat → Prop) (C : Cc) (o : Nat → Nat) (W : World) : Prop where
  ca : ∃ v, Ca fs3 2 W a v C ∧ ∀ j, K j → KOk a v W j
  inv : Inv n dat3 C o
  few : n ≤ 4096
  own : w.heap.size ≤ a.N
  bel : Below w.heap.size w W
/-- .. and what a call turned. -/
def Nx (w : World) (a : Ad) (n : Nat) (K : Nat → Prop) (C : Cc) (o : Nat → Nat) (W W' : World) : Prop := Ls w a n K C o W' ∧ But (fun j => ¬ K j) W W'
section
variable {w W W' : World} {a : Ad} {n : Nat} {K K' : Nat → Prop} {C C' : Cc} {o o' : Nat → Nat} {v v' : Value}
theorem Ca.sy_ge (A : Ca fs3 2 W a v C) (j : Nat) (h : Sy a v j) : a.N ≤ j := by
  have h1 := A.hN
  rcases h with h | h | h | h | h | h
  · have := A.hh; omega
  · have := A.hg; omega
  · have := A.hc; omega
  · have := A.hm; omega
  · have := A.hd; omega
  · have := (A.apart.2.2.2.2.2.2.2.2.2.2.2.2 j h).1; omega
theorem Ls.next (S : Ls w a n K C o W) (A : Ca fs3 2 W a v C) (hK : ∀ j, K j → KOk a v W j) (A' : Ca fs3 2 W' a v' C') (I : Inv n dat3 C' o') (t : Turned a v W v' W') : Nx w a n K C' o' W W' := by
  refine ⟨⟨⟨v', A', fun j hj => ?_⟩, I, S.few, S.own, S.bel.trans (t.1.below S.bel.size fun j hj => Nat.le_trans S.own (A.sy_ge j hj))⟩, t.1.mono fun j hs hj => (hK j hj).2.2.2 hs⟩
  obtain ⟨k1, k2, k3, k4⟩ := hK j hj
  refine ⟨Nat.lt_of_lt_of_le k1 t.1.size, k2, k3, fun h => ?_⟩
  rcases h with h | h | h | h | h | h
  · exact k4 (.inl h)
  · exact k4 (.inr (.inl h))
  · exact k4 (.inr (.inr (.inl h)))
  · exact k4 (.inr (.inr (.inr (.inl h))))
  · exact k4 (.inr (.inr (.inr (.inr (.inl h)))))
  · rcases t.2 j h with h' | h'
    · exact k4 (.inr (.inr (.inr (.inr (.inr h')))))
    · omega
theorem Ls.grow (S : Ls w a n K C o W) (hb : Below W.heap.size W W') (hK : ∀ j, K' j → K j ∨ W.heap.size ≤ j ∧ j < W'.heap.size) : Ls w a n K' C o W' := by
  obtain ⟨v, A, k⟩ := S.ca
  refine ⟨⟨v, A.below hb, fun j hj => ?_⟩, S.inv, S.few, S.own, S.bel.trans (hb.mono S.bel.size)⟩
  rcases hK j hj with h | h
  · obtain ⟨k1, k2, k3, k4⟩ := k j h
    exact ⟨Nat.lt_of_lt_of_le k1 hb.size, k2, k3, k4⟩
  · obtain ⟨l1, _, _, _, _, l6, _⟩ := A.lts
    exact ⟨h.2, by omega, by omega, A.not_old j h.1⟩
theorem Ls.on (S : Ls w a n K C o W) (hb : Below W.heap.size W W') : Ls w a n K C o W' := S.grow hb fun j hj => .inl hj
/-- The law writes to its own blocks. -/
theorem Ls.aside (S : Ls w a n K C o W) (hb : But K W W') : Ls w a n K C o W' := by
  obtain ⟨v, A, k⟩ := S.ca
  have hN := A.hN
  refine ⟨⟨v, A.aside hb fun j hj => ?_, fun j hj => ?_⟩, S.inv, S.few, S.own, S.bel.trans (hb.below S.bel.size fun j hj => by have := (k j hj).2.1; have := S.own; omega)⟩
  · obtain ⟨k1, k2, k3, k4⟩ := k j hj
    exact ⟨k2, k3, fun e => k4 (.inl e), fun e => k4 (.inr (.inl e)), fun e => k4 (.inr (.inr (.inl e))), fun e => k4 (.inr (.inr (.inr (.inl e)))), fun e => k4 (.inr (.inr (.inr (.inr (.inr e)))))⟩
  · obtain ⟨k1, k2, k3, k4⟩ := k j hj
    exact ⟨Nat.lt_of_lt_of_le k1 hb.size, k2, k3, k4⟩
/-- A block of the law's own is as it was behind a call. -/
theorem Nx.blk (h : Nx w a n K C o W W') {b : Nat} {t : TypeId} {cs : Array Value} (hb : Blk W b t cs) (hk : K b) : Blk W' b t cs := hb.but h.2 fun h => h hk
theorem Ls.alloc (S : Ls w a n K C o W) (ob : Obj) : Ls w a n K C o (W.alloc ob) := S.on ((Below.refl _ _).alloc (Nat.le_refl _) ob)
theorem Ls.drew (S : Ls w a n K C o W) : Ls w a n K C o W.drew := S.on (Below.refl _ _).drew
theorem Ls.lt (S : Ls w a n K C o W) (x : Pg) (hx : x ∈ C.R) : x.fr < n := S.inv.fr _ (mem_fr hx)
theorem ls_made (w v : World) (hv : Below w.heap.size w v) (n : Nat) (h1 : 1 ≤ n) (h2 : n ≤ 4096) : Calls Tryd.prog 5 #[.int .i64 n] v fun e w' => ∃ a, e = .returned (.tuple #[.pointer (some ⟨a.pc, 0, none⟩), .pointer (some ⟨a.pp, 0, none⟩)]) ∧ Ls w a n (fun _ => False) (newC n) (fun _ => 0) w' :=
  (made_any v n h1 h2).mono fun e w' ⟨a, u, he, hA, hN, hb⟩ => ⟨a, he, ⟨u, hA, fun _ h => h.elim⟩, Inv.new n dat3, h2, Nat.le_trans hv.size hN, hv.trans (hb.mono hv.size)⟩
theorem ls_hit (S : Ls w a n K C o W) {x : Pg} (hx : pgF C.R x.f x.q = some x) (hin : 0 ≤ x.q ∧ x.q < pgsOf fs3 x.f) (ho : o x.fr < 1000) (hh : C.hits ≤ 1000000) :
    Calls Tryd.prog 10 #[.pointer (some ⟨a.pc, 0, none⟩), .agg #[.int .i64 x.f, .int .i64 x.q]] W fun e W' => e = .returned (.tuple #[.int .i64 x.fr, .int .i64 0]) ∧ Nx w a n K (C.hit x) (bump o x.fr) W W' := by
  obtain ⟨v, A, hK⟩ := S.ca
  have hxm := (pgF_some hx).1
  exact (cget_hit can3 (by omega) A hx hin (S.inv.ask (mem_fr hxm)) hh).mono fun e W' ⟨he, v', A', t⟩ => ⟨he, S.next A hK A' (S.inv.hit hxm ho) t⟩
theorem ls_fill (S : Ls w a n K C o W) (k : Nat) (hk : k < fs3.length) (q : Nat) (hq : (q : Int) < pgsOf fs3 k) (hx : pgF C.R k q = none) (hroom : freeAt C.X.H < C.X.H.length) (hf : C.fills ≤ 1000000) :
    Calls Tryd.prog 10 #[.pointer (some ⟨a.pc, 0, none⟩), .agg #[.int .i64 (k : Int), .int .i64 (q : Int)]] W fun e W' => e = .returned (.tuple #[.int .i64 (freeAt C.X.H : Nat), .int .i64 0]) ∧ Nx w a n K (C.fill k q (dat3 k q)) (bump o (freeAt C.X.H)) W W' := by
  obtain ⟨v, A, hK⟩ := S.ca
  have I := (S.inv.fill hroom k q (pgF_none.1 hx) (dat3_size _ _)).1
  have hm := I.many
  have hl : C.R.length + 1 ≤ 4096 := by
    have e : (C.fill k q (dat3 k q)).R.length = C.R.length + 1 := by simp [Cc.fill]
    have := S.few
    omega
  rw [dat3_at hk] at I ⊢
  rw [pgsOf_at hk] at hq
  exact (cget_fill can3 (by omega) A k hk q (by omega) hx hroom hf hl).mono fun e W' ⟨he, v', A', t⟩ => ⟨he, S.next A hK A' I t⟩
theorem ls_full (S : Ls w a n K C o W) (f q : Int) (hf : (Lit.int .i64 f).wf = true) (hq : (Lit.int .i64 q).wf = true) (hx : pgF C.R f q = none) (hin : 0 ≤ q ∧ q < pgsOf fs3 f) (hroom : ¬ freeAt C.X.H < C.X.H.length) :
    Calls Tryd.prog 10 #[.pointer (some ⟨a.pc, 0, none⟩), .agg #[.int .i64 f, .int .i64 q]] W fun e W' => e = .returned (.tuple #[.int .i64 0, .int .i64 18]) ∧ Nx w a n K C o W W' := by
  obtain ⟨v, A, hK⟩ := S.ca
  exact (cget_full can3 (by omega) A f q hf hq hx hin hroom).mono fun e W' ⟨he, v', A', t⟩ => ⟨he, S.next A hK A' S.inv t⟩
theorem ls_no (S : Ls w a n K C o W) (f q : Int) (hno : ¬ (0 ≤ q ∧ q < pgsOf fs3 f)) :
    Calls Tryd.prog 10 #[.pointer (some ⟨a.pc, 0, none⟩), .agg #[.int .i64 f, .int .i64 q]] W fun e W' => e = .returned (.tuple #[.int .i64 0, .int .i64 14]) ∧ Ls w a n K C o W' := by
  obtain ⟨v, A, hK⟩ := S.ca
  exact (cget_no can3 (by omega) A f q hno).mono fun e W' ⟨he, hb⟩ => ⟨he, S.on hb⟩
theorem ls_drop (S : Ls w a n K C o W) (k : Nat) (hk : 0 < o k) :
    Calls Tryd.prog 15 #[.pointer (some ⟨a.pp, 0, none⟩), .int .i64 (k : Int)] W fun e W' => e = .returned (.int .i64 0) ∧ Nx w a n K { C with X := C.X.addX k (-1) } (less o k) W W' := by
  obtain ⟨v, A, hK⟩ := S.ca
  have ha := S.inv.ask (S.inv.own k hk)
  have hd := pdrop_any A.pool (k : Int)
  rw [ha] at hd
  exact hd.mono fun e W' ⟨he, hb, hp⟩ => ⟨he, S.next A hK (A.pooled (hb.mono fun _ e => .inl e) hp) (S.inv.drop hk) (Turned.but hb fun j e => .inl e)⟩
theorem ls_evict (S : Ls w a n K C o W) :
    Calls Tryd.prog 12 #[.pointer (some ⟨a.pc, 0, none⟩)] W fun e W' => e = .returned (evV C.evK) ∧ Nx w a n K C.evC o W W' := by
  obtain ⟨v, A, hK⟩ := S.ca
  have hl := A.len
  have hfr : ∀ x ∈ C.R, x.fr < 4096 := fun x hx => by have := S.lt x hx; have := S.few; omega
  have hh : C.hand ≤ 4096 := by rcases S.inv.hand with h | ⟨_, h⟩ <;> omega
  exact (evict_any A hfr hh).mono fun e W' ⟨he, v', A', t⟩ => ⟨he, S.next A hK A' S.inv.evict.1 t⟩
theorem ls_has (S : Ls w a n K C o W) (f q : Int) (hf : (Lit.int .i64 f).wf = true) (hq : (Lit.int .i64 q).wf = true) :
    Calls Tryd.prog 16 #[.pointer (some ⟨a.pc, 0, none⟩), .agg #[.int .i64 f, .int .i64 q]] W fun e W' => e = .returned (hasV C.R f q) ∧ Below W.heap.size W W' := by
  obtain ⟨v, A, hK⟩ := S.ca
  exact chas_any A hf hq
theorem ls_len (S : Ls w a n K C o W) : Calls Tryd.prog 11 #[.pointer (some ⟨a.pc, 0, none⟩)] W fun e W' => e = .returned (.int .i64 C.R.length) ∧ W = W' := by
  obtain ⟨v, A, hK⟩ := S.ca; exact clen_any A
theorem ls_hits (S : Ls w a n K C o W) : Calls Tryd.prog 18 #[.pointer (some ⟨a.pc, 0, none⟩)] W fun e W' => e = .returned (.int .i64 C.hits) ∧ W = W' := by
  obtain ⟨v, A, hK⟩ := S.ca; exact chits_any A
theorem ls_fills (S : Ls w a n K C o W) : Calls Tryd.prog 19 #[.pointer (some ⟨a.pc, 0, none⟩)] W fun e W' => e = .returned (.int .i64 C.fills) ∧ W = W' := by
  obtain ⟨v, A, hK⟩ := S.ca; exact cfills_any A
theorem ls_held (S : Ls w a n K C o W) (k : Nat) (hk : k < n) : Calls Tryd.prog 17 #[.pointer (some ⟨a.pp, 0, none⟩), .int .i64 (k : Int)] W fun e W' => e = .returned (.int .i64 ((o k + if k ∈ C.R.map Pg.fr then 1 else 0 : Nat) : Int)) ∧ W = W' := by
  obtain ⟨v, A, hK⟩ := S.ca
  have h := pheld_any A.pool (k : Int)
  rw [S.inv.hd hk] at h
  exact h
theorem ls_bytes (S : Ls w a n K C o W) {x : Pg} (hx : x ∈ C.R) : Calls Tryd.prog 14 #[.pointer (some ⟨a.pp, 0, none⟩), .int .i64 (x.fr : Int)] W fun e W' => e = .returned (.tuple #[.string (dat3 x.f x.q), .int .i64 0]) ∧ Below W.heap.size W W' := by
  obtain ⟨v, A, hK⟩ := S.ca
  have h := pgbytes_any A.pool (x.fr : Int)
  have ha := S.inv.ask (mem_fr hx)
  have hd := S.inv.dat x hx
  rw [ha, show C.X.byS (x.fr : Int) = dat3 x.f x.q by unfold Pol.byS; rw [if_pos ha]; simp [List.getD_eq_getElem?_getD, hd]] at h
  exact h
end

/-- The chapter's example: its caches. -/
def C14 (S : List ByteArray) (h : Int) (R : List Pg) (hits : Nat) : Cc := ⟨⟨[h, 0, 0, 0], S⟩, R, 0, hits, 1⟩
theorem c14_fill : ∃ S, (newC 4).fill (1 : Nat) (0 : Nat) (dat3 (1 : Nat) (0 : Nat)) = C14 S 2 [⟨1, 0, 0, false⟩] 0 ∧ freeAt (newC 4).X.H = 0 := by
  have hf : freeAt (newC 4).X.H < (newC 4).X.H.length := by decide
  refine ⟨(newC 4).X.S.set 0 (dat3 (1 : Nat) (0 : Nat)), ?_, rfl⟩
  unfold Cc.fill
  rw [(Inv.new 4 dat3).take hf _ (dat3_size _ _)]
  rfl
theorem c14_drop (S : List ByteArray) (R : List Pg) (t : Nat) : ({ C14 S 2 R t with X := (C14 S 2 R t).X.addX (0 : Nat) (-1) } : Cc) = C14 S 1 R t := by
  simp [C14, Pol.addX, askE, wrap64]
theorem c14_hit (S : List ByteArray) : (C14 S 1 [⟨1, 0, 0, false⟩] 0).hit ⟨1, 0, 0, false⟩ = C14 S 2 [⟨1, 0, 0, true⟩] 1 := by
  simp [C14, Cc.hit, wantL, Pol.addX, askE, wrap64]
theorem c14_ev (S : List ByteArray) : (C14 S 1 [⟨1, 0, 0, true⟩] 1).evK = some ⟨1, 0, 0, false⟩ ∧ (C14 S 1 [⟨1, 0, 0, true⟩] 1).evC = ⟨⟨[0, 0, 0, 0], S⟩, [], 0, 1, 1⟩ := by
  constructor <;> simp [C14, Cc.evK, Cc.evC, Cc.look, Cc.rm, roundC, passB, passL, staleL, heldI, Pol.addX, askE, wrap64]
theorem c14_none (S : List ByteArray) : (⟨⟨[0, 0, 0, 0], S⟩, [], 0, 1, 1⟩ : Cc).evK = none ∧ (⟨⟨[0, 0, 0, 0], S⟩, [], 0, 1, 1⟩ : Cc).evC = ⟨⟨[0, 0, 0, 0], S⟩, [], 0, 1, 1⟩ := ⟨by rfl, by rfl⟩
end Go.Proofs.YtmbjflcmbenbdaaDoor

/- Layer 14's laws: awake. -/
namespace Go.Proofs.YtmbjflcmbenbdaaDoor
open Go.RowKit Go.Maps
set_option linter.unusedVariables false
set_option linter.unusedSimpArgs false

set_option maxRecDepth 100000 in
set_option maxHeartbeats 4000000 in
theorem awake14_any (w : World) : Calls Tryd.prog 4 #[] w fun e w' => e = .returned (.bool true) ∧ Below w.heap.size w w' := by
  obtain ⟨S, hC1, hfr⟩ := c14_fill
  have HM := Lib.hid (ls_made w w (Below.refl _ _) 4 (by omega) (by omega))
  have hg1 := (fun (a : Ad) (K : Nat → Prop) (v : World) (s : Ls w a 4 K (newC 4) (fun _ => 0) v) => show Calls Tryd.prog 10 #[.pointer (some ⟨a.pc, 0, none⟩), .agg #[.int .i64 1, .int .i64 0]] v fun e v' => e = .returned (.tuple #[.int .i64 0, .int .i64 0]) ∧ Nx w a 4 K (C14 S 2 [⟨1, 0, 0, false⟩] 0) (bump (fun _ => 0) 0) v v' from by
    have h := ls_fill s 1 (by decide) 0 (by rw [pg3]; decide) rfl (by decide) (by decide)
    rw [hC1, hfr] at h
    exact h.mono fun e v' ⟨he, hn⟩ => ⟨he, hn⟩)
  have hd1 := (fun (a : Ad) (K : Nat → Prop) (v : World) (s : Ls w a 4 K (C14 S 2 [⟨1, 0, 0, false⟩] 0) (bump (fun _ => 0) 0) v) => show Calls Tryd.prog 15 #[.pointer (some ⟨a.pp, 0, none⟩), .int .i64 0] v fun e v' => e = .returned (.int .i64 0) ∧ Nx w a 4 K (C14 S 1 [⟨1, 0, 0, false⟩] 0) (less (bump (fun _ => 0) 0) 0) v v' from by
    have h := ls_drop s 0 (by decide)
    rw [c14_drop] at h
    exact h.mono fun e v' ⟨he, hn⟩ => ⟨he, hn⟩)
  have hg2 := (fun (a : Ad) (K : Nat → Prop) (v : World) (s : Ls w a 4 K (C14 S 1 [⟨1, 0, 0, false⟩] 0) (less (bump (fun _ => 0) 0) 0) v) => show Calls Tryd.prog 10 #[.pointer (some ⟨a.pc, 0, none⟩), .agg #[.int .i64 1, .int .i64 0]] v fun e v' => e = .returned (.tuple #[.int .i64 0, .int .i64 0]) ∧ Nx w a 4 K (C14 S 2 [⟨1, 0, 0, true⟩] 1) (bump (less (bump (fun _ => 0) 0) 0) 0) v v' from by
    have h := ls_hit s (x := ⟨1, 0, 0, false⟩) (by simp [C14, pgF]) (by rw [pg3]; decide) (by decide) (by show (0 : Nat) ≤ 1000000; omega)
    rw [c14_hit] at h
    exact h.mono fun e v' ⟨he, hn⟩ => ⟨he, hn⟩)
  have hd2 := (fun (a : Ad) (K : Nat → Prop) (v : World) (s : Ls w a 4 K (C14 S 2 [⟨1, 0, 0, true⟩] 1) (bump (less (bump (fun _ => 0) 0) 0) 0) v) => show Calls Tryd.prog 15 #[.pointer (some ⟨a.pp, 0, none⟩), .int .i64 0] v fun e v' => e = .returned (.int .i64 0) ∧ Nx w a 4 K (C14 S 1 [⟨1, 0, 0, true⟩] 1) (less (bump (less (bump (fun _ => 0) 0) 0) 0) 0) v v' from by
    have h := ls_drop s 0 (by decide)
    rw [c14_drop] at h
    exact h.mono fun e v' ⟨he, hn⟩ => ⟨he, hn⟩)
  have he1 := (fun (a : Ad) (K : Nat → Prop) (v : World) (s : Ls w a 4 K (C14 S 1 [⟨1, 0, 0, true⟩] 1) (less (bump (less (bump (fun _ => 0) 0) 0) 0) 0) v) => show Calls Tryd.prog 12 #[.pointer (some ⟨a.pc, 0, none⟩)] v fun e v' => e = .returned (.tuple #[.agg #[.int .i64 1, .int .i64 0], .bool true]) ∧ Nx w a 4 K ⟨⟨[0, 0, 0, 0], S⟩, [], 0, 1, 1⟩ (less (bump (less (bump (fun _ => 0) 0) 0) 0) 0) v v' from by
    have h := ls_evict s
    rw [(c14_ev S).1, (c14_ev S).2] at h
    exact h.mono fun e v' ⟨he, hn⟩ => ⟨he, hn⟩)
  have he2 := (fun (a : Ad) (K : Nat → Prop) (v : World) (s : Ls w a 4 K ⟨⟨[0, 0, 0, 0], S⟩, [], 0, 1, 1⟩ (less (bump (less (bump (fun _ => 0) 0) 0) 0) 0) v) => show Calls Tryd.prog 12 #[.pointer (some ⟨a.pc, 0, none⟩)] v fun e v' => e = .returned (.tuple #[.agg #[.int .i64 0, .int .i64 0], .bool false]) ∧ Nx w a 4 K ⟨⟨[0, 0, 0, 0], S⟩, [], 0, 1, 1⟩ (less (bump (less (bump (fun _ => 0) 0) 0) 0) 0) v v' from by
    have h := ls_evict s
    rw [(c14_none S).1, (c14_none S).2] at h
    exact h.mono fun e v' ⟨he, hn⟩ => ⟨he, hn⟩)
  have hh := (fun (a : Ad) (K : Nat → Prop) (v : World) (s : Ls w a 4 K ⟨⟨[0, 0, 0, 0], S⟩, [], 0, 1, 1⟩ (less (bump (less (bump (fun _ => 0) 0) 0) 0) 0) v) => show Calls Tryd.prog 18 #[.pointer (some ⟨a.pc, 0, none⟩)] v fun e v' => e = .returned (.int .i64 1) ∧ v = v' from ls_hits s)
  have hf := (fun (a : Ad) (K : Nat → Prop) (v : World) (s : Ls w a 4 K ⟨⟨[0, 0, 0, 0], S⟩, [], 0, 1, 1⟩ (less (bump (less (bump (fun _ => 0) 0) 0) 0) 0) v) => show Calls Tryd.prog 19 #[.pointer (some ⟨a.pc, 0, none⟩)] v fun e v' => e = .returned (.int .i64 1) ∧ v = v' from ls_fills s)
  generalize (less (bump (less (bump (fun _ => 0) 0) 0) 0) 0) = o4 at *
  generalize (bump (less (bump (fun _ => 0) 0) 0) 0) = o3 at *
  generalize (less (bump (fun _ => 0) 0) 0) = o2 at *
  generalize (bump (fun _ => 0) 0) = o1 at *
  generalize (⟨⟨[0, 0, 0, 0], S⟩, [], 0, 1, 1⟩ : Cc) = D5 at *
  generalize C14 S 1 [⟨1, 0, 0, true⟩] 1 = D4 at *
  generalize C14 S 2 [⟨1, 0, 0, true⟩] 1 = D3 at *
  generalize C14 S 1 [⟨1, 0, 0, false⟩] 0 = D2 at *
  generalize C14 S 2 [⟨1, 0, 0, false⟩] 0 = D1 at *
  generalize newC 4 = D0 at *
  have HG1 := Lib.hid hg1
  have HG2 := Lib.hid hg2
  have HD1 := Lib.hid hd1
  have HD2 := Lib.hid hd2
  have HE1 := Lib.hid he1
  have HE2 := Lib.hid he2
  have HH := Lib.hid hh
  have HF := Lib.hid hf
  clear hg1 hg2 hd1 hd2 he1 he2 hh hf hC1 hfr
  go_enter Tryd.func4, Tryd.ntmps4
  go_wp2_with (first
    | (go_at_call 5; refine HM.out.mono ?_; rintro e v1 ⟨a, rfl, hs⟩; have S0 := Lib.hid (hs.grow (K' := fun j => j = v1.heap.size) ((Below.refl _ _).alloc (Nat.le_refl _) (.cells #[.int .i64 1, .int .i64 0] 40)) (fun j e => .inr ⟨by omega, by rw [e]; simp⟩)); have B0 := Lib.hid (Blk.new v1 40 #[.int .i64 1, .int .i64 0]); clear hs)
    | (go_at_call 10; refine (HG1.out a _ _ S0.out).mono ?_; rintro e v2 ⟨rfl, hs⟩; have S1 := Lib.hid hs.1; have B1 := Lib.hid (hs.blk B0.out rfl); clear hs S0 B0)
    | (go_at_call 15; refine (HD1.out a _ _ S1.out).mono ?_; rintro e v3 ⟨rfl, hs⟩; have S2 := Lib.hid hs.1; have B2 := Lib.hid (hs.blk B1.out rfl); have b0 := B2.out.at_ 0 _ rfl; have b1 := B2.out.at_ 1 _ rfl; clear hs S1 B1)
    | (go_at_call 10; refine (HG2.out a _ _ S2.out).mono ?_; rintro e v4 ⟨rfl, hs⟩; have S3 := Lib.hid hs.1; have B3 := Lib.hid (hs.blk B2.out rfl); clear hs S2 B2 b0 b1)
    | (go_at_call 15; refine (HD2.out a _ _ S3.out).mono ?_; rintro e v5 ⟨rfl, hs⟩; have S4 := Lib.hid hs.1; have B4 := Lib.hid (hs.blk B3.out rfl); clear hs S3 B3)
    | (go_at_call 12; refine (HE1.out a _ _ S4.out).mono ?_; rintro e v6 ⟨rfl, hs⟩
       have B5 := Lib.hid ((hs.blk B4.out rfl).alloc (.cells #[.int .i64 1, .int .i64 0] 40))
       have X5 := Lib.hid (Blk.new v6 40 #[.int .i64 1, .int .i64 0])
       have S5 := Lib.hid (hs.1.grow (K' := fun j => j = v1.heap.size ∨ j = v6.heap.size) ((Below.refl _ _).alloc (Nat.le_refl _) (.cells #[.int .i64 1, .int .i64 0] 40)) (fun j e => e.elim .inl fun e => .inr ⟨by omega, by rw [e]; simp⟩))
       clear hs S4 B4)
    | (go_at_call 12; refine (HE2.out a _ _ S5.out).mono ?_; rintro e v7 ⟨rfl, hs⟩
       have B6 := Lib.hid ((hs.blk B5.out (.inl rfl)).alloc (.cells #[.int .i64 0, .int .i64 0] 40))
       have X6 := Lib.hid ((hs.blk X5.out (.inr rfl)).alloc (.cells #[.int .i64 0, .int .i64 0] 40))
       have S6 := Lib.hid hs.1
       have y0 := B6.out.at_ 0 _ rfl
       have y1 := B6.out.at_ 1 _ rfl
       have x0 := X6.out.at_ 0 _ rfl
       have x1 := X6.out.at_ 1 _ rfl
       clear hs S5 B5 X5)
    | (go_at_call 18; refine (HH.out a _ _ (S6.out.alloc _)).mono ?_; rintro e v8 ⟨rfl, rfl⟩)
    | (go_at_call 19; refine (HF.out a _ _ (S6.out.alloc _)).mono ?_; rintro e v9 ⟨rfl, rfl⟩))
  go_ret
  exact ⟨rfl, (S6.out.alloc _).bel⟩
end Go.Proofs.YtmbjflcmbenbdaaDoor

/- Layer 14's laws: a key that comes in. -/
namespace Go.Proofs.YtmbjflcmbenbdaaDoor
open Go.RowKit Go.ChangeShapes Go.WideShapes Go.Deep
set_option linter.unusedVariables false
set_option linter.unusedSimpArgs false

theorem list2 {l : List Value} {u0 u1 : Value} (h : l.length = 2) (h0 : l[0]? = some u0) (h1 : l[1]? = some u1) : l = [u0, u1] := by
  match l, h with
  | [c0, c1], _ =>
    simp only [List.getElem?_cons_zero, List.getElem?_cons_succ, Option.some.injEq] at h0 h1
    rw [h0, h1]
theorem open_fieldsK {H : Type} {enc : TypeId × Value → H} {P : Program} {w : World} {base : Nat} {spare : Nat → Bool} {held : Bool} {r : Reach} {b0 : Nat} {t : TypeId} {v : Value} {d : DataW H} {ps : List MemPlace} {fs : Array Field}
    (ht : P.underlying t = some (.struct fs)) (hone : oneCellFields P fs = true) (hC : P.cellsOf t = fs.size) (hv : Value.okWide P w r b0 t v) (h : DataW.Trod enc P w base spare held t v d ps) :
    ∃ cs : List Value, v = .agg cs.toArray ∧ cs.length = fs.size ∧ ∀ (j : Nat) (f : Field), fs[j]? = some f → ∃ (u : Value) (y : DataW H × List MemPlace) (fuel : Nat), cs[j]? = some u ∧ DataW.trod enc P w base spare held fuel f.type [u] = some y := by
  obtain ⟨cs, rfl, hsz⟩ := okWide_struct ht hv
  rw [hC] at hsz
  obtain ⟨fuel, hy⟩ := h
  obtain ⟨xs, m, _, _, hlen, hxl, hel⟩ := DataW.trod_struct ht hy
  refine ⟨cs.toList, rfl, by simpa using hsz, fun j f hj => ?_⟩
  obtain ⟨ho, hk⟩ := hone_of hone j f hj
  have hjl : j < fs.size := (Array.getElem?_eq_some_iff.1 hj).1
  have h1 := hel j f hj
  have hl : cs.toList.length = fs.size := by simpa using hsz
  simp only [Value.cells] at h1
  rw [ho, hk, List.drop_eq_getElem_cons (by omega), List.getElem?_eq_getElem (by omega)] at h1
  exact ⟨_, _, m, List.getElem?_eq_getElem (by omega), h1⟩
def zeroKeyV : Value := .agg #[.int .i64 0, .int .i64 0]
set_option maxRecDepth 100000 in
/-- A key that comes in. -/
theorem open_key {H : Type} {enc : TypeId × Value → H} {w : World} {base : Nat} {spare : Nat → Bool} {held : Bool} {r : Reach} {b0 : Nat} {v : Value} {d : DataW H} {ps : List MemPlace}
    (hv : Value.okWide Tryd.prog w r b0 40 v) (h : DataW.Trod enc Tryd.prog w base spare held 40 v d ps) : ∃ p : Int × Int, v = .agg #[.int .i64 p.1, .int .i64 p.2] ∧ ((Lit.int .i64 p.1).wf = true ∧ (Lit.int .i64 p.2).wf = true) := by
  obtain ⟨cs, rfl, hsz, hel⟩ := open_fieldsK Tryd.underlying40 (by kernel_rfl) (by kernel_rfl) hv h
  obtain ⟨u0, _, _, c0, t0⟩ := hel 0 _ rfl
  obtain ⟨u1, _, _, c1, t1⟩ := hel 1 _ rfl
  obtain ⟨n0, h0, _, hw0⟩ := DataW.trod_int Tryd.underlying3 t0
  obtain ⟨n1, h1, _, hw1⟩ := DataW.trod_int Tryd.underlying3 t1
  cases h0
  cases h1
  refine ⟨(n0, n1), ?_, hw0, hw1⟩
  rw [list2 hsz c0 c1]
end Go.Proofs.YtmbjflcmbenbdaaDoor
