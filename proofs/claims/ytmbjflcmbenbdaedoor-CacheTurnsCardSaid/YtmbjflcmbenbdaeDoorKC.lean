/- Package cache: how a cache lies; New, Len, Hits, Fills, Keys of none, Has. -/
import Derived.Test.YtmbjflcmbenbdaeDoorKB
namespace Go.Proofs.YtmbjflcmbenbdaeDoor
open Go.RowKit Go.Maps
set_option linter.unusedVariables false
set_option linter.unusedSimpArgs false

/-- Where all lies: N the heap's size ahead of all, M the size when the files were opened. -/
structure Ad where
  N : Nat
  M : Nat
  B : Nat
  pf : Nat
  pd : Nat
  gd : Nat
  pp : Nat
  h : Nat
  g : Nat
  pc : Nat
  mb : Nat
/-- What the map says of a key. -/
def gR (R : List Pg) (f q : Int) : Option (Int × Bool) := (pgF R f q).map fun x => ((x.fr : Int), x.fresh)
/-- The cells of a cache. -/
def caCells (a : Ad) (v : Value) (C : Cc) : Array Value := #[.pointer (some ⟨a.pp, 0, none⟩), .pointer (some ⟨a.pf, 0, none⟩), .map (some a.mb), v, .int .i64 C.hand, .int .i64 C.hits, .int .i64 C.fills]
/-- The cache C lies at a, its ring's row is v. -/
structure Ca (fs : List Fl) (s : Nat) (W : World) (a : Ad) (v : Value) (C : Cc) : Prop where
  fil : OpenIn a.M fs s W a.B a.pf a.pd a.gd
  pool : Pl W a.pp a.h a.g C.X
  head : Blk W a.pc 56 (caCells a v C)
  map : KMap a.mb (gR C.R) C.R.length W
  ring : W.ownsRow a.M 33 2 v C.R.length (keyCells C.R)
  keys : (C.R.map Pg.key).Nodup
  wfk : ∀ x ∈ C.R, (Lit.int .i64 x.f).wf = true ∧ (Lit.int .i64 x.q).wf = true
  len : C.R.length ≤ 4096
  hp : a.M ≤ a.pp
  hh : a.M ≤ a.h
  hg : a.M ≤ a.g
  hc : a.M ≤ a.pc
  hm : a.M ≤ a.mb
  hN : a.N ≤ a.M
  hd : a.N ≤ a.pd
/-- What a call turns. -/
def Sy (a : Ad) (v : Value) (j : Nat) : Prop := j = a.h ∨ j = a.g ∨ j = a.pc ∨ j = a.mb ∨ j = a.pd ∨ v.ownBlock = some j
/-- What a call turned. -/
def Turned (a : Ad) (v : Value) (W : World) (v' : Value) (W' : World) : Prop := But (Sy a v) W W' ∧ ∀ k, v'.ownBlock = some k → v.ownBlock = some k ∨ W.heap.size ≤ k
section
variable {a : Ad} {v v' v'' : Value} {W W' W'' : World}
theorem Turned.refl (a : Ad) (v : Value) (W : World) : Turned a v W v W := ⟨But.refl _ _, fun _ h => .inl h⟩
theorem Turned.trans (h : Turned a v W v' W') (k : Turned a v' W' v'' W'') : Turned a v W v'' W'' := by
  refine ⟨But.on h.1 k.1 fun j hj => ?_, fun j hj => ?_⟩
  · rcases hj with hj | hj | hj | hj | hj | hj
    · exact .inl (.inl hj)
    · exact .inl (.inr (.inl hj))
    · exact .inl (.inr (.inr (.inl hj)))
    · exact .inl (.inr (.inr (.inr (.inl hj))))
    · exact .inl (.inr (.inr (.inr (.inr (.inl hj)))))
    · rcases h.2 j hj with h1 | h1
      · exact .inl (.inr (.inr (.inr (.inr (.inr h1)))))
      · exact .inr h1
  · rcases k.2 j hj with h1 | h1
    · exact h.2 j h1
    · exact .inr (Nat.le_trans h.1.size h1)
theorem Turned.but {S : Nat → Prop} (h : But S W W') (hS : ∀ j, S j → Sy a v j) : Turned a v W v W' := ⟨h.mono hS, fun _ h => .inl h⟩
theorem Turned.below (h : Below W.heap.size W W') : Turned a v W v W' := ⟨But.of_below h, fun _ h => .inl h⟩
theorem blk_ne {b c : Nat} {t u : TypeId} {cs ds : Array Value} (h1 : Blk W b t cs) (h2 : Blk W c u ds) (h : t ≠ u) : b ≠ c := by
  rintro rfl
  unfold Blk at h1 h2
  rw [h1] at h2
  injection h2 with h2
  injection h2 with _ h2 _
  exact h h2
theorem own_not_blk {B e size n b : Nat} {xs : List Value} {t : TypeId} {cs : Array Value} (h : W.ownsRow B e size v n xs) (hb : Blk W b t cs) (ht : e ≠ t) : v.ownBlock ≠ some b := by
  intro hv
  rcases h.2 with ⟨rfl, _⟩ | ⟨g, cap, cur, rfl, _, hg, _⟩
  · simp [Value.ownBlock] at hv
  · simp [Value.ownBlock] at hv
    subst hv
    exact blk_ne (W := W) (b := g) (c := g) hg hb ht rfl
theorem own_lt {B e size n k : Nat} {xs : List Value} (h : W.ownsRow B e size v n xs) (hk : v.ownBlock = some k) : k < W.heap.size := by
  rcases h.2 with ⟨rfl, _⟩ | ⟨g, cap, cur, rfl, _, hg, _⟩
  · simp [Value.ownBlock] at hk
  · simp [Value.ownBlock] at hk
    subst hk
    exact (Array.getElem?_eq_some_iff.1 hg).1
theorem own_butK {S : Nat → Prop} {B e size n : Nat} {xs : List Value} (h : W.ownsRow B e size v n xs) (hb : But S W W') (hS : ∀ k, v.ownBlock = some k → ¬ S k) : W'.ownsRow B e size v n xs := by
  refine ⟨h.1, ?_⟩
  rcases h.2 with h2 | ⟨g, cap, cur, rfl, hB, hg, r⟩
  · exact .inl h2
  · exact .inr ⟨g, cap, cur, rfl, hB, (hb.block g (Array.getElem?_eq_some_iff.1 hg).1 (hS g rfl)).trans hg, r⟩
end
section
variable {fs : List Fl} {s : Nat} {W W' : World} {a : Ad} {v v' : Value} {C : Cc}
theorem Ca.size (A : Ca fs s W a v C) : a.M ≤ W.heap.size := A.fil.1
theorem Ca.pd_lt (A : Ca fs s W a v C) : a.pd < a.M := A.fil.disk.1
/-- Where each block of a cache is not. -/
theorem Ca.apart (A : Ca fs s W a v C) : a.pc ≠ a.h ∧ a.pc ≠ a.g ∧ a.pc ≠ a.pp ∧ a.mb ≠ a.h ∧ a.mb ≠ a.g ∧ a.mb ≠ a.pp ∧ a.mb ≠ a.pc ∧ v.ownBlock ≠ some a.h ∧ v.ownBlock ≠ some a.g ∧ v.ownBlock ≠ some a.pp ∧ v.ownBlock ≠ some a.pc ∧ v.ownBlock ≠ some a.mb ∧ (∀ k, v.ownBlock = some k → a.M ≤ k ∧ k < W.heap.size) :=
  ⟨blk_ne A.head A.pool.row (by decide), blk_ne A.head A.pool.byt (by decide), blk_ne A.head A.pool.head (by decide), A.map.not_blk A.pool.row, A.map.not_blk A.pool.byt, A.map.not_blk A.pool.head, A.map.not_blk A.head,
   own_not_blk A.ring A.pool.row (by decide), own_not_blk A.ring A.pool.byt (by decide), own_not_blk A.ring A.pool.head (by decide), own_not_blk A.ring A.head (by decide), A.map.not_own A.ring, fun k hk => ⟨own_ge A.ring hk, own_lt A.ring hk⟩⟩
theorem Ca.below (A : Ca fs s W a v C) (hb : Below W.heap.size W W') : Ca fs s W' a v C :=
  ⟨A.fil.keep (hb.mono A.size), A.pool.on hb, A.head.below hb A.head.lt, A.map.but (But.of_below (S := fun _ => False) hb) id, own_below A.ring hb, A.keys, A.wfk, A.len, A.hp, A.hh, A.hg, A.hc, A.hm, A.hN, A.hd⟩
theorem Ca.alloc (A : Ca fs s W a v C) (o : Obj) : Ca fs s (W.alloc o) a v C := A.below ((Below.refl _ _).alloc (Nat.le_refl _) o)
theorem Ca.drew (A : Ca fs s W a v C) : Ca fs s W.drew a v C := A.below (Below.refl _ _).drew
/-- The pool has turned. -/
theorem Ca.pooled (A : Ca fs s W a v C) {X : Pol} (hb : But (fun j => j = a.h ∨ j = a.g) W W') (hp : Pl W' a.pp a.h a.g X) : Ca fs s W' a v { C with X := X } := by
  obtain ⟨n1, n2, _, n4, n5, _, _, n8, n9, _⟩ := A.apart
  refine ⟨A.fil.keep (hb.below A.size (fun j hj => by have := A.hh; have := A.hg; omega)), hp, A.head.but hb (fun h => h.elim n1 n2), A.map.but hb (fun h => h.elim n4 n5), own_butK A.ring hb (fun k hk h => ?_), A.keys, A.wfk, A.len, A.hp, A.hh, A.hg, A.hc, A.hm, A.hN, A.hd⟩
  rcases h with rfl | rfl
  · exact n8 hk
  · exact n9 hk
/-- The disk was read. -/
theorem Ca.read (A : Ca fs s W a v C) (hb : But (· = a.pd) W W') (h : OpenSt fs s W' a.B a.pf a.pd a.gd) : Ca fs s W' a v C := by
  have hl := A.pd_lt
  have ne : ∀ k, a.M ≤ k → ¬ k = a.pd := fun k hk e => by omega
  refine ⟨A.fil.told hb h, A.pool.but hb (ne _ A.hp) (ne _ A.hh) (ne _ A.hg), A.head.but hb (ne _ A.hc), A.map.but hb (ne _ A.hm), own_butK A.ring hb (fun k hk h => ne k ((A.apart.2.2.2.2.2.2.2.2.2.2.2.2) k hk).1 h), A.keys, A.wfk, A.len, A.hp, A.hh, A.hg, A.hc, A.hm, A.hN, A.hd⟩
/-- The map and the cache's own cells have turned: the ring is the same row. -/
theorem Ca.turn (A : Ca fs s W a v C) {C' : Cc} (hb : But (fun j => j = a.pc ∨ j = a.mb) W W') (hX : C'.X = C.X) (hh : Blk W' a.pc 56 (caCells a v C')) (hm : KMap a.mb (gR C'.R) C'.R.length W') (hk : C'.R.map Pg.key = C.R.map Pg.key) : Ca fs s W' a v C' := by
  obtain ⟨n1, n2, n3, n4, n5, n6, n7, n8, n9, n10, n11, n12, n13⟩ := A.apart
  have hl := len_of_key hk
  refine ⟨A.fil.keep (hb.below A.size (fun j hj => by have := A.hc; have := A.hm; omega)), ?_, hh, hm, ?_, by rw [hk]; exact A.keys, fun x hx => ?_, by rw [hl]; exact A.len, A.hp, A.hh, A.hg, A.hc, A.hm, A.hN, A.hd⟩
  · rw [hX]
    exact A.pool.but hb (fun h => h.elim (fun e => n3 e.symm) (fun e => n6 e.symm)) (fun h => h.elim (fun e => n1 e.symm) (fun e => n4 e.symm)) (fun h => h.elim (fun e => n2 e.symm) (fun e => n5 e.symm))
  · rw [hl, keyCells_key hk]
    refine own_butK A.ring hb (fun k hk h => ?_)
    rcases h with rfl | rfl
    · exact n11 hk
    · exact n12 hk
  · obtain ⟨k, hk1, rfl⟩ := List.mem_iff_getElem.1 hx
    have hk2 : k < C.R.length := by omega
    have e : (C'.R.map Pg.key)[k]? = (C.R.map Pg.key)[k]? := by rw [hk]
    rw [List.getElem?_map, List.getElem?_map, List.getElem?_eq_getElem hk1, List.getElem?_eq_getElem hk2] at e
    simp [Pg.key] at e
    rw [e.1, e.2]
    exact A.wfk _ (List.getElem_mem hk2)
theorem Ca.cells (A : Ca fs s W a v C) : W.cell? ⟨a.pc, 0, none⟩ = some (.pointer (some ⟨a.pp, 0, none⟩)) ∧ W.cell? ⟨a.pc, 1, none⟩ = some (.pointer (some ⟨a.pf, 0, none⟩)) ∧ W.cell? ⟨a.pc, 2, none⟩ = some (.map (some a.mb)) ∧
    W.cell? ⟨a.pc, 3, none⟩ = some v ∧ W.cell? ⟨a.pc, 4, none⟩ = some (.int .i64 C.hand) ∧ W.cell? ⟨a.pc, 5, none⟩ = some (.int .i64 C.hits) ∧ W.cell? ⟨a.pc, 6, none⟩ = some (.int .i64 C.fills) :=
  ⟨A.head.at_ 0 _ rfl, A.head.at_ 1 _ rfl, A.head.at_ 2 _ rfl, A.head.at_ 3 _ rfl, A.head.at_ 4 _ rfl, A.head.at_ 5 _ rfl, A.head.at_ 6 _ rfl⟩
end

/-! What is asked of a cache. -/
section
variable {fs : List Fl} {s : Nat} {W W' : World} {a : Ad} {v v' : Value} {C : Cc}
set_option maxHeartbeats 400000 in
theorem clen_nil (W : World) : Calls Tryd.prog 10 #[.pointer none] W fun e W' => e = .returned (.int .i64 0) ∧ W = W' := by
  go_enter Tryd.func10, Tryd.ntmps10
  go_wp2
  go_ret
  exact ⟨rfl, rfl⟩
set_option maxHeartbeats 400000 in
theorem clen_any (A : Ca fs s W a v C) : Calls Tryd.prog 10 #[.pointer (some ⟨a.pc, 0, none⟩)] W fun e W' => e = .returned (.int .i64 C.R.length) ∧ W = W' := by
  obtain ⟨_, _, _, c3, _⟩ := A.cells
  obtain ⟨g, c, hv⟩ := own_slice2 A.ring
  rw [hv] at c3
  have hl := A.len
  clear A hv
  generalize a.pc = p at *
  generalize C.R.length = n at *
  go_enter Tryd.func10, Tryd.ntmps10
  go_wp2
  go_ret
  exact ⟨rfl, rfl⟩
set_option maxHeartbeats 400000 in
theorem chits_nil (W : World) : Calls Tryd.prog 11 #[.pointer none] W fun e W' => e = .returned (.int .i64 0) ∧ W = W' := by
  go_enter Tryd.func11, Tryd.ntmps11
  go_wp2
  go_ret
  exact ⟨rfl, rfl⟩
set_option maxHeartbeats 400000 in
theorem chits_any (A : Ca fs s W a v C) : Calls Tryd.prog 11 #[.pointer (some ⟨a.pc, 0, none⟩)] W fun e W' => e = .returned (.int .i64 C.hits) ∧ W = W' := by
  obtain ⟨_, _, _, _, _, c5, _⟩ := A.cells
  clear A
  generalize a.pc = p at *
  generalize C.hits = n at *
  go_enter Tryd.func11, Tryd.ntmps11
  go_wp2
  go_ret
  exact ⟨rfl, rfl⟩
set_option maxHeartbeats 400000 in
theorem cfills_nil (W : World) : Calls Tryd.prog 12 #[.pointer none] W fun e W' => e = .returned (.int .i64 0) ∧ W = W' := by
  go_enter Tryd.func12, Tryd.ntmps12
  go_wp2
  go_ret
  exact ⟨rfl, rfl⟩
set_option maxHeartbeats 400000 in
theorem cfills_any (A : Ca fs s W a v C) : Calls Tryd.prog 12 #[.pointer (some ⟨a.pc, 0, none⟩)] W fun e W' => e = .returned (.int .i64 C.fills) ∧ W = W' := by
  obtain ⟨_, _, _, _, _, _, c6⟩ := A.cells
  clear A
  generalize a.pc = p at *
  generalize C.fills = n at *
  go_enter Tryd.func12, Tryd.ntmps12
  go_wp2
  go_ret
  exact ⟨rfl, rfl⟩
set_option maxHeartbeats 400000 in
theorem cnew_nil (W : World) : Calls Tryd.prog 18 #[.pointer none, .pointer none] W fun e W' => e = .returned (.pointer none) ∧ W = W' := by
  go_enter Tryd.func18, Tryd.ntmps18
  go_wp2
  go_ret
  exact ⟨rfl, rfl⟩
set_option maxHeartbeats 400000 in
theorem chas_nil (f q : Int) (W : World) : Calls Tryd.prog 9 #[.pointer none, .agg #[.int .i64 f, .int .i64 q]] W fun e W' => e = .returned (.tuple #[.int .i64 0, .bool false]) ∧ Below W.heap.size W W' := by
  go_enter Tryd.func9, Tryd.ntmps9
  go_wp2
  go_ret2
  exact ⟨rfl, (Below.refl _ _).alloc (Nat.le_refl _) _⟩
set_option maxHeartbeats 400000 in
theorem cget_nil (f q : Int) (W : World) : Calls Tryd.prog 6 #[.pointer none, .agg #[.int .i64 f, .int .i64 q]] W fun e W' => e = .returned (.tuple #[.int .i64 0, .int .i64 1]) ∧ Below W.heap.size W W' := by
  go_enter Tryd.func6, Tryd.ntmps6
  go_wp2
  go_ret2
  exact ⟨rfl, (Below.refl _ _).alloc (Nat.le_refl _) _⟩
/-- The place of a key, if it is there. -/
def hasV (R : List Pg) (f q : Int) : Value := .tuple #[.int .i64 ((gR R f q).getD (0, false)).1, .bool (gR R f q).isSome]
set_option maxHeartbeats 800000 in
theorem chas_any (A : Ca fs s W a v C) {f q : Int} (hf : (Lit.int .i64 f).wf = true) (hq : (Lit.int .i64 q).wf = true) : Calls Tryd.prog 9 #[.pointer (some ⟨a.pc, 0, none⟩), .agg #[.int .i64 f, .int .i64 q]] W fun e W' => e = .returned (hasV C.R f q) ∧ Below W.heap.size W W' := by
  have A1 := (A.alloc (.cells #[.int .i64 f, .int .i64 q] 33)).drew
  have l1 := A1.map.ok hf hq
  have A2 := ((A.alloc (.cells #[.int .i64 f, .int .i64 q] 33)).alloc (.cells #[.int .i64 0, .bool false] 59)).drew
  have l2 := A2.map.ok hf hq
  obtain ⟨_, _, c2, _⟩ := A1.cells
  obtain ⟨_, _, c2', _⟩ := A2.cells
  unfold keyV pgV at l1 l2
  unfold hasV
  generalize (gR C.R f q).getD (0, false) = z at *
  generalize (gR C.R f q).isSome = b at *
  obtain ⟨z1, z2⟩ := z
  dsimp only at *
  have hlt := A.head.lt
  clear A A1 A2
  generalize a.pc = p at *
  generalize a.mb = mb at *
  go_enter Tryd.func9, Tryd.ntmps9
  go_wp2
  go_region
  all_goals
    go_wp2
    go_ret2
    exact ⟨rfl, (((Below.refl W.heap.size W).alloc (Nat.le_refl _) _).alloc (by simp) _).drew⟩
end
end Go.Proofs.YtmbjflcmbenbdaeDoor
