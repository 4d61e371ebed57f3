/- Package cache: how a cache lies; New, Len, Hits, Fills, Keys of none, Has. -/
import Derived.Test.YtmbjflcmbenbdaaDoorKB
namespace Go.Proofs.YtmbjflcmbenbdaaDoor
open Go.RowKit Go.Maps
set_option linter.unusedVariables false
set_option linter.unusedSimpArgs false

/-- Where all lies: N the heap's size ahead of all, M the size when the files were opened. -/
structure Ad where
  N : Nat
  M : Nat
  B : Nat
  pf : Nat
  pd : Nat
  gd : Nat
  pp : Nat
  h : Nat
  g : Nat
  pc : Nat
  mb : Nat
/-- What the map says of a key. -/
def gR (R : List Pg) (f q : Int) : Option (Int × Bool) := (pgF R f q).map fun x => ((x.fr : Int), x.fresh)
/-- The cells of a cache. -/
def caCells (a : Ad) (v : Value) (C : Cc) : Array Value := #[.pointer (some ⟨a.pp, 0, none⟩), .pointer (some ⟨a.pf, 0, none⟩), .map (some a.mb), v, .int .i64 C.hand, .int .i64 C.hits, .int .i64 C.fills]
/-- The cache C lies at a, its ring's row is v. -/
structure Ca (fs : List Fl) (s : Nat) (W : World) (a : Ad) (v : Value) (C : Cc) : Prop where
  fil : OpenIn a.M fs s W a.B a.pf a.pd a.gd
  pool : Pl W a.pp a.h a.g C.X
  head : Blk W a.pc 85 (caCells a v C)
  map : KMap a.mb (gR C.R) C.R.length W
  ring : W.ownsRow a.M 40 2 v C.R.length (keyCells C.R)
  keys : (C.R.map Pg.key).Nodup
  wfk : ∀ x ∈ C.R, (Lit.int .i64 x.f).wf = true ∧ (Lit.int .i64 x.q).wf = true
  len : C.R.length ≤ 4096
  hp : a.M ≤ a.pp
  hh : a.M ≤ a.h
  hg : a.M ≤ a.g
  hc : a.M ≤ a.pc
  hm : a.M ≤ a.mb
  hN : a.N ≤ a.M
  hd : a.N ≤ a.pd
/-- What a call turns. -/
def Sy (a : Ad) (v : Value) (j : Nat) : Prop := j = a.h ∨ j = a.g ∨ j = a.pc ∨ j = a.mb ∨ j = a.pd ∨ v.ownBlock = some j
/-- What a call turned. -/
def Turned (a : Ad) (v : Value) (W : World) (v' : Value) (W' : World) : Prop := But (Sy a v) W W' ∧ ∀ k, v'.ownBlock = some k → v.ownBlock = some k ∨ W.heap.size ≤ k
section
variable {a : Ad} {v v' v'' : Value} {W W' W'' : World}
theorem Turned.refl (a : Ad) (v : Value) (W : World) : Turned a v W v W := ⟨But.refl _ _, fun _ h => .inl h⟩
theorem Turned.trans (h : Turned a v W v' W') (k : Turned a v' W' v'' W'') : Turned a v W v'' W'' := by
  refine ⟨But.on h.1 k.1 fun j hj => ?_, fun j hj => ?_⟩
  · rcases hj with hj | hj | hj | hj | hj | hj
    · exact .inl (.inl hj)
    · exact .inl (.inr (.inl hj))
    · exact .inl (.inr (.inr (.inl hj)))
    · exact .inl (.inr (.inr (.inr (.inl hj))))
    · exact .inl (.inr (.inr (.inr (.inr (.inl hj)))))
    · rcases h.2 j hj with h1 | h1
      · exact .inl (.inr (.inr (.inr (.inr (.inr h1)))))
      · exact .inr h1
  · rcases k.2 j hj with h1 | h1
    · exact h.2 j h1
    · exact .inr (Nat.le_trans h.1.size h1)
theorem Turned.but {S : Nat → Prop} (h : But S W W') (hS : ∀ j, S j → Sy a v j) : Turned a v W v W' := ⟨h.mono hS, fun _ h => .inl h⟩
theorem Turned.below (h : Below W.heap.size W W') : Turned a v W v W' := ⟨But.of_below h, fun _ h => .inl h⟩
theorem blk_ne {b c : Nat} {t u : TypeId} {cs ds : Array Value} (h1 : Blk W b t cs) (h2 : Blk W c u ds) (h : t ≠ u) : b ≠ c := by
  rintro rfl
  unfold Blk at h1 h2
  rw [h1] at h2
  injection h2 with h2
  injection h2 with _ h2 _
  exact h h2
theorem own_not_blk {B e size n b : Nat} {xs : List Value} {t : TypeId} {cs : Array Value} (h : W.ownsRow B e size v n xs) (hb : Blk W b t cs) (ht : e ≠ t) : v.ownBlock ≠ some b := by
  intro hv
  rcases h.2 with ⟨rfl, _⟩ | ⟨g, cap, cur, rfl, _, hg, _⟩
  · simp [Value.ownBlock] at hv
  · simp [Value.ownBlock] at hv
    subst hv
    exact blk_ne (W := W) (b := g) (c := g) hg hb ht rfl
theorem own_lt {B e size n k : Nat} {xs : List Value} (h : W.ownsRow B e size v n xs) (hk : v.ownBlock = some k) : k < W.heap.size := by
  rcases h.2 with ⟨rfl, _⟩ | ⟨g, cap, cur, rfl, _, hg, _⟩
  · simp [Value.ownBlock] at hk
  · simp [Value.ownBlock] at hk
    subst hk
    exact (Array.getElem?_eq_some_iff.1 hg).1
theorem own_butK {S : Nat → Prop} {B e size n : Nat} {xs : List Value} (h : W.ownsRow B e size v n xs) (hb : But S W W') (hS : ∀ k, v.ownBlock = some k → ¬ S k) : W'.ownsRow B e size v n xs := by
  refine ⟨h.1, ?_⟩
  rcases h.2 with h2 | ⟨g, cap, cur, rfl, hB, hg, r⟩
  · exact .inl h2
  · exact .inr ⟨g, cap, cur, rfl, hB, (hb.block g (Array.getElem?_eq_some_iff.1 hg).1 (hS g rfl)).trans hg, r⟩
end
section
variable {fs : List Fl} {s : Nat} {W W' : World} {a : Ad} {v v' : Value} {C : Cc}
theorem Ca.size (A : Ca fs s W a v C) : a.M ≤ W.heap.size := A.fil.1
theorem Ca.pd_lt (A : Ca fs s W a v C) : a.pd < a.M := A.fil.disk.1
/-- Where each block of a cache is not. -/
theorem Ca.apart (A : Ca fs s W a v C) : a.pc ≠ a.h ∧ a.pc ≠ a.g ∧ a.pc ≠ a.pp ∧ a.mb ≠ a.h ∧ a.mb ≠ a.g ∧ a.mb ≠ a.pp ∧ a.mb ≠ a.pc ∧ v.ownBlock ≠ some a.h ∧ v.ownBlock ≠ some a.g ∧ v.ownBlock ≠ some a.pp ∧ v.ownBlock ≠ some a.pc ∧ v.ownBlock ≠ some a.mb ∧ (∀ k, v.ownBlock = some k → a.M ≤ k ∧ k < W.heap.size) :=
  ⟨blk_ne A.head A.pool.row (by decide), blk_ne A.head A.pool.byt (by decide), blk_ne A.head A.pool.head (by decide), A.map.not_blk A.pool.row, A.map.not_blk A.pool.byt, A.map.not_blk A.pool.head, A.map.not_blk A.head,
   own_not_blk A.ring A.pool.row (by decide), own_not_blk A.ring A.pool.byt (by decide), own_not_blk A.ring A.pool.head (by decide), own_not_blk A.ring A.head (by decide), A.map.not_own A.ring, fun k hk => ⟨own_ge A.ring hk, own_lt A.ring hk⟩⟩
theorem Ca.below (A : Ca fs s W a v C) (hb : Below W.heap.size W W') : Ca fs s W' a v C :=
  ⟨A.fil.keep (hb.mono A.size), A.pool.on hb, A.head.below hb A.head.lt, A.map.but (But.of_below (S := fun _ => False) hb) id, own_below A.ring hb, A.keys, A.wfk, A.len, A.hp, A.hh, A.hg, A.hc, A.hm, A.hN, A.hd⟩
theorem Ca.alloc (A : Ca fs s W a v C) (o : Obj) : Ca fs s (W.alloc o) a v C := A.below ((Below.refl _ _).alloc (Nat.le_refl _) o)
theorem Ca.drew (A : Ca fs s W a v C) : Ca fs s W.drew a v C := A.below (Below.refl _ _).drew
/-- The pool has turned. -/
theorem Ca.pooled (A : Ca fs s W a v C) {X : Pol} (hb : But (fun j => j = a.h ∨ j = a.g) W W') (hp : Pl W' a.pp a.h a.g X) : Ca fs s W' a v { C with X := X } := by
  obtain ⟨n1, n2, _, n4, n5, _, _, n8, n9, _⟩ := A.apart
  refine ⟨A.fil.keep (hb.below A.size (fun j hj => by have := A.hh; have := A.hg; omega)), hp, A.head.but hb (fun h => h.elim n1 n2), A.map.but hb (fun h => h.elim n4 n5), own_butK A.ring hb (fun k hk h => ?_), A.keys, A.wfk, A.len, A.hp, A.hh, A.hg, A.hc, A.hm, A.hN, A.hd⟩
  rcases h with rfl | rfl
  · exact n8 hk
  · exact n9 hk
/-- The disk was read. -/
theorem Ca.read (A : Ca fs s W a v C) (hb : But (· = a.pd) W W') (h : OpenSt fs s W' a.B a.pf a.pd a.gd) : Ca fs s W' a v C := by
  have hl := A.pd_lt
  have ne : ∀ k, a.M ≤ k → ¬ k = a.pd := fun k hk e => by omega
  refine ⟨A.fil.told hb h, A.pool.but hb (ne _ A.hp) (ne _ A.hh) (ne _ A.hg), A.head.but hb (ne _ A.hc), A.map.but hb (ne _ A.hm), own_butK A.ring hb (fun k hk h => ne k ((A.apart.2.2.2.2.2.2.2.2.2.2.2.2) k hk).1 h), A.keys, A.wfk, A.len, A.hp, A.hh, A.hg, A.hc, A.hm, A.hN, A.hd⟩
/-- The map and the cache's own cells have turned: the ring is the same row. -/
theorem Ca.turn (A : Ca fs s W a v C) {C' : Cc} (hb : But (fun j => j = a.pc ∨ j = a.mb) W W') (hX : C'.X = C.X) (hh : Blk W' a.pc 85 (caCells a v C')) (hm : KMap a.mb (gR C'.R) C'.R.length W') (hk : C'.R.map Pg.key = C.R.map Pg.key) : Ca fs s W' a v C' := by
  obtain ⟨n1, n2, n3, n4, n5, n6, n7, n8, n9, n10, n11, n12, n13⟩ := A.apart
  have hl := len_of_key hk
  refine ⟨A.fil.keep (hb.below A.size (fun j hj => by have := A.hc; have := A.hm; omega)), ?_, hh, hm, ?_, by rw [hk]; exact A.keys, fun x hx => ?_, by rw [hl]; exact A.len, A.hp, A.hh, A.hg, A.hc, A.hm, A.hN, A.hd⟩
  · rw [hX]
    exact A.pool.but hb (fun h => h.elim (fun e => n3 e.symm) (fun e => n6 e.symm)) (fun h => h.elim (fun e => n1 e.symm) (fun e => n4 e.symm)) (fun h => h.elim (fun e => n2 e.symm) (fun e => n5 e.symm))
  · rw [hl, keyCells_key hk]
    refine own_butK A.ring hb (fun k hk h => ?_)
    rcases h with rfl | rfl
    · exact n11 hk
    · exact n12 hk
  · obtain ⟨k, hk1, rfl⟩ := List.mem_iff_getElem.1 hx
    have hk2 : k < C.R.length := by omega
    have e : (C'.R.map Pg.key)[k]? = (C.R.map Pg.key)[k]? := by rw [hk]
    rw [List.getElem?_map, List.getElem?_map, List.getElem?_eq_getElem hk1, List.getElem?_eq_getElem hk2] at e
    simp [Pg.key] at e
    rw [e.1, e.2]
    exact A.wfk _ (List.getElem_mem hk2)
theorem Ca.cells (A : Ca fs s W a v C) : W.cell? ⟨a.pc, 0, none⟩ = some (.pointer (some ⟨a.pp, 0, none⟩)) ∧ W.cell? ⟨a.pc, 1, none⟩ = some (.pointer (some ⟨a.pf, 0, none⟩)) ∧ W.cell? ⟨a.pc, 2, none⟩ = some (.map (some a.mb)) ∧
    W.cell? ⟨a.pc, 3, none⟩ = some v ∧ W.cell? ⟨a.pc, 4, none⟩ = some (.int .i64 C.hand) ∧ W.cell? ⟨a.pc, 5, none⟩ = some (.int .i64 C.hits) ∧ W.cell? ⟨a.pc, 6, none⟩ = some (.int .i64 C.fills) :=
  ⟨A.head.at_ 0 _ rfl, A.head.at_ 1 _ rfl, A.head.at_ 2 _ rfl, A.head.at_ 3 _ rfl, A.head.at_ 4 _ rfl, A.head.at_ 5 _ rfl, A.head.at_ 6 _ rfl⟩
end

/-! What is asked of a cache. -/
section
variable {fs : List Fl} {s : Nat} {W W' : World} {a : Ad} {v v' : Value} {C : Cc}
set_option maxHeartbeats 400000 in
theorem clen_nil (W : World) : Calls Tryd.prog 11 #[.pointer none] W fun e W' => e = .returned (.int .i64 0) ∧ W = W' := by
  go_enter Tryd.func11, Tryd.ntmps11
  go_wp2
  go_ret
  exact ⟨rfl, rfl⟩
set_option maxHeartbeats 400000 in
theorem clen_any (A : Ca fs s W a v C) : Calls Tryd.prog 11 #[.pointer (some ⟨a.pc, 0, none⟩)] W fun e W' => e = .returned (.int .i64 C.R.length) ∧ W = W' := by
  obtain ⟨_, _, _, c3, _⟩ := A.cells
  obtain ⟨g, c, hv⟩ := own_slice2 A.ring
  rw [hv] at c3
  have hl := A.len
  clear A hv
  generalize a.pc = p at *
  generalize C.R.length = n at *
  go_enter Tryd.func11, Tryd.ntmps11
  go_wp2
  go_ret
  exact ⟨rfl, rfl⟩
set_option maxHeartbeats 400000 in
theorem chits_nil (W : World) : Calls Tryd.prog 18 #[.pointer none] W fun e W' => e = .returned (.int .i64 0) ∧ W = W' := by
  go_enter Tryd.func18, Tryd.ntmps18
  go_wp2
  go_ret
  exact ⟨rfl, rfl⟩
set_option maxHeartbeats 400000 in
theorem chits_any (A : Ca fs s W a v C) : Calls Tryd.prog 18 #[.pointer (some ⟨a.pc, 0, none⟩)] W fun e W' => e = .returned (.int .i64 C.hits) ∧ W = W' := by
  obtain ⟨_, _, _, _, _, c5, _⟩ := A.cells
  clear A
  generalize a.pc = p at *
  generalize C.hits = n at *
  go_enter Tryd.func18, Tryd.ntmps18
  go_wp2
  go_ret
  exact ⟨rfl, rfl⟩
set_option maxHeartbeats 400000 in
theorem cfills_nil (W : World) : Calls Tryd.prog 19 #[.pointer none] W fun e W' => e = .returned (.int .i64 0) ∧ W = W' := by
  go_enter Tryd.func19, Tryd.ntmps19
  go_wp2
  go_ret
  exact ⟨rfl, rfl⟩
set_option maxHeartbeats 400000 in
theorem cfills_any (A : Ca fs s W a v C) : Calls Tryd.prog 19 #[.pointer (some ⟨a.pc, 0, none⟩)] W fun e W' => e = .returned (.int .i64 C.fills) ∧ W = W' := by
  obtain ⟨_, _, _, _, _, _, c6⟩ := A.cells
  clear A
  generalize a.pc = p at *
  generalize C.fills = n at *
  go_enter Tryd.func19, Tryd.ntmps19
  go_wp2
  go_ret
  exact ⟨rfl, rfl⟩
set_option maxHeartbeats 400000 in
theorem cnew_nil (W : World) : Calls Tryd.prog 23 #[.pointer none, .pointer none] W fun e W' => e = .returned (.pointer none) ∧ W = W' := by
  go_enter Tryd.func23, Tryd.ntmps23
  go_wp2
  go_ret
  exact ⟨rfl, rfl⟩
set_option maxHeartbeats 400000 in
theorem chas_nil (f q : Int) (W : World) : Calls Tryd.prog 16 #[.pointer none, .agg #[.int .i64 f, .int .i64 q]] W fun e W' => e = .returned (.tuple #[.int .i64 0, .bool false]) ∧ Below W.heap.size W W' := by
  go_enter Tryd.func16, Tryd.ntmps16
  go_wp2
  go_ret2
  exact ⟨rfl, (Below.refl _ _).alloc (Nat.le_refl _) _⟩
set_option maxHeartbeats 400000 in
theorem cget_nil (f q : Int) (W : World) : Calls Tryd.prog 10 #[.pointer none, .agg #[.int .i64 f, .int .i64 q]] W fun e W' => e = .returned (.tuple #[.int .i64 0, .int .i64 1]) ∧ Below W.heap.size W W' := by
  go_enter Tryd.func10, Tryd.ntmps10
  go_wp2
  go_ret2
  exact ⟨rfl, (Below.refl _ _).alloc (Nat.le_refl _) _⟩
/-- The place of a key, if it is there. -/
def hasV (R : List Pg) (f q : Int) : Value := .tuple #[.int .i64 ((gR R f q).getD (0, false)).1, .bool (gR R f q).isSome]
set_option maxHeartbeats 800000 in
theorem chas_any (A : Ca fs s W a v C) {f q : Int} (hf : (Lit.int .i64 f).wf = true) (hq : (Lit.int .i64 q).wf = true) : Calls Tryd.prog 16 #[.pointer (some ⟨a.pc, 0, none⟩), .agg #[.int .i64 f, .int .i64 q]] W fun e W' => e = .returned (hasV C.R f q) ∧ Below W.heap.size W W' := by
  have A1 := (A.alloc (.cells #[.int .i64 f, .int .i64 q] 40)).drew
  have l1 := A1.map.ok hf hq
  have A2 := ((A.alloc (.cells #[.int .i64 f, .int .i64 q] 40)).alloc (.cells #[.int .i64 0, .bool false] 87)).drew
  have l2 := A2.map.ok hf hq
  obtain ⟨_, _, c2, _⟩ := A1.cells
  obtain ⟨_, _, c2', _⟩ := A2.cells
  unfold keyV pgV at l1 l2
  unfold hasV
  generalize (gR C.R f q).getD (0, false) = z at *
  generalize (gR C.R f q).isSome = b at *
  obtain ⟨z1, z2⟩ := z
  dsimp only at *
  have hlt := A.head.lt
  clear A A1 A2
  generalize a.pc = p at *
  generalize a.mb = mb at *
  go_enter Tryd.func16, Tryd.ntmps16
  go_wp2
  go_region
  all_goals
    go_wp2
    go_ret2
    exact ⟨rfl, (((Below.refl W.heap.size W).alloc (Nat.le_refl _) _).alloc (by simp) _).drew⟩
end
end Go.Proofs.YtmbjflcmbenbdaaDoor

/- Package cache: New, hit, load. -/
namespace Go.Proofs.YtmbjflcmbenbdaaDoor
open Go.RowKit Go.Maps
set_option linter.unusedVariables false
set_option linter.unusedSimpArgs false

section
variable {fs : List Fl} {s : Nat} {W W' : World} {a : Ad} {v v' : Value} {C : Cc}
/-- What the map says when a page is wanted again, is stale, comes, or goes. -/
theorem pgF_map (R : List Pg) (u : Pg → Pg) (hu : ∀ x, (u x).f = x.f ∧ (u x).q = x.q) (f q : Int) : pgF (R.map u) f q = (pgF R f q).map u := by
  unfold pgF
  rw [List.find?_map, show ((fun x : Pg => x.f == f && x.q == q) ∘ u) = fun x => x.f == f && x.q == q from by funext x; simp [hu x]]
theorem gR_want {R : List Pg} {x : Pg} (hx : pgF R x.f x.q = some x) (f q : Int) : gR (wantL R x.f x.q) f q = upG (gR R) x.f x.q (some ((x.fr : Int), true)) f q := by
  unfold gR wantL upG
  rw [pgF_map _ _ (fun y => by split <;> exact ⟨rfl, rfl⟩)]
  by_cases e : f = x.f ∧ q = x.q
  · obtain ⟨rfl, rfl⟩ := e
    rw [hx, if_pos ⟨rfl, rfl⟩]
    simp
  · rw [if_neg e]
    dsimp only
    cases h : pgF R f q with
    | none => rfl
    | some y =>
      obtain ⟨_, h1, h2⟩ := pgF_some h
      simp only [Option.map_some]
      rw [if_neg (fun h => e ⟨h1.symm.trans h.1, h2.symm.trans h.2⟩)]
theorem gR_stale {R : List Pg} {x : Pg} (hx : pgF R x.f x.q = some x) (f q : Int) : gR (staleL R x.f x.q) f q = upG (gR R) x.f x.q (some ((x.fr : Int), false)) f q := by
  unfold gR staleL upG
  rw [pgF_map _ _ (fun y => by split <;> exact ⟨rfl, rfl⟩)]
  by_cases e : f = x.f ∧ q = x.q
  · obtain ⟨rfl, rfl⟩ := e
    rw [hx, if_pos ⟨rfl, rfl⟩]
    simp
  · rw [if_neg e]
    dsimp only
    cases h : pgF R f q with
    | none => rfl
    | some y =>
      obtain ⟨_, h1, h2⟩ := pgF_some h
      simp only [Option.map_some]
      rw [if_neg (fun h => e ⟨h1.symm.trans h.1, h2.symm.trans h.2⟩)]
theorem gR_push {R : List Pg} {x : Pg} (hx : pgF R x.f x.q = none) (f q : Int) : gR (R ++ [x]) f q = upG (gR R) x.f x.q (some ((x.fr : Int), x.fresh)) f q := by
  unfold gR upG pgF
  unfold pgF at hx
  rw [List.find?_append]
  by_cases e : f = x.f ∧ q = x.q
  · obtain ⟨rfl, rfl⟩ := e
    rw [hx, if_pos ⟨rfl, rfl⟩]
    simp
  · rw [if_neg e]
    have h0 : ([x] : List Pg).find? (fun y => y.f == f && y.q == q) = none := by
      rw [List.find?_eq_none]
      intro y hy
      simp at hy
      subst hy
      simp
      exact fun h h' => e ⟨h.symm, h'.symm⟩
    rw [h0]
    simp
theorem gR_rm {R : List Pg} (hn : (R.map Pg.key).Nodup) {k : Nat} {x : Pg} (hk : R[k]? = some x) (f q : Int) : gR (R.eraseIdx k) f q = upG (gR R) x.f x.q none f q := by
  have hp := perm_rm hk
  have pk := hp.map Pg.key
  rw [List.map_cons] at pk
  obtain ⟨n1, n2⟩ := List.nodup_cons.1 (pk.nodup_iff.1 hn)
  unfold gR upG
  by_cases e : f = x.f ∧ q = x.q
  · obtain ⟨rfl, rfl⟩ := e
    rw [if_pos ⟨rfl, rfl⟩, pgF_none.2 n1]
    rfl
  · rw [if_neg e]
    dsimp only
    cases h : pgF R f q with
    | none =>
      rw [pgF_none.2]
      intro hm
      exact pgF_none.1 h (pk.mem_iff.2 (List.mem_cons_of_mem _ hm))
    | some y =>
      obtain ⟨h0, h1, h2⟩ := pgF_some h
      have hy : y ∈ R.eraseIdx k := by
        rcases List.mem_cons.1 (hp.mem_iff.1 h0) with h3 | h3
        · subst h3; exact absurd ⟨h1.symm, h2.symm⟩ e
        · exact h3
      have := pgF_mem n2 hy
      rw [h1, h2] at this
      rw [this]

/-- A cache is made. -/
theorem cnew_any (a : Ad) {X : Pol} (hf : OpenIn a.M fs s W a.B a.pf a.pd a.gd) (hX : Pl W a.pp a.h a.g X) (hp : a.M ≤ a.pp) (hh : a.M ≤ a.h) (hg : a.M ≤ a.g) (hN : a.N ≤ a.M) (hd : a.N ≤ a.pd) :
    Calls Tryd.prog 23 #[.pointer (some ⟨a.pp, 0, none⟩), .pointer (some ⟨a.pf, 0, none⟩)] W fun e W' => e = .returned (.pointer (some ⟨W.heap.size + 1, 0, none⟩)) ∧ Ca fs s W' { a with pc := W.heap.size + 1, mb := W.heap.size } (.slice none 0 0) ⟨X, [], 0, 0, 0⟩ ∧ Below W.heap.size W W' := by
  have hmm := @run_makeMap Tryd.prog
  have hM := hf.1
  have HF := Lib.hid (show Ca fs s ((W.alloc (.map #[] 0)).alloc (.cells (caCells { a with pc := W.heap.size + 1, mb := W.heap.size } (.slice none 0 0) ⟨X, [], 0, 0, 0⟩) 85)) { a with pc := W.heap.size + 1, mb := W.heap.size } (.slice none 0 0) ⟨X, [], 0, 0, 0⟩ from by
    have hb : Below W.heap.size W ((W.alloc (.map #[] 0)).alloc (.cells (caCells { a with pc := W.heap.size + 1, mb := W.heap.size } (.slice none 0 0) ⟨X, [], 0, 0, 0⟩) 85)) := ((Below.refl _ W).alloc (Nat.le_refl _) _).alloc (by simp) _
    have hbl := Blk.new (W.alloc (.map #[] 0)) 85 (caCells { a with pc := W.heap.size + 1, mb := W.heap.size } (.slice none 0 0) ⟨X, [], 0, 0, 0⟩)
    rw [show (W.alloc (.map #[] 0)).heap.size = W.heap.size + 1 by simp] at hbl
    refine ⟨hf.keep (hb.mono hM), hX.on hb, hbl, ?_, World.ownsRow_nil _ _ _ _, by simp, fun x hx => by simp at hx, by simp, hp, hh, hg, by show a.M ≤ W.heap.size + 1; omega, hM, hN, hd⟩
    exact ((KMap.made W).but (But.of_below (S := fun _ => False) ((Below.refl _ _).alloc (Nat.le_refl _) _)) id).congr fun _ _ => rfl)
  have HB := Lib.hid (show Below W.heap.size W ((W.alloc (.map #[] 0)).alloc (.cells (caCells { a with pc := W.heap.size + 1, mb := W.heap.size } (.slice none 0 0) ⟨X, [], 0, 0, 0⟩) 85)) from ((Below.refl _ W).alloc (Nat.le_refl _) _).alloc (by simp) _)
  unfold caCells at HF HB
  dsimp only at HF HB
  clear hf hX hM hp hh hg hN hd
  go_enter Tryd.func23, Tryd.ntmps23
  go_wp2
  go_ret
  exact ⟨by simp, HF.out, HB.out⟩

/-- What is wanted again. -/
theorem Ca.wanted (A : Ca fs s W a v C) {x : Pg} (hx : pgF C.R x.f x.q = some x) {w1 : World} (hm : KMap a.mb (upG (gR C.R) x.f x.q (some ((x.fr : Int), true))) C.R.length w1) (hg : W.grownBy w1 (some a.mb)) :
    Ca fs s (w1.setCell ⟨a.pc, 5, none⟩ (.int .i64 ((C.hits : Int) + 1))) a v { C with R := wantL C.R x.f x.q, hits := C.hits + 1 } ∧ But (fun j => j = a.pc ∨ j = a.mb) W (w1.setCell ⟨a.pc, 5, none⟩ (.int .i64 ((C.hits : Int) + 1))) := by
  have n7 := A.apart.2.2.2.2.2.2.1
  have hb1 : But (fun j => j = a.pc ∨ j = a.mb) W w1 := (But.refl _ _).grown hg fun k hk => by injection hk with hk; exact .inl (.inr hk.symm)
  have hb : But (fun j => j = a.pc ∨ j = a.mb) W (w1.setCell ⟨a.pc, 5, none⟩ (.int .i64 ((C.hits : Int) + 1))) := hb1.setCell (.inl (.inl rfl)) _
  refine ⟨A.turn hb rfl ?_ ?_ (wantL_key _ _), hb⟩
  · have h1 := (A.head.grown hg (by intro e; injection e with e; exact n7 e.symm)).set_ 5 (.int .i64 ((C.hits : Int) + 1))
    simpa [caCells] using h1
  · have hl : (wantL C.R x.f x.q).length = C.R.length := by simp [wantL]
    show KMap a.mb (gR (wantL C.R x.f x.q)) (wantL C.R x.f x.q).length _
    rw [hl]
    exact (hm.but (S := (· = a.pc)) (But.setCell (S := (· = a.pc)) (p := ⟨a.pc, 5, none⟩) (But.refl _ w1) (.inl rfl) _) n7).congr fun f q => (gR_want hx f q).symm
theorem wf_c {z : Int} (h0 : -1000000 ≤ z) (h1 : z ≤ 1000000) : (Lit.int .i64 z).wf = true := by
  have e1 : IntKind.i64.min = -9223372036854775808 := rfl
  have e2 : IntKind.i64.max = 9223372036854775807 := by decide
  simp [Lit.wf, e1, e2]
  omega
theorem fr_small (A : Ca fs s W a v C) {k : Nat} (h : askE C.X.H k = 0) : k < 4096 := by
  obtain ⟨j, e, hj, _⟩ := askE_zero h
  have := A.pool.len
  omega
set_option maxRecDepth 100000 in
set_option maxHeartbeats 800000 in
theorem chit_any (A : Ca fs s W a v C) {x : Pg} (hx : pgF C.R x.f x.q = some x) (ha : askE C.X.H x.fr = 0) (hh : C.hits ≤ 1000000) :
    Calls Tryd.prog 33 #[.pointer (some ⟨a.pc, 0, none⟩), .agg #[.int .i64 x.f, .int .i64 x.q], .int .i64 x.fr] W fun e W' => e = .returned (.tuple #[.int .i64 x.fr, .int .i64 0]) ∧ Ca fs s W' a v (C.hit x) ∧ Turned a v W v W' := by
  have hxm := (pgF_some hx).1
  obtain ⟨wf, wq⟩ := A.wfk x hxm
  have A1 := A.alloc (.cells #[.int .i64 x.f, .int .i64 x.q] 40)
  have hk := phold_any A1.pool x.fr
  rw [ha] at hk
  have hfr := fr_small A ha
  have HP := Lib.hid (fun (W2 : World) (hb : But (· = a.h) (W.alloc (.cells #[.int .i64 x.f, .int .i64 x.q] 40)) W2) (hp : Pl W2 a.pp a.h a.g (C.X.addX x.fr 1)) =>
    show ∃ w1, (Instr.mapUpdate 82 (.map (some a.mb)) (.agg #[.int .i64 x.f, .int .i64 x.q]) (.agg #[.int .i64 (x.fr : Int), .bool true])).run Tryd.prog W2.drew = .ok () w1 ∧
      w1.cell? ⟨a.pc, 5, none⟩ = some (.int .i64 (C.hits : Int)) ∧ w1.frozen? ⟨a.pc, 5, none⟩ = false ∧
      (W2.drew.cell? ⟨a.pc, 2, none⟩ = some (.map (some a.mb)) ∧ W2.drew.cell? ⟨W.heap.size, 0, none⟩ = some (.int .i64 x.f) ∧ W2.drew.cell? ⟨W.heap.size, 1, none⟩ = some (.int .i64 x.q)) ∧
      Hid (Ca fs s (w1.setCell ⟨a.pc, 5, none⟩ (.int .i64 ((C.hits : Int) + 1))) a v (C.hit x) ∧ Turned a v W v (w1.setCell ⟨a.pc, 5, none⟩ (.int .i64 ((C.hits : Int) + 1)))) from by
    have A2 := (A1.pooled (hb.mono fun _ e => .inl e) hp).drew
    have n7 := A2.apart.2.2.2.2.2.2.1
    obtain ⟨w1, hrun, hm, hg⟩ := A2.map.put (by have := A.len; show C.R.length < 1000000; omega) wf wq ((x.fr : Int), true) (wf_c (by omega) (by omega))
    have hs : (gR C.R x.f x.q).isSome = true := by unfold gR; rw [hx]; rfl
    rw [show ({ C with X := C.X.addX x.fr 1 } : Cc).R = C.R from rfl, hs] at hm
    obtain ⟨hc, ht⟩ := A2.wanted hx hm hg
    have hne : W.heap.size ≠ a.h := by have h1 := A.pool.row.lt; omega
    have hbox := ((Blk.new W 40 #[.int .i64 x.f, .int .i64 x.q]).but hb hne).drew
    have hhd := A2.head.grown hg (by intro e; injection e with e; exact n7 e.symm)
    refine ⟨w1, hrun, hhd.at_ 5 _ rfl, hhd.frozen 5, ⟨A2.cells.2.2.1, hbox.at_ 0 _ rfl, hbox.at_ 1 _ rfl⟩, Lib.hid ⟨hc, ?_⟩⟩
    have t1 : Turned a v W v (W.alloc (.cells #[.int .i64 x.f, .int .i64 x.q] 40)) := Turned.below ((Below.refl _ _).alloc (Nat.le_refl _) _)
    have t2 : Turned a v (W.alloc (.cells #[.int .i64 x.f, .int .i64 x.q] 40)) v W2.drew := Turned.but hb.drew fun j e => .inl e
    exact (t1.trans t2).trans (Turned.but ht fun j e => e.elim (fun e => .inr (.inr (.inl e))) (fun e => .inr (.inr (.inr (.inl e)))))
    )
  have HK := Lib.hid hk
  have c0 := A1.cells.1
  generalize C.hits = nh at *
  generalize x.fr = fr at *
  generalize x.f = f at *
  generalize x.q = q at *
  clear A A1 hk hx ha hxm wf wq
  generalize a.pc = pc at *
  generalize a.mb = mb at *
  go_enter Tryd.func33, Tryd.ntmps33
  go_wp2_with (go_at_call 54; refine HK.out.mono ?_; rintro e W2 ⟨rfl, hb2, hp2⟩; obtain ⟨w1, hrun, d5, f5, ⟨d2, b0, b1⟩, HFIN⟩ := HP.out W2 hb2 hp2; clear hb2 hp2)
  go_region
  all_goals
    go_wp2
    go_ret2
    exact ⟨rfl, HFIN.out.1, HFIN.out.2⟩
end
end Go.Proofs.YtmbjflcmbenbdaaDoor
