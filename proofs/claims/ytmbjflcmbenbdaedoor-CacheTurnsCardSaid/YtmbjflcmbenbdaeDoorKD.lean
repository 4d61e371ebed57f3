/- Package cache: New, hit, load. -/
import Derived.Test.YtmbjflcmbenbdaeDoorKC
namespace Go.Proofs.YtmbjflcmbenbdaeDoor
open Go.RowKit Go.Maps
set_option linter.unusedVariables false
set_option linter.unusedSimpArgs false

section
variable {fs : List Fl} {s : Nat} {W W' : World} {a : Ad} {v v' : Value} {C : Cc}
/-- What the map says when a page is wanted again, is stale, comes, or goes. -/
theorem pgF_map (R : List Pg) (u : Pg → Pg) (hu : ∀ x, (u x).f = x.f ∧ (u x).q = x.q) (f q : Int) : pgF (R.map u) f q = (pgF R f q).map u := by
  unfold pgF
  rw [List.find?_map, show ((fun x : Pg => x.f == f && x.q == q) ∘ u) = fun x => x.f == f && x.q == q from by funext x; simp [hu x]]
theorem gR_want {R : List Pg} {x : Pg} (hx : pgF R x.f x.q = some x) (f q : Int) : gR (wantL R x.f x.q) f q = upG (gR R) x.f x.q (some ((x.fr : Int), true)) f q := by
  unfold gR wantL upG
  rw [pgF_map _ _ (fun y => by split <;> exact ⟨rfl, rfl⟩)]
  by_cases e : f = x.f ∧ q = x.q
  · obtain ⟨rfl, rfl⟩ := e
    rw [hx, if_pos ⟨rfl, rfl⟩]
    simp
  · rw [if_neg e]
    dsimp only
    cases h : pgF R f q with
    | none => rfl
    | some y =>
      obtain ⟨_, h1, h2⟩ := pgF_some h
      simp only [Option.map_some]
      rw [if_neg (fun h => e ⟨h1.symm.trans h.1, h2.symm.trans h.2⟩)]
theorem gR_stale {R : List Pg} {x : Pg} (hx : pgF R x.f x.q = some x) (f q : Int) : gR (staleL R x.f x.q) f q = upG (gR R) x.f x.q (some ((x.fr : Int), false)) f q := by
  unfold gR staleL upG
  rw [pgF_map _ _ (fun y => by split <;> exact ⟨rfl, rfl⟩)]
  by_cases e : f = x.f ∧ q = x.q
  · obtain ⟨rfl, rfl⟩ := e
    rw [hx, if_pos ⟨rfl, rfl⟩]
    simp
  · rw [if_neg e]
    dsimp only
    cases h : pgF R f q with
    | none => rfl
    | some y =>
      obtain ⟨_, h1, h2⟩ := pgF_some h
      simp only [Option.map_some]
      rw [if_neg (fun h => e ⟨h1.symm.trans h.1, h2.symm.trans h.2⟩)]
theorem gR_push {R : List Pg} {x : Pg} (hx : pgF R x.f x.q = none) (f q : Int) : gR (R ++ [x]) f q = upG (gR R) x.f x.q (some ((x.fr : Int), x.fresh)) f q := by
  unfold gR upG pgF
  unfold pgF at hx
  rw [List.find?_append]
  by_cases e : f = x.f ∧ q = x.q
  · obtain ⟨rfl, rfl⟩ := e
    rw [hx, if_pos ⟨rfl, rfl⟩]
    simp
  · rw [if_neg e]
    have h0 : ([x] : List Pg).find? (fun y => y.f == f && y.q == q) = none := by
      rw [List.find?_eq_none]
      intro y hy
      simp at hy
      subst hy
      simp
      exact fun h h' => e ⟨h.symm, h'.symm⟩
    rw [h0]
    simp
theorem gR_rm {R : List Pg} (hn : (R.map Pg.key).Nodup) {k : Nat} {x : Pg} (hk : R[k]? = some x) (f q : Int) : gR (R.eraseIdx k) f q = upG (gR R) x.f x.q none f q := by
  have hp := perm_rm hk
  have pk := hp.map Pg.key
  rw [List.map_cons] at pk
  obtain ⟨n1, n2⟩ := List.nodup_cons.1 (pk.nodup_iff.1 hn)
  unfold gR upG
  by_cases e : f = x.f ∧ q = x.q
  · obtain ⟨rfl, rfl⟩ := e
    rw [if_pos ⟨rfl, rfl⟩, pgF_none.2 n1]
    rfl
  · rw [if_neg e]
    dsimp only
    cases h : pgF R f q with
    | none =>
      rw [pgF_none.2]
      intro hm
      exact pgF_none.1 h (pk.mem_iff.2 (List.mem_cons_of_mem _ hm))
    | some y =>
      obtain ⟨h0, h1, h2⟩ := pgF_some h
      have hy : y ∈ R.eraseIdx k := by
        rcases List.mem_cons.1 (hp.mem_iff.1 h0) with h3 | h3
        · subst h3; exact absurd ⟨h1.symm, h2.symm⟩ e
        · exact h3
      have := pgF_mem n2 hy
      rw [h1, h2] at this
      rw [this]

/-- A cache is made. -/
theorem cnew_any (a : Ad) {X : Pol} (hf : OpenIn a.M fs s W a.B a.pf a.pd a.gd) (hX : Pl W a.pp a.h a.g X) (hp : a.M ≤ a.pp) (hh : a.M ≤ a.h) (hg : a.M ≤ a.g) (hN : a.N ≤ a.M) (hd : a.N ≤ a.pd) :
    Calls Tryd.prog 18 #[.pointer (some ⟨a.pp, 0, none⟩), .pointer (some ⟨a.pf, 0, none⟩)] W fun e W' => e = .returned (.pointer (some ⟨W.heap.size + 1, 0, none⟩)) ∧ Ca fs s W' { a with pc := W.heap.size + 1, mb := W.heap.size } (.slice none 0 0) ⟨X, [], 0, 0, 0⟩ ∧ Below W.heap.size W W' := by
  have hmm := @run_makeMap Tryd.prog
  have hM := hf.1
  have HF := Lib.hid (show Ca fs s ((W.alloc (.map #[] 0)).alloc (.cells (caCells { a with pc := W.heap.size + 1, mb := W.heap.size } (.slice none 0 0) ⟨X, [], 0, 0, 0⟩) 56)) { a with pc := W.heap.size + 1, mb := W.heap.size } (.slice none 0 0) ⟨X, [], 0, 0, 0⟩ from by
    have hb : Below W.heap.size W ((W.alloc (.map #[] 0)).alloc (.cells (caCells { a with pc := W.heap.size + 1, mb := W.heap.size } (.slice none 0 0) ⟨X, [], 0, 0, 0⟩) 56)) := ((Below.refl _ W).alloc (Nat.le_refl _) _).alloc (by simp) _
    have hbl := Blk.new (W.alloc (.map #[] 0)) 56 (caCells { a with pc := W.heap.size + 1, mb := W.heap.size } (.slice none 0 0) ⟨X, [], 0, 0, 0⟩)
    rw [show (W.alloc (.map #[] 0)).heap.size = W.heap.size + 1 by simp] at hbl
    refine ⟨hf.keep (hb.mono hM), hX.on hb, hbl, ?_, World.ownsRow_nil _ _ _ _, by simp, fun x hx => by simp at hx, by simp, hp, hh, hg, by show a.M ≤ W.heap.size + 1; omega, hM, hN, hd⟩
    exact ((KMap.made W).but (But.of_below (S := fun _ => False) ((Below.refl _ _).alloc (Nat.le_refl _) _)) id).congr fun _ _ => rfl)
  have HB := Lib.hid (show Below W.heap.size W ((W.alloc (.map #[] 0)).alloc (.cells (caCells { a with pc := W.heap.size + 1, mb := W.heap.size } (.slice none 0 0) ⟨X, [], 0, 0, 0⟩) 56)) from ((Below.refl _ W).alloc (Nat.le_refl _) _).alloc (by simp) _)
  unfold caCells at HF HB
  dsimp only at HF HB
  clear hf hX hM hp hh hg hN hd
  go_enter Tryd.func18, Tryd.ntmps18
  go_wp2
  go_ret
  exact ⟨by simp, HF.out, HB.out⟩

/-- What is wanted again. -/
theorem Ca.wanted (A : Ca fs s W a v C) {x : Pg} (hx : pgF C.R x.f x.q = some x) {w1 : World} (hm : KMap a.mb (upG (gR C.R) x.f x.q (some ((x.fr : Int), true))) C.R.length w1) (hg : W.grownBy w1 (some a.mb)) :
    Ca fs s (w1.setCell ⟨a.pc, 5, none⟩ (.int .i64 ((C.hits : Int) + 1))) a v { C with R := wantL C.R x.f x.q, hits := C.hits + 1 } ∧ But (fun j => j = a.pc ∨ j = a.mb) W (w1.setCell ⟨a.pc, 5, none⟩ (.int .i64 ((C.hits : Int) + 1))) := by
  have n7 := A.apart.2.2.2.2.2.2.1
  have hb1 : But (fun j => j = a.pc ∨ j = a.mb) W w1 := (But.refl _ _).grown hg fun k hk => by injection hk with hk; exact .inl (.inr hk.symm)
  have hb : But (fun j => j = a.pc ∨ j = a.mb) W (w1.setCell ⟨a.pc, 5, none⟩ (.int .i64 ((C.hits : Int) + 1))) := hb1.setCell (.inl (.inl rfl)) _
  refine ⟨A.turn hb rfl ?_ ?_ (wantL_key _ _), hb⟩
  · have h1 := (A.head.grown hg (by intro e; injection e with e; exact n7 e.symm)).set_ 5 (.int .i64 ((C.hits : Int) + 1))
    simpa [caCells] using h1
  · have hl : (wantL C.R x.f x.q).length = C.R.length := by simp [wantL]
    show KMap a.mb (gR (wantL C.R x.f x.q)) (wantL C.R x.f x.q).length _
    rw [hl]
    exact (hm.but (S := (· = a.pc)) (But.setCell (S := (· = a.pc)) (p := ⟨a.pc, 5, none⟩) (But.refl _ w1) (.inl rfl) _) n7).congr fun f q => (gR_want hx f q).symm
theorem wf_c {z : Int} (h0 : -1000000 ≤ z) (h1 : z ≤ 1000000) : (Lit.int .i64 z).wf = true := by
  have e1 : IntKind.i64.min = -9223372036854775808 := rfl
  have e2 : IntKind.i64.max = 9223372036854775807 := by decide
  simp [Lit.wf, e1, e2]
  omega
theorem fr_small (A : Ca fs s W a v C) {k : Nat} (h : askE C.X.H k = 0) : k < 4096 := by
  obtain ⟨j, e, hj, _⟩ := askE_zero h
  have := A.pool.len
  omega
set_option maxRecDepth 100000 in
set_option maxHeartbeats 800000 in
theorem chit_any (A : Ca fs s W a v C) {x : Pg} (hx : pgF C.R x.f x.q = some x) (ha : askE C.X.H x.fr = 0) (hh : C.hits ≤ 1000000) :
    Calls Tryd.prog 20 #[.pointer (some ⟨a.pc, 0, none⟩), .agg #[.int .i64 x.f, .int .i64 x.q], .int .i64 x.fr] W fun e W' => e = .returned (.tuple #[.int .i64 x.fr, .int .i64 0]) ∧ Ca fs s W' a v (C.hit x) ∧ Turned a v W v W' := by
  have hxm := (pgF_some hx).1
  obtain ⟨wf, wq⟩ := A.wfk x hxm
  have A1 := A.alloc (.cells #[.int .i64 x.f, .int .i64 x.q] 33)
  have hk := phold_any A1.pool x.fr
  rw [ha] at hk
  have hfr := fr_small A ha
  have HP := Lib.hid (fun (W2 : World) (hb : But (· = a.h) (W.alloc (.cells #[.int .i64 x.f, .int .i64 x.q] 33)) W2) (hp : Pl W2 a.pp a.h a.g (C.X.addX x.fr 1)) =>
    show ∃ w1, (Instr.mapUpdate 53 (.map (some a.mb)) (.agg #[.int .i64 x.f, .int .i64 x.q]) (.agg #[.int .i64 (x.fr : Int), .bool true])).run Tryd.prog W2.drew = .ok () w1 ∧
      w1.cell? ⟨a.pc, 5, none⟩ = some (.int .i64 (C.hits : Int)) ∧ w1.frozen? ⟨a.pc, 5, none⟩ = false ∧
      (W2.drew.cell? ⟨a.pc, 2, none⟩ = some (.map (some a.mb)) ∧ W2.drew.cell? ⟨W.heap.size, 0, none⟩ = some (.int .i64 x.f) ∧ W2.drew.cell? ⟨W.heap.size, 1, none⟩ = some (.int .i64 x.q)) ∧
      Hid (Ca fs s (w1.setCell ⟨a.pc, 5, none⟩ (.int .i64 ((C.hits : Int) + 1))) a v (C.hit x) ∧ Turned a v W v (w1.setCell ⟨a.pc, 5, none⟩ (.int .i64 ((C.hits : Int) + 1)))) from by
    have A2 := (A1.pooled (hb.mono fun _ e => .inl e) hp).drew
    have n7 := A2.apart.2.2.2.2.2.2.1
    obtain ⟨w1, hrun, hm, hg⟩ := A2.map.put (by have := A.len; show C.R.length < 1000000; omega) wf wq ((x.fr : Int), true) (wf_c (by omega) (by omega))
    have hs : (gR C.R x.f x.q).isSome = true := by unfold gR; rw [hx]; rfl
    rw [show ({ C with X := C.X.addX x.fr 1 } : Cc).R = C.R from rfl, hs] at hm
    obtain ⟨hc, ht⟩ := A2.wanted hx hm hg
    have hne : W.heap.size ≠ a.h := by have h1 := A.pool.row.lt; omega
    have hbox := ((Blk.new W 33 #[.int .i64 x.f, .int .i64 x.q]).but hb hne).drew
    have hhd := A2.head.grown hg (by intro e; injection e with e; exact n7 e.symm)
    refine ⟨w1, hrun, hhd.at_ 5 _ rfl, hhd.frozen 5, ⟨A2.cells.2.2.1, hbox.at_ 0 _ rfl, hbox.at_ 1 _ rfl⟩, Lib.hid ⟨hc, ?_⟩⟩
    have t1 : Turned a v W v (W.alloc (.cells #[.int .i64 x.f, .int .i64 x.q] 33)) := Turned.below ((Below.refl _ _).alloc (Nat.le_refl _) _)
    have t2 : Turned a v (W.alloc (.cells #[.int .i64 x.f, .int .i64 x.q] 33)) v W2.drew := Turned.but hb.drew fun j e => .inl e
    exact (t1.trans t2).trans (Turned.but ht fun j e => e.elim (fun e => .inr (.inr (.inl e))) (fun e => .inr (.inr (.inr (.inl e)))))
    )
  have HK := Lib.hid hk
  have c0 := A1.cells.1
  generalize C.hits = nh at *
  generalize x.fr = fr at *
  generalize x.f = f at *
  generalize x.q = q at *
  clear A A1 hk hx ha hxm wf wq
  generalize a.pc = pc at *
  generalize a.mb = mb at *
  go_enter Tryd.func20, Tryd.ntmps20
  go_wp2_with (go_at_call 43; refine HK.out.mono ?_; rintro e W2 ⟨rfl, hb2, hp2⟩; obtain ⟨w1, hrun, d5, f5, ⟨d2, b0, b1⟩, HFIN⟩ := HP.out W2 hb2 hp2; clear hb2 hp2)
  go_region
  all_goals
    go_wp2
    go_ret2
    exact ⟨rfl, HFIN.out.1, HFIN.out.2⟩
end
end Go.Proofs.YtmbjflcmbenbdaeDoor
