/- Package cache: remove. -/
import Derived.Test.YtmbjflcmbenbdaaDoorKI
namespace Go.Proofs.YtmbjflcmbenbdaaDoor
open Go.RowKit Go.Maps
set_option linter.unusedVariables false
set_option linter.unusedSimpArgs false

section
variable {fs : List Fl} {s : Nat} {W W' : World} {a : Ad} {v v' : Value} {C : Cc}
/-- A page went. -/
theorem Ca.removed (A : Ca fs s W a v C) {k : Nat} {x : Pg} (hk : C.R[k]? = some x) {w3 w5 Wf : World} {r hnd : Nat}
    (hm : KMap a.mb (upG (gR C.R) x.f x.q none) (C.R.length - 1) w3) (hg3 : W.grownBy w3 (some a.mb)) (hb5 : But (fun j => v.ownBlock = some j) w3 w5)
    (hown : w5.ownsRow a.M 40 2 v' (C.R.length - 1) (keyCells (C.R.eraseIdx k))) (hv : v'.ownBlock = v.ownBlock)
    (hbf : But (fun j => j = a.pc ∨ j = r) w5 Wf) (hr : a.M ≤ r ∧ a.pp ≠ r ∧ a.h ≠ r ∧ a.g ≠ r ∧ a.mb ≠ r ∧ v.ownBlock ≠ some r) (hh : Blk Wf a.pc 85 (caCells a v' { C with hand := hnd })) :
    Ca fs s Wf a v' { C with R := C.R.eraseIdx k, hand := hnd } ∧ But (fun j => j = a.pc ∨ j = a.mb ∨ v.ownBlock = some j ∨ j = r) W Wf := by
  obtain ⟨n1, n2, n3, n4, n5, n6, n7, n8, n9, n10, n11, n12, n13⟩ := A.apart
  obtain ⟨r0, r1, r2, r3, r4, r5⟩ := hr
  have b3 : But (fun j => j = a.mb) W w3 := (But.refl _ _).grown hg3 fun k hk => by injection hk with hk; exact .inl hk.symm
  have hb : But (fun j => j = a.pc ∨ j = a.mb ∨ v.ownBlock = some j ∨ j = r) W Wf :=
    ((b3.mono fun _ e => .inr (.inl e)).trans (hb5.mono fun _ e => .inr (.inr (.inl e)))).trans (hbf.mono fun _ e => e.elim .inl fun e => .inr (.inr (.inr e)))
  have hkl : k < C.R.length := (List.getElem?_eq_some_iff.1 hk).1
  have hl : (C.R.eraseIdx k).length = C.R.length - 1 := by rw [List.length_eraseIdx, if_pos hkl]
  refine ⟨⟨A.fil.keep (hb.below A.size fun j hj => ?_), ?_, hh, ?_, ?_, ?_, ?_, ?_, A.hp, A.hh, A.hg, A.hc, A.hm, A.hN, A.hd⟩, hb⟩
  · rcases hj with rfl | rfl | hj | rfl
    · exact A.hc
    · exact A.hm
    · exact (n13 _ hj).1
    · exact r0
  · exact A.pool.but hb (fun e => by rcases e with e | e | e | e; exact n3 e.symm; exact n6 e.symm; exact n10 e; exact r1 e) (fun e => by rcases e with e | e | e | e; exact n1 e.symm; exact n4 e.symm; exact n8 e; exact r2 e) (fun e => by rcases e with e | e | e | e; exact n2 e.symm; exact n5 e.symm; exact n9 e; exact r3 e)
  · show KMap a.mb (gR (C.R.eraseIdx k)) (C.R.eraseIdx k).length Wf
    rw [hl]
    exact ((hm.but hb5 n12).but hbf (fun e => e.elim n7 r4)).congr fun f q => (gR_rm A.keys hk f q).symm
  · show World.ownsRow _ a.M 40 2 _ (C.R.eraseIdx k).length (keyCells (C.R.eraseIdx k))
    rw [hl]
    exact own_butK hown hbf fun j hj e => by
      rw [hv] at hj
      rcases e with rfl | rfl
      · exact n11 hj
      · exact r5 hj
  · have pk := (perm_rm hk).map Pg.key
    rw [List.map_cons] at pk
    exact (List.nodup_cons.1 (pk.nodup_iff.1 A.keys)).2
  · exact fun y hy => A.wfk y ((perm_rm hk).mem_iff.2 (List.mem_cons_of_mem _ hy))
  · show (C.R.eraseIdx k).length ≤ 4096
    rw [hl]; have := A.len; omega

set_option maxRecDepth 100000 in
set_option maxHeartbeats 1600000 in
theorem remove_any (A : Ca fs s W a v C) {k : Nat} {x : Pg} (hk : C.R[k]? = some x) (hfr : x.fr < 4096) :
    Calls Tryd.prog 36 #[.pointer (some ⟨a.pc, 0, none⟩), .int .i64 (k : Int)] W fun e W' => e = .returned (.agg #[.int .i64 x.f, .int .i64 x.q]) ∧ ∃ v', Ca fs s W' a v' (C.rm k x) ∧ Turned a v W v' W' := by
  have hkl : k < C.R.length := (List.getElem?_eq_some_iff.1 hk).1
  have hxm := List.mem_of_getElem? hk
  obtain ⟨wf, wq⟩ := A.wfk x hxm
  have hlen := A.len
  obtain ⟨P, D, hR, hP⟩ : ∃ P D, C.R = P ++ x :: D ∧ P.length = k := by
    refine ⟨C.R.take k, C.R.drop (k + 1), ?_, by simp; omega⟩
    have := (List.getElem?_eq_some_iff.1 hk).2
    rw [← this]; simp
  have hE : C.R.eraseIdx k = P ++ D := by rw [hR, List.eraseIdx_append_of_length_le (by omega), show k - P.length = 0 by omega]; rfl
  have hn : C.R.length = P.length + D.length + 1 := by rw [hR]; simp; omega
  obtain ⟨g, cap, cur, hv, hgB, hgb, hnc, hcm, hcs, htk⟩ : ∃ g cap cur, v = .slice (some ⟨g, 0, none⟩) (P.length + D.length + 1) cap ∧ a.M ≤ g ∧ Blk W g 40 cur ∧ P.length + D.length + 1 ≤ cap ∧ cap ≤ maxLen ∧ cur.size = cap * 2 ∧ cur.toList.take ((P.length + D.length + 1) * 2) = keyCells C.R := by
    rcases A.ring.2 with ⟨_, h0⟩ | ⟨g, cap, cur, h1, h2, h3, h4, h5, h6, h7⟩
    · omega
    · rw [hn] at h1 h4 h7
      exact ⟨g, cap, cur, h1, h2, h3, h4, h5, h6, h7⟩
  have hnn := A.not_new
  have hns : ∀ j, W.heap.size ≤ j → ¬ Sy a v j := fun j hj e => by
    have h1 := A.pool.row.lt
    have h2 := A.pool.byt.lt
    have h3 := A.head.lt
    have h4 := A.map.lt
    have h5 := A.pd_lt
    have h6 := A.size
    have h7 := A.apart.2.2.2.2.2.2.2.2.2.2.2.2
    rcases e with h | h | h | h | h | h
    · omega
    · omega
    · omega
    · omega
    · omega
    · have := (h7 _ h).2; omega
  -- the ring's cells
  have hcell : ∀ i, i < 2 → ∀ u, (keyCells C.R)[k * 2 + i]? = some u → W.cell? ⟨g, k * 2 + i, none⟩ = some u := fun i hi u hu => by
    refine hgb.at_ _ _ ?_
    have : (cur.toList.take ((P.length + D.length + 1) * 2))[k * 2 + i]? = some u := by rw [htk]; exact hu
    rw [List.getElem?_take, if_pos (by omega)] at this
    simpa using this
  obtain ⟨kc0, kc1⟩ := keyCells_at C.R k hkl
  have hxk : C.R[k] = x := (List.getElem?_eq_some_iff.1 hk).2
  rw [hxk] at kc0 kc1
  have g0 := hcell 0 (by omega) _ kc0
  have g1 := hcell 1 (by omega) _ kc1
  rw [Nat.add_zero] at g0
  -- two boxes
  obtain ⟨U, hU⟩ : ∃ U, U = (W.alloc (.cells #[.int .i64 0, .int .i64 0] 40)).alloc (.cells #[.int .i64 x.f, .int .i64 x.q] 40) := ⟨_, rfl⟩
  have hUb : Below W.heap.size W U := by rw [hU]; exact ((Below.refl W.heap.size W).alloc (Nat.le_refl _) _).alloc (by simp) _
  have hUs : U.heap.size = W.heap.size + 2 := by rw [hU]; simp
  have AU := A.below hUb
  have hb0 : Blk U W.heap.size 40 #[.int .i64 0, .int .i64 0] := by rw [hU]; exact (Blk.new W _ _).alloc _
  have hb1 : Blk U (W.heap.size + 1) 40 #[.int .i64 x.f, .int .i64 x.q] := by
    have := Blk.new (W.alloc (.cells #[.int .i64 0, .int .i64 0] 40)) 40 #[.int .i64 x.f, .int .i64 x.q]
    rw [show (W.alloc (.cells #[.int .i64 0, .int .i64 0] 40)).heap.size = W.heap.size + 1 by simp] at this
    rw [hU]; exact this
  have hgz : gR C.R x.f x.q = some ((x.fr : Int), x.fresh) := by unfold gR; rw [pgF_mem A.keys hxm]; rfl
  have lk := AU.drew.map.look wf wq
  rw [hgz] at lk
  have dp := pdrop_any AU.drew.pool (x.fr : Int)
  have u0 := AU.drew.cells.1
  have u2 := AU.drew.cells.2.2.1
  have y0 := hb1.drew.at_ 0 _ rfl
  have y1 := hb1.drew.at_ 1 _ rfl
  have w3c := (A.alloc (.cells #[.int .i64 0, .int .i64 0] 40)).cells.2.2.2.1
  have hcell' : ∀ o u, W.cell? ⟨g, o, none⟩ = some u → (W.alloc (.cells #[.int .i64 0, .int .i64 0] 40)).cell? ⟨g, o, none⟩ = some u := fun o u h => (((Below.refl W.heap.size W).alloc (Nat.le_refl _) _).cell (p := ⟨g, o, none⟩) hgb.lt).trans h
  replace g0 := hcell' _ _ g0
  replace g1 := hcell' _ _ g1
  have HS := Lib.hid (fun (W2 : World) (hb : But (· = a.h) U.drew W2) (hp : Pl W2 a.pp a.h a.g (C.X.addX (x.fr : Int) (-1))) =>
    show ∃ w3, (∀ ty, (Builtin.delete_ #[82, 40] ty #[.map (some a.mb), .agg #[.int .i64 x.f, .int .i64 x.q]]).run Tryd.prog W2.drew = .ok (.tuple #[]) w3) ∧
      (W2.drew.cell? ⟨a.pc, 2, none⟩ = some (.map (some a.mb)) ∧ W2.drew.cell? ⟨W.heap.size + 1, 0, none⟩ = some (.int .i64 x.f) ∧ W2.drew.cell? ⟨W.heap.size + 1, 1, none⟩ = some (.int .i64 x.q)) ∧
      w3.cell? ⟨a.pc, 3, none⟩ = some (.slice (some ⟨g, 0, none⟩) (P.length + D.length + 1) cap) ∧
      Hid (w3.ownsRow a.M 40 2 (.slice (some ⟨g, 0, none⟩) (P.length + D.length + 1) cap) (P.length + D.length + 1) (keyCells (P ++ x :: D))) ∧
      Hid (∀ w5, w5.ownsRow a.M 40 2 (.slice (some ⟨g, 0, none⟩) (P.length + D.length) cap) (P.length + D.length) (keyCells (P ++ D)) → But (· = g) w3 w5 →
        (w5.cell? ⟨a.pc, 3, none⟩ = some (.slice (some ⟨g, 0, none⟩) (P.length + D.length + 1) cap) ∧ w5.frozen? ⟨a.pc, 3, none⟩ = false ∧ w5.cell? ⟨a.pc, 4, none⟩ = some (.int .i64 C.hand) ∧ w5.frozen? ⟨a.pc, 4, none⟩ = false) ∧
        (w5.cell? ⟨W.heap.size + 1, 0, none⟩ = some (.int .i64 x.f) ∧ w5.cell? ⟨W.heap.size + 1, 1, none⟩ = some (.int .i64 x.q)) ∧
        (w5.cell? ⟨W.heap.size, 0, none⟩ = some (.int .i64 0) ∧ w5.cell? ⟨W.heap.size, 1, none⟩ = some (.int .i64 0) ∧ w5.frozen? ⟨W.heap.size, 0, none⟩ = false ∧ w5.frozen? ⟨W.heap.size, 1, none⟩ = false) ∧
        Hid (∀ (Wf : World) (hnd : Nat), Blk Wf a.pc 85 (caCells a (.slice (some ⟨g, 0, none⟩) (P.length + D.length) cap) { C with hand := hnd }) → But (fun j => j = a.pc ∨ j = W.heap.size) w5 Wf → hnd = (C.rm k x).hand →
          ∃ v', Ca fs s Wf a v' (C.rm k x) ∧ Turned a v W v' Wf) ∧
        Hid (Blk w5 a.pc 85 (caCells a v C)) ∧ Hid (Blk w5 W.heap.size 40 #[.int .i64 0, .int .i64 0])) from by
    have A2 := (AU.drew.pooled (hb.mono fun _ e => .inl e) hp).drew
    obtain ⟨n1, n2, n3, n4, n5, n6, n7, n8, n9, n10, n11, n12, n13⟩ := A2.apart
    obtain ⟨w3, hm, hrun⟩ : ∃ w3, (KMap a.mb (upG (gR C.R) x.f x.q none) (C.R.length - 1) w3 ∧ W2.drew.grownBy w3 (some a.mb)) ∧ ∀ ty, (Builtin.delete_ #[82, 40] ty #[.map (some a.mb), .agg #[.int .i64 x.f, .int .i64 x.q]]).run Tryd.prog W2.drew = .ok (.tuple #[]) w3 := by
      obtain ⟨w3, h1, h2, h3⟩ := A2.map.drop wf wq (by show (gR C.R x.f x.q).isSome = true; rw [hgz]; rfl) 0
      exact ⟨w3, ⟨h2, h3⟩, fun ty => h1⟩
    obtain ⟨hm, hg⟩ := hm
    have hb2 : But (· = a.h) U W2.drew := ((But.refl _ U).drew.trans hb).drew
    have hk2 : Blk W2.drew (W.heap.size + 1) 40 #[.int .i64 x.f, .int .i64 x.q] := hb1.but hb2 (fun e => hns _ (by omega) (.inl e))
    have hk0 : Blk W2.drew W.heap.size 40 #[.int .i64 0, .int .i64 0] := hb0.but hb2 (fun e => hns _ (Nat.le_refl _) (.inl e))
    have hne1 : some (W.heap.size + 1) ≠ some a.mb := fun e => hns _ (by omega) (.inr (.inr (.inr (.inl (Option.some.inj e)))))
    have hne0 : some W.heap.size ≠ some a.mb := fun e => hns _ (Nat.le_refl _) (.inr (.inr (.inr (.inl (Option.some.inj e)))))
    have hk3 := hk2.grown hg hne1
    have hk03 := hk0.grown hg hne0
    have hh3 := A2.head.grown hg (by intro e; injection e with e; exact n7 e.symm)
    have hown3 : w3.ownsRow a.M 40 2 v C.R.length (keyCells C.R) :=
      own_butK A2.ring (S := (· = a.mb)) ((But.refl _ _).grown hg fun k hk => by injection hk with hk; exact .inl hk.symm) (fun k hk e => n12 (by rw [hk, e]))
    have c3 := hh3.at_ 3 _ rfl
    rw [hv] at c3 hown3
    have hown3' : w3.ownsRow a.M 40 2 (.slice (some ⟨g, 0, none⟩) (P.length + D.length + 1) cap) (P.length + D.length + 1) (keyCells (P ++ x :: D)) := by
      rw [hn, hR] at hown3; exact hown3
    refine ⟨w3, hrun, ⟨A2.cells.2.2.1, hk2.at_ 0 _ rfl, hk2.at_ 1 _ rfl⟩, c3, Lib.hid hown3', Lib.hid fun w5 hown5 hb5 => ?_⟩
    have hvo : v.ownBlock = some g := by rw [hv]; rfl
    have hgs : Sy a v g := .inr (.inr (.inr (.inr (.inr hvo))))
    have hh5 := hh3.but hb5 (fun e => n11 (by rw [hvo, e]))
    have hk5 := hk3.but hb5 (fun e => hns _ (by omega) (e ▸ hgs))
    have hk05 := hk03.but hb5 (fun e => hns _ (Nat.le_refl _) (e ▸ hgs))
    have c35 := hh5.at_ 3 _ rfl
    rw [hv] at c35
    refine ⟨⟨c35, hh5.frozen 3, hh5.at_ 4 _ rfl, hh5.frozen 4⟩, ⟨hk5.at_ 0 _ rfl, hk5.at_ 1 _ rfl⟩, ⟨hk05.at_ 0 _ rfl, hk05.at_ 1 _ rfl, hk05.frozen 0, hk05.frozen 1⟩, Lib.hid fun Wf hnd hhf hbf he => ?_, Lib.hid hh5, Lib.hid hk05⟩
    have hw : W.heap.size ≤ W2.drew.heap.size := by have := hb2.size; omega
    have hrem := A2.removed (k := k) (x := x) hk (w3 := w3) (w5 := w5) (Wf := Wf) (v' := .slice (some ⟨g, 0, none⟩) (P.length + D.length) cap) (r := W.heap.size) (hnd := hnd) hm hg (hb5.mono fun j e => by rw [hvo, e])
      (by show w5.ownsRow a.M 40 2 _ (C.R.length - 1) (keyCells (C.R.eraseIdx k)); rw [hE, hn]; exact hown5) hvo.symm hbf
      ⟨A.size, fun e => by have := A.pool.head.lt; omega, fun e => hns _ (Nat.le_refl _) (.inl e.symm), fun e => hns _ (Nat.le_refl _) (.inr (.inl e.symm)), fun e => hns _ (Nat.le_refl _) (.inr (.inr (.inr (.inl e.symm)))), fun e => hns _ (Nat.le_refl _) (.inr (.inr (.inr (.inr (.inr e)))))⟩ hhf
    obtain ⟨hca, hbb⟩ := hrem
    refine ⟨_, by rw [he] at hca; exact hca, ?_, fun j hj => .inl (by rw [hvo]; exact hj)⟩
    have hbU : But (Sy a v) W W2.drew := ((But.of_below hUb).trans (But.of_below (Below.refl _ _).drew)).trans ((hb.drew).mono fun j e => .inl e)
    refine But.on hbU hbb fun j hj => ?_
    rcases hj with e | e | e | e
    · exact .inl (.inr (.inr (.inl e)))
    · exact .inl (.inr (.inr (.inr (.inl e))))
    · exact .inl (.inr (.inr (.inr (.inr (.inr e)))))
    · exact .inr (by omega))
  have hand_eq : (C.rm k x).hand = if D.length = 0 then 0 else k := by
    show (if k = C.R.length - 1 then 0 else k) = _
    by_cases h0 : D.length = 0
    · rw [if_pos (by omega), if_pos h0]
    · rw [if_neg (by omega), if_neg h0]
  have hpl := A.head.lt
  have p1 : a.pc ≠ W.heap.size := by omega
  have p2 : W.heap.size ≠ a.pc := by omega
  have p3 : a.pc ≠ W.heap.size + 1 := by omega
  have p4 : W.heap.size + 1 ≠ a.pc := by omega
  have HDL := Lib.hid (fun (w3 : World) (h : w3.ownsRow a.M 40 2 (.slice (some ⟨g, 0, none⟩) (P.length + D.length + 1) cap) (P.length + D.length + 1) (keyCells (P ++ x :: D))) => delete_any P D x h (by omega))
  have HU := Lib.hid hU
  have HDP := Lib.hid dp
  have hfld : ∀ (z : Int) (b : Bool) (w : World), (Instr.field 87 (.agg #[.int .i64 z, .bool b]) 0).run Tryd.prog w = .ok (.int .i64 z) w := fun z b w => by kernel_rfl
  have hl2 : P.length + D.length + 1 ≤ 4096 := by omega
  rw [hv] at w3c
  have HBL := Lib.hid (fun (w6 : World) (hnd : Nat) (h5 : Blk w6 a.pc 85 (caCells a (.slice (some ⟨g, 0, none⟩) (P.length + D.length) cap) { C with hand := hnd })) (h0 : Blk w6 W.heap.size 40 #[.int .i64 0, .int .i64 0]) =>
    show Blk ((w6.setCell ⟨W.heap.size, 0, none⟩ (.int .i64 x.f)).setCell ⟨W.heap.size, 1, none⟩ (.int .i64 x.q)) W.heap.size 40 #[.int .i64 x.f, .int .i64 x.q] ∧
      Blk ((w6.setCell ⟨W.heap.size, 0, none⟩ (.int .i64 x.f)).setCell ⟨W.heap.size, 1, none⟩ (.int .i64 x.q)) a.pc 85 (caCells a (.slice (some ⟨g, 0, none⟩) (P.length + D.length) cap) { C with hand := hnd }) ∧
      But (fun j => j = a.pc ∨ j = W.heap.size) w6 ((w6.setCell ⟨W.heap.size, 0, none⟩ (.int .i64 x.f)).setCell ⟨W.heap.size, 1, none⟩ (.int .i64 x.q)) from by
    refine ⟨?_, ?_, ?_⟩
    · have := (h0.set_ 0 (.int .i64 x.f)).set_ 1 (.int .i64 x.q)
      simpa using this
    · exact (h5.far (p := ⟨W.heap.size, 0, none⟩) p1 (.int .i64 x.f)).far (p := ⟨W.heap.size, 1, none⟩) p1 (.int .i64 x.q)
    · exact But.setCell (S := fun j => j = a.pc ∨ j = W.heap.size) (p := ⟨W.heap.size, 1, none⟩) (But.setCell (S := fun j => j = a.pc ∨ j = W.heap.size) (p := ⟨W.heap.size, 0, none⟩) (But.refl _ _) (.inl (.inr rfl)) _) (.inl (.inr rfl)) _)
  have HB1 := Lib.hid (fun (w5 : World) (h5 : Blk w5 a.pc 85 (caCells a v C)) (h0 : Blk w5 W.heap.size 40 #[.int .i64 0, .int .i64 0]) (hnd : Nat) =>
    show Blk ((w5.setCell ⟨a.pc, 3, none⟩ (.slice (some ⟨g, 0, none⟩) (P.length + D.length) cap)).setCell ⟨a.pc, 4, none⟩ (.int .i64 (hnd : Int))) a.pc 85 (caCells a (.slice (some ⟨g, 0, none⟩) (P.length + D.length) cap) { C with hand := hnd }) ∧
      Blk ((w5.setCell ⟨a.pc, 3, none⟩ (.slice (some ⟨g, 0, none⟩) (P.length + D.length) cap)).setCell ⟨a.pc, 4, none⟩ (.int .i64 (hnd : Int))) W.heap.size 40 #[.int .i64 0, .int .i64 0] ∧
      But (fun j => j = a.pc ∨ j = W.heap.size) w5 ((w5.setCell ⟨a.pc, 3, none⟩ (.slice (some ⟨g, 0, none⟩) (P.length + D.length) cap)).setCell ⟨a.pc, 4, none⟩ (.int .i64 (hnd : Int))) from by
    refine ⟨?_, (h0.far (p := ⟨a.pc, 3, none⟩) p2 _).far (p := ⟨a.pc, 4, none⟩) p2 _, ?_⟩
    · have := (h5.set_ 3 (.slice (some ⟨g, 0, none⟩) (P.length + D.length) cap)).set_ 4 (.int .i64 (hnd : Int))
      simpa [caCells] using this
    · exact But.setCell (S := fun j => j = a.pc ∨ j = W.heap.size) (p := ⟨a.pc, 4, none⟩) (But.setCell (S := fun j => j = a.pc ∨ j = W.heap.size) (p := ⟨a.pc, 3, none⟩) (But.refl _ _) (.inl (.inl rfl)) _) (.inl (.inl rfl)) _)
  have HB2 := Lib.hid (fun (w6 : World) (u : Value) (h1 hnd : Nat) (h5 : Blk w6 a.pc 85 (caCells a u { C with hand := h1 })) (h0 : Blk w6 W.heap.size 40 #[.int .i64 0, .int .i64 0]) =>
    show Blk (w6.setCell ⟨a.pc, 4, none⟩ (.int .i64 (hnd : Int))) a.pc 85 (caCells a u { C with hand := hnd }) ∧
      Blk (w6.setCell ⟨a.pc, 4, none⟩ (.int .i64 (hnd : Int))) W.heap.size 40 #[.int .i64 0, .int .i64 0] ∧
      But (fun j => j = a.pc ∨ j = W.heap.size) w6 (w6.setCell ⟨a.pc, 4, none⟩ (.int .i64 (hnd : Int))) from by
    refine ⟨?_, h0.far (p := ⟨a.pc, 4, none⟩) p2 _, But.setCell (S := fun j => j = a.pc ∨ j = W.heap.size) (p := ⟨a.pc, 4, none⟩) (But.refl _ _) (.inl (.inl rfl)) _⟩
    have := h5.set_ 4 (.int .i64 (hnd : Int))
    simpa [caCells] using this)
  unfold keyV pgV at lk
  dsimp only [Option.getD_some] at lk
  clear A AU hnn hns hcell hcell' hgz hU hUb hUs hb0 hb1 dp hpl hk hkl hxm hE hn hgb hnc hcm hcs htk hgB kc0 kc1 hxk
  subst hP
  generalize hm : D.length = m at *
  clear hm hR
  rcases (show m = 0 ∨ ∃ m', m = m' + 1 by cases m with | zero => exact .inl rfl | succ m' => exact .inr ⟨m', rfl⟩) with rfl | ⟨m', rfl⟩
  · rw [if_pos rfl] at hand_eq
    generalize P.length = k at *
    simp only [Nat.add_zero] at *
    generalize a.pc = pc at *
    generalize x.fr = fr at *
    generalize x.f = f at *
    generalize x.q = q at *
    go_enter Tryd.func36, Tryd.ntmps36
    go_wp2
    rw [← HU.out]
    go_region_with (go_at_call 15; refine HDP.out.mono ?_; rintro e W2 ⟨rfl, hb2, hp2⟩; obtain ⟨w3, hrun, ⟨d2, k0, k1⟩, c3, HO3, HN⟩ := HS.out W2 hb2 hp2; clear hb2 hp2)
    all_goals
      go_wp2
      go_region
      all_goals
        go_wp2_with (go_at_call 56; refine (HDL.out _ HO3.out).mono ?_; rintro e w5 ⟨rfl, ho5, hb5⟩; obtain ⟨⟨z1, z2, z3, z4⟩, ⟨q0, q1⟩, ⟨r0, r1, r2, r3⟩, HF, HH5, HR5⟩ := HN.out w5 ho5 hb5; clear ho5 hb5)
        obtain ⟨m1, m2, m3⟩ := HB1.out w5 HH5.out HR5.out k
        obtain ⟨m4, m5, m6⟩ := HB2.out _ _ k 0 m1 m2
        obtain ⟨m7, m8, m9⟩ := HBL.out _ 0 m4 m5
        exact bodyPost_ret (results_cell_row rfl _ _ W.heap.size 40 _ (0, 0) _ rfl m7 Tryd.underlying40 rfl (by kernel_rfl)) rfl ⟨rfl, HF.out _ 0 m8 ((m3.trans m6).trans m9) hand_eq.symm⟩
  · rw [if_neg (by omega)] at hand_eq
    generalize P.length = k at *
    have k9 : (k : Int) < ((k + (m' + 1) : Nat) : Int) := by omega
    have k8 : ¬ (k : Int) = (k : Int) + ((m' : Int) + 1) := by omega
    generalize a.pc = pc at *
    generalize x.fr = fr at *
    generalize x.f = f at *
    generalize x.q = q at *
    go_enter Tryd.func36, Tryd.ntmps36
    go_wp2
    rw [← HU.out]
    go_region_with (go_at_call 15; refine HDP.out.mono ?_; rintro e W2 ⟨rfl, hb2, hp2⟩; obtain ⟨w3, hrun, ⟨d2, k0, k1⟩, c3, HO3, HN⟩ := HS.out W2 hb2 hp2; clear hb2 hp2)
    all_goals
      go_wp2
      go_region
      all_goals
        go_wp2_with (go_at_call 56; refine (HDL.out _ HO3.out).mono ?_; rintro e w5 ⟨rfl, ho5, hb5⟩; obtain ⟨⟨z1, z2, z3, z4⟩, ⟨q0, q1⟩, ⟨r0, r1, r2, r3⟩, HF, HH5, HR5⟩ := HN.out w5 ho5 hb5; clear ho5 hb5)
        obtain ⟨m1, m2, m3⟩ := HB1.out w5 HH5.out HR5.out k
        obtain ⟨m7, m8, m9⟩ := HBL.out _ k m1 m2
        exact bodyPost_ret (results_cell_row rfl _ _ W.heap.size 40 _ (0, 0) _ rfl m7 Tryd.underlying40 rfl (by kernel_rfl)) rfl ⟨rfl, HF.out _ k m8 (m3.trans m9) hand_eq.symm⟩
end
end Go.Proofs.YtmbjflcmbenbdaaDoor
