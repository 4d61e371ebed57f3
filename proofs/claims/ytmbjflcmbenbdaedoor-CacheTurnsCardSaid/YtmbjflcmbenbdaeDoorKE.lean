/- Package cache: load, fill, Get. -/
import Derived.Test.YtmbjflcmbenbdaeDoorKD
namespace Go.Proofs.YtmbjflcmbenbdaeDoor
open Go.RowKit Go.Maps
set_option linter.unusedVariables false
set_option linter.unusedSimpArgs false

/-- How many pages a file has; 0, if there is none. -/
def pgsOf (fs : List Fl) (f : Int) : Nat := if h : 0 ≤ f ∧ f.toNat < fs.length then pgs (fs[f.toNat]'h.2).data.size else 0
theorem pgsOf_at {fs : List Fl} {k : Nat} (hk : k < fs.length) : pgsOf fs k = pgs fs[k].data.size := by unfold pgsOf; rw [dif_pos ⟨by omega, by simpa using hk⟩]; simp
theorem infoKey : (Tryd.prog.info? 33).map (fun i => (i.zero, i.size, i.bytes)) = some (some (.agg #[.int .i64 0, .int .i64 0]), 2, 16) := by kernel_rfl

section
variable {fs : List Fl} {s : Nat} {W W' : World} {a : Ad} {v v' : Value} {C : Cc}
theorem cpages_any (hc : CanBe fs s) (h1 : 1 ≤ s) (A : Ca fs s W a v C) (f : Int) : Calls Tryd.prog 19 #[.pointer (some ⟨a.pf, 0, none⟩), .int .i64 f] W fun e W' => e = .returned (.int .i64 (pgsOf fs f : Nat)) ∧ Below W.heap.size W W' := by
  by_cases h : 0 ≤ f ∧ f.toNat < fs.length
  · obtain ⟨k, rfl⟩ := Int.eq_ofNat_of_zero_le h.1
    have hk : k < fs.length := by simpa using h.2
    have := st_pages hc h1 A.fil.open_ k hk
    rw [pgsOf_at hk]
    exact this
  · have e : pgsOf fs f = 0 := by unfold pgsOf; rw [dif_neg h]
    rw [e]
    have := pages_no _ f W (A.fil.open_.1.noFile (i := f) (by rw [builtX_length h1]; omega))
    exact this
/-- A new block is none of those that a call turns. -/
theorem Ca.not_new (A : Ca fs s W a v C) : ¬ Sy a v W.heap.size := by
  have h1 := A.pool.row.lt
  have h2 := A.pool.byt.lt
  have h3 := A.head.lt
  have h4 := A.map.lt
  have h5 := A.pd_lt
  have h6 := A.size
  have h7 := A.apart.2.2.2.2.2.2.2.2.2.2.2.2
  rintro (h | h | h | h | h | h)
  · omega
  · omega
  · omega
  · omega
  · omega
  · have := (h7 _ h).2; omega
/-- A page's bytes come to a frame that was taken. -/
def Cc.laid (C : Cc) (d : ByteArray) : Cc := { C with X := (C.X.tkX).flX (freeAt C.X.H) d }

set_option maxRecDepth 100000 in
set_option maxHeartbeats 800000 in
theorem cload_full (A : Ca fs s W a v C) (hfree : ¬ freeAt C.X.H < C.X.H.length) (f q : Int) :
    Calls Tryd.prog 44 #[.pointer (some ⟨a.pc, 0, none⟩), .agg #[.int .i64 f, .int .i64 q]] W fun e W' => e = .returned (.tuple #[.int .i64 0, .int .i64 18]) ∧ Ca fs s W' a v C ∧ Turned a v W v W' := by
  have A1 := A.alloc (.cells #[.int .i64 f, .int .i64 q] 33)
  have hk := ptake_any A1.pool
  have e1 : tkV C.X.H = 0 := by unfold tkV; rw [if_neg hfree]
  have e2 : tkE C.X.H = 18 := by unfold tkE; rw [if_neg hfree]
  have e3 : C.X.tkX = C.X := by unfold Pol.tkX; rw [if_neg hfree]
  rw [e1, e2, e3] at hk
  have HK := Lib.hid hk
  have HFIN := Lib.hid (fun (W2 : World) (hb : But (fun j => j = a.h ∨ j = a.g) (W.alloc (.cells #[.int .i64 f, .int .i64 q] 33)) W2) (hp : Pl W2 a.pp a.h a.g C.X) =>
    show Ca fs s W2 a v C ∧ Turned a v W v W2 from
      ⟨A1.pooled hb hp, (Turned.below ((Below.refl _ _).alloc (Nat.le_refl _) _)).trans (Turned.but hb fun j e => e.elim (fun e => .inl e) (fun e => .inr (.inl e)))⟩)
  have c0 := A1.cells.1
  clear A A1 hk e1 e2 e3 hfree
  generalize a.pc = pc at *
  go_enter Tryd.func44, Tryd.ntmps44
  go_wp2_with (go_at_call 63; refine HK.out.mono ?_; rintro e W2 ⟨rfl, hb2, hp2⟩; have HF := Lib.hid (HFIN.out W2 hb2 hp2); clear hb2 hp2)
  go_ret2
  exact ⟨rfl, HF.out.1, HF.out.2⟩

set_option maxRecDepth 100000 in
set_option maxHeartbeats 1600000 in
theorem cload_yes (hc : CanBe fs s) (h1 : 1 ≤ s) (A : Ca fs s W a v C) (hfree : freeAt C.X.H < C.X.H.length) (k : Nat) (hk : k < fs.length) (q : Nat) (hq : q < pgs fs[k].data.size) :
    Calls Tryd.prog 44 #[.pointer (some ⟨a.pc, 0, none⟩), .agg #[.int .i64 (k : Int), .int .i64 (q : Int)]] W fun e W' => e = .returned (.tuple #[.int .i64 (freeAt C.X.H : Nat), .int .i64 0]) ∧ Ca fs s W' a v (C.laid (pageOf fs[k].data q)) ∧ Turned a v W v W' := by
  have A1 := A.alloc (.cells #[.int .i64 (k : Int), .int .i64 (q : Int)] 33)
  have ht := ptake_any A1.pool
  have e1 : tkV C.X.H = freeAt C.X.H := by unfold tkV; rw [if_pos hfree]
  have e2 : tkE C.X.H = 0 := by unfold tkE; rw [if_pos hfree]
  rw [e1, e2] at ht
  have ef : C.X.tkX.flE (freeAt C.X.H) (pageOf fs[k].data q) = 0 := by
    have h2 : C.X.tkX = ⟨C.X.H.set (freeAt C.X.H) 1, C.X.S.set (freeAt C.X.H) zsec⟩ := by unfold Pol.tkX; rw [if_pos hfree]
    have hk : freeAt C.X.H < (C.X.H.set (freeAt C.X.H) 1).length := by simpa using hfree
    unfold Pol.flE
    rw [h2]
    rw [if_pos (by rw [askE_in hk]; simp), if_pos (pageOf_size _ _)]
  have HT := Lib.hid ht
  have hnn := A.not_new
  have HS2 := Lib.hid (fun (W2 : World) (hb : But (fun j => j = a.h ∨ j = a.g) (W.alloc (.cells #[.int .i64 (k : Int), .int .i64 (q : Int)] 33)) W2) (hp : Pl W2 a.pp a.h a.g C.X.tkX) =>
    show (W2.drew.cell? ⟨a.pc, 1, none⟩ = some (.pointer (some ⟨a.pf, 0, none⟩)) ∧ W2.drew.cell? ⟨W.heap.size, 0, none⟩ = some (.int .i64 (k : Int)) ∧ W2.drew.cell? ⟨W.heap.size, 1, none⟩ = some (.int .i64 (q : Int))) ∧
      Hid (Ca fs s W2.drew a v { C with X := C.X.tkX } ∧ Turned a v W v W2.drew) from by
    have A2 := (A1.pooled hb hp).drew
    have hbox := ((Blk.new W 33 #[.int .i64 (k : Int), .int .i64 (q : Int)]).but hb (fun e => hnn (e.elim (fun e => .inl e) (fun e => .inr (.inl e))))).drew
    exact ⟨⟨A2.cells.2.1, hbox.at_ 0 _ rfl, hbox.at_ 1 _ rfl⟩, Lib.hid ⟨A2, (Turned.below ((Below.refl _ _).alloc (Nat.le_refl _) _)).trans (Turned.but hb.drew fun j e => e.elim (fun e => .inl e) (fun e => .inr (.inl e)))⟩⟩)
  have HPG := Lib.hid (fun (W2 : World) (A2 : Ca fs s W2 a v { C with X := C.X.tkX }) => st_page hc h1 A2.fil.open_ k hk q hq)
  have HS3 := Lib.hid (fun (W2 W3 : World) (h2 : Ca fs s W2 a v { C with X := C.X.tkX } ∧ Turned a v W v W2) (ho : OpenSt fs s W3 a.B a.pf a.pd a.gd) (hb : But (· = a.pd) W2 W3) =>
    show W3.cell? ⟨a.pc, 0, none⟩ = some (.pointer (some ⟨a.pp, 0, none⟩)) ∧ Hid (Ca fs s W3 a v { C with X := C.X.tkX } ∧ Turned a v W v W3) from by
    have A3 := h2.1.read hb ho
    exact ⟨A3.cells.1, Lib.hid ⟨A3, h2.2.trans (Turned.but hb fun j e => .inr (.inr (.inr (.inr (.inl e)))))⟩⟩)
  have hpz := pageOf_size fs[k].data q
  unfold Cc.laid
  unfold StTold at HPG
  generalize pageOf fs[k].data q = d at *
  have HFL := Lib.hid (fun (W3 : World) (A3 : Ca fs s W3 a v { C with X := C.X.tkX }) => by
    have := pfill_any A3.pool (freeAt C.X.H) d (by rw [hpz]; omega)
    rw [ef] at this
    exact this)
  have HS4 := Lib.hid (fun (W3 W4 : World) (h3 : Ca fs s W3 a v { C with X := C.X.tkX } ∧ Turned a v W v W3) (hb : But (· = a.g) W3 W4) (hp : Pl W4 a.pp a.h a.g (C.X.tkX.flX (freeAt C.X.H) d)) =>
    show Ca fs s W4 a v { C with X := C.X.tkX.flX (freeAt C.X.H) d } ∧ Turned a v W v W4 from
      ⟨h3.1.pooled (hb.mono fun _ e => .inr e) hp, h3.2.trans (Turned.but hb fun j e => .inr (.inl e))⟩)
  have c0 := A1.cells.1
  clear A A1 ht e1 e2 ef hnn hc h1 hk hq hpz hfree
  generalize freeAt C.X.H = n at *
  generalize a.pc = pc at *
  go_enter Tryd.func44, Tryd.ntmps44
  go_wp2_with (go_at_call 63; refine HT.out.mono ?_; rintro e W2 ⟨rfl, hb2, hp2⟩; obtain ⟨⟨d1, b0, b1⟩, HC2⟩ := HS2.out W2 hb2 hp2; clear hb2 hp2)
  go_region_with (go_at_call 64; refine (HPG.out _ HC2.out.1).mono ?_; rintro e W3 ⟨rfl, ho3, hb3⟩; obtain ⟨d0, HC3⟩ := HS3.out _ W3 HC2.out ho3 hb3; clear ho3 hb3)
  all_goals
    go_wp2_with (go_at_call 65; refine (HFL.out _ HC3.out.1).mono ?_; rintro e W4 ⟨rfl, hb4, hp4⟩; have HF := Lib.hid (HS4.out _ W4 HC3.out hb4 hp4); clear hb4 hp4)
    go_ret2
    exact ⟨rfl, HF.out.1, HF.out.2⟩

/-- A page comes to the ring. -/
theorem Ca.pushed (A : Ca fs s W a v C) {x : Pg} (hx : pgF C.R x.f x.q = none) (hfr : x.fresh = false) (wf : (Lit.int .i64 x.f).wf = true) (wq : (Lit.int .i64 x.q).wf = true) (hl : C.R.length + 1 ≤ 4096) {w3 w3' w4 : World} {g4 cap : Nat}
    (hm : KMap a.mb (upG (gR C.R) x.f x.q (some ((x.fr : Int), false))) (C.R.length + 1) w3) (hg3 : W.grownBy w3 (some a.mb)) (hb3 : Below w3.heap.size w3 w3')
    (hown : w4.ownsRow a.M 33 2 (.slice (some ⟨g4, 0, none⟩) (C.R.length + 1) cap) (C.R.length + 1) (keyCells C.R ++ [.int .i64 x.f, .int .i64 x.q])) (hg4 : w3'.grownBy w4 v.ownBlock) (hat : v.ownBlock = some g4 ∨ W.heap.size ≤ g4) :
    Ca fs s ((w4.setCell ⟨a.pc, 3, none⟩ (.slice (some ⟨g4, 0, none⟩) (C.R.length + 1) cap)).setCell ⟨a.pc, 6, none⟩ (.int .i64 ((C.fills : Int) + 1))) a (.slice (some ⟨g4, 0, none⟩) (C.R.length + 1) cap) { C with R := C.R ++ [x], fills := C.fills + 1 } ∧
    Turned a v W (.slice (some ⟨g4, 0, none⟩) (C.R.length + 1) cap) ((w4.setCell ⟨a.pc, 3, none⟩ (.slice (some ⟨g4, 0, none⟩) (C.R.length + 1) cap)).setCell ⟨a.pc, 6, none⟩ (.int .i64 ((C.fills : Int) + 1))) ∧
    w4.cell? ⟨a.pc, 3, none⟩ = some v ∧ w4.frozen? ⟨a.pc, 3, none⟩ = false ∧ w4.cell? ⟨a.pc, 6, none⟩ = some (.int .i64 C.fills) ∧ w4.frozen? ⟨a.pc, 6, none⟩ = false := by
  obtain ⟨n1, n2, n3, n4, n5, n6, n7, n8, n9, n10, n11, n12, n13⟩ := A.apart
  have b3 : But (fun j => j = a.mb) W w3 := (But.refl _ _).grown hg3 fun k hk => by injection hk with hk; exact .inl hk.symm
  have b4 : But (fun j => j = a.mb ∨ v.ownBlock = some j) W w4 := ((b3.mono fun _ e => .inl e).trans (But.of_below hb3)).grown hg4 fun k hk => .inl (.inr hk)
  have b6 : But (fun j => j = a.pc) w4 ((w4.setCell ⟨a.pc, 3, none⟩ (.slice (some ⟨g4, 0, none⟩) (C.R.length + 1) cap)).setCell ⟨a.pc, 6, none⟩ (.int .i64 ((C.fills : Int) + 1))) :=
    But.setCell (S := fun j => j = a.pc) (p := ⟨a.pc, 6, none⟩) (But.setCell (S := fun j => j = a.pc) (p := ⟨a.pc, 3, none⟩) (But.refl _ _) (.inl rfl) _) (.inl rfl) _
  have hb : But (fun j => j = a.pc ∨ j = a.mb ∨ v.ownBlock = some j) W ((w4.setCell ⟨a.pc, 3, none⟩ (.slice (some ⟨g4, 0, none⟩) (C.R.length + 1) cap)).setCell ⟨a.pc, 6, none⟩ (.int .i64 ((C.fills : Int) + 1))) :=
    (b4.mono fun _ e => .inr e).trans (b6.mono fun _ e => .inl e)
  have hh4 : Blk w4 a.pc 56 (caCells a v C) := A.head.but b4 (fun e => e.elim (fun e => n7 e.symm) n11)
  have hne4 : g4 ≠ a.pc := fun e => own_not_blk hown hh4 (by decide) (by rw [← e]; rfl)
  refine ⟨⟨A.fil.keep (hb.below A.size fun j hj => ?_), ?_, ?_, ?_, ?_, ?_, ?_, by simpa using hl, A.hp, A.hh, A.hg, A.hc, A.hm, A.hN, A.hd⟩, ⟨hb.mono fun j e => ?_, fun k hk => ?_⟩, hh4.at_ 3 _ rfl, hh4.frozen 3, hh4.at_ 6 _ rfl, hh4.frozen 6⟩
  · rcases hj with rfl | rfl | hj
    · exact A.hc
    · exact A.hm
    · exact (n13 _ hj).1
  · exact A.pool.but hb (fun e => by rcases e with e | e | e; exact n3 e.symm; exact n6 e.symm; exact n10 e) (fun e => by rcases e with e | e | e; exact n1 e.symm; exact n4 e.symm; exact n8 e) (fun e => by rcases e with e | e | e; exact n2 e.symm; exact n5 e.symm; exact n9 e)
  · have h1 := (hh4.set_ 3 (.slice (some ⟨g4, 0, none⟩) (C.R.length + 1) cap)).set_ 6 (.int .i64 ((C.fills : Int) + 1))
    simpa [caCells] using h1
  · have h1 := (hm.but (S := fun j => j = a.pc ∨ v.ownBlock = some j) ((((But.refl _ _).trans (But.of_below hb3)).grown hg4 fun k hk => .inl (.inr hk)).trans (b6.mono fun _ e => .inl e)) (fun e => e.elim n7 n12)).congr (g' := gR (C.R ++ [x])) fun f q => by rw [gR_push hx, hfr]
    rw [show (C.R ++ [x]).length = C.R.length + 1 by simp]
    exact h1
  · show World.ownsRow _ a.M 33 2 _ (C.R ++ [x]).length (keyCells (C.R ++ [x]))
    rw [show (C.R ++ [x]).length = C.R.length + 1 by simp, keyCells_snoc]
    exact own_butK hown b6 fun k hk e => by simp [Value.ownBlock] at hk; exact hne4 (hk.trans e)
  · show ((C.R ++ [x]).map Pg.key).Nodup
    rw [List.map_append, List.nodup_append]
    refine ⟨A.keys, by simp, fun p hp r hr => ?_⟩
    simp [Pg.key] at hr
    subst hr
    exact fun e => pgF_none.1 hx (e ▸ hp)
  · intro y hy
    rcases List.mem_append.1 (show y ∈ C.R ++ [x] from hy) with h | h
    · exact A.wfk y h
    · simp at h; subst h; exact ⟨wf, wq⟩
  · rcases e with e | e | e
    · exact .inr (.inr (.inl e))
    · exact .inr (.inr (.inr (.inl e)))
    · exact .inr (.inr (.inr (.inr (.inr e))))
  · simp [Value.ownBlock] at hk
    subst hk
    exact hat
end
end Go.Proofs.YtmbjflcmbenbdaeDoor
