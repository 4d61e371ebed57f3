/- Package cache: load, fill, Get. -/
import Derived.Test.YtmbjflcmbenbdaaDoorKC
import Derived.Deep.AppendLies
import Derived.Deep.RegionLaw
import Derived.Deep.CutRange
import Derived.BigQuiet
import Derived.Deep.RegionHeld3
namespace Go.Proofs.YtmbjflcmbenbdaaDoor
open Go.RowKit Go.Maps
set_option linter.unusedVariables false
set_option linter.unusedSimpArgs false

/-- How many pages a file has; 0, if there is none. -/
def pgsOf (fs : List Fl) (f : Int) : Nat := if h : 0 ≤ f ∧ f.toNat < fs.length then pgs (fs[f.toNat]'h.2).data.size else 0
theorem pgsOf_at {fs : List Fl} {k : Nat} (hk : k < fs.length) : pgsOf fs k = pgs fs[k].data.size := by unfold pgsOf; rw [dif_pos ⟨by omega, by simpa using hk⟩]; simp
theorem infoKey : (Tryd.prog.info? 40).map (fun i => (i.zero, i.size, i.bytes)) = some (some (.agg #[.int .i64 0, .int .i64 0]), 2, 16) := by kernel_rfl

section
variable {fs : List Fl} {s : Nat} {W W' : World} {a : Ad} {v v' : Value} {C : Cc}
theorem cpages_any (hc : CanBe fs s) (h1 : 1 ≤ s) (A : Ca fs s W a v C) (f : Int) : Calls Tryd.prog 32 #[.pointer (some ⟨a.pf, 0, none⟩), .int .i64 f] W fun e W' => e = .returned (.int .i64 (pgsOf fs f : Nat)) ∧ Below W.heap.size W W' := by
  by_cases h : 0 ≤ f ∧ f.toNat < fs.length
  · obtain ⟨k, rfl⟩ := Int.eq_ofNat_of_zero_le h.1
    have hk : k < fs.length := by simpa using h.2
    have := st_pages hc h1 A.fil.open_ k hk
    rw [pgsOf_at hk]
    exact this
  · have e : pgsOf fs f = 0 := by unfold pgsOf; rw [dif_neg h]
    rw [e]
    have := pages_no _ f W (A.fil.open_.1.noFile (i := f) (by rw [builtX_length h1]; omega))
    exact this
/-- A new block is none of those that a call turns. -/
theorem Ca.not_new (A : Ca fs s W a v C) : ¬ Sy a v W.heap.size := by
  have h1 := A.pool.row.lt
  have h2 := A.pool.byt.lt
  have h3 := A.head.lt
  have h4 := A.map.lt
  have h5 := A.pd_lt
  have h6 := A.size
  have h7 := A.apart.2.2.2.2.2.2.2.2.2.2.2.2
  rintro (h | h | h | h | h | h)
  · omega
  · omega
  · omega
  · omega
  · omega
  · have := (h7 _ h).2; omega
/-- A page's bytes come to a frame that was taken. -/
def Cc.laid (C : Cc) (d : ByteArray) : Cc := { C with X := (C.X.tkX).flX (freeAt C.X.H) d }

set_option maxRecDepth 100000 in
set_option maxHeartbeats 800000 in
theorem cload_full (A : Ca fs s W a v C) (hfree : ¬ freeAt C.X.H < C.X.H.length) (f q : Int) :
    Calls Tryd.prog 55 #[.pointer (some ⟨a.pc, 0, none⟩), .agg #[.int .i64 f, .int .i64 q]] W fun e W' => e = .returned (.tuple #[.int .i64 0, .int .i64 18]) ∧ Ca fs s W' a v C ∧ Turned a v W v W' := by
  have A1 := A.alloc (.cells #[.int .i64 f, .int .i64 q] 40)
  have hk := ptake_any A1.pool
  have e1 : tkV C.X.H = 0 := by unfold tkV; rw [if_neg hfree]
  have e2 : tkE C.X.H = 18 := by unfold tkE; rw [if_neg hfree]
  have e3 : C.X.tkX = C.X := by unfold Pol.tkX; rw [if_neg hfree]
  rw [e1, e2, e3] at hk
  have HK := Lib.hid hk
  have HFIN := Lib.hid (fun (W2 : World) (hb : But (fun j => j = a.h ∨ j = a.g) (W.alloc (.cells #[.int .i64 f, .int .i64 q] 40)) W2) (hp : Pl W2 a.pp a.h a.g C.X) =>
    show Ca fs s W2 a v C ∧ Turned a v W v W2 from
      ⟨A1.pooled hb hp, (Turned.below ((Below.refl _ _).alloc (Nat.le_refl _) _)).trans (Turned.but hb fun j e => e.elim (fun e => .inl e) (fun e => .inr (.inl e)))⟩)
  have c0 := A1.cells.1
  clear A A1 hk e1 e2 e3 hfree
  generalize a.pc = pc at *
  go_enter Tryd.func55, Tryd.ntmps55
  go_wp2_with (go_at_call 72; refine HK.out.mono ?_; rintro e W2 ⟨rfl, hb2, hp2⟩; have HF := Lib.hid (HFIN.out W2 hb2 hp2); clear hb2 hp2)
  go_ret2
  exact ⟨rfl, HF.out.1, HF.out.2⟩

set_option maxRecDepth 100000 in
set_option maxHeartbeats 1600000 in
theorem cload_yes (hc : CanBe fs s) (h1 : 1 ≤ s) (A : Ca fs s W a v C) (hfree : freeAt C.X.H < C.X.H.length) (k : Nat) (hk : k < fs.length) (q : Nat) (hq : q < pgs fs[k].data.size) :
    Calls Tryd.prog 55 #[.pointer (some ⟨a.pc, 0, none⟩), .agg #[.int .i64 (k : Int), .int .i64 (q : Int)]] W fun e W' => e = .returned (.tuple #[.int .i64 (freeAt C.X.H : Nat), .int .i64 0]) ∧ Ca fs s W' a v (C.laid (pageOf fs[k].data q)) ∧ Turned a v W v W' := by
  have A1 := A.alloc (.cells #[.int .i64 (k : Int), .int .i64 (q : Int)] 40)
  have ht := ptake_any A1.pool
  have e1 : tkV C.X.H = freeAt C.X.H := by unfold tkV; rw [if_pos hfree]
  have e2 : tkE C.X.H = 0 := by unfold tkE; rw [if_pos hfree]
  rw [e1, e2] at ht
  have ef : C.X.tkX.flE (freeAt C.X.H) (pageOf fs[k].data q) = 0 := by
    have h2 : C.X.tkX = ⟨C.X.H.set (freeAt C.X.H) 1, C.X.S.set (freeAt C.X.H) zsec⟩ := by unfold Pol.tkX; rw [if_pos hfree]
    have hk : freeAt C.X.H < (C.X.H.set (freeAt C.X.H) 1).length := by simpa using hfree
    unfold Pol.flE
    rw [h2]
    rw [if_pos (by rw [askE_in hk]; simp), if_pos (pageOf_size _ _)]
  have HT := Lib.hid ht
  have hnn := A.not_new
  have HS2 := Lib.hid (fun (W2 : World) (hb : But (fun j => j = a.h ∨ j = a.g) (W.alloc (.cells #[.int .i64 (k : Int), .int .i64 (q : Int)] 40)) W2) (hp : Pl W2 a.pp a.h a.g C.X.tkX) =>
    show (W2.drew.cell? ⟨a.pc, 1, none⟩ = some (.pointer (some ⟨a.pf, 0, none⟩)) ∧ W2.drew.cell? ⟨W.heap.size, 0, none⟩ = some (.int .i64 (k : Int)) ∧ W2.drew.cell? ⟨W.heap.size, 1, none⟩ = some (.int .i64 (q : Int))) ∧
      Hid (Ca fs s W2.drew a v { C with X := C.X.tkX } ∧ Turned a v W v W2.drew) from by
    have A2 := (A1.pooled hb hp).drew
    have hbox := ((Blk.new W 40 #[.int .i64 (k : Int), .int .i64 (q : Int)]).but hb (fun e => hnn (e.elim (fun e => .inl e) (fun e => .inr (.inl e))))).drew
    exact ⟨⟨A2.cells.2.1, hbox.at_ 0 _ rfl, hbox.at_ 1 _ rfl⟩, Lib.hid ⟨A2, (Turned.below ((Below.refl _ _).alloc (Nat.le_refl _) _)).trans (Turned.but hb.drew fun j e => e.elim (fun e => .inl e) (fun e => .inr (.inl e)))⟩⟩)
  have HPG := Lib.hid (fun (W2 : World) (A2 : Ca fs s W2 a v { C with X := C.X.tkX }) => st_page hc h1 A2.fil.open_ k hk q hq)
  have HS3 := Lib.hid (fun (W2 W3 : World) (h2 : Ca fs s W2 a v { C with X := C.X.tkX } ∧ Turned a v W v W2) (ho : OpenSt fs s W3 a.B a.pf a.pd a.gd) (hb : But (· = a.pd) W2 W3) =>
    show W3.cell? ⟨a.pc, 0, none⟩ = some (.pointer (some ⟨a.pp, 0, none⟩)) ∧ Hid (Ca fs s W3 a v { C with X := C.X.tkX } ∧ Turned a v W v W3) from by
    have A3 := h2.1.read hb ho
    exact ⟨A3.cells.1, Lib.hid ⟨A3, h2.2.trans (Turned.but hb fun j e => .inr (.inr (.inr (.inr (.inl e)))))⟩⟩)
  have hpz := pageOf_size fs[k].data q
  unfold Cc.laid
  unfold StTold at HPG
  generalize pageOf fs[k].data q = d at *
  have HFL := Lib.hid (fun (W3 : World) (A3 : Ca fs s W3 a v { C with X := C.X.tkX }) => by
    have := pfill_any A3.pool (freeAt C.X.H) d (by rw [hpz]; omega)
    rw [ef] at this
    exact this)
  have HS4 := Lib.hid (fun (W3 W4 : World) (h3 : Ca fs s W3 a v { C with X := C.X.tkX } ∧ Turned a v W v W3) (hb : But (· = a.g) W3 W4) (hp : Pl W4 a.pp a.h a.g (C.X.tkX.flX (freeAt C.X.H) d)) =>
    show Ca fs s W4 a v { C with X := C.X.tkX.flX (freeAt C.X.H) d } ∧ Turned a v W v W4 from
      ⟨h3.1.pooled (hb.mono fun _ e => .inr e) hp, h3.2.trans (Turned.but hb fun j e => .inr (.inl e))⟩)
  have c0 := A1.cells.1
  clear A A1 ht e1 e2 ef hnn hc h1 hk hq hpz hfree
  generalize freeAt C.X.H = n at *
  generalize a.pc = pc at *
  go_enter Tryd.func55, Tryd.ntmps55
  go_wp2_with (go_at_call 72; refine HT.out.mono ?_; rintro e W2 ⟨rfl, hb2, hp2⟩; obtain ⟨⟨d1, b0, b1⟩, HC2⟩ := HS2.out W2 hb2 hp2; clear hb2 hp2)
  go_region_with (go_at_call 73; refine (HPG.out _ HC2.out.1).mono ?_; rintro e W3 ⟨rfl, ho3, hb3⟩; obtain ⟨d0, HC3⟩ := HS3.out _ W3 HC2.out ho3 hb3; clear ho3 hb3)
  all_goals
    go_wp2_with (go_at_call 74; refine (HFL.out _ HC3.out.1).mono ?_; rintro e W4 ⟨rfl, hb4, hp4⟩; have HF := Lib.hid (HS4.out _ W4 HC3.out hb4 hp4); clear hb4 hp4)
    go_ret2
    exact ⟨rfl, HF.out.1, HF.out.2⟩

/-- A page comes to the ring. -/
theorem Ca.pushed (A : Ca fs s W a v C) {x : Pg} (hx : pgF C.R x.f x.q = none) (hfr : x.fresh = false) (wf : (Lit.int .i64 x.f).wf = true) (wq : (Lit.int .i64 x.q).wf = true) (hl : C.R.length + 1 ≤ 4096) {w3 w3' w4 : World} {g4 cap : Nat}
    (hm : KMap a.mb (upG (gR C.R) x.f x.q (some ((x.fr : Int), false))) (C.R.length + 1) w3) (hg3 : W.grownBy w3 (some a.mb)) (hb3 : Below w3.heap.size w3 w3')
    (hown : w4.ownsRow a.M 40 2 (.slice (some ⟨g4, 0, none⟩) (C.R.length + 1) cap) (C.R.length + 1) (keyCells C.R ++ [.int .i64 x.f, .int .i64 x.q])) (hg4 : w3'.grownBy w4 v.ownBlock) (hat : v.ownBlock = some g4 ∨ W.heap.size ≤ g4) :
    Ca fs s ((w4.setCell ⟨a.pc, 3, none⟩ (.slice (some ⟨g4, 0, none⟩) (C.R.length + 1) cap)).setCell ⟨a.pc, 6, none⟩ (.int .i64 ((C.fills : Int) + 1))) a (.slice (some ⟨g4, 0, none⟩) (C.R.length + 1) cap) { C with R := C.R ++ [x], fills := C.fills + 1 } ∧
    Turned a v W (.slice (some ⟨g4, 0, none⟩) (C.R.length + 1) cap) ((w4.setCell ⟨a.pc, 3, none⟩ (.slice (some ⟨g4, 0, none⟩) (C.R.length + 1) cap)).setCell ⟨a.pc, 6, none⟩ (.int .i64 ((C.fills : Int) + 1))) ∧
    w4.cell? ⟨a.pc, 3, none⟩ = some v ∧ w4.frozen? ⟨a.pc, 3, none⟩ = false ∧ w4.cell? ⟨a.pc, 6, none⟩ = some (.int .i64 C.fills) ∧ w4.frozen? ⟨a.pc, 6, none⟩ = false := by
  obtain ⟨n1, n2, n3, n4, n5, n6, n7, n8, n9, n10, n11, n12, n13⟩ := A.apart
  have b3 : But (fun j => j = a.mb) W w3 := (But.refl _ _).grown hg3 fun k hk => by injection hk with hk; exact .inl hk.symm
  have b4 : But (fun j => j = a.mb ∨ v.ownBlock = some j) W w4 := ((b3.mono fun _ e => .inl e).trans (But.of_below hb3)).grown hg4 fun k hk => .inl (.inr hk)
  have b6 : But (fun j => j = a.pc) w4 ((w4.setCell ⟨a.pc, 3, none⟩ (.slice (some ⟨g4, 0, none⟩) (C.R.length + 1) cap)).setCell ⟨a.pc, 6, none⟩ (.int .i64 ((C.fills : Int) + 1))) :=
    But.setCell (S := fun j => j = a.pc) (p := ⟨a.pc, 6, none⟩) (But.setCell (S := fun j => j = a.pc) (p := ⟨a.pc, 3, none⟩) (But.refl _ _) (.inl rfl) _) (.inl rfl) _
  have hb : But (fun j => j = a.pc ∨ j = a.mb ∨ v.ownBlock = some j) W ((w4.setCell ⟨a.pc, 3, none⟩ (.slice (some ⟨g4, 0, none⟩) (C.R.length + 1) cap)).setCell ⟨a.pc, 6, none⟩ (.int .i64 ((C.fills : Int) + 1))) :=
    (b4.mono fun _ e => .inr e).trans (b6.mono fun _ e => .inl e)
  have hh4 : Blk w4 a.pc 85 (caCells a v C) := A.head.but b4 (fun e => e.elim (fun e => n7 e.symm) n11)
  have hne4 : g4 ≠ a.pc := fun e => own_not_blk hown hh4 (by decide) (by rw [← e]; rfl)
  refine ⟨⟨A.fil.keep (hb.below A.size fun j hj => ?_), ?_, ?_, ?_, ?_, ?_, ?_, by simpa using hl, A.hp, A.hh, A.hg, A.hc, A.hm, A.hN, A.hd⟩, ⟨hb.mono fun j e => ?_, fun k hk => ?_⟩, hh4.at_ 3 _ rfl, hh4.frozen 3, hh4.at_ 6 _ rfl, hh4.frozen 6⟩
  · rcases hj with rfl | rfl | hj
    · exact A.hc
    · exact A.hm
    · exact (n13 _ hj).1
  · exact A.pool.but hb (fun e => by rcases e with e | e | e; exact n3 e.symm; exact n6 e.symm; exact n10 e) (fun e => by rcases e with e | e | e; exact n1 e.symm; exact n4 e.symm; exact n8 e) (fun e => by rcases e with e | e | e; exact n2 e.symm; exact n5 e.symm; exact n9 e)
  · have h1 := (hh4.set_ 3 (.slice (some ⟨g4, 0, none⟩) (C.R.length + 1) cap)).set_ 6 (.int .i64 ((C.fills : Int) + 1))
    simpa [caCells] using h1
  · have h1 := (hm.but (S := fun j => j = a.pc ∨ v.ownBlock = some j) ((((But.refl _ _).trans (But.of_below hb3)).grown hg4 fun k hk => .inl (.inr hk)).trans (b6.mono fun _ e => .inl e)) (fun e => e.elim n7 n12)).congr (g' := gR (C.R ++ [x])) fun f q => by rw [gR_push hx, hfr]
    rw [show (C.R ++ [x]).length = C.R.length + 1 by simp]
    exact h1
  · show World.ownsRow _ a.M 40 2 _ (C.R ++ [x]).length (keyCells (C.R ++ [x]))
    rw [show (C.R ++ [x]).length = C.R.length + 1 by simp, keyCells_snoc]
    exact own_butK hown b6 fun k hk e => by simp [Value.ownBlock] at hk; exact hne4 (hk.trans e)
  · show ((C.R ++ [x]).map Pg.key).Nodup
    rw [List.map_append, List.nodup_append]
    refine ⟨A.keys, by simp, fun p hp r hr => ?_⟩
    simp [Pg.key] at hr
    subst hr
    exact fun e => pgF_none.1 hx (e ▸ hp)
  · intro y hy
    rcases List.mem_append.1 (show y ∈ C.R ++ [x] from hy) with h | h
    · exact A.wfk y h
    · simp at h; subst h; exact ⟨wf, wq⟩
  · rcases e with e | e | e
    · exact .inr (.inr (.inl e))
    · exact .inr (.inr (.inr (.inl e)))
    · exact .inr (.inr (.inr (.inr (.inr e))))
  · simp [Value.ownBlock] at hk
    subst hk
    exact hat
end
end Go.Proofs.YtmbjflcmbenbdaaDoor

/- Package cache: fill, Get. -/
namespace Go.Proofs.YtmbjflcmbenbdaaDoor
open Go.RowKit Go.Maps
set_option linter.unusedVariables false
set_option linter.unusedSimpArgs false

section
variable {fs : List Fl} {s : Nat} {W W' : World} {a : Ad} {v v' : Value} {C : Cc}
set_option maxRecDepth 100000 in
set_option maxHeartbeats 800000 in
theorem cfill_full (A : Ca fs s W a v C) (hfree : ¬ freeAt C.X.H < C.X.H.length) (f q : Int) :
    Calls Tryd.prog 34 #[.pointer (some ⟨a.pc, 0, none⟩), .agg #[.int .i64 f, .int .i64 q]] W fun e W' => e = .returned (.tuple #[.int .i64 0, .int .i64 18]) ∧ Ca fs s W' a v C ∧ Turned a v W v W' := by
  have A1 := A.alloc (.cells #[.int .i64 f, .int .i64 q] 40)
  have HK := Lib.hid (cload_full A1 hfree f q)
  have t1 : Turned a v W v (W.alloc (.cells #[.int .i64 f, .int .i64 q] 40)) := Turned.below ((Below.refl _ _).alloc (Nat.le_refl _) _)
  have HT := Lib.hid t1
  clear A A1 hfree t1
  generalize a.pc = pc at *
  go_enter Tryd.func34, Tryd.ntmps34
  go_wp2_with (go_at_call 55; refine HK.out.mono ?_; rintro e W2 ⟨rfl, hA2, hT2⟩; have HF := Lib.hid (And.intro hA2 (HT.out.trans hT2)); clear hA2 hT2)
  go_ret2
  exact ⟨rfl, HF.out.1, HF.out.2⟩

set_option maxRecDepth 100000 in
set_option maxHeartbeats 1600000 in
theorem cfill_yes (hc : CanBe fs s) (h1 : 1 ≤ s) (A : Ca fs s W a v C) (hfree : freeAt C.X.H < C.X.H.length) (k : Nat) (hk : k < fs.length) (q : Nat) (hq : q < pgs fs[k].data.size) (hx : pgF C.R k q = none) (hf : C.fills ≤ 1000000) (hl : C.R.length + 1 ≤ 4096) :
    Calls Tryd.prog 34 #[.pointer (some ⟨a.pc, 0, none⟩), .agg #[.int .i64 (k : Int), .int .i64 (q : Int)]] W fun e W' => e = .returned (.tuple #[.int .i64 (freeAt C.X.H : Nat), .int .i64 0]) ∧ ∃ v', Ca fs s W' a v' (C.fill k q (pageOf fs[k].data q)) ∧ Turned a v W v' W' := by
  have hkl := hc.many
  have hqs : q ≤ 1000000 := by
    have := hc.data _ (List.getElem_mem hk)
    unfold pgs at hq
    omega
  have wk : (Lit.int .i64 (k : Int)).wf = true := wf_c (by omega) (by omega)
  have wq : (Lit.int .i64 (q : Int)).wf = true := wf_c (by omega) (by omega)
  have A1 := A.alloc (.cells #[.int .i64 (k : Int), .int .i64 (q : Int)] 40)
  have hld := cload_yes hc h1 A1 hfree k hk q hq
  have t1 : Turned a v W v (W.alloc (.cells #[.int .i64 (k : Int), .int .i64 (q : Int)] 40)) := Turned.below ((Below.refl _ _).alloc (Nat.le_refl _) _)
  have hn : freeAt C.X.H < 4096 := by have := A.pool.len; omega
  have hnn := A.not_new
  have hnm0 : (fun d => C.fill k q d) = fun d => { C.laid d with X := (C.laid d).X.addX (freeAt C.X.H) 1, R := C.R ++ [⟨k, q, freeAt C.X.H, false⟩], fills := C.fills + 1 } := rfl
  have hnm := fun d => congrFun hnm0 d
  generalize pageOf fs[k].data q = d at *
  rw [hnm d]
  have hR : (C.laid d).R = C.R := rfl
  have hF : (C.laid d).fills = C.fills := rfl
  have hHa : (C.laid d).hand = C.hand := rfl
  have hHi : (C.laid d).hits = C.hits := rfl
  obtain ⟨i0, hj, hw0, hw1, hw2⟩ := info_parts infoKey
  have hsz := A.size
  obtain ⟨n, hnq⟩ : ∃ n, freeAt C.X.H = n := ⟨_, rfl⟩
  rw [hnq] at hld hn ⊢
  generalize C.laid d = L at *
  have HLD := Lib.hid hld
  have HHO := Lib.hid (fun (W2 : World) (A2 : Ca fs s W2 a v L) => phold_any A2.pool (n : Int))
  have HP0 := Lib.hid (fun (W2 : World) (A2 : Ca fs s W2 a v L) => A2.cells.1)
  have HP := Lib.hid (fun (W2 W3 : World) (A2 : Ca fs s W2 a v L) (T2 : Turned a v (W.alloc (.cells #[.int .i64 (k : Int), .int .i64 (q : Int)] 40)) v W2) (hb : But (· = a.h) W2 W3) (hp : Pl W3 a.pp a.h a.g (L.X.addX (n : Int) 1)) =>
    show ∃ w4, (Instr.mapUpdate 82 (.map (some a.mb)) (.agg #[.int .i64 (k : Int), .int .i64 (q : Int)]) (.agg #[.int .i64 (n : Int), .bool false])).run Tryd.prog W3.drew = .ok () w4 ∧
      (W3.drew.cell? ⟨a.pc, 2, none⟩ = some (.map (some a.mb)) ∧ W3.drew.cell? ⟨W.heap.size, 0, none⟩ = some (.int .i64 (k : Int)) ∧ W3.drew.cell? ⟨W.heap.size, 1, none⟩ = some (.int .i64 (q : Int))) ∧
      (w4.drew.cell? ⟨a.pc, 3, none⟩ = some v ∧ w4.drew.cell? ⟨W.heap.size, 0, none⟩ = some (.int .i64 (k : Int)) ∧ w4.drew.cell? ⟨W.heap.size, 1, none⟩ = some (.int .i64 (q : Int))) ∧
      ((w4.alloc (.cells #[.int .i64 (k : Int), .int .i64 (q : Int)] 40)).drew.cell? ⟨a.pc, 3, none⟩ = some v ∧ (w4.alloc (.cells #[.int .i64 (k : Int), .int .i64 (q : Int)] 40)).drew.cell? ⟨W.heap.size, 0, none⟩ = some (.int .i64 (k : Int)) ∧ (w4.alloc (.cells #[.int .i64 (k : Int), .int .i64 (q : Int)] 40)).drew.cell? ⟨W.heap.size, 1, none⟩ = some (.int .i64 (q : Int))) ∧
      Hid (a.M ≤ w4.heap.size ∧ W.heap.size ≤ w4.heap.size) ∧
      Hid (w4.ownsRow a.M 40 2 v C.R.length (keyCells C.R)) ∧
      Hid (∀ (g4 cap : Nat) (w5 : World), w5.ownsRow a.M 40 2 (.slice (some ⟨g4, 0, none⟩) (C.R.length + 1) cap) (C.R.length + 1) (keyCells C.R ++ [.int .i64 (k : Int), .int .i64 (q : Int)]) → (w4.alloc (.cells #[.int .i64 (k : Int), .int .i64 (q : Int)] 40)).drew.grownBy w5 v.ownBlock → (v.ownBlock = some g4 ∨ g4 = w4.heap.size + 1) →
        (w5.cell? ⟨a.pc, 3, none⟩ = some v ∧ w5.frozen? ⟨a.pc, 3, none⟩ = false ∧ w5.cell? ⟨a.pc, 6, none⟩ = some (.int .i64 C.fills) ∧ w5.frozen? ⟨a.pc, 6, none⟩ = false) ∧
        Hid (∃ v', Ca fs s ((w5.setCell ⟨a.pc, 3, none⟩ (.slice (some ⟨g4, 0, none⟩) (C.R.length + 1) cap)).setCell ⟨a.pc, 6, none⟩ (.int .i64 ((C.fills : Int) + 1))) a v' { L with X := L.X.addX (n : Int) 1, R := C.R ++ [⟨k, q, n, false⟩], fills := C.fills + 1 } ∧ Turned a v W v' ((w5.setCell ⟨a.pc, 3, none⟩ (.slice (some ⟨g4, 0, none⟩) (C.R.length + 1) cap)).setCell ⟨a.pc, 6, none⟩ (.int .i64 ((C.fills : Int) + 1))))) from by
    have A3 := (A2.pooled (hb.mono fun _ e => .inl e) hp).drew
    have T3 : Turned a v W v W3.drew := (t1.trans T2).trans (Turned.but hb.drew fun j e => .inl e)
    obtain ⟨n1, n2, n3, n4, n5, n6, n7, n8, n9, n10, n11, n12, n13⟩ := A3.apart
    have hxL : gR L.R k q = none := by unfold gR; rw [hR, hx]; rfl
    obtain ⟨w4, hrun, hm, hg⟩ := A3.map.put (f := (k : Int)) (q := (q : Int)) (by show L.R.length < 1000000; rw [hR]; omega) wk wq ((n : Int), false) (wf_c (by show -1000000 ≤ (n : Int); omega) (by show (n : Int) ≤ 1000000; omega))
    rw [show (gR ({ L with X := L.X.addX (n : Int) 1 } : Cc).R k q).isSome = false from by show (gR L.R k q).isSome = false; rw [hxL]; rfl] at hm
    have hbox3 := (((Blk.new W 40 #[.int .i64 (k : Int), .int .i64 (q : Int)]).but T2.1 hnn).but hb (fun e => hnn (.inl e))).drew
    have hbox4 := hbox3.grown hg (by intro e; injection e with e; exact hnn (.inr (.inr (.inr (.inl e)))))
    have hh4 := A3.head.grown hg (by intro e; injection e with e; exact n7 e.symm)
    have hw : W.heap.size ≤ w4.heap.size := Nat.le_trans T3.1.size hg.size
    have hown4 : w4.ownsRow a.M 40 2 v C.R.length (keyCells C.R) := by
      have := A3.ring
      rw [show ({ L with X := L.X.addX (n : Int) 1 } : Cc).R = C.R from hR] at this
      exact own_butK this (S := (· = a.mb)) ((But.refl _ _).grown hg fun k hk => by injection hk with hk; exact .inl hk.symm) (fun k hk e => n12 (by rw [hk, e]))
    have al := fun {b : Nat} {t : TypeId} {cs : Array Value} (h : Blk w4 b t cs) => (h.alloc (.cells #[.int .i64 (k : Int), .int .i64 (q : Int)] 40)).drew
    refine ⟨w4, hrun, ⟨A3.cells.2.2.1, hbox3.at_ 0 _ rfl, hbox3.at_ 1 _ rfl⟩, ⟨hh4.drew.at_ 3 _ rfl, hbox4.drew.at_ 0 _ rfl, hbox4.drew.at_ 1 _ rfl⟩, ⟨(al hh4).at_ 3 _ rfl, (al hbox4).at_ 0 _ rfl, (al hbox4).at_ 1 _ rfl⟩, Lib.hid ⟨by omega, hw⟩, Lib.hid hown4, Lib.hid fun g4 cap w5 hown hg5 hat => ?_⟩
    have hR3 : ({ L with X := L.X.addX (n : Int) 1 } : Cc).R = C.R := hR
    have hp := A3.pushed (x := ⟨k, q, n, false⟩) (by rw [hR3]; exact hx) rfl wk wq (by rw [hR3]; exact hl) (w3 := w4) (w3' := (w4.alloc (.cells #[.int .i64 (k : Int), .int .i64 (q : Int)] 40)).drew) (w4 := w5) (g4 := g4) (cap := cap)
      (by simpa using hm) hg (((Below.refl _ _).alloc (Nat.le_refl _) _).drew) (by rw [hR3]; exact hown) hg5 (by rcases hat with h | h; exact .inl h; exact .inr (by have := hg.size; omega))
    rw [hR3, show ({ L with X := L.X.addX (n : Int) 1 } : Cc).fills = C.fills from hF] at hp
    obtain ⟨p1, p2, p3, p4, p5, p6⟩ := hp
    exact ⟨⟨p3, p4, p5, p6⟩, Lib.hid ⟨_, p1, T3.trans p2⟩⟩)
  clear A A1 hld t1 hnn hnm hnm0 hR hx wk wq hfree hnq hc h1 hk hq
  generalize C.R = R at *
  generalize C.fills = nf at *
  obtain ⟨rl, hrl⟩ : ∃ rl, R.length = rl := ⟨_, rfl⟩
  rw [hrl] at HP hl
  clear hrl hF hHa hHi
  have HJ := Lib.hid hj
  clear hj
  generalize a.pc = pc at *
  go_enter Tryd.func34, Tryd.ntmps34
  go_wp2_with (first
    | (go_at_call 55; refine HLD.out.mono ?_; rintro e W2 ⟨rfl, hA2, hT2⟩; have c0 := HP0.out W2 hA2; have HA2 := Lib.hid hA2; have HT2 := Lib.hid hT2; clear hA2 hT2)
    | (go_at_call 54; refine (HHO.out W2 HA2.out).mono ?_; rintro e W3 ⟨rfl, hb3, hp3⟩; obtain ⟨w4, hrun, ⟨d2, b0, b1⟩, ⟨x3, x0, x1⟩, ⟨y3, y0, y1⟩, HSZ, HO4, HFIN⟩ := HP.out W2 W3 HA2.out HT2.out hb3 hp3; clear hb3 hp3))
  go_region
  all_goals
    go_upto_region 6 with fail
    have HOA := Lib.hid (HO4.out.alloc (.cells #[.int .i64 (k : Int), .int .i64 (q : Int)] 40))
    go_region_law (first
      | (refine step_append_lies _ (by rfl) _ _ _ (by rfl) a.M 40 i0 _ 2 16 Tryd.underlying83 HJ.out hw0 hw1 hw2 rfl (by decide) v rl (keyCells R) (by rfl) HOA.out ⟨w4.heap.size, 0, none⟩ 1 1 [.int .i64 (k : Int), .int .i64 (q : Int)] (by rfl) (by rfl) (World.news_of_block (cs := #[.int .i64 (k : Int), .int .i64 (q : Int)]) (t := 40) (fr := (0, 0)) (heap_alloc_new w4 (.cells #[.int .i64 (k : Int), .int .i64 (q : Int)] 40))) (by simp [Value.oneCell']) (by omega) (by unfold maxLen; omega) (by omega) (by have := HSZ.out; simp; omega) (w4.heap.size + 1) (by simp) ?_
         intro g4 c4 w5 hown5 hgrow5 hat5 hlt5
         obtain ⟨⟨z3, z4, z5, z6⟩, HFF⟩ := HFIN.out g4 c4 w5 hown5 hgrow5 hat5
         clear hown5 hgrow5 hat5 hlt5))
    all_goals
      go_wp2_with fail
      go_ret2
      exact ⟨rfl, HFF.out⟩
end
end Go.Proofs.YtmbjflcmbenbdaaDoor

/- Package cache: Get. -/
namespace Go.Proofs.YtmbjflcmbenbdaaDoor
open Go.RowKit Go.Maps
set_option linter.unusedVariables false
set_option linter.unusedSimpArgs false

section
variable {fs : List Fl} {s : Nat} {W W' : World} {a : Ad} {v v' : Value} {C : Cc}
set_option maxRecDepth 100000 in
set_option maxHeartbeats 800000 in
theorem cget_no (hc : CanBe fs s) (h1 : 1 ≤ s) (A : Ca fs s W a v C) (f q : Int) (hno : ¬ (0 ≤ q ∧ q < pgsOf fs f)) :
    Calls Tryd.prog 10 #[.pointer (some ⟨a.pc, 0, none⟩), .agg #[.int .i64 f, .int .i64 q]] W fun e W' => e = .returned (.tuple #[.int .i64 0, .int .i64 14]) ∧ Below W.heap.size W W' := by
  have A1 := (A.alloc (.cells #[.int .i64 f, .int .i64 q] 40)).drew
  have c1 := A1.cells.2.1
  have hb1 : Below W.heap.size W (W.alloc (.cells #[.int .i64 f, .int .i64 q] 40)).drew := ((Below.refl _ _).alloc (Nat.le_refl _) _).drew
  have hp := cpages_any hc h1 A1 f
  by_cases h0 : q < 0
  · have hd : decide (q < 0) = true := by simpa using h0
    clear A A1 hp hc h1 hno
    generalize a.pc = pc at *
    go_enter Tryd.func10, Tryd.ntmps10
    go_wp2
    go_region
    all_goals
      go_wp2
      go_ret2
      exact ⟨rfl, hb1⟩
  · have hd : decide (q < 0) = false := by simpa using h0
    have hle : (pgsOf fs f : Int) ≤ q := by omega
    have HP := Lib.hid hp
    have HB1 := Lib.hid hb1
    have hbox := (Blk.new W 40 #[.int .i64 f, .int .i64 q]).drew
    have x0 := hbox.at_ 0 _ rfl
    have x1 := hbox.at_ 1 _ rfl
    have HBOX := Lib.hid hbox
    have HHD := Lib.hid A1.head
    clear A A1 hp hc h1 hno hb1 hbox
    unfold caCells at HHD
    generalize pgsOf fs f = n at *
    have hd2 : decide ((n : Int) ≤ q) = true := by simpa using hle
    have h0' : (0 : Int) ≤ q := by omega
    generalize a.pc = pc at *
    go_enter Tryd.func10, Tryd.ntmps10
    go_wp2
    go_region_held3 (fun w' => w'.cell? ⟨pc, 1, none⟩ = some (.pointer (some ⟨a.pf, 0, none⟩)) ∧ w'.cell? ⟨W.heap.size, 0, none⟩ = some (.int .i64 f) ∧ w'.cell? ⟨W.heap.size, 1, none⟩ = some (.int .i64 q))
      (first | exact ⟨c1, x0, x1⟩)
      (first
      | (go_at_call 32; refine HP.out.mono ?_; rintro e W2 ⟨rfl, hb2⟩; have HB2 := Lib.hid (HB1.out.trans (hb2.mono HB1.out.size)); clear c1 x0 x1; have c1 := (HHD.out.below hb2 HHD.out.lt).at_ 1 _ rfl; have x0 := (HBOX.out.below hb2 HBOX.out.lt).at_ 0 _ rfl; have x1 := (HBOX.out.below hb2 HBOX.out.lt).at_ 1 _ rfl; clear hb2))
    go_wp2
    go_ret2
    exact ⟨rfl, HB2.out⟩

set_option maxRecDepth 100000 in
set_option maxHeartbeats 1600000 in
/-- What Get comes to, where the file has the page. -/
theorem cget_in (hc : CanBe fs s) (h1 : 1 ≤ s) (A : Ca fs s W a v C) (f q : Int) (hf : (Lit.int .i64 f).wf = true) (hq : (Lit.int .i64 q).wf = true) (hin : 0 ≤ q ∧ q < pgsOf fs f) (r1 r2 : Int) (R : Value → World → Prop)
    (hyes : ∀ x, pgF C.R f q = some x → ∀ V, Ca fs s V a v C → Calls Tryd.prog 33 #[.pointer (some ⟨a.pc, 0, none⟩), .agg #[.int .i64 f, .int .i64 q], .int .i64 x.fr] V fun e W' => e = .returned (.tuple #[.int .i64 r1, .int .i64 r2]) ∧ ∃ v', R v' W' ∧ Turned a v V v' W')
    (hnot : pgF C.R f q = none → ∀ V, Ca fs s V a v C → Calls Tryd.prog 34 #[.pointer (some ⟨a.pc, 0, none⟩), .agg #[.int .i64 f, .int .i64 q]] V fun e W' => e = .returned (.tuple #[.int .i64 r1, .int .i64 r2]) ∧ ∃ v', R v' W' ∧ Turned a v V v' W') :
    Calls Tryd.prog 10 #[.pointer (some ⟨a.pc, 0, none⟩), .agg #[.int .i64 f, .int .i64 q]] W fun e W' => e = .returned (.tuple #[.int .i64 r1, .int .i64 r2]) ∧ ∃ v', R v' W' ∧ Turned a v W v' W' := by
  have A1 := (A.alloc (.cells #[.int .i64 f, .int .i64 q] 40)).drew
  have c1 := A1.cells.2.1
  have t1 : Turned a v W v (W.alloc (.cells #[.int .i64 f, .int .i64 q] 40)).drew := Turned.below (((Below.refl _ _).alloc (Nat.le_refl _) _).drew)
  have hp := cpages_any hc h1 A1 f
  have hbox := (Blk.new W 40 #[.int .i64 f, .int .i64 q]).drew
  have hd : decide (q < 0) = false := by simpa using hin.1
  have h0 : ¬ q < 0 := by omega
  have hlt : ¬ (pgsOf fs f : Int) ≤ q := by omega
  obtain ⟨z, hz⟩ : ∃ z, gR C.R f q = z := ⟨_, rfl⟩
  have HS := Lib.hid (fun (W2 : World) (hb : Below (W.alloc (.cells #[.int .i64 f, .int .i64 q] 40)).drew.heap.size (W.alloc (.cells #[.int .i64 f, .int .i64 q] 40)).drew W2) =>
    show (Instr.lookup 82 (.map (some a.mb)) (.agg #[.int .i64 f, .int .i64 q]) true).run Tryd.prog W2.drew = .ok (.tuple #[.agg #[.int .i64 (z.getD (0, false)).1, .bool (z.getD (0, false)).2], .bool z.isSome]) W2.drew ∧
      (Instr.lookup 82 (.map (some a.mb)) (.agg #[.int .i64 f, .int .i64 q]) true).run Tryd.prog (W2.alloc (.cells #[.int .i64 0, .bool false] 87)).drew = .ok (.tuple #[.agg #[.int .i64 (z.getD (0, false)).1, .bool (z.getD (0, false)).2], .bool z.isSome]) (W2.alloc (.cells #[.int .i64 0, .bool false] 87)).drew ∧
      (W2.drew.cell? ⟨a.pc, 2, none⟩ = some (.map (some a.mb)) ∧ (W2.alloc (.cells #[.int .i64 0, .bool false] 87)).drew.cell? ⟨a.pc, 2, none⟩ = some (.map (some a.mb))) ∧
      (W2.cell? ⟨W.heap.size, 0, none⟩ = some (.int .i64 f) ∧ W2.cell? ⟨W.heap.size, 1, none⟩ = some (.int .i64 q) ∧ W.heap.size < W2.heap.size) ∧
      Hid (∀ o, Ca fs s (W2.alloc o).drew a v C ∧ Turned a v W v (W2.alloc o).drew) from by
    have A2 := A1.below hb
    have hb2 := hbox.below hb hbox.lt
    have l1 := A2.drew.map.ok hf hq
    have l2 := (A2.alloc (.cells #[.int .i64 0, .bool false] 87)).drew.map.ok hf hq
    rw [hz] at l1 l2
    exact ⟨l1, l2, ⟨A2.drew.cells.2.2.1, (A2.alloc _).drew.cells.2.2.1⟩, ⟨hb2.at_ 0 _ rfl, hb2.at_ 1 _ rfl, hb2.lt⟩, Lib.hid fun o => ⟨(A2.alloc o).drew, (t1.trans (Turned.below hb)).trans (Turned.below (((Below.refl _ _).alloc (Nat.le_refl _) _).drew))⟩⟩)
  have HP := Lib.hid hp
  have x0 := hbox.at_ 0 _ rfl
  have x1 := hbox.at_ 1 _ rfl
  have HBOX := Lib.hid hbox
  have HHD := Lib.hid A1.head
  unfold caCells at HHD
  have h0' : (0 : Int) ≤ q := hin.1
  have hlt' : q < (pgsOf fs f : Int) := hin.2
  have hzc : (pgF C.R f q = none ∧ z = none) ∨ ∃ x, pgF C.R f q = some x ∧ z = some ((x.fr : Int), x.fresh) := by
    unfold gR at hz
    cases h : pgF C.R f q with
    | none => rw [h] at hz; exact .inl ⟨rfl, hz.symm⟩
    | some x => rw [h] at hz; exact .inr ⟨x, rfl, hz.symm⟩
  clear A A1 hp t1 hbox hc h1 hf hq hz hin
  generalize pgsOf fs f = n at *
  have hd2 : decide ((n : Int) ≤ q) = false := by simpa using hlt
  rcases hzc with ⟨hx, rfl⟩ | ⟨x, hx, rfl⟩
  · have HN := Lib.hid (hnot hx)
    clear hyes hnot hx
    dsimp only [Option.getD_none, Option.isSome_none] at HS
    generalize a.pc = pc at *
    go_enter Tryd.func10, Tryd.ntmps10
    go_wp2
    go_region_held3 (fun w' => w'.cell? ⟨pc, 1, none⟩ = some (.pointer (some ⟨a.pf, 0, none⟩)) ∧ w'.cell? ⟨W.heap.size, 0, none⟩ = some (.int .i64 f) ∧ w'.cell? ⟨W.heap.size, 1, none⟩ = some (.int .i64 q))
      (first | exact ⟨c1, x0, x1⟩)
      (first
      | (go_at_call 32; refine HP.out.mono ?_; rintro e W2 ⟨rfl, hb2⟩; obtain ⟨l1, l2, ⟨d1, d2⟩, ⟨b0, b1, b2⟩, HA⟩ := HS.out W2 hb2; clear c1 x0 x1; have c1 := (HHD.out.below hb2 HHD.out.lt).at_ 1 _ rfl; have x0 := (HBOX.out.below hb2 HBOX.out.lt).at_ 0 _ rfl; have x1 := (HBOX.out.below hb2 HBOX.out.lt).at_ 1 _ rfl; clear hb2))
    clear HS HP HHD HBOX b0 b1
    go_wp2
    go_region
    all_goals
      go_wp2_with (go_at_call 34; refine (HN.out _ (HA.out _).1).mono ?_; rintro e W4 ⟨rfl, v', hr, ht⟩; have HF := Lib.hid (show ∃ v', R v' W4 ∧ Turned a v W v' W4 from ⟨v', hr, (HA.out _).2.trans ht⟩); clear hr ht)
      go_ret2
      exact ⟨rfl, HF.out⟩
  · have HY := Lib.hid (hyes x hx)
    clear hyes hnot hx
    generalize x.fr = fr at *
    generalize x.fresh = fh at *
    dsimp only [Option.getD_some, Option.isSome_some] at HS
    generalize a.pc = pc at *
    go_enter Tryd.func10, Tryd.ntmps10
    go_wp2
    go_region_held3 (fun w' => w'.cell? ⟨pc, 1, none⟩ = some (.pointer (some ⟨a.pf, 0, none⟩)) ∧ w'.cell? ⟨W.heap.size, 0, none⟩ = some (.int .i64 f) ∧ w'.cell? ⟨W.heap.size, 1, none⟩ = some (.int .i64 q))
      (first | exact ⟨c1, x0, x1⟩)
      (first
      | (go_at_call 32; refine HP.out.mono ?_; rintro e W2 ⟨rfl, hb2⟩; obtain ⟨l1, l2, ⟨d1, d2⟩, ⟨b0, b1, b2⟩, HA⟩ := HS.out W2 hb2; clear c1 x0 x1; have c1 := (HHD.out.below hb2 HHD.out.lt).at_ 1 _ rfl; have x0 := (HBOX.out.below hb2 HBOX.out.lt).at_ 0 _ rfl; have x1 := (HBOX.out.below hb2 HBOX.out.lt).at_ 1 _ rfl; clear hb2))
    clear HS HP HHD HBOX b0 b1
    go_wp2
    go_region
    all_goals
      go_wp2_with (go_at_call 33; refine (HY.out _ (HA.out _).1).mono ?_; rintro e W4 ⟨rfl, v', hr, ht⟩; have HF := Lib.hid (show ∃ v', R v' W4 ∧ Turned a v W v' W4 from ⟨v', hr, (HA.out _).2.trans ht⟩); clear hr ht)
      go_ret2
      exact ⟨rfl, HF.out⟩

/-- A page that is there is got. -/
theorem cget_hit (hc : CanBe fs s) (h1 : 1 ≤ s) (A : Ca fs s W a v C) {x : Pg} (hx : pgF C.R x.f x.q = some x) (hin : 0 ≤ x.q ∧ x.q < pgsOf fs x.f) (ha : askE C.X.H x.fr = 0) (hh : C.hits ≤ 1000000) :
    Calls Tryd.prog 10 #[.pointer (some ⟨a.pc, 0, none⟩), .agg #[.int .i64 x.f, .int .i64 x.q]] W fun e W' => e = .returned (.tuple #[.int .i64 x.fr, .int .i64 0]) ∧ ∃ v', Ca fs s W' a v' (C.hit x) ∧ Turned a v W v' W' := by
  obtain ⟨wf, wq⟩ := A.wfk x (pgF_some hx).1
  refine cget_in hc h1 A x.f x.q wf wq hin _ _ (fun v' W' => Ca fs s W' a v' (C.hit x)) (fun y hy V AV => ?_) (fun h => by rw [hx] at h; cases h)
  obtain rfl : x = y := by rw [hx] at hy; exact Option.some.inj hy
  exact (chit_any AV hx ha hh).mono fun e W' ⟨he, h2, h3⟩ => ⟨he, v, h2, h3⟩
/-- A page that is not there, and no frame is free. -/
theorem cget_full (hc : CanBe fs s) (h1 : 1 ≤ s) (A : Ca fs s W a v C) (f q : Int) (hf : (Lit.int .i64 f).wf = true) (hq : (Lit.int .i64 q).wf = true) (hx : pgF C.R f q = none) (hin : 0 ≤ q ∧ q < pgsOf fs f) (hfree : ¬ freeAt C.X.H < C.X.H.length) :
    Calls Tryd.prog 10 #[.pointer (some ⟨a.pc, 0, none⟩), .agg #[.int .i64 f, .int .i64 q]] W fun e W' => e = .returned (.tuple #[.int .i64 0, .int .i64 18]) ∧ ∃ v', Ca fs s W' a v' C ∧ Turned a v W v' W' := by
  refine cget_in hc h1 A f q hf hq hin _ _ (fun v' W' => Ca fs s W' a v' C) (fun y hy V AV => by rw [hx] at hy; cases hy) (fun h V AV => ?_)
  exact (cfill_full AV hfree f q).mono fun e W' ⟨he, h2, h3⟩ => ⟨he, v, h2, h3⟩
/-- A page that is not there comes. -/
theorem cget_fill (hc : CanBe fs s) (h1 : 1 ≤ s) (A : Ca fs s W a v C) (k : Nat) (hk : k < fs.length) (q : Nat) (hq : q < pgs fs[k].data.size) (hx : pgF C.R k q = none) (hfree : freeAt C.X.H < C.X.H.length) (hf : C.fills ≤ 1000000) (hl : C.R.length + 1 ≤ 4096) :
    Calls Tryd.prog 10 #[.pointer (some ⟨a.pc, 0, none⟩), .agg #[.int .i64 (k : Int), .int .i64 (q : Int)]] W fun e W' => e = .returned (.tuple #[.int .i64 (freeAt C.X.H : Nat), .int .i64 0]) ∧ ∃ v', Ca fs s W' a v' (C.fill k q (pageOf fs[k].data q)) ∧ Turned a v W v' W' := by
  have hkl := hc.many
  have hqs : q ≤ 1000000 := by
    have := hc.data _ (List.getElem_mem hk)
    unfold pgs at hq
    omega
  refine cget_in hc h1 A k q (wf_c (by omega) (by omega)) (wf_c (by omega) (by omega)) ⟨by omega, by rw [pgsOf_at hk]; omega⟩ _ _ (fun v' W' => Ca fs s W' a v' (C.fill k q (pageOf fs[k].data q))) (fun y hy V AV => by rw [hx] at hy; cases hy) (fun h V AV => ?_)
  exact cfill_yes hc h1 AV hfree k hk q hq hx hf hl
end
end Go.Proofs.YtmbjflcmbenbdaaDoor
