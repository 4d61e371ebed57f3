/- Package cache: fill, Get. -/
import Derived.Test.YtmbjflcmbenbdaeDoorKE
import Derived.Deep.AppendLies
import Derived.Deep.RegionLaw
import Derived.Deep.CutRange
namespace Go.Proofs.YtmbjflcmbenbdaeDoor
open Go.RowKit Go.Maps
set_option linter.unusedVariables false
set_option linter.unusedSimpArgs false

section
variable {fs : List Fl} {s : Nat} {W W' : World} {a : Ad} {v v' : Value} {C : Cc}
set_option maxRecDepth 100000 in
set_option maxHeartbeats 800000 in
theorem cfill_full (A : Ca fs s W a v C) (hfree : ¬ freeAt C.X.H < C.X.H.length) (f q : Int) :
    Calls Tryd.prog 21 #[.pointer (some ⟨a.pc, 0, none⟩), .agg #[.int .i64 f, .int .i64 q]] W fun e W' => e = .returned (.tuple #[.int .i64 0, .int .i64 18]) ∧ Ca fs s W' a v C ∧ Turned a v W v W' := by
  have A1 := A.alloc (.cells #[.int .i64 f, .int .i64 q] 33)
  have HK := Lib.hid (cload_full A1 hfree f q)
  have t1 : Turned a v W v (W.alloc (.cells #[.int .i64 f, .int .i64 q] 33)) := Turned.below ((Below.refl _ _).alloc (Nat.le_refl _) _)
  have HT := Lib.hid t1
  clear A A1 hfree t1
  generalize a.pc = pc at *
  go_enter Tryd.func21, Tryd.ntmps21
  go_wp2_with (go_at_call 44; refine HK.out.mono ?_; rintro e W2 ⟨rfl, hA2, hT2⟩; have HF := Lib.hid (And.intro hA2 (HT.out.trans hT2)); clear hA2 hT2)
  go_ret2
  exact ⟨rfl, HF.out.1, HF.out.2⟩

set_option maxRecDepth 100000 in
set_option maxHeartbeats 1600000 in
theorem cfill_yes (hc : CanBe fs s) (h1 : 1 ≤ s) (A : Ca fs s W a v C) (hfree : freeAt C.X.H < C.X.H.length) (k : Nat) (hk : k < fs.length) (q : Nat) (hq : q < pgs fs[k].data.size) (hx : pgF C.R k q = none) (hf : C.fills ≤ 1000000) (hl : C.R.length + 1 ≤ 4096) :
    Calls Tryd.prog 21 #[.pointer (some ⟨a.pc, 0, none⟩), .agg #[.int .i64 (k : Int), .int .i64 (q : Int)]] W fun e W' => e = .returned (.tuple #[.int .i64 (freeAt C.X.H : Nat), .int .i64 0]) ∧ ∃ v', Ca fs s W' a v' (C.fill k q (pageOf fs[k].data q)) ∧ Turned a v W v' W' := by
  have hkl := hc.many
  have hqs : q ≤ 1000000 := by
    have := hc.data _ (List.getElem_mem hk)
    unfold pgs at hq
    omega
  have wk : (Lit.int .i64 (k : Int)).wf = true := wf_c (by omega) (by omega)
  have wq : (Lit.int .i64 (q : Int)).wf = true := wf_c (by omega) (by omega)
  have A1 := A.alloc (.cells #[.int .i64 (k : Int), .int .i64 (q : Int)] 33)
  have hld := cload_yes hc h1 A1 hfree k hk q hq
  have t1 : Turned a v W v (W.alloc (.cells #[.int .i64 (k : Int), .int .i64 (q : Int)] 33)) := Turned.below ((Below.refl _ _).alloc (Nat.le_refl _) _)
  have hn : freeAt C.X.H < 4096 := by have := A.pool.len; omega
  have hnn := A.not_new
  have hnm0 : (fun d => C.fill k q d) = fun d => { C.laid d with X := (C.laid d).X.addX (freeAt C.X.H) 1, R := C.R ++ [⟨k, q, freeAt C.X.H, false⟩], fills := C.fills + 1 } := rfl
  have hnm := fun d => congrFun hnm0 d
  generalize pageOf fs[k].data q = d at *
  rw [hnm d]
  have hR : (C.laid d).R = C.R := rfl
  have hF : (C.laid d).fills = C.fills := rfl
  have hHa : (C.laid d).hand = C.hand := rfl
  have hHi : (C.laid d).hits = C.hits := rfl
  obtain ⟨i0, hj, hw0, hw1, hw2⟩ := info_parts infoKey
  have hsz := A.size
  obtain ⟨n, hnq⟩ : ∃ n, freeAt C.X.H = n := ⟨_, rfl⟩
  rw [hnq] at hld hn ⊢
  generalize C.laid d = L at *
  have HLD := Lib.hid hld
  have HHO := Lib.hid (fun (W2 : World) (A2 : Ca fs s W2 a v L) => phold_any A2.pool (n : Int))
  have HP0 := Lib.hid (fun (W2 : World) (A2 : Ca fs s W2 a v L) => A2.cells.1)
  have HP := Lib.hid (fun (W2 W3 : World) (A2 : Ca fs s W2 a v L) (T2 : Turned a v (W.alloc (.cells #[.int .i64 (k : Int), .int .i64 (q : Int)] 33)) v W2) (hb : But (· = a.h) W2 W3) (hp : Pl W3 a.pp a.h a.g (L.X.addX (n : Int) 1)) =>
    show ∃ w4, (Instr.mapUpdate 53 (.map (some a.mb)) (.agg #[.int .i64 (k : Int), .int .i64 (q : Int)]) (.agg #[.int .i64 (n : Int), .bool false])).run Tryd.prog W3.drew = .ok () w4 ∧
      (W3.drew.cell? ⟨a.pc, 2, none⟩ = some (.map (some a.mb)) ∧ W3.drew.cell? ⟨W.heap.size, 0, none⟩ = some (.int .i64 (k : Int)) ∧ W3.drew.cell? ⟨W.heap.size, 1, none⟩ = some (.int .i64 (q : Int))) ∧
      (w4.drew.cell? ⟨a.pc, 3, none⟩ = some v ∧ w4.drew.cell? ⟨W.heap.size, 0, none⟩ = some (.int .i64 (k : Int)) ∧ w4.drew.cell? ⟨W.heap.size, 1, none⟩ = some (.int .i64 (q : Int))) ∧
      ((w4.alloc (.cells #[.int .i64 (k : Int), .int .i64 (q : Int)] 33)).drew.cell? ⟨a.pc, 3, none⟩ = some v ∧ (w4.alloc (.cells #[.int .i64 (k : Int), .int .i64 (q : Int)] 33)).drew.cell? ⟨W.heap.size, 0, none⟩ = some (.int .i64 (k : Int)) ∧ (w4.alloc (.cells #[.int .i64 (k : Int), .int .i64 (q : Int)] 33)).drew.cell? ⟨W.heap.size, 1, none⟩ = some (.int .i64 (q : Int))) ∧
      Hid (a.M ≤ w4.heap.size ∧ W.heap.size ≤ w4.heap.size) ∧
      Hid (w4.ownsRow a.M 33 2 v C.R.length (keyCells C.R)) ∧
      Hid (∀ (g4 cap : Nat) (w5 : World), w5.ownsRow a.M 33 2 (.slice (some ⟨g4, 0, none⟩) (C.R.length + 1) cap) (C.R.length + 1) (keyCells C.R ++ [.int .i64 (k : Int), .int .i64 (q : Int)]) → (w4.alloc (.cells #[.int .i64 (k : Int), .int .i64 (q : Int)] 33)).drew.grownBy w5 v.ownBlock → (v.ownBlock = some g4 ∨ g4 = w4.heap.size + 1) →
        (w5.cell? ⟨a.pc, 3, none⟩ = some v ∧ w5.frozen? ⟨a.pc, 3, none⟩ = false ∧ w5.cell? ⟨a.pc, 6, none⟩ = some (.int .i64 C.fills) ∧ w5.frozen? ⟨a.pc, 6, none⟩ = false) ∧
        Hid (∃ v', Ca fs s ((w5.setCell ⟨a.pc, 3, none⟩ (.slice (some ⟨g4, 0, none⟩) (C.R.length + 1) cap)).setCell ⟨a.pc, 6, none⟩ (.int .i64 ((C.fills : Int) + 1))) a v' { L with X := L.X.addX (n : Int) 1, R := C.R ++ [⟨k, q, n, false⟩], fills := C.fills + 1 } ∧ Turned a v W v' ((w5.setCell ⟨a.pc, 3, none⟩ (.slice (some ⟨g4, 0, none⟩) (C.R.length + 1) cap)).setCell ⟨a.pc, 6, none⟩ (.int .i64 ((C.fills : Int) + 1))))) from by
    have A3 := (A2.pooled (hb.mono fun _ e => .inl e) hp).drew
    have T3 : Turned a v W v W3.drew := (t1.trans T2).trans (Turned.but hb.drew fun j e => .inl e)
    obtain ⟨n1, n2, n3, n4, n5, n6, n7, n8, n9, n10, n11, n12, n13⟩ := A3.apart
    have hxL : gR L.R k q = none := by unfold gR; rw [hR, hx]; rfl
    obtain ⟨w4, hrun, hm, hg⟩ := A3.map.put (f := (k : Int)) (q := (q : Int)) (by show L.R.length < 1000000; rw [hR]; omega) wk wq ((n : Int), false) (wf_c (by show -1000000 ≤ (n : Int); omega) (by show (n : Int) ≤ 1000000; omega))
    rw [show (gR ({ L with X := L.X.addX (n : Int) 1 } : Cc).R k q).isSome = false from by show (gR L.R k q).isSome = false; rw [hxL]; rfl] at hm
    have hbox3 := (((Blk.new W 33 #[.int .i64 (k : Int), .int .i64 (q : Int)]).but T2.1 hnn).but hb (fun e => hnn (.inl e))).drew
    have hbox4 := hbox3.grown hg (by intro e; injection e with e; exact hnn (.inr (.inr (.inr (.inl e)))))
    have hh4 := A3.head.grown hg (by intro e; injection e with e; exact n7 e.symm)
    have hw : W.heap.size ≤ w4.heap.size := Nat.le_trans T3.1.size hg.size
    have hown4 : w4.ownsRow a.M 33 2 v C.R.length (keyCells C.R) := by
      have := A3.ring
      rw [show ({ L with X := L.X.addX (n : Int) 1 } : Cc).R = C.R from hR] at this
      exact own_butK this (S := (· = a.mb)) ((But.refl _ _).grown hg fun k hk => by injection hk with hk; exact .inl hk.symm) (fun k hk e => n12 (by rw [hk, e]))
    have al := fun {b : Nat} {t : TypeId} {cs : Array Value} (h : Blk w4 b t cs) => (h.alloc (.cells #[.int .i64 (k : Int), .int .i64 (q : Int)] 33)).drew
    refine ⟨w4, hrun, ⟨A3.cells.2.2.1, hbox3.at_ 0 _ rfl, hbox3.at_ 1 _ rfl⟩, ⟨hh4.drew.at_ 3 _ rfl, hbox4.drew.at_ 0 _ rfl, hbox4.drew.at_ 1 _ rfl⟩, ⟨(al hh4).at_ 3 _ rfl, (al hbox4).at_ 0 _ rfl, (al hbox4).at_ 1 _ rfl⟩, Lib.hid ⟨by omega, hw⟩, Lib.hid hown4, Lib.hid fun g4 cap w5 hown hg5 hat => ?_⟩
    have hR3 : ({ L with X := L.X.addX (n : Int) 1 } : Cc).R = C.R := hR
    have hp := A3.pushed (x := ⟨k, q, n, false⟩) (by rw [hR3]; exact hx) rfl wk wq (by rw [hR3]; exact hl) (w3 := w4) (w3' := (w4.alloc (.cells #[.int .i64 (k : Int), .int .i64 (q : Int)] 33)).drew) (w4 := w5) (g4 := g4) (cap := cap)
      (by simpa using hm) hg (((Below.refl _ _).alloc (Nat.le_refl _) _).drew) (by rw [hR3]; exact hown) hg5 (by rcases hat with h | h; exact .inl h; exact .inr (by have := hg.size; omega))
    rw [hR3, show ({ L with X := L.X.addX (n : Int) 1 } : Cc).fills = C.fills from hF] at hp
    obtain ⟨p1, p2, p3, p4, p5, p6⟩ := hp
    exact ⟨⟨p3, p4, p5, p6⟩, Lib.hid ⟨_, p1, T3.trans p2⟩⟩)
  clear A A1 hld t1 hnn hnm hnm0 hR hx wk wq hfree hnq hc h1 hk hq
  generalize C.R = R at *
  generalize C.fills = nf at *
  obtain ⟨rl, hrl⟩ : ∃ rl, R.length = rl := ⟨_, rfl⟩
  rw [hrl] at HP hl
  clear hrl hF hHa hHi
  have HJ := Lib.hid hj
  clear hj
  generalize a.pc = pc at *
  go_enter Tryd.func21, Tryd.ntmps21
  go_wp2_with (first
    | (go_at_call 44; refine HLD.out.mono ?_; rintro e W2 ⟨rfl, hA2, hT2⟩; have c0 := HP0.out W2 hA2; have HA2 := Lib.hid hA2; have HT2 := Lib.hid hT2; clear hA2 hT2)
    | (go_at_call 43; refine (HHO.out W2 HA2.out).mono ?_; rintro e W3 ⟨rfl, hb3, hp3⟩; obtain ⟨w4, hrun, ⟨d2, b0, b1⟩, ⟨x3, x0, x1⟩, ⟨y3, y0, y1⟩, HSZ, HO4, HFIN⟩ := HP.out W2 W3 HA2.out HT2.out hb3 hp3; clear hb3 hp3))
  go_region
  all_goals
    go_upto_region 6 with fail
    have HOA := Lib.hid (HO4.out.alloc (.cells #[.int .i64 (k : Int), .int .i64 (q : Int)] 33))
    go_region_law (first
      | (refine step_append_lies _ (by rfl) _ _ _ (by rfl) a.M 33 i0 _ 2 16 Tryd.underlying54 HJ.out hw0 hw1 hw2 rfl (by decide) v rl (keyCells R) (by rfl) HOA.out ⟨w4.heap.size, 0, none⟩ 1 1 [.int .i64 (k : Int), .int .i64 (q : Int)] (by rfl) (by rfl) (World.news_of_block (cs := #[.int .i64 (k : Int), .int .i64 (q : Int)]) (t := 33) (fr := (0, 0)) (heap_alloc_new w4 (.cells #[.int .i64 (k : Int), .int .i64 (q : Int)] 33))) (by simp [Value.oneCell']) (by omega) (by unfold maxLen; omega) (by omega) (by have := HSZ.out; simp; omega) (w4.heap.size + 1) (by simp) ?_
         intro g4 c4 w5 hown5 hgrow5 hat5 hlt5
         obtain ⟨⟨z3, z4, z5, z6⟩, HFF⟩ := HFIN.out g4 c4 w5 hown5 hgrow5 hat5
         clear hown5 hgrow5 hat5 hlt5))
    all_goals
      go_wp2_with fail
      go_ret2
      exact ⟨rfl, HFF.out⟩
end
end Go.Proofs.YtmbjflcmbenbdaeDoor
