/- Package cache: Evict's closure. -/
import Derived.Test.YtmbjflcmbenbdaaDoorKE
namespace Go.Proofs.YtmbjflcmbenbdaaDoor
open Go.RowKit Go.Maps
set_option linter.unusedVariables false
set_option linter.unusedSimpArgs false

section
variable {fs : List Fl} {s : Nat} {W W' : World} {a : Ad} {v v' : Value} {C : Cc}
/-- A block of another type is none of those that a call turns. -/
theorem Ca.not_sy (A : Ca fs s W a v C) {b : Nat} {t : TypeId} {cs : Array Value} (hb : Blk W b t cs) (ht : t ≠ 3 ∧ t ≠ 5 ∧ t ≠ 85 ∧ t ≠ 115 ∧ t ≠ 40) : ¬ Sy a v b := by
  obtain ⟨t1, t2, t3, t4, t5⟩ := ht
  obtain ⟨_, D, _, hd⟩ := A.fil.open_
  rintro (h | h | h | h | h | h)
  · exact blk_ne hb A.pool.row t1 h
  · exact blk_ne hb A.pool.byt t2 h
  · exact blk_ne hb A.head t3 h
  · exact A.map.not_blk hb h.symm
  · exact blk_ne hb hd.head t4 h
  · exact own_not_blk A.ring hb (fun e => t5 e.symm) h
/-- What was wanted is stale. -/
theorem Ca.staled (A : Ca fs s W a v C) {x : Pg} (hx : pgF C.R x.f x.q = some x) {w1 : World} (hm : KMap a.mb (upG (gR C.R) x.f x.q (some ((x.fr : Int), false))) C.R.length w1) (hg : W.grownBy w1 (some a.mb)) :
    Ca fs s w1 a v { C with R := staleL C.R x.f x.q } ∧ But (fun j => j = a.pc ∨ j = a.mb) W w1 := by
  have n7 := A.apart.2.2.2.2.2.2.1
  have hb1 : But (fun j => j = a.pc ∨ j = a.mb) W w1 := (But.refl _ _).grown hg fun k hk => by injection hk with hk; exact .inl (.inr hk.symm)
  refine ⟨A.turn hb1 rfl (A.head.grown hg (by intro e; injection e with e; exact n7 e.symm)) ?_ (staleL_key _ _), hb1⟩
  have hl : (staleL C.R x.f x.q).length = C.R.length := by simp [staleL]
  show KMap a.mb (gR (staleL C.R x.f x.q)) (staleL C.R x.f x.q).length _
  rw [hl]
  exact hm.congr fun f q => (gR_stale hx f q).symm
/-- The closure was asked. -/
def Passed (fs : List Fl) (s : Nat) (a : Ad) (v : Value) (C : Cc) (W : World) (x : Pg) (b : Bool) (e : Ending) (W' : World) : Prop := e = .returned (.bool b) ∧ Ca fs s W' a v { C with R := passL C.X C.R x } ∧ Turned a v W v W'

set_option maxRecDepth 100000 in
set_option maxHeartbeats 1600000 in
theorem passed_any (A : Ca fs s W a v C) {bc : Nat} (hbc : Blk W bc 25 #[.pointer (some ⟨a.pc, 0, none⟩)]) {x : Pg} (hx : pgF C.R x.f x.q = some x) (hfr : x.fr < 4096) :
    Calls Tryd.prog 35 #[.agg #[.int .i64 x.f, .int .i64 x.q], .pointer (some ⟨bc, 0, none⟩)] W (Passed fs s a v C W x (passB C.X x)) := by
  obtain ⟨wf, wq⟩ := A.wfk x (pgF_some hx).1
  have A1 := (A.alloc (.cells #[.int .i64 x.f, .int .i64 x.q] 40)).drew
  have A2 := ((A.alloc (.cells #[.int .i64 x.f, .int .i64 x.q] 40)).alloc (.cells #[.int .i64 0, .bool false] 87)).drew
  have A3 := ((A.alloc (.cells #[.int .i64 x.f, .int .i64 x.q] 40)).alloc (.cells #[.int .i64 (x.fr : Int), .bool x.fresh] 87)).drew
  have hgz : gR C.R x.f x.q = some ((x.fr : Int), x.fresh) := by unfold gR; rw [hx]; rfl
  have l1 := A1.map.look wf wq
  have l2 := A2.map.look wf wq
  rw [hgz] at l1 l2
  have c1 := A1.cells.2.2.1
  have c2 := A2.cells.2.2.1
  have c4 := A3.cells.1
  have c5 := A3.cells.2.2.1
  have b1 := (hbc.alloc (.cells #[.int .i64 x.f, .int .i64 x.q] 40)).drew.at_ 0 _ rfl
  have b2 := ((hbc.alloc (.cells #[.int .i64 x.f, .int .i64 x.q] 40)).alloc (.cells #[.int .i64 0, .bool false] 87)).drew.at_ 0 _ rfl
  have b4 := ((hbc.alloc (.cells #[.int .i64 x.f, .int .i64 x.q] 40)).alloc (.cells #[.int .i64 (x.fr : Int), .bool x.fresh] 87)).drew.at_ 0 _ rfl
  obtain ⟨U, hU⟩ : ∃ U, U = ((W.alloc (.cells #[.int .i64 x.f, .int .i64 x.q] 40)).alloc (.cells #[.int .i64 (x.fr : Int), .bool x.fresh] 87)).drew := ⟨_, rfl⟩
  have hUb : Below W.heap.size W U := by rw [hU]; exact (((Below.refl W.heap.size W).alloc (Nat.le_refl _) _).alloc (by simp) _).drew
  have k0 : U.cell? ⟨W.heap.size, 0, none⟩ = some (.int .i64 x.f) := by
    rw [hU]; exact ((Blk.new W 40 #[.int .i64 x.f, .int .i64 x.q]).alloc _).drew.at_ 0 _ rfl
  have k1 : U.cell? ⟨W.heap.size, 1, none⟩ = some (.int .i64 x.q) := by
    rw [hU]; exact ((Blk.new W 40 #[.int .i64 x.f, .int .i64 x.q]).alloc _).drew.at_ 1 _ rfl
  have hpb : Blk U (W.heap.size + 1) 87 #[.int .i64 (x.fr : Int), .bool x.fresh] := by
    have := (Blk.new (W.alloc (.cells #[.int .i64 x.f, .int .i64 x.q] 40)) 87 #[.int .i64 (x.fr : Int), .bool x.fresh]).drew
    rw [show (W.alloc (.cells #[.int .i64 x.f, .int .i64 x.q] 40)).heap.size = W.heap.size + 1 by simp] at this
    rw [hU]; exact this
  have p0 := hpb.at_ 0 _ rfl
  have p1 := hpb.at_ 1 _ rfl
  have HU := Lib.hid hU
  rw [← hU] at A3 b4 c4 c5
  clear hU hpb
  have AN : ∀ n, Ca fs s (U.drewN n) a v C := fun n => A3.below (Below.drewN (Below.refl _ _) n)
  have TN : ∀ n, Turned a v W v (U.drewN n) := fun n => Turned.below (Below.drewN hUb n)
  have hh := fun n => (pheld_any (AN n).pool (x.fr : Int)).mono (R' := fun e w' => e = .returned (.int .i64 (heldI C.X.H (x.fr : Int))) ∧ w' = U.drewN n) fun _ _ ⟨he, hw⟩ => ⟨he, hw.symm⟩
  have hfw : (Lit.int .i64 (x.fr : Int)).wf = true := wf_c (by omega) (by omega)
  have HP := Lib.hid (fun n => show ∃ w1, (Instr.mapUpdate 82 (.map (some a.mb)) (.agg #[.int .i64 x.f, .int .i64 x.q]) (.agg #[.int .i64 (x.fr : Int), .bool false])).run Tryd.prog (U.drewN (n + 1)) = .ok () w1 ∧ Hid (Ca fs s w1 a v { C with R := staleL C.R x.f x.q } ∧ Turned a v W v w1) from by
    obtain ⟨w1, hrun, hm, hg⟩ := (AN (n + 1)).map.put (by have := A.len; show C.R.length < 1000000; omega) wf wq ((x.fr : Int), false) hfw
    rw [hgz] at hm
    obtain ⟨A6, hb6⟩ := (AN (n + 1)).staled hx (by simpa using hm) hg
    exact ⟨w1, hrun, Lib.hid ⟨A6, (TN (n + 1)).trans (Turned.but hb6 fun j e => e.elim (fun e => .inr (.inr (.inl e))) (fun e => .inr (.inr (.inr (.inl e)))))⟩⟩)
  have HF4 := Lib.hid (fun n => And.intro (AN n) (TN n))
  have HH := Lib.hid hh
  unfold Passed passB passL
  clear A A1 A2 A3 AN TN hbc hh hgz hx hfw hfr hUb
  generalize heldI C.X.H (x.fr : Int) = hd at *
  generalize staleL C.R x.f x.q = R2 at *
  generalize x.fr = fr at *
  generalize x.fresh = fh at *
  generalize x.f = f at *
  generalize x.q = q at *
  generalize a.pc = pc at *
  unfold keyV pgV at l1 l2
  dsimp only [Option.getD_some] at l1 l2
  by_cases h1 : 1 < hd
  · have d1 : decide (1 < hd) = true := by simpa using h1
    rw [d1, if_pos h1]
    go_enter Tryd.func35, Tryd.ntmps35
    go_wp2
    go_region
    all_goals
      rw [← HU.out]
      go_wp2
      go_quiet ((go_at_call 17; exact Calls.quiet_of_same (HH.out _)))
      go_wp2
      go_ret
      exact ⟨rfl, (HF4.out _).1, (HF4.out _).2⟩
  · have d1 : decide (1 < hd) = false := by simpa using h1
    have h1' : hd ≤ 1 := by omega
    rw [d1, if_neg h1]
    cases fh with
    | true =>
      simp only [Bool.false_or, if_true]
      go_enter Tryd.func35, Tryd.ntmps35
      go_wp2
      go_region
      all_goals
        rw [← HU.out]
        go_wp2
        go_quiet ((go_at_call 17; exact Calls.quiet_of_same (HH.out _)))
        rename_i nq
        obtain ⟨w1, hrun, HF6⟩ := HP.out nq
        go_wp2
        go_region
        all_goals
          go_wp2
          go_ret
          exact ⟨rfl, HF6.out.1, HF6.out.2⟩
    | false =>
      simp only [Bool.false_or]
      go_enter Tryd.func35, Tryd.ntmps35
      go_wp2
      go_region
      all_goals
        rw [← HU.out]
        go_wp2
        go_quiet ((go_at_call 17; exact Calls.quiet_of_same (HH.out _)))
        go_wp2
        go_ret
        exact ⟨rfl, (HF4.out _).1, (HF4.out _).2⟩
end
end Go.Proofs.YtmbjflcmbenbdaaDoor
