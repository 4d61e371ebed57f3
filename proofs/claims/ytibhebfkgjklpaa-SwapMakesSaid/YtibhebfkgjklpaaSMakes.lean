/- SwapMakes: for any numbers: an area is made where the disk has room for it; a sealed disk takes no page, and the slot is free still. -/
import Derived.Test.YtibhebfkgjklpaaSD
import Derived.Test.YtibhebfkgjklpaaBits
namespace Go.Proofs.Ytibhebfkgjklpaa.lawMakes
open Go.ChangeShapes Go.WideShapes Go.ChangeAt Go.RowKit
set_option linter.unusedVariables false

theorem free_rep (n : Nat) : freeAt (List.replicate n 0) = 0 := by cases n <;> simp [List.replicate_succ, freeAt]
theorem used_rep (n : Nat) : usedN (List.replicate n 0) = 0 := by simp [usedN, List.countP_replicate]
theorem used_one {n : Nat} (h : 0 < n) : usedN ((List.replicate n 0).set 0 1) = 1 := by
  obtain ⟨m, rfl⟩ : ∃ m, n = m + 1 := ⟨n - 1, by omega⟩
  have := used_rep m
  unfold usedN at *
  rw [List.replicate_succ, List.set_cons_zero, List.countP_cons, this]
  rfl

/-- A new area, of whose disk sectors are sealed. -/
def selX (N f n : Nat) (m : Int) : Swp := ⟨(newD N).seal_ m, f, List.replicate n 0⟩
section
variable {w v : World} {p g q h N f n : Nat} {m : Int}
theorem st_seal (s : Sw w v p g q h (newX (newD N) f n)) : Calls Try.prog 26 #[.pointer (some ⟨p, 0, none⟩), .int .i64 m] v fun e v' => e = .returned (.tuple #[]) ∧ Sw w v' p g q h (selX N f n m) :=
  (seal_any s.ar.dk m).mono fun e v' ⟨he, hb, hd⟩ => ⟨he, s.but1 hb (s.ar.dk_set (hb.mono fun _ e => .inl e) hd rfl)⟩
theorem st_put (s : Sw w v p g q h (selX N f n m)) (hm : 0 ≤ m) (hfn : f + n ≤ N) (r u : Int) (hr : r = if n = 0 then 15 else if (f : Int) < m then 13 else 0) (hu : u = if r = 0 then 1 else 0) :
    Calls Try.prog 14 #[.pointer (some ⟨q, 0, none⟩), .string (pageS 1)] v fun e v' => e = .returned (.tuple #[.int .i64 0, .int .i64 r]) ∧ ∃ Y, Sw w v' p g q h Y ∧ (usedN Y.H : Int) = u :=
  (put_any s.ar (pageS 1) (by rw [pageS_size]; omega)).mono fun e v' ⟨he, hb, ha⟩ => by
    have e0 : freeAt (selX N f n m).H = 0 := free_rep n
    have e1 : (selX N f n m).ptE (pageS 1) = r := by
      unfold Swp.ptE
      rw [if_pos (pageS_size 1), e0, hr]
      by_cases hn : n = 0
      · rw [if_pos hn, if_neg (by simp [selX, hn])]
      · rw [if_neg hn, if_pos (by simp [selX]; omega)]
        have hh : (selX N f n m).D.has ((selX N f n m).first + (0 : Nat)) = true := has_of (by simp [selX]) (by simp [selX, newD, Dsk.seal_]; omega)
        rw [wrE_in hh (pageS_size 1)]
        have el : (selX N f n m).D.low = m := by show max 0 m = m; omega
        rw [el]
        simp [selX]
    have e2 : (selX N f n m).ptV (pageS 1) = 0 := by unfold Swp.ptV; rw [e0]; split <;> rfl
    rw [e1, e2] at he
    refine ⟨he, _, s.but hb ha, ?_⟩
    unfold Swp.ptX
    rw [e1, hu]
    by_cases hz : r = 0
    · rw [if_pos hz, if_pos hz, e0]
      have hn : 0 < n := by
        rw [hr] at hz
        by_cases hn : n = 0
        · rw [if_pos hn] at hz; omega
        · omega
      show ((usedN ((List.replicate n 0).set 0 1) : Nat) : Int) = 1
      rw [used_one hn]
      rfl
    · rw [if_neg hz, if_neg hz]
      show ((usedN (List.replicate n 0) : Nat) : Int) = 0
      rw [used_rep]
      rfl
end

set_option maxHeartbeats 3200000 in
theorem walk (a q0 q1 sl : Int) (w : World) (wa : (Lit.int .i64 a).wf = true) (w0 : (Lit.int .i64 q0).wf = true) (w1 : (Lit.int .i64 q1).wf = true) (ws : (Lit.int .i64 sl).wf = true) :
    Calls Try.prog 4 #[.int .i64 a, .agg #[.int .i64 q0, .int .i64 q1], .int .i64 sl] w fun e w' => e = .returned (.bool true) ∧ Below w.heap.size w w' := by
  obtain ⟨N0, hN0, hN16⟩ : ∃ N0 : Nat, bits .and .i64 a 15 = N0 ∧ N0 < 16 := by
    have e : bits .and .i64 a 15 = a % (2 : Int) ^ 4 := i64_and_mask a 4 15 (by omega) (by decide)
    rw [show (2 : Int) ^ 4 = 16 by decide] at e
    exact ⟨(a % 16).toNat, by rw [e]; omega, by omega⟩
  obtain ⟨m, hm, hm0, hm16⟩ : ∃ m : Int, bits .and .i64 sl 15 = m ∧ 0 ≤ m ∧ m < 16 := by
    have e : bits .and .i64 sl 15 = sl % (2 : Int) ^ 4 := i64_and_mask sl 4 15 (by omega) (by decide)
    rw [show (2 : Int) ^ 4 = 16 by decide] at e
    exact ⟨sl % 16, e, by omega, by omega⟩
  obtain ⟨_, _⟩ := bounds_i64 w0
  obtain ⟨_, _⟩ := bounds_i64 w1
  obtain ⟨N, hN, hN1, hN2⟩ : ∃ N : Nat, (1 : Int) + N0 = N ∧ 1 ≤ N ∧ N ≤ 16 := ⟨1 + N0, by omega, by omega, by omega⟩
  have HA := Lib.hid (fun w => awake5_any w)
  have HN := Lib.hid (fun w => new_made N w hN1 (by omega))
  have HL := Lib.hid (fun w => snew_nil 0 0 w)
  have HP := Lib.hid (fun w => page_any 1 w)
  obtain ⟨wb, hwb⟩ : ∃ wb, w.alloc (.cells #[.int .i64 q0, .int .i64 q1] 48) = wb := ⟨_, rfl⟩
  have hcell : ∀ v, Below wb.heap.size wb v → v.cell? ⟨w.heap.size, 0, none⟩ = some (.int .i64 q0) ∧ v.cell? ⟨w.heap.size, 1, none⟩ = some (.int .i64 q1) := fun v hv => by
    subst hwb
    exact ⟨(hv.cell (p := ⟨w.heap.size, 0, none⟩) (by simp)).trans (World.cell?_alloc_new w _ _ 0), (hv.cell (p := ⟨w.heap.size, 1, none⟩) (by simp)).trans (World.cell?_alloc_new w _ _ 1)⟩
  have hend : ∀ v, Below wb.heap.size wb v → Below w.heap.size w v := fun v hv => by
    subst hwb
    exact ((Below.refl _ w).alloc (Nat.le_refl _) _).trans (hv.mono (by simp))
  have HC := Lib.hid hcell
  have HE := Lib.hid hend
  clear hcell hend
  have hB := Below.refl wb.heap.size wb
  by_cases hmay : mayNew (newD N) q0 q1
  · have hmay2 := hmay
    obtain ⟨h1, h2, h3, h4⟩ := hmay2
    obtain ⟨f, rfl⟩ : ∃ f : Nat, q0 = f := ⟨q0.toNat, by omega⟩
    obtain ⟨n, rfl⟩ : ∃ n : Nat, q1 = n := ⟨q1.toNat, by omega⟩
    have hlen : (newD N).S.length = N := by simp [newD]
    rw [hlen] at h4
    have hfn : f + n ≤ N := by omega
    have HS := Lib.hid (fun (w : World) p g (d : Dk w p g (newD N)) => snew_made d f n hmay)
    have HQ := Lib.hid (fun w p g (d : Dk w p g (newD N)) => (sectors_any d).mono (R' := fun e w' => e = .returned (.int .i64 N) ∧ w' = w) fun _ _ ⟨he, hw⟩ => ⟨by rw [he, hlen], hw.symm⟩)
    have HZ := Lib.hid (fun v p g q h (s : Sw wb v p g q h (newX (newD N) f n)) => (slots_any s.ar).mono (R' := fun e w' => e = .returned (.int .i64 n) ∧ w' = v) fun _ _ ⟨he, hw⟩ => ⟨by rw [he]; simp [newX], hw.symm⟩)
    have HU := Lib.hid (fun v p g q h (X : Swp) (s : Sw wb v p g q h X) => sused_any s.ar)
    have hput := fun v p g q h (s : Sw wb v p g q h (selX N f n m)) => st_put s hm0 hfn _ _ rfl rfl
    have hcs : (n = 0) ∨ (0 < n ∧ (f : Int) < m) ∨ (0 < n ∧ m ≤ f) := by omega
    clear hmay hlen h1 h3
    rcases hcs with e1 | ⟨e1, e2⟩ | ⟨e1, e2⟩
    · simp only [if_pos e1] at hput
      simp only [show ¬ ((15 : Int) = 0) by decide, if_false] at hput
      have HW := Lib.hid hput
      clear hput
      have hz : ((n : Int) == 0) = true := by simp [e1]
      clear e1
      go_enter Try.func4, Try.ntmps4
      go_wp2_with (first
        | (go_at_call 9; refine (HA.out _).mono ?_; rintro e v0 ⟨rfl, hb⟩; clear hB; have hB := hb; clear hb)
        | (go_at_call 11; refine (HN.out _).mono ?_; rintro e v1 ⟨p, g, rfl, hp, hg, hb, hd⟩; obtain ⟨c0, c1⟩ := HC.out _ (hB.trans (hb.mono hB.size)))
        | (go_at_call 10; refine (HS.out _ _ _ hd).mono ?_; rintro e v2 ⟨q, h, rfl, hq, hh, hb2, ha⟩
           have hS : Sw wb v2 p g q h (newX (newD N) f n) := by
             have s1 := hB.size
             have s2 := hb.size
             exact ⟨Nat.le_trans s1 hp, Nat.le_trans s1 hg, by omega, by omega, (hB.trans (hb.mono s1)).trans (hb2.mono (by omega)), ha⟩
           clear hp hg hb hd hq hh hb2 ha hB c0 c1
           obtain ⟨c0, c1⟩ := HC.out _ hS.bel))
      go_quiet ((go_at_call 25; exact Calls.quiet_of_same (HQ.out _ _ _ (hS.ar.dk.drewN _))))
      replace hS := Sw.drewN hS nq
      clear c0 c1
      obtain ⟨c0, c1⟩ := HC.out _ hS.bel
      generalize v2.drewN nq = v3 at *
      clear nq
      go_wp2_with (go_at_call 10; refine (HL.out _).mono ?_; rintro e v2 ⟨rfl, rfl⟩)
      go_quiet ((go_at_call 24; exact Calls.quiet_of_same (HZ.out _ _ _ _ _ (Sw.drewN hS _))))
      replace hS := Sw.drewN hS nq
      clear c0 c1
      generalize v3.drewN nq = v4 at *
      go_wp2_with (first
        | (go_at_call 26; refine (st_seal hS).mono ?_; rintro e v5 ⟨rfl, hS5⟩; clear hS)
        | (go_at_call 13; refine (HP.out _).mono ?_; rintro e v6 ⟨rfl, hb6⟩; replace hS5 := hS5.on hb6; clear hb6)
        | (go_at_call 14; refine (HW.out _ _ _ _ _ hS5).mono ?_; rintro e v7 ⟨rfl, Y, hS7, hu7⟩; clear hS5; obtain ⟨c0, c1⟩ := HC.out _ hS7.bel; have hu := HU.out _ _ _ _ _ _ hS7; rw [hu7] at hu; have HUU := Lib.hid hu; clear hu hu7)
        | (go_at_call 21; refine HUU.out.mono ?_; rintro e v8 ⟨rfl, rfl⟩))
      go_ret
      exact ⟨rfl, HE.out _ hS7.bel⟩
    · simp only [if_neg (show ¬ n = 0 by omega), if_pos e2] at hput
      simp only [show ¬ ((13 : Int) = 0) by decide, if_false] at hput
      have HW := Lib.hid hput
      clear hput
      have hz : ((n : Int) == 0) = false := by simp; omega
      go_enter Try.func4, Try.ntmps4
      go_wp2_with (first
        | (go_at_call 9; refine (HA.out _).mono ?_; rintro e v0 ⟨rfl, hb⟩; clear hB; have hB := hb; clear hb)
        | (go_at_call 11; refine (HN.out _).mono ?_; rintro e v1 ⟨p, g, rfl, hp, hg, hb, hd⟩; obtain ⟨c0, c1⟩ := HC.out _ (hB.trans (hb.mono hB.size)))
        | (go_at_call 10; refine (HS.out _ _ _ hd).mono ?_; rintro e v2 ⟨q, h, rfl, hq, hh, hb2, ha⟩
           have hS : Sw wb v2 p g q h (newX (newD N) f n) := by
             have s1 := hB.size
             have s2 := hb.size
             exact ⟨Nat.le_trans s1 hp, Nat.le_trans s1 hg, by omega, by omega, (hB.trans (hb.mono s1)).trans (hb2.mono (by omega)), ha⟩
           clear hp hg hb hd hq hh hb2 ha hB c0 c1
           obtain ⟨c0, c1⟩ := HC.out _ hS.bel))
      go_quiet ((go_at_call 25; exact Calls.quiet_of_same (HQ.out _ _ _ (hS.ar.dk.drewN _))))
      replace hS := Sw.drewN hS nq
      clear c0 c1
      obtain ⟨c0, c1⟩ := HC.out _ hS.bel
      generalize v2.drewN nq = v3 at *
      clear nq
      go_wp2_with (go_at_call 10; refine (HL.out _).mono ?_; rintro e v2 ⟨rfl, rfl⟩)
      go_quiet ((go_at_call 24; exact Calls.quiet_of_same (HZ.out _ _ _ _ _ (Sw.drewN hS _))))
      replace hS := Sw.drewN hS nq
      clear c0 c1
      generalize v3.drewN nq = v4 at *
      go_wp2_with (first
        | (go_at_call 26; refine (st_seal hS).mono ?_; rintro e v5 ⟨rfl, hS5⟩; clear hS)
        | (go_at_call 13; refine (HP.out _).mono ?_; rintro e v6 ⟨rfl, hb6⟩; replace hS5 := hS5.on hb6; clear hb6)
        | (go_at_call 14; refine (HW.out _ _ _ _ _ hS5).mono ?_; rintro e v7 ⟨rfl, Y, hS7, hu7⟩; clear hS5; obtain ⟨c0, c1⟩ := HC.out _ hS7.bel; have hu := HU.out _ _ _ _ _ _ hS7; rw [hu7] at hu; have HUU := Lib.hid hu; clear hu hu7)
        | (go_at_call 21; refine HUU.out.mono ?_; rintro e v8 ⟨rfl, rfl⟩))
      go_ret
      exact ⟨rfl, HE.out _ hS7.bel⟩
    · simp only [if_neg (show ¬ n = 0 by omega), if_neg (show ¬ (f : Int) < m by omega)] at hput
      simp only [if_true] at hput
      have HW := Lib.hid hput
      clear hput
      have hz : ((n : Int) == 0) = false := by simp; omega
      go_enter Try.func4, Try.ntmps4
      go_wp2_with (first
        | (go_at_call 9; refine (HA.out _).mono ?_; rintro e v0 ⟨rfl, hb⟩; clear hB; have hB := hb; clear hb)
        | (go_at_call 11; refine (HN.out _).mono ?_; rintro e v1 ⟨p, g, rfl, hp, hg, hb, hd⟩; obtain ⟨c0, c1⟩ := HC.out _ (hB.trans (hb.mono hB.size)))
        | (go_at_call 10; refine (HS.out _ _ _ hd).mono ?_; rintro e v2 ⟨q, h, rfl, hq, hh, hb2, ha⟩
           have hS : Sw wb v2 p g q h (newX (newD N) f n) := by
             have s1 := hB.size
             have s2 := hb.size
             exact ⟨Nat.le_trans s1 hp, Nat.le_trans s1 hg, by omega, by omega, (hB.trans (hb.mono s1)).trans (hb2.mono (by omega)), ha⟩
           clear hp hg hb hd hq hh hb2 ha hB c0 c1
           obtain ⟨c0, c1⟩ := HC.out _ hS.bel))
      go_quiet ((go_at_call 25; exact Calls.quiet_of_same (HQ.out _ _ _ (hS.ar.dk.drewN _))))
      replace hS := Sw.drewN hS nq
      clear c0 c1
      obtain ⟨c0, c1⟩ := HC.out _ hS.bel
      generalize v2.drewN nq = v3 at *
      clear nq
      go_wp2_with (go_at_call 10; refine (HL.out _).mono ?_; rintro e v2 ⟨rfl, rfl⟩)
      go_quiet ((go_at_call 24; exact Calls.quiet_of_same (HZ.out _ _ _ _ _ (Sw.drewN hS _))))
      replace hS := Sw.drewN hS nq
      clear c0 c1
      generalize v3.drewN nq = v4 at *
      go_wp2_with (first
        | (go_at_call 26; refine (st_seal hS).mono ?_; rintro e v5 ⟨rfl, hS5⟩; clear hS)
        | (go_at_call 13; refine (HP.out _).mono ?_; rintro e v6 ⟨rfl, hb6⟩; replace hS5 := hS5.on hb6; clear hb6)
        | (go_at_call 14; refine (HW.out _ _ _ _ _ hS5).mono ?_; rintro e v7 ⟨rfl, Y, hS7, hu7⟩; clear hS5; obtain ⟨c0, c1⟩ := HC.out _ hS7.bel; have hu := HU.out _ _ _ _ _ _ hS7; rw [hu7] at hu; have HUU := Lib.hid hu; clear hu hu7)
        | (go_at_call 21; refine HUU.out.mono ?_; rintro e v8 ⟨rfl, rfl⟩))
      go_ret
      exact ⟨rfl, HE.out _ hS7.bel⟩
  · have HS := Lib.hid (fun (w : World) p g (d : Dk w p g (newD N)) => snew_no d q0 q1 hmay)
    have hlen : (newD N).S.length = N := by simp [newD]
    have hcase : q1 < 0 ∨ (0 ≤ q1 ∧ 4096 < q1) ∨ (0 ≤ q1 ∧ q1 ≤ 4096 ∧ q0 < 0) ∨ (0 ≤ q1 ∧ q1 ≤ 4096 ∧ 0 ≤ q0 ∧ (N : Int) - q1 < q0) := by
      unfold mayNew at hmay
      rw [hlen] at hmay
      omega
    have HQ := Lib.hid (fun w p g (d : Dk w p g (newD N)) => (sectors_any d).mono (R' := fun e w' => e = .returned (.int .i64 N) ∧ w' = w) fun _ _ ⟨he, hw⟩ => ⟨by rw [he, hlen], hw.symm⟩)
    clear hmay hlen
    rcases hcase with h1 | ⟨h1, h2⟩ | ⟨h1, h2, h3⟩ | ⟨h1, h2, h3, h4⟩
    · have d1 : decide (0 ≤ q1) = false := by simpa using h1
      go_enter Try.func4, Try.ntmps4
      go_wp2_with (first
        | (go_at_call 9; refine (HA.out _).mono ?_; rintro e v0 ⟨rfl, hb⟩; clear hB; have hB := hb; clear hb)
        | (go_at_call 11; refine (HN.out _).mono ?_; rintro e v1 ⟨p, g, rfl, hp, hg, hb, hd⟩; replace hB := hB.trans (hb.mono hB.size); obtain ⟨c0, c1⟩ := HC.out _ hB)
        | (go_at_call 10; refine (HS.out _ _ _ hd).mono ?_; rintro e v2 ⟨rfl, rfl⟩))
      go_quiet (fail)
      go_wp2_with (go_at_call 10; refine (HL.out _).mono ?_; rintro e v2 ⟨rfl, rfl⟩)
      go_ret
      exact ⟨rfl, HE.out _ (Below.drewN hB _)⟩
    · have d1 : decide (q1 ≤ 4096) = false := by simpa using h2
      go_enter Try.func4, Try.ntmps4
      go_wp2_with (first
        | (go_at_call 9; refine (HA.out _).mono ?_; rintro e v0 ⟨rfl, hb⟩; clear hB; have hB := hb; clear hb)
        | (go_at_call 11; refine (HN.out _).mono ?_; rintro e v1 ⟨p, g, rfl, hp, hg, hb, hd⟩; replace hB := hB.trans (hb.mono hB.size); obtain ⟨c0, c1⟩ := HC.out _ hB)
        | (go_at_call 10; refine (HS.out _ _ _ hd).mono ?_; rintro e v2 ⟨rfl, rfl⟩))
      go_quiet (fail)
      go_wp2_with (go_at_call 10; refine (HL.out _).mono ?_; rintro e v2 ⟨rfl, rfl⟩)
      go_ret
      exact ⟨rfl, HE.out _ (Below.drewN hB _)⟩
    · have d1 : decide (0 ≤ q0) = false := by simpa using h3
      go_enter Try.func4, Try.ntmps4
      go_wp2_with (first
        | (go_at_call 9; refine (HA.out _).mono ?_; rintro e v0 ⟨rfl, hb⟩; clear hB; have hB := hb; clear hb)
        | (go_at_call 11; refine (HN.out _).mono ?_; rintro e v1 ⟨p, g, rfl, hp, hg, hb, hd⟩; replace hB := hB.trans (hb.mono hB.size); obtain ⟨c0, c1⟩ := HC.out _ hB)
        | (go_at_call 10; refine (HS.out _ _ _ hd).mono ?_; rintro e v2 ⟨rfl, rfl⟩))
      go_quiet (fail)
      go_wp2_with (go_at_call 10; refine (HL.out _).mono ?_; rintro e v2 ⟨rfl, rfl⟩)
      go_ret
      exact ⟨rfl, HE.out _ (Below.drewN hB _)⟩
    · have d1 : decide (q0 ≤ (N : Int) - q1) = false := by simp; omega
      go_enter Try.func4, Try.ntmps4
      go_wp2_with (first
        | (go_at_call 9; refine (HA.out _).mono ?_; rintro e v0 ⟨rfl, hb⟩; clear hB; have hB := hb; clear hb)
        | (go_at_call 11; refine (HN.out _).mono ?_; rintro e v1 ⟨p, g, rfl, hp, hg, hb, hd⟩; replace hB := hB.trans (hb.mono hB.size); obtain ⟨c0, c1⟩ := HC.out _ hB)
        | (go_at_call 10; refine (HS.out _ _ _ hd).mono ?_; rintro e v2 ⟨rfl, rfl⟩))
      go_quiet ((go_at_call 25; exact Calls.quiet_of_same (HQ.out _ _ _ (hd.drewN _))))
      go_wp2_with (go_at_call 10; refine (HL.out _).mono ?_; rintro e v2 ⟨rfl, rfl⟩)
      go_ret
      exact ⟨rfl, HE.out _ (Below.drewN hB _)⟩

set_option maxRecDepth 100000 in
theorem lifted (os : Os) (started : os.Started) (H : Type) (enc : TypeId × Value → H) :
    ReturnsInHanded {} Try.checked os 4 .any (Rows.swapMakesSpec.pre6 enc Try.prog Try.f4 Rows.swapMakesRow.domain false) (Rows.swapMakesSpec.post enc Try.prog Try.f4 false true false false) := by
  refine returnsInHanded_of_change (C := Try.checked) own started (by kernel_rfl) Try.func4
    (ChangeSpec.witness6 (enc := enc) (C := Try.checked) false ⟨#[], #[.int .i64 0, .agg #[.int .i64 0, .int .i64 0], .int .i64 0], []⟩ 8 (by kernel_rfl) (by kernel_rfl) (by kernel_rfl) (by kernel_rfl)) ?_
  intro W base args ds gs before hval0 hW hcnd _
  have hval : ∀ (j : Nat) t v, Try.f4.params[j]? = some t → args[j]? = some v → Value.okWide Try.prog W .any base t v := hval0
  have hW' := hW
  obtain ⟨p, q, hA0, hV, rfl, hfz, hnd⟩ := hW
  have hA : DataW.TrodAll enc Try.prog W 0 (fun _ => true) true Try.f4.params.toList args.toList ds p := hA0
  rw [Try.params4] at hA hval
  obtain ⟨v0, vs0, d0, ds0, p0, q0, hargs, rfl, rfl, h0, r0⟩ := trodAll_cons hA
  obtain ⟨v1, vs1, d1, ds1, p1, q1, rfl, rfl, rfl, h1, r1⟩ := trodAll_cons r0
  obtain ⟨v2, vs2, d2, ds2, p2, q2, rfl, rfl, rfl, h2, r2⟩ := trodAll_cons r1
  obtain ⟨rfl, rfl, rfl⟩ := trodAll_nil r2
  obtain rfl : args = #[v0, v1, v2] := by cases args; simp_all
  obtain ⟨rfl, rfl⟩ := trodVars_none hV
  have k0 := h0
  have lt0 : ∀ x ∈ p0, x.block < W.heap.size := by obtain ⟨m, hm⟩ := k0; exact DataW.trod_lt m _ _ _ hm
  obtain ⟨a0, rfl, _, _, w0⟩ := open_int Try.underlying3 (hval 0 3 v0 rfl rfl) h0
  have k1 := h1
  have lt1 : ∀ x ∈ p1, x.block < W.heap.size := by obtain ⟨m, hm⟩ := k1; exact DataW.trod_lt m _ _ _ hm
  obtain ⟨z1, e1, hl1, hw1⟩ := open_ints_array Try.underlying48 Try.underlying3 (by kernel_rfl) (by kernel_rfl) (hval 1 48 v1 rfl rfl) h1
  obtain ⟨a1_0, a1_1, rfl⟩ : ∃ a1_0 a1_1, z1 = [a1_0, a1_1] := by
    match z1, hl1 with
    | [a1_0, a1_1], _ => exact ⟨_, _, rfl⟩
  obtain rfl : v1 = .agg #[.int .i64 a1_0, .int .i64 a1_1] := e1
  have k2 := h2
  have lt2 : ∀ x ∈ p2, x.block < W.heap.size := by obtain ⟨m, hm⟩ := k2; exact DataW.trod_lt m _ _ _ hm
  obtain ⟨a2, rfl, _, _, w2⟩ := open_int Try.underlying3 (hval 2 3 v2 rfl rfl) h2
  clear hA0 hval0
  refine (walk a0 a1_0 a1_1 a2 W w0 (hw1 a1_0 (by simp)) (hw1 a1_1 (by simp)) w2).mono fun e W' ⟨he, bel⟩ => ?_
  subst he
  exact ⟨_, rfl, _, _, _, [], _, [], hW', trodAll_mk1 (shut_bool Try.underlying4 _), (trodAll_cons_mk (Below.trod laidOut (by kernel_rfl) (of_decide_eq_true (by kernel_rfl)) k0 bel lt0) (trodAll_cons_mk (Below.trod laidOut (by kernel_rfl) (of_decide_eq_true (by kernel_rfl)) k1 bel lt1) (trodAll_cons_mk (Below.trod laidOut (by kernel_rfl) (of_decide_eq_true (by kernel_rfl)) k2 bel lt2) trodAll_mk0))), rfl, bel.frame _, fun h => by cases h⟩
theorem over : Rows.swapMakesRow.holds Try.pinned (OpenSpec.ofChange Rows.swapMakesSpec) :=
  OpenClaim.holds_of_wide 4 Try.f4 rfl rfl rfl rfl rfl rfl rfl ⟨rfl, rfl, rfl, rfl, rfl⟩ rfl rfl rfl rfl rfl (by kernel_rfl) Try.func4 (by kernel_rfl)
    (of_decide_eq_true (by kernel_rfl)) (by unfold Func.isWrapper; first | (rw [if_pos (by decide +kernel)]; kernel_rfl) | (rw [if_neg (by decide +kernel)]; exact ⟨rfl, rfl⟩))
    (fun os started H enc _ => lifted os started H enc)
/-- The statement. -/
theorem proved : Rows.SwapMakesSaid := over
end Go.Proofs.Ytibhebfkgjklpaa.lawMakes
