/- The reference's disk: New, Read, Write, Seal. -/
import Derived.Test.YtialbdpfgkefjaaBG
import Derived.Test.YtialbdpfgkefjaaBF
namespace Go.Proofs.Ytialbdpfgkefjaa
open Go.RowKit
set_option linter.unusedVariables false

theorem run_make_strs {P : Program} (t e : TypeId) (i : TypeInfo) (ht : P.underlying t = some (.slice e)) (hi : P.info? e = some i) (hz : i.zero = some (.string ⟨#[]⟩)) (hs : i.size = 1) (hb : i.bytes = 16)
    (n : Nat) (hn : n ≤ 16384) (w : World) :
    (Instr.makeSlice t (.int .i64 n) (.int .i64 n)).run P w = .ok (.slice (some ⟨w.heap.size, 0, none⟩) n n) (w.alloc (.cells (List.replicate n (Value.string ⟨#[]⟩)).toArray e)) := by
  rw [run_make (P := P) w t e i _ ht hi hz .i64 .i64 n n (by omega) (Int.le_refl _) (by rw [hb]; omega) (by omega), hs, Int.toNat_natCast, Nat.mul_one]
  have h := toList_madeCells_one (.string ⟨#[]⟩) n
  congr 3
  apply Array.ext'
  exact h

theorem own_weaken {w : World} {B C e size n : Nat} {v : Value} {xs : List Value} (h : w.ownsRow B e size v n xs) (hc : C ≤ B) : w.ownsRow C e size v n xs := by
  obtain ⟨h1, h2⟩ := h
  refine ⟨h1, ?_⟩
  rcases h2 with h2 | ⟨g, cap, cur, hv, hbg, r⟩
  · exact .inl h2
  · exact .inr ⟨g, cap, cur, hv, by omega, r⟩
theorem Rk.weaken {w : World} {B C q h cap : Nat} {D : Dsk} (k : Rk w B q h cap D) (hc : C ≤ B) : Rk w C q h cap D := ⟨k.ne, Nat.le_trans hc k.base, k.head, own_weaken k.own hc, k.len⟩

set_option maxHeartbeats 400000 in
theorem rnew_no (n : Int) (w : World) (h : n < 1 ∨ 16384 < n) : Calls Try.prog 11 #[.int .i64 n] w fun e w' => e = .returned (.pointer none) ∧ w = w' := by
  by_cases h1 : n < 1
  · go_enter Try.func11, Try.ntmps11
    go_wp2
    go_ret
    exact ⟨rfl, rfl⟩
  · have h2 : 16384 < n := by omega
    clear h
    go_enter Try.func11, Try.ntmps11
    go_wp2
    go_ret
    exact ⟨rfl, rfl⟩

set_option maxHeartbeats 400000 in
theorem rnew_yes (n : Nat) (w : World) (h1 : 1 ≤ n) (h2 : n ≤ 16384) : Calls Try.prog 11 #[.int .i64 n] w (RMade w (newD n)) := by
  obtain ⟨i0, hi, hz0, hz1, hz2⟩ := info_parts infoStr
  have hmk := run_make_strs (P := Try.prog) 37 9 i0 Try.underlying37 hi hz0 hz1 hz2 n h2
  have hof : ∀ o : World, o = w.alloc (.cells (List.replicate n (Value.string ⟨#[]⟩)).toArray 9) → Calls Try.prog 24 #[.slice (some ⟨w.heap.size, 0, none⟩) n n] o (RMade o (newD n)) := by
    rintro o rfl
    have h := rof_yes ⟨w.heap.size, 0, none⟩ (List.replicate n ⟨#[]⟩) n (w.alloc (.cells (List.replicate n (Value.string ⟨#[]⟩)).toArray 9)) (by simpa using h1) (by simpa using h2) (by simp) (fun i hi => by
      have hi' : i < n := by simpa using hi
      have hadd : (⟨w.heap.size, 0, none⟩ : Addr).add i = ⟨w.heap.size, i, none⟩ := by
        unfold Addr.add
        split
        · next h => subst h; rfl
        · simp
      rw [hadd, World.cell?_alloc_new]
      simp [hi']) (fun s hs => by rw [List.eq_of_mem_replicate hs]; decide)
    rw [List.length_replicate] at h
    have e : (⟨(List.replicate n ⟨#[]⟩).map fill64, 0, 0, 0⟩ : Dsk) = newD n := by
      rw [List.map_replicate]
      rfl
    rw [e] at h
    exact h
  have HO := Lib.hid hof
  clear hof
  go_enter Try.func11, Try.ntmps11
  go_wp2_with (go_at_call 24; refine (HO.out _ (by first | rfl | simp)).mono ?_; rintro e w1 ⟨q, hh, cap, rfl, hb, hk⟩)
  go_ret
  exact ⟨q, hh, cap, rfl, ((Below.refl _ w).alloc (Nat.le_refl _) _).trans (hb.mono (by simp)), hk.weaken (by simp)⟩

set_option maxHeartbeats 800000 in
theorem rread_any {B q h cap : Nat} {D : Dsk} {w : World} (k : Rk w B q h cap D) (at_ : Int) :
    Calls Try.prog 13 #[.pointer (some ⟨q, 0, none⟩), .int .i64 at_] w fun e w' => e = .returned (.tuple #[.string (D.rdS at_), .int .i64 (D.rdE at_)]) ∧ But (· = q) w w' ∧ Rk w' B q h cap (D.rdD at_) := by
  have c0 := k.head.at_ 0 _ rfl
  have hlen := k.len
  obtain ⟨L, hL⟩ : ∃ L, L = D.S.length := ⟨_, rfl⟩
  rw [← hL] at c0 hlen
  cases hh : D.has at_
  · have e1 : D.rdS at_ = ⟨#[]⟩ := by unfold Dsk.rdS; simp [hh]
    have e2 : D.rdE at_ = 14 := by unfold Dsk.rdE; simp [hh]
    have e3 : D.rdD at_ = D := by unfold Dsk.rdD; simp [hh]
    rw [e1, e2, e3]
    have hn := has_not hh
    rw [← hL] at hn
    have H := Lib.hid k
    clear e1 e2 e3 hh k hL
    by_cases h0 : at_ < 0
    · clear hn
      go_enter Try.func13, Try.ntmps13
      go_wp2
      go_ret2
      exact ⟨rfl, But.refl _ _, H.out⟩
    · have h1 : (L : Int) ≤ at_ := by omega
      clear hn
      go_enter Try.func13, Try.ntmps13
      go_wp2
      go_ret2
      exact ⟨rfl, But.refl _ _, H.out⟩
  · obtain ⟨h0, h1⟩ := has_iff.1 hh
    obtain ⟨j, rfl⟩ : ∃ j : Nat, at_ = j := ⟨at_.toNat, by omega⟩
    have hj : j < D.S.length := by omega
    have e1 : D.rdS j = D.S[j] := by unfold Dsk.rdS; simp [hh, hj]
    have e2 : D.rdE j = 0 := by unfold Dsk.rdE; simp [hh]
    have e3 : D.rdD j = { D with rd := wrap64 (D.rd + 1) } := by unfold Dsk.rdD; simp [hh]
    rw [e1, e2, e3]
    have c2 := k.head.at_ 2 _ rfl
    have f2 := k.head.frozen 2
    have hs := k.head.set_ 2 (.int .i64 (wrap64 (D.rd + 1)))
    have hcell : w.cell? ⟨h, j, none⟩ = some (.string D.S[j]) := by
      rw [k.own.cellAt j (by omega)]
      simp [strs, hj]
    have hne : ¬ h = q := fun e => k.ne e.symm
    have hjL : j < L := by omega
    have HS := Lib.hid hs
    have H := Lib.hid k
    have hk2 : Rk (w.setCell ⟨q, 2, none⟩ (.int .i64 (wrap64 (D.rd + 1)))) B q h cap { D with rd := wrap64 (D.rd + 1) } := by
      have h3 := k.but (S := (· = q)) ((But.refl (· = q) w).setCell (p := ⟨q, 2, none⟩) (.inl rfl) (.int .i64 (wrap64 (D.rd + 1)))) 
      exact ⟨k.ne, k.base, by simpa using hs, by
        have := (k.own.kept (w' := w.setCell ⟨q, 2, none⟩ (.int .i64 (wrap64 (D.rd + 1)))) (row := some q) ⟨rfl, rfl, rfl, by simp, fun j _ hj => Below.heap_setCell _ _ _ _ (fun e => hj (by rw [e]))⟩ (.inr (by simp [Value.ownBlock]; exact hne)))
        exact this, k.len⟩
    have HK := Lib.hid hk2
    generalize D.S[j] = s at *
    clear e1 e2 e3 hh h0 h1 hj hs k hk2 hL
    go_enter Try.func13, Try.ntmps13
    go_wp2
    go_ret2
    exact ⟨rfl, (But.refl (· = q) w).setCell (p := ⟨q, 2, none⟩) (.inl rfl) _, HK.out⟩

set_option maxHeartbeats 1600000 in
theorem rwrite_any {B q h cap : Nat} {D : Dsk} {w : World} (k : Rk w B q h cap D) (at_ : Int) (s : ByteArray) (hs : s.size ≤ 281474976710656) :
    Calls Try.prog 18 #[.pointer (some ⟨q, 0, none⟩), .int .i64 at_, .string s] w fun e w' => e = .returned (.int .i64 (D.wrE at_ s)) ∧ But (fun j => j = q ∨ j = h) w w' ∧ Rk w' B q h cap (D.wrD at_ s) := by
  have c0 := k.head.at_ 0 _ rfl
  have c1 := k.head.at_ 1 _ rfl
  have hlen := k.len
  obtain ⟨L, hL⟩ : ∃ L, L = D.S.length := ⟨_, rfl⟩
  rw [← hL] at c0 hlen
  cases hh : D.has at_
  · have e2 : D.wrE at_ s = 14 := by unfold Dsk.wrE; simp [hh]
    have e3 : D.wrD at_ s = D := by unfold Dsk.wrD; rw [e2]; rfl
    rw [e2, e3]
    have hn := has_not hh
    rw [← hL] at hn
    have H := Lib.hid k
    clear e2 e3 hh k hL
    by_cases h0 : at_ < 0
    · clear hn
      go_enter Try.func18, Try.ntmps18
      go_wp2
      go_ret
      exact ⟨rfl, But.refl _ _, H.out⟩
    · have h1 : (L : Int) ≤ at_ := by omega
      clear hn
      go_enter Try.func18, Try.ntmps18
      go_wp2
      go_ret
      exact ⟨rfl, But.refl _ _, H.out⟩
  · obtain ⟨h0, h1⟩ := has_iff.1 hh
    obtain ⟨j, rfl⟩ : ∃ j : Nat, at_ = j := ⟨at_.toNat, by omega⟩
    have hj : j < D.S.length := by omega
    have hjL : j < L := by omega
    by_cases h64 : s.size = 64
    · have hz64 : ((s.size : Int) != 64) = false := by simp [h64]
      have e1 := wrE_in hh h64
      by_cases hlow : (j : Int) < D.low
      · rw [if_pos hlow] at e1
        have e3 : D.wrD j s = D := by unfold Dsk.wrD; rw [e1]; rfl
        rw [e1, e3]
        have H := Lib.hid k
        clear e1 e3 hh k hL h64 h0 h1 hj
        go_enter Try.func18, Try.ntmps18
        go_wp2
        go_ret
        exact ⟨rfl, But.refl _ _, H.out⟩
      · rw [if_neg hlow] at e1
        have e3 : D.wrD j s = { D with S := D.S.set j s, wr := wrap64 (D.wr + 1) } := by unfold Dsk.wrD; rw [if_pos e1, Int.toNat_natCast]
        rw [e1, e3]
        have c3 := k.head.at_ 3 _ rfl
        have f3 := k.head.frozen 3
        have hne : ¬ h = q := fun e => k.ne e.symm
        have hne2 : ¬ q = h := k.ne
        have hcell : w.cell? ⟨h, j, none⟩ = some (.string D.S[j]) := by
          rw [k.own.cellAt j (by omega)]
          simp [strs, hj]
        have fcell := k.own.frozenAt j
        obtain ⟨o1, g1⟩ := k.own.stored j (.string s)
        have hd1 := k.head.grown g1 (by intro e; injection e with e; exact hne2 e)
        have hset := hd1.set_ 3 (.int .i64 (wrap64 (D.wr + 1)))
        have o2 := o1.kept (w' := (w.setCell ⟨h, j, none⟩ (.string s)).setCell ⟨q, 3, none⟩ (.int .i64 (wrap64 (D.wr + 1)))) (row := some q) ⟨rfl, rfl, rfl, by simp, fun j _ hj => Below.heap_setCell _ _ _ _ (fun e => hj (by rw [e]))⟩ (.inr (by simp [Value.ownBlock]; exact hne))
        have hb : But (fun j => j = q ∨ j = h) w ((w.setCell ⟨h, j, none⟩ (.string s)).setCell ⟨q, 3, none⟩ (.int .i64 (wrap64 (D.wr + 1)))) :=
          ((But.refl (fun j => j = q ∨ j = h) w).setCell (p := ⟨h, j, none⟩) (.inl (.inr rfl)) _).setCell (p := ⟨q, 3, none⟩) (.inl (.inl rfl)) _
        have hk2 : Rk ((w.setCell ⟨h, j, none⟩ (.string s)).setCell ⟨q, 3, none⟩ (.int .i64 (wrap64 (D.wr + 1)))) B q h cap { D with S := D.S.set j s, wr := wrap64 (D.wr + 1) } :=
          ⟨k.ne, k.base, by simpa using hset, by simpa [strs, List.map_set] using o2, by simpa using k.len⟩
        have HK := Lib.hid hk2
        have HB := Lib.hid hb
        generalize D.S[j] = s0 at *
        clear e1 e3 hh k hL h64 h0 h1 hj o1 g1 hd1 hset o2 hb hk2
        go_enter Try.func18, Try.ntmps18
        go_wp2
        go_ret
        exact ⟨rfl, HB.out, HK.out⟩
    · have e1 : D.wrE j s = 1 := by unfold Dsk.wrE; rw [if_pos hh, if_neg h64]
      have e3 : D.wrD j s = D := by unfold Dsk.wrD; rw [e1]; rfl
      have hz64 : ((s.size : Int) != 64) = true := by simp; omega
      rw [e1, e3]
      have H := Lib.hid k
      clear e1 e3 hh k hL h64 h0 h1 hj
      go_enter Try.func18, Try.ntmps18
      go_wp2
      go_ret
      exact ⟨rfl, But.refl _ _, H.out⟩

set_option maxHeartbeats 800000 in
theorem rseal_any {B q h cap : Nat} {D : Dsk} {w : World} (k : Rk w B q h cap D) (n : Int) :
    Calls Try.prog 15 #[.pointer (some ⟨q, 0, none⟩), .int .i64 n] w fun e w' => e = .returned (.tuple #[]) ∧ But (· = q) w w' ∧ Rk w' B q h cap (D.seal_ n) := by
  have c1 := k.head.at_ 1 _ rfl
  have f1 := k.head.frozen 1
  by_cases hl : D.low < n
  · have hne : ¬ h = q := fun e => k.ne e.symm
    have hs := k.head.set_ 1 (.int .i64 n)
    have e : D.seal_ n = { D with low := n } := by unfold Dsk.seal_; rw [show max D.low n = n by omega]
    have hk2 : Rk (w.setCell ⟨q, 1, none⟩ (.int .i64 n)) B q h cap (D.seal_ n) := by
      rw [e]
      exact ⟨k.ne, k.base, by simpa using hs, k.own.kept (w' := w.setCell ⟨q, 1, none⟩ (.int .i64 n)) (row := some q) ⟨rfl, rfl, rfl, by simp, fun j _ hj => Below.heap_setCell _ _ _ _ (fun e => hj (by rw [e]))⟩ (.inr (by simp [Value.ownBlock]; exact hne)), k.len⟩
    have HK := Lib.hid hk2
    clear hk2 e hs k
    go_enter Try.func15, Try.ntmps15
    go_wp2
    go_end0
    exact ⟨rfl, (But.refl (· = q) w).setCell (p := ⟨q, 1, none⟩) (.inl rfl) _, HK.out⟩
  · have e : D.seal_ n = D := by unfold Dsk.seal_; rw [show max D.low n = D.low by omega]
    rw [e]
    have H := Lib.hid k
    clear e k
    go_enter Try.func15, Try.ntmps15
    go_wp2
    go_end0
    exact ⟨rfl, But.refl _ _, H.out⟩
end Go.Proofs.Ytialbdpfgkefjaa
