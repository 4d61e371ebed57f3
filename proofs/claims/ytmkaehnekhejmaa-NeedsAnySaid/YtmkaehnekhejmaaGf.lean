/- Package needs: gather's meet. -/
import Derived.Test.YtmkaehnekhejmaaGe
namespace Go.Proofs.Ytmkaehnekhejmaa
open Go.RowKit
set_option linter.unusedVariables false
set_option linter.unusedSimpArgs false

theorem MapS.grown {M n : Nat} {f : ByteArray → Option Int} {w w' : World} {row : Option Nat} (h : MapS M n f w) (hg : w.grownBy w' row) (hne : some M ≠ row) : MapS M n f w' :=
  h.but (S := fun k => row = some k) ((But.refl _ w).grown hg (fun k e => .inl e)) (fun e => hne e.symm)
theorem cellA {w : World} {a : Addr} {v : Value} (h : w.cell? a = some v) (o : Obj) : (w.alloc o).cell? a = some v := ((Below.refl _ _).alloc (Nat.le_refl _) o |>.cell (by
  rcases Nat.lt_or_ge a.block w.heap.size with h' | h'
  · exact h'
  · simp [World.cell?, Array.getElem?_eq_none h'] at h)).trans h
theorem blk_two (w : World) (o : Obj) (t : TypeId) (cs : Array Value) : Blk ((w.alloc o).alloc (.cells cs t)) (w.heap.size + 1) t cs := by
  have := Blk.new (w.alloc o) t cs
  rw [World.size_alloc] at this
  exact this
theorem butMap {M : Nat} {w w' : World} (hg : w.grownBy w' (some M)) : But (· = M) w w' := (But.refl _ w).grown hg (fun k e => by injection e with e; exact .inl e.symm)
/-- What is left to show behind the stores, one more that is missing. -/
theorem Cl.miss {lo pc MC : Nat} {L : List Lb} {u1 u2 u3 v' : Value} {S : Wk} {nm : ByteArray} {wr w1 wm : World} (h : Cl lo pc MC L u1 u2 u3 S wr) (hp1 : pc < lo) (hp2 : MC < lo) (hp3 : pc ≠ MC)
    (ho : w1.ownsRow lo 9 1 v' (S.M.length + 1) (strs S.M ++ [.string nm])) (hg : ((wr.alloc (.cells #[.string nm] 9)).drew).grownBy w1 u3.ownBlock) (hat : v'.ownBlock = u3.ownBlock ∨ v'.ownBlock = some (wr.heap.size + 1))
    (hm : MapS MC (S.N.length + S.M.length + 1) (atF ⟨S.N, S.D, S.M ++ [nm]⟩) wm) (hgm : w1.grownBy wm (some MC)) :
    Cl lo pc MC L u1 u2 v' ⟨S.N, S.D, S.M ++ [nm]⟩ (wm.setCell ⟨pc, 2, none⟩ v') ∧ But (CS lo pc MC) wr (wm.setCell ⟨pc, 2, none⟩ v') := by
  have hb0 : Below wr.heap.size wr (wr.alloc (.cells #[.string nm] 9)).drew := ((Below.refl _ _).alloc (Nat.le_refl _) _).drew
  have hlt := h.lt
  have hown : ∀ k, u3.ownBlock = some k → lo ≤ k := fun k hk => (h.rows.c.lt k hk).1
  have r1 := h.rows.pushC hb0 (v' := v') (x := .string nm) (by rw [strs_length]; exact ho) hg (by simpa using hat)
  have r2 := (r1.but (butMap hgm) (fun k hk => by have hk : k = MC := hk; omega)).but ((But.refl (· = pc) wm).setCell (p := ⟨pc, 2, none⟩) (.inl rfl) v') (fun k hk => by have hk : k = pc := hk; omega)
  have hB1 : But (CS lo pc MC) wr w1 := (((But.refl _ wr).alloc _).drew).grown hg (fun k e => .inl (.inr (.inr (hown k e))))
  have hB2 : But (CS lo pc MC) wr (wm.setCell ⟨pc, 2, none⟩ v') := (hB1.trans ((butMap hgm).mono (fun k e => .inr (.inl e)))).setCell (.inl (.inl rfl)) _
  refine ⟨⟨?_, ?_, ?_, Nat.le_trans hlt hB2.size⟩, hB2⟩
  · have b1 := ((h.blk.alloc (.cells #[.string nm] 9)).drew.grown hg (fun e => by have := hown pc e.symm; omega)).grown hgm (by simp [hp3])
    exact b1.set_ 2 v'
  · rw [← strs_snoc] at r2
    exact r2
  · have := hm.but ((But.refl (· = pc) wm).setCell (p := ⟨pc, 2, none⟩) (.inl rfl) v') (fun e => hp3 e.symm)
    simp only [List.length_append, List.length_cons, List.length_nil]
    exact this
/-- .. one more that is there. -/
theorem Cl.place {lo pc MC d p : Nat} {L : List Lb} {u1 u2 u3 v1 v2 : Value} {S : Wk} {nm : ByteArray} {wr W1 w3 : World} (h : Cl lo pc MC L u1 u2 u3 S wr) (hp1 : pc < lo) (hp2 : MC < lo) (hp3 : pc ≠ MC) (hp : posL L nm = p)
    (hm : MapS MC (S.N.length + S.M.length + 1) (atF ⟨S.N ++ [nm], S.D ++ [d], S.M⟩) W1) (hgm : wr.grownBy W1 (some MC))
    (hr : R3 lo v1 v2 u3 (nints (S.N.map (posL L)) ++ [.int .i64 (p : Int)]) (nints S.D ++ [.int .i64 (d : Int)]) (strs S.M) w3) (hb : But (fun k => lo ≤ k) W1 w3) :
    Cl lo pc MC L v1 v2 u3 ⟨S.N ++ [nm], S.D ++ [d], S.M⟩ ((w3.setCell ⟨pc, 0, none⟩ v1).setCell ⟨pc, 1, none⟩ v2) ∧ But (CS lo pc MC) wr ((w3.setCell ⟨pc, 0, none⟩ v1).setCell ⟨pc, 1, none⟩ v2) := by
  have hlt := h.lt
  have hs : But (· = pc) w3 ((w3.setCell ⟨pc, 0, none⟩ v1).setCell ⟨pc, 1, none⟩ v2) := ((But.refl (· = pc) w3).setCell (p := ⟨pc, 0, none⟩) (.inl rfl) v1).setCell (p := ⟨pc, 1, none⟩) (.inl rfl) v2
  have hB2 : But (CS lo pc MC) wr ((w3.setCell ⟨pc, 0, none⟩ v1).setCell ⟨pc, 1, none⟩ v2) := (((butMap hgm).mono (fun k e => .inr (.inl e))).trans (hb.mono (fun k e => .inr (.inr e)))).trans (hs.mono (fun k e => .inl e))
  refine ⟨⟨?_, ?_, ?_, Nat.le_trans hlt hB2.size⟩, hB2⟩
  · have b1 := (h.blk.grown hgm (by simp [hp3])).but hb (by omega)
    exact (b1.set_ 0 v1).set_ 1 v2
  · have r2 := hr.but hs (fun k hk => by have hk : k = pc := hk; omega)
    show R3 lo v1 v2 u3 (nints ((S.N ++ [nm]).map (posL L))) (nints (S.D ++ [d])) (strs S.M) _
    rw [List.map_append, nints_snoc, show [nm].map (posL L) = [p] by rw [← hp]; rfl, nints_snoc]
    exact r2
  · have := (hm.but hb (by omega)).but hs (fun e => hp3 e.symm)
    simp only [List.length_append, List.length_cons, List.length_nil]
    rw [show S.N.length + (0 + 1) + S.M.length = S.N.length + S.M.length + 1 by omega]
    exact this
set_option maxRecDepth 100000 in
set_option maxHeartbeats 3200000 in
theorem meet_any (lo pc pf MC MF nF : Nat) (L : List Lb) (s : Wk) (v1 v2 v3 : Value) (names : List ByteArray) (A : Option Addr) (c d : Nat) (w : World)
    (hC : Cl lo pc MC L v1 v2 v3 s w) (hok : WOk L s) (hD : s.D.length = s.N.length) (hp1 : pc < lo) (hp2 : MC < lo) (hp3 : pc ≠ MC)
    (hA : ∀ v, But (CS lo pc MC) w v → StrRow v A names) (hF : ∀ v, But (CS lo pc MC) w v → v.cell? ⟨pf, 0, none⟩ = some (.map (some MF)) ∧ MapS MF nF (firstF L) v)
    (hl : names.length ≤ 100000) (hs : s.N.length + s.M.length ≤ 100000000) (hd : d ≤ 100000) (hL : L.length ≤ 1000) :
    Calls Try.prog 27 #[.slice A names.length c, .int .i64 d, .pointer (some ⟨pc, 0, none⟩), .pointer (some ⟨pf, 0, none⟩)] w
      fun e w' => e = .returned (.tuple #[]) ∧ (∃ u1 u2 u3, Cl lo pc MC L u1 u2 u3 (meetL L d s names) w') ∧ But (CS lo pc MC) w w' := by
  obtain ⟨i0, hi, hz0, hz1, hz2⟩ := info_parts infoInt
  obtain ⟨s0, hj, hs0, hs1, hs2⟩ := info_parts infoStr
  obtain ⟨n, hn⟩ : ∃ n, names.length = n := ⟨_, rfl⟩
  have HN := Lib.hid hn
  have HC := Lib.hid hC
  have HOK := Lib.hid (And.intro hok hD)
  have HA := Lib.hid hA
  have HF := Lib.hid hF
  rw [hn] at hl ⊢
  clear hn hC hA hF hok hD
  go_enter Try.func27, Try.ntmps27
  go_step3
  go_wp2_with fail
  go_step3
  go_wp2_with fail
  go_loopw [14] (fun i wr => ∃ (k : Nat) (u1 u2 u3 : Value), k ≤ n ∧ i = .int .i64 k ∧ Hid (Cl lo pc MC L u1 u2 u3 (meetL L d s (names.take k)) wr) ∧ Hid (But (CS lo pc MC) w wr)) (fun i _ => n - (intOf i).toNat)
  case atStart => exact ⟨0, v1, v2, v3, Nat.zero_le _, rfl, HC, Lib.hid (But.refl _ _)⟩
  case round =>
    obtain ⟨k, u1, u2, u3, hk, rfl, HCL, HBT⟩ := hrel
    by_cases hlt : k < n
    · have hk1 : k < names.length := by rw [HN.out]; exact hlt
      obtain ⟨ad, rfl, hblt, c0, hnm⟩ := (HA.out wr HBT.out) k hk1
      have hsn : meetL L d s (names.take (k + 1)) = meet1 L d (meetL L d s (names.take k)) names[k] := by rw [List.take_succ_eq_append_getElem hk1, meetL_snoc]
      have hwok := WOk.meets d (names.take k) s HOK.out.1
      have hsz := meetL_size L d (names.take k) s
      rw [List.length_take, Nat.min_eq_left (Nat.le_of_lt hk1)] at hsz
      obtain ⟨nm, hnme⟩ : ∃ nm, names[k] = nm := ⟨_, rfl⟩
      rw [hnme] at c0 hnm hsn
      obtain ⟨S, hS⟩ : ∃ S, meetL L d s (names.take k) = S := ⟨_, rfl⟩
      rw [hS] at hsn hwok hsz HCL
      have hszD := hsz.2 HOK.out.2
      have hszN := hsz.1
      obtain ⟨f0, hFM⟩ := HF.out wr HBT.out
      have x0 := HCL.out.blk.cell 0
      have x1 := HCL.out.blk.cell 1
      have x2 := HCL.out.blk.cell 2
      have x3 := HCL.out.blk.cell 3
      have hok := HCL.out.map.ok hnm
      have hk0 : (0 : Int) ≤ (k : Int) := by omega
      have hk2 : (k : Int) < (n : Int) := by omega
      obtain ⟨o, ho⟩ : ∃ o, atF S nm = o := ⟨_, rfl⟩
      rw [ho] at hok
      cases o with
      | some z =>
        rw [atF_known hwok ho d] at hsn
        have HS := Lib.hid (show Cl lo pc MC L u1 u2 u3 (meetL L d s (names.take (k + 1))) wr from by rw [hsn]; exact HCL.out)
        clear hsn hwok hsz hszD hszN hFM hS HCL hnme ho
        go_wp2_with fail
        go_roundw
        case rel => exact ⟨k + 1, u1, u2, u3, by omega, by go_num, HS, HBT⟩
        case measure => simp [intOf]; omega
      | none =>
        have hfo := hFM.ok hnm
        cases hth : there L nm with
        | false =>
          obtain ⟨e1, e2⟩ := atF_miss ho hth d
          rw [e1] at hsn
          have hfn : firstF L nm = none := by unfold firstF; rw [hth]; rfl
          rw [hfn] at hfo
          have hmz : Hid (∀ v, MapS MC (S.N.length + S.M.length) (atF S) v → ∃ v', (Instr.mapUpdate 47 (.map (some MC)) (.string nm) (.int .i64 (-1))).run Try.prog v = .ok () v' ∧ MapS MC (S.N.length + S.M.length + 1) (atF ⟨S.N, S.D, S.M ++ [nm]⟩) v' ∧ v.grownBy v' (some MC)) := Lib.hid (fun v hv => by
            obtain ⟨v', h1, h2, h3⟩ := hv.put (v := -1) (x := nm) (by unfold maxLen; omega) hnm (by decide)
            exact ⟨v', h1, h2.congr e2, h3⟩)
          have HSN := Lib.hid hsn
          obtain ⟨m, hm⟩ : ∃ m, S.M.length = m := ⟨_, rfl⟩
          have hm1 : m ≤ 100100000 := by omega
          have HM := Lib.hid hm
          have HO := Lib.hid (show wr.ownsRow lo 9 1 u3 m (strs S.M) from by have := HCL.out.rows.c; rw [strs_length, hm] at this; exact this)
          have HLT := Lib.hid HCL.out.lt
          have y2 : (wr.alloc (.cells #[.string nm] 9)).cell? ⟨pc, 2, none⟩ = some u3 := (HCL.out.blk.alloc _).cell 2
          have y3 : (wr.alloc (.cells #[.string nm] 9)).cell? ⟨pc, 3, none⟩ = some (.map (some MC)) := (HCL.out.blk.alloc _).cell 3
          clear hsn hwok hsz hszD hszN hFM hS hnme ho hth hfn e1 e2 hm
          go_wp2_with fail
          go_region_law (first
            | (refine step_append_lies _ (by rfl) _ _ _ (by rfl) lo 9 s0 _ 1 16 Try.underlying25 hj hs0 hs1 hs2 rfl (by decide) u3 m (strs S.M) (by rfl) (HO.out.alloc (.cells #[.string nm] 9)) ⟨wr.heap.size, 0, none⟩ 1 1 [.string nm] (by rfl) (by rfl) (World.news_of_block (cs := #[.string nm]) (t := 9) (fr := (0, 0)) (heap_alloc_new wr (.cells #[.string nm] 9))) (by simp [Value.oneCell']) (by omega) (by unfold maxLen; omega) (by omega) (by have := HLT.out; simp; omega) (wr.heap.size + 1) (by simp) ?_
               intro gg cap w1 hown1 hgrow hat hlt1
               have hne3 : ∀ k, k < lo → some k ≠ u3.ownBlock := fun k hk e => by have := (HO.out.lt k e.symm).1; omega
               obtain ⟨wm, hrun, hmm, hgm⟩ := hmz.out w1 ((((HCL.out.map.alloc _).drewN 1).grown hgrow (hne3 _ hp2)))
               have hbm := ((HCL.out.blk.alloc (.cells #[.string nm] 9)).drew.grown hgrow (hne3 _ hp1))
               have p2 := hbm.cell 2
               have p3 := hbm.cell 3
               have hbw := hbm.grown hgm (by simp [hp3])
               have q2 := hbw.cell 2
               have f2 := hbw.frozen 2
               have HFIN := Lib.hid (HCL.out.miss (v' := .slice (some ⟨gg, 0, none⟩) (m + 1) cap) hp1 hp2 hp3 (by rw [HM.out]; exact hown1) hgrow (by
                 rcases hat with h | h
                 · exact .inl h.symm
                 · exact .inr (by rw [h]; rfl)) hmm hgm)
               clear hown1 hgrow hat hbm hbw hmm hgm hne3))
          all_goals
            have HF2 := Lib.hid (show Cl lo pc MC L u1 u2 (.slice (some ⟨gg, 0, none⟩) (m + 1) cap) (meetL L d s (names.take (k + 1))) (wm.setCell ⟨pc, 2, none⟩ (.slice (some ⟨gg, 0, none⟩) (m + 1) cap)) ∧ But (CS lo pc MC) w (wm.setCell ⟨pc, 2, none⟩ (.slice (some ⟨gg, 0, none⟩) (m + 1) cap)) from by
              rw [HSN.out]
              exact ⟨HFIN.out.1, HBT.out.trans HFIN.out.2⟩)
            clear HFIN HSN hmz
            go_wp2_with fail
            go_roundw
            case rel => exact ⟨k + 1, u1, u2, _, by omega, by go_num, Lib.hid HF2.out.1, Lib.hid HF2.out.2⟩
            case measure => simp [intOf]; omega
        | true =>
          obtain ⟨e1, e2⟩ := atF_push ho hth d
          rw [e1] at hsn
          obtain ⟨p, hp⟩ : ∃ p, posL L nm = p := ⟨_, rfl⟩
          have hpl : p < 1000 := by
            have := (there_pos hth).1
            omega
          have hfn : firstF L nm = some (p : Int) := by unfold firstF; rw [hth, hp]; rfl
          rw [hfn] at hfo
          obtain ⟨q, hq⟩ : ∃ q, S.N.length = q := ⟨_, rfl⟩
          rw [hq] at e2
          obtain ⟨A1, cc1, hu1, -⟩ := own_atG HCL.out.rows.a
          obtain ⟨A2, cc2, hu2, -⟩ := own_atG HCL.out.rows.b
          rw [nints_length, List.length_map, hq] at hu1
          rw [nints_length, hszD, hq] at hu2
          subst hu1 hu2
          have hq1 : q ≤ 100100000 := by omega
          obtain ⟨W1, hrun, hmm, hgm⟩ := HCL.out.map.put (v := (q : Int)) (x := nm) (by unfold maxLen; omega) hnm (WalkArith.wf_i64 (by omega))
          have hmm2 := hmm.congr e2
          have HSN := Lib.hid hsn
          have HP := Lib.hid hp
          have hbt1 := butMap hgm
          have hblk1 := HCL.out.blk.grown hgm (by simp [hp3])
          have hr1 := HCL.out.rows.but hbt1 (fun k hk => by have hk : k = MC := hk; omega)
          have hlt1 := Nat.le_trans HCL.out.lt hbt1.size
          have HX := Lib.hid (And.intro hmm2 hgm)
          obtain ⟨X1, hX1⟩ : ∃ X, nints (S.N.map (posL L)) = X := ⟨_, rfl⟩
          obtain ⟨X2, hX2⟩ : ∃ X, nints S.D = X := ⟨_, rfl⟩
          obtain ⟨X3, hX3⟩ : ∃ X, strs S.M = X := ⟨_, rfl⟩
          have HXX := Lib.hid (And.intro hX1 (And.intro hX2 hX3))
          have HXL := Lib.hid (show X1.length = q ∧ X2.length = q from ⟨by rw [← hX1, nints_length, List.length_map, hq], by rw [← hX2, nints_length, hszD, hq]⟩)
          rw [hX1, hX2, hX3] at hr1
          have HR := Lib.hid hr1
          have HB1 := Lib.hid hblk1
          have HLT := Lib.hid hlt1
          have z0 := hblk1.cell 0
          have z1 := hblk1.cell 1
          clear hsn hwok hsz hszD hszN hFM hS hnme ho hth hfn e1 e2 hmm hmm2 hgm hbt1 hblk1 hr1 hlt1 hX1 hX2 hX3 hp hq
          go_wp2_with fail
          clear x0 x1 x2 x3 hok hfo f0 c0 hrun hnm HA HF HC HOK hpl hk0 hk2
          have z0a := cellA z0 (.cells #[.int .i64 (p : Int)] 3)
          have z0b := cellA z0 (.cells #[.int .i64 (d : Int)] 3)
          have z0c := cellA z0a (.cells #[.int .i64 (d : Int)] 3)
          have z0d := cellA z0b (.cells #[.int .i64 (p : Int)] 3)
          have z1a := cellA z1 (.cells #[.int .i64 (p : Int)] 3)
          have z1b := cellA z1 (.cells #[.int .i64 (d : Int)] 3)
          have z1c := cellA z1a (.cells #[.int .i64 (d : Int)] 3)
          have z1d := cellA z1b (.cells #[.int .i64 (p : Int)] 3)
          have HA0 := Lib.hid (show World.ownsRow W1 lo 3 1 (.slice A1 q cc1) q X1 from by have := HR.out.a; rw [HXL.out.1] at this; exact this)
          go_region_law (first
            | (refine step_append_lies _ (by rfl) _ _ _ (by rfl) lo 3 i0 _ 1 8 Try.underlying33 hi hz0 hz1 hz2 rfl (by decide) (.slice A1 q cc1) q X1 (by rfl) (HA0.out.alloc (.cells #[.int .i64 (p : Int)] 3) : World.ownsRow (W1.alloc (.cells #[.int .i64 (p : Int)] 3)) lo 3 1 (.slice A1 q cc1) q X1) ⟨W1.heap.size, 0, none⟩ 1 1 [.int .i64 (p : Int)] (by rfl) (by rfl) (World.news_of_block (cs := #[.int .i64 (p : Int)]) (t := 3) (fr := (0, 0)) (heap_alloc_new W1 (.cells #[.int .i64 (p : Int)] 3))) (by simp [Value.oneCell']) (by omega) (by unfold maxLen; omega) (by omega) (by have := HLT.out; simp; omega) (W1.heap.size + 1) (by simp) ?_
               intro gg cap w1 hown1 hgrow hat hlt1
               have hat2 : (Value.slice (some ⟨gg, 0, none⟩) (q + 1) cap).ownBlock = (Value.slice A1 q cc1).ownBlock ∨ (Value.slice (some ⟨gg, 0, none⟩) (q + 1) cap).ownBlock = some ((W1.alloc (.cells #[.int .i64 (p : Int)] 3)).drew : World).heap.size := by
                 rcases hat with h | h
                 · exact .inl h.symm
                 · exact .inr (by rw [h]; simp [Value.ownBlock])
               have HR1 := Lib.hid (HR.out.pushA (c2 := (W1.alloc (.cells #[.int .i64 (p : Int)] 3)).drew) (x := .int .i64 (p : Int)) (by exact ((Below.refl _ _).alloc (Nat.le_refl _) _).drew) (by rw [HXL.out.1]; exact hown1) hgrow hat2)
               have hbb := ((((But.refl (fun k => lo ≤ k) W1).alloc (.cells #[.int .i64 (p : Int)] 3)).drew).grown hgrow (fun k e => .inl (HR.out.a.lt k e).1))
               have HBB := Lib.hid hbb
               have HLW := Lib.hid (Nat.le_trans HLT.out hbb.size)
               have hbq := HB1.out.but hbb (by omega)
               have y0 := hbq.cell 0
               have y1 := hbq.cell 1
               have y0a := cellA y0 (.cells #[.int .i64 (d : Int)] 3)
               have y1a := cellA y1 (.cells #[.int .i64 (d : Int)] 3)
               have HBQ := Lib.hid hbq
               have HZ := HR1
               clear hown1 hgrow hat hat2 hbb hbq)
            | (refine step_append_lies _ (by rfl) _ _ _ (by rfl) lo 3 i0 _ 1 8 Try.underlying33 hi hz0 hz1 hz2 rfl (by decide) (.slice A1 q cc1) q X1 (by rfl) ((HA0.out.alloc (.cells #[.int .i64 (p : Int)] 3)).alloc (.cells #[.int .i64 (d : Int)] 3) : World.ownsRow ((W1.alloc (.cells #[.int .i64 (p : Int)] 3)).alloc (.cells #[.int .i64 (d : Int)] 3)) lo 3 1 (.slice A1 q cc1) q X1) ⟨W1.heap.size, 0, none⟩ 1 1 [.int .i64 (p : Int)] (by rfl) (by rfl) (World.news_of_block (cs := #[.int .i64 (p : Int)]) (t := 3) (fr := (0, 0)) ((Blk.new W1 3 #[.int .i64 (p : Int)]).alloc (.cells #[.int .i64 (d : Int)] 3))) (by simp [Value.oneCell']) (by omega) (by unfold maxLen; omega) (by omega) (by have := HLT.out; simp; omega) (W1.heap.size + 1 + 1) (by simp) ?_
               intro gg cap w1 hown1 hgrow hat hlt1
               have hat2 : (Value.slice (some ⟨gg, 0, none⟩) (q + 1) cap).ownBlock = (Value.slice A1 q cc1).ownBlock ∨ (Value.slice (some ⟨gg, 0, none⟩) (q + 1) cap).ownBlock = some (((W1.alloc (.cells #[.int .i64 (p : Int)] 3)).alloc (.cells #[.int .i64 (d : Int)] 3)).drew : World).heap.size := by
                 rcases hat with h | h
                 · exact .inl h.symm
                 · exact .inr (by rw [h]; simp [Value.ownBlock])
               have HR1 := Lib.hid (HR.out.pushA (c2 := ((W1.alloc (.cells #[.int .i64 (p : Int)] 3)).alloc (.cells #[.int .i64 (d : Int)] 3)).drew) (x := .int .i64 (p : Int)) (by exact (((Below.refl _ _).alloc (Nat.le_refl _) _).alloc (by simp) _).drew) (by rw [HXL.out.1]; exact hown1) hgrow hat2)
               have hbb := (((((But.refl (fun k => lo ≤ k) W1).alloc (.cells #[.int .i64 (p : Int)] 3)).alloc (.cells #[.int .i64 (d : Int)] 3)).drew).grown hgrow (fun k e => .inl (HR.out.a.lt k e).1))
               have HBB := Lib.hid hbb
               have HLW := Lib.hid (Nat.le_trans HLT.out hbb.size)
               have hbq := HB1.out.but hbb (by omega)
               have y0 := hbq.cell 0
               have y1 := hbq.cell 1
               have y0a := cellA y0 (.cells #[.int .i64 (d : Int)] 3)
               have y1a := cellA y1 (.cells #[.int .i64 (d : Int)] 3)
               have HBQ := Lib.hid hbq
               have HZ := Lib.hid (show Blk w1 (W1.heap.size + 1) 3 #[.int .i64 (d : Int)] from (blk_two W1 (.cells #[.int .i64 (p : Int)] 3) 3 #[.int .i64 (d : Int)]).drew.grown hgrow (fun e => by have := (HR.out.a.lt _ e.symm).2; omega))
               clear hown1 hgrow hat hat2 hbb hbq)
            | (refine step_append_lies _ (by rfl) _ _ _ (by rfl) lo 3 i0 _ 1 8 Try.underlying33 hi hz0 hz1 hz2 rfl (by decide) (.slice A1 q cc1) q X1 (by rfl) ((HA0.out.alloc (.cells #[.int .i64 (d : Int)] 3)).alloc (.cells #[.int .i64 (p : Int)] 3) : World.ownsRow ((W1.alloc (.cells #[.int .i64 (d : Int)] 3)).alloc (.cells #[.int .i64 (p : Int)] 3)) lo 3 1 (.slice A1 q cc1) q X1) ⟨W1.heap.size + 1, 0, none⟩ 1 1 [.int .i64 (p : Int)] (by rfl) (by rfl) (World.news_of_block (cs := #[.int .i64 (p : Int)]) (t := 3) (fr := (0, 0)) (blk_two W1 (.cells #[.int .i64 (d : Int)] 3) 3 #[.int .i64 (p : Int)])) (by simp [Value.oneCell']) (by omega) (by unfold maxLen; omega) (by omega) (by have := HLT.out; simp; omega) (W1.heap.size + 1 + 1) (by simp) ?_
               intro gg cap w1 hown1 hgrow hat hlt1
               have hat2 : (Value.slice (some ⟨gg, 0, none⟩) (q + 1) cap).ownBlock = (Value.slice A1 q cc1).ownBlock ∨ (Value.slice (some ⟨gg, 0, none⟩) (q + 1) cap).ownBlock = some (((W1.alloc (.cells #[.int .i64 (d : Int)] 3)).alloc (.cells #[.int .i64 (p : Int)] 3)).drew : World).heap.size := by
                 rcases hat with h | h
                 · exact .inl h.symm
                 · exact .inr (by rw [h]; simp [Value.ownBlock])
               have HR1 := Lib.hid (HR.out.pushA (c2 := ((W1.alloc (.cells #[.int .i64 (d : Int)] 3)).alloc (.cells #[.int .i64 (p : Int)] 3)).drew) (x := .int .i64 (p : Int)) (by exact (((Below.refl _ _).alloc (Nat.le_refl _) _).alloc (by simp) _).drew) (by rw [HXL.out.1]; exact hown1) hgrow hat2)
               have hbb := (((((But.refl (fun k => lo ≤ k) W1).alloc (.cells #[.int .i64 (d : Int)] 3)).alloc (.cells #[.int .i64 (p : Int)] 3)).drew).grown hgrow (fun k e => .inl (HR.out.a.lt k e).1))
               have HBB := Lib.hid hbb
               have HLW := Lib.hid (Nat.le_trans HLT.out hbb.size)
               have hbq := HB1.out.but hbb (by omega)
               have y0 := hbq.cell 0
               have y1 := hbq.cell 1
               have y0a := cellA y0 (.cells #[.int .i64 (d : Int)] 3)
               have y1a := cellA y1 (.cells #[.int .i64 (d : Int)] 3)
               have HBQ := Lib.hid hbq
               have HZ := Lib.hid (((Blk.new W1 3 #[.int .i64 (d : Int)]).alloc (.cells #[.int .i64 (p : Int)] 3)).drew.grown hgrow (fun e => by have := (HR.out.a.lt _ e.symm).2; omega))
               clear hown1 hgrow hat hat2 hbb hbq)
            | (refine step_append_lies _ (by rfl) _ _ _ (by rfl) lo 3 i0 _ 1 8 Try.underlying33 hi hz0 hz1 hz2 rfl (by decide) (.slice A2 q cc2) q X2 (by rfl) ((show World.ownsRow w1 lo 3 1 (.slice A2 q cc2) q X2 from by have := HR1.out.b; rw [HXL.out.2] at this; exact this).alloc (.cells #[.int .i64 (d : Int)] 3) : World.ownsRow (w1.alloc (.cells #[.int .i64 (d : Int)] 3)) lo 3 1 (.slice A2 q cc2) q X2) ⟨w1.heap.size, 0, none⟩ 1 1 [.int .i64 (d : Int)] (by rfl) (by rfl) (World.news_of_block (cs := #[.int .i64 (d : Int)]) (t := 3) (fr := (0, 0)) (heap_alloc_new w1 (.cells #[.int .i64 (d : Int)] 3))) (by simp [Value.oneCell']) (by omega) (by unfold maxLen; omega) (by omega) (by have := HLW.out; simp; omega) (w1.heap.size + 1) (by simp) ?_
               intro g2 cap2 w2 hown2 hgrow2 hat2 hlt2
               have hat3 : (Value.slice (some ⟨g2, 0, none⟩) (q + 1) cap2).ownBlock = (Value.slice A2 q cc2).ownBlock ∨ (Value.slice (some ⟨g2, 0, none⟩) (q + 1) cap2).ownBlock = some ((w1.alloc (.cells #[.int .i64 (d : Int)] 3)) : World).heap.size := by
                 rcases hat2 with h | h
                 · exact .inl h.symm
                 · exact .inr (by rw [h]; simp [Value.ownBlock])
               have HR2 := Lib.hid (HR1.out.pushB (c2 := (w1.alloc (.cells #[.int .i64 (d : Int)] 3))) (x := .int .i64 (d : Int)) (by exact (Below.refl _ _).alloc (Nat.le_refl _) _) (by rw [HXL.out.2]; exact hown2) hgrow2 hat3)
               have hbb := (HBB.out.alloc (.cells #[.int .i64 (d : Int)] 3)).grown hgrow2 (fun k e => .inl (HR1.out.b.lt k e).1)
               have HBB2 := Lib.hid hbb
               have hbq := HB1.out.but hbb (by omega)
               have k0 := hbq.cell 0
               have k1 := hbq.cell 1
               have f0' := hbq.frozen 0
               have f1' := hbq.frozen 1
               clear hown2 hgrow2 hat2 hat3 hbb hbq)
            | (refine step_append_lies _ (by rfl) _ _ _ (by rfl) lo 3 i0 _ 1 8 Try.underlying33 hi hz0 hz1 hz2 rfl (by decide) (.slice A2 q cc2) q X2 (by rfl) (show World.ownsRow w1 lo 3 1 (.slice A2 q cc2) q X2 from by have := HR1.out.b; rw [HXL.out.2] at this; exact this : World.ownsRow w1 lo 3 1 (.slice A2 q cc2) q X2) ⟨W1.heap.size + 1, 0, none⟩ 1 1 [.int .i64 (d : Int)] (by rfl) (by rfl) (World.news_of_block (cs := #[.int .i64 (d : Int)]) (t := 3) (fr := (0, 0)) (HZ.out)) (by simp [Value.oneCell']) (by omega) (by unfold maxLen; omega) (by omega) HLW.out (w1.heap.size) rfl ?_
               intro g2 cap2 w2 hown2 hgrow2 hat2 hlt2
               have hat3 : (Value.slice (some ⟨g2, 0, none⟩) (q + 1) cap2).ownBlock = (Value.slice A2 q cc2).ownBlock ∨ (Value.slice (some ⟨g2, 0, none⟩) (q + 1) cap2).ownBlock = some (w1 : World).heap.size := by
                 rcases hat2 with h | h
                 · exact .inl h.symm
                 · exact .inr (by rw [h]; simp [Value.ownBlock])
               have HR2 := Lib.hid (HR1.out.pushB (c2 := w1) (x := .int .i64 (d : Int)) (by exact Below.refl _ _) (by rw [HXL.out.2]; exact hown2) hgrow2 hat3)
               have hbb := (HBB.out).grown hgrow2 (fun k e => .inl (HR1.out.b.lt k e).1)
               have HBB2 := Lib.hid hbb
               have hbq := HB1.out.but hbb (by omega)
               have k0 := hbq.cell 0
               have k1 := hbq.cell 1
               have f0' := hbq.frozen 0
               have f1' := hbq.frozen 1
               clear hown2 hgrow2 hat2 hat3 hbb hbq)
            | (refine step_append_lies _ (by rfl) _ _ _ (by rfl) lo 3 i0 _ 1 8 Try.underlying33 hi hz0 hz1 hz2 rfl (by decide) (.slice A2 q cc2) q X2 (by rfl) (show World.ownsRow w1 lo 3 1 (.slice A2 q cc2) q X2 from by have := HR1.out.b; rw [HXL.out.2] at this; exact this : World.ownsRow w1 lo 3 1 (.slice A2 q cc2) q X2) ⟨W1.heap.size, 0, none⟩ 1 1 [.int .i64 (d : Int)] (by rfl) (by rfl) (World.news_of_block (cs := #[.int .i64 (d : Int)]) (t := 3) (fr := (0, 0)) (HZ.out)) (by simp [Value.oneCell']) (by omega) (by unfold maxLen; omega) (by omega) HLW.out (w1.heap.size) rfl ?_
               intro g2 cap2 w2 hown2 hgrow2 hat2 hlt2
               have hat3 : (Value.slice (some ⟨g2, 0, none⟩) (q + 1) cap2).ownBlock = (Value.slice A2 q cc2).ownBlock ∨ (Value.slice (some ⟨g2, 0, none⟩) (q + 1) cap2).ownBlock = some (w1 : World).heap.size := by
                 rcases hat2 with h | h
                 · exact .inl h.symm
                 · exact .inr (by rw [h]; simp [Value.ownBlock])
               have HR2 := Lib.hid (HR1.out.pushB (c2 := w1) (x := .int .i64 (d : Int)) (by exact Below.refl _ _) (by rw [HXL.out.2]; exact hown2) hgrow2 hat3)
               have hbb := (HBB.out).grown hgrow2 (fun k e => .inl (HR1.out.b.lt k e).1)
               have HBB2 := Lib.hid hbb
               have hbq := HB1.out.but hbb (by omega)
               have k0 := hbq.cell 0
               have k1 := hbq.cell 1
               have f0' := hbq.frozen 0
               have f1' := hbq.frozen 1
               clear hown2 hgrow2 hat2 hat3 hbb hbq))
          all_goals
            have HFIN := Lib.hid (HCL.out.place hp1 hp2 hp3 HP.out HX.out.1 HX.out.2 (by rw [HXX.out.1, HXX.out.2.1, HXX.out.2.2]; exact HR2.out) HBB2.out)
            have HF2 := Lib.hid (show Cl lo pc MC L (.slice (some ⟨gg, 0, none⟩) (q + 1) cap) (.slice (some ⟨g2, 0, none⟩) (q + 1) cap2) u3 (meetL L d s (names.take (k + 1))) ((w2.setCell ⟨pc, 0, none⟩ (.slice (some ⟨gg, 0, none⟩) (q + 1) cap)).setCell ⟨pc, 1, none⟩ (.slice (some ⟨g2, 0, none⟩) (q + 1) cap2)) ∧ But (CS lo pc MC) w ((w2.setCell ⟨pc, 0, none⟩ (.slice (some ⟨gg, 0, none⟩) (q + 1) cap)).setCell ⟨pc, 1, none⟩ (.slice (some ⟨g2, 0, none⟩) (q + 1) cap2)) from by
              rw [HSN.out]
              exact ⟨HFIN.out.1, HBT.out.trans HFIN.out.2⟩)
            clear HFIN HSN HX HXX HP
            go_wp2_with fail
            go_roundw
            case rel => exact ⟨k + 1, _, _, u3, by omega, by go_num, Lib.hid HF2.out.1, Lib.hid HF2.out.2⟩
            case measure => simp [intOf]; omega
    · obtain rfl : k = n := by omega
      have HS := Lib.hid (show Cl lo pc MC L u1 u2 u3 (meetL L d s names) wr from by
        have := HCL.out
        rw [List.take_of_length_le (by rw [HN.out]; exact Nat.le_refl _)] at this
        exact this)
      go_wp2
      rw [Exit.noGoto_normal]
      go_end0
      exact ⟨rfl, ⟨u1, u2, u3, HS.out⟩, HBT.out⟩
end Go.Proofs.Ytmkaehnekhejmaa
