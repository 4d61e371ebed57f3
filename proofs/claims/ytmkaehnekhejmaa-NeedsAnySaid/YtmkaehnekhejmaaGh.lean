/- Package needs: gather, whole. -/
import Derived.Test.YtmkaehnekhejmaaGg
import Derived.Laws.EntriesVeiled
namespace Go.Proofs.Ytmkaehnekhejmaa
open Go.RowKit
set_option linter.unusedVariables false
set_option linter.unusedSimpArgs false

/-- Six blocks, one behind the other. -/
theorem six (v : World) (c0 c1 c2 c3 c4 c5 : Array Value) (t0 t1 t2 t3 t4 t5 : TypeId) (C : Nat) (hC : v.heap.size = C) (W5 : World) (hW : (((((v.alloc (.cells c0 t0)).alloc (.cells c1 t1)).alloc (.cells c2 t2)).alloc (.cells c3 t3)).alloc (.cells c4 t4)) = W5) :
    (Blk (W5.alloc (.cells c5 t5)) C t0 c0 ∧ Blk (W5.alloc (.cells c5 t5)) (C + 1) t1 c1 ∧ Blk (W5.alloc (.cells c5 t5)) (C + 2) t2 c2 ∧ Blk (W5.alloc (.cells c5 t5)) (C + 3) t3 c3 ∧ Blk (W5.alloc (.cells c5 t5)) (C + 4) t4 c4 ∧ Blk (W5.alloc (.cells c5 t5)) (C + 5) t5 c5) ∧
    (W5.cell? ⟨C + 2, 0, none⟩ = c2[0]? ∧ W5.heap.size = C + 5 ∧ Below C v (W5.alloc (.cells c5 t5)) ∧ (W5.alloc (.cells c5 t5)).heap.size = C + 6) := by
  subst hW hC
  have b0 := Blk.new v t0 c0
  have b1 := Blk.new (v.alloc (.cells c0 t0)) t1 c1
  have b2 := Blk.new ((v.alloc (.cells c0 t0)).alloc (.cells c1 t1)) t2 c2
  have b3 := Blk.new (((v.alloc (.cells c0 t0)).alloc (.cells c1 t1)).alloc (.cells c2 t2)) t3 c3
  have b4 := Blk.new ((((v.alloc (.cells c0 t0)).alloc (.cells c1 t1)).alloc (.cells c2 t2)).alloc (.cells c3 t3)) t4 c4
  have b5 := Blk.new (((((v.alloc (.cells c0 t0)).alloc (.cells c1 t1)).alloc (.cells c2 t2)).alloc (.cells c3 t3)).alloc (.cells c4 t4)) t5 c5
  simp only [World.size_alloc] at b1 b2 b3 b4 b5
  refine ⟨⟨((((b0.alloc _).alloc _).alloc _).alloc _).alloc _, (((b1.alloc _).alloc _).alloc _).alloc _, ((b2.alloc _).alloc _).alloc _, (b3.alloc _).alloc _, b4.alloc _, b5⟩, ?_, by simp, ?_, by simp⟩
  · exact ((b2.alloc _).alloc _).cell 0
  · exact ((((((Below.refl _ _).alloc (Nat.le_refl _) _).alloc (by simp) _).alloc (by simp; omega) _).alloc (by simp; omega) _).alloc (by simp; omega) _).alloc (by simp; omega) _
theorem blk4 {w : World} {g : Nat} {t : TypeId} {x0 x1 x2 x3 : Value} (h : Blk w g t #[x0, x1, x2, x3]) (a0 a1 a2 a3 : Value) :
    Blk ((((w.setCell ⟨g, 0, none⟩ a0).setCell ⟨g, 1, none⟩ a1).setCell ⟨g, 2, none⟩ a2).setCell ⟨g, 3, none⟩ a3) g t #[a0, a1, a2, a3] := by
  have h1 := ((((h.set_ 0 a0).set_ 1 a1).set_ 2 a2).set_ 3 a3)
  simpa only [List.setIfInBounds_toArray, List.set_cons_zero, List.set_cons_succ] using h1
theorem but4 (w : World) (g : Nat) (a0 a1 a2 a3 : Value) : But (· = g) w ((((w.setCell ⟨g, 0, none⟩ a0).setCell ⟨g, 1, none⟩ a1).setCell ⟨g, 2, none⟩ a2).setCell ⟨g, 3, none⟩ a3) :=
  ((((But.refl (· = g) w).setCell (p := ⟨g, 0, none⟩) (.inl rfl) a0).setCell (p := ⟨g, 1, none⟩) (.inl rfl) a1).setCell (p := ⟨g, 2, none⟩) (.inl rfl) a2).setCell (p := ⟨g, 3, none⟩) (.inl rfl) a3
/-- A closure was told. -/
def GathET (L : List Lb) (r : ByteArray) (w : World) (e : Ending) (w' : World) : Prop := ∃ v1 v2 v3 MC lo, e = .returned (.agg #[v1, v2, v3, .map (some MC)]) ∧
  R3 lo v1 v2 v3 (nints ((cloW L r).N.map (posL L))) (nints (cloW L r).D) (strs (cloW L r).M) w' ∧ MapS MC ((cloW L r).N.length + (cloW L r).M.length) (atF (cloW L r)) w' ∧ w.heap.size ≤ lo ∧ w.heap.size ≤ MC ∧ MC < lo ∧ lo ≤ w'.heap.size ∧ Below w.heap.size w w'
set_option maxRecDepth 100000 in
set_option maxHeartbeats 3200000 in
theorem gather_any (L : List Lb) (r : ByteArray) (A : Option Addr) (c : Nat) (w : World) (h : LibRow w A L) (hL : L.length ≤ 255) (hr : r.size ≤ maxLen) :
    Calls Try.prog 19 #[.slice A L.length c, .string r] w (GathET L r w) := by
  have hmf : ∀ (fn : Fn) (first cap : Array Value) (w : World), (Instr.makeFunc fn first cap).run Try.prog w = .ok (.func fn first cap) w := fun _ _ _ _ => rfl
  have hmm := @run_makeMap Try.prog
  obtain ⟨n, hn⟩ : ∃ n, L.length = n := ⟨_, rfl⟩
  obtain ⟨R, hR⟩ : ∃ R, w.heap.size = R := ⟨_, rfl⟩
  have hFI := fun v (hv : Below R w v) => firsts_any L A c v (h.below hR.symm hv) (by omega)
  rw [hn] at hFI hL ⊢
  have HFI := Lib.hid hFI
  have HN := Lib.hid (And.intro hn hR)
  have H := Lib.hid h
  obtain ⟨W1, hW1⟩ : ∃ W1, ((w.alloc (.cells #[.slice A n c] 22)).alloc (.cells #[.slice none 0 0, .slice none 0 0, .slice none 0 0, .map none] 49)).alloc (.map #[] 0) = W1 := ⟨_, rfl⟩
  have HW1 := Lib.hid (show Blk W1 R 22 #[.slice A n c] ∧ Blk W1 (R + 1) 49 #[.slice none 0 0, .slice none 0 0, .slice none 0 0, .map none] ∧ MapS (R + 2) 0 (fun _ => none) W1 ∧ Below R w W1 ∧ W1.heap.size = R + 3 from by
    rw [← hW1, ← hR]
    refine ⟨((Blk.new w _ _).alloc _).alloc _, (blk_two w _ _ _).alloc _, ?_, (((Below.refl _ _).alloc (Nat.le_refl _) _).alloc (by simp) _).alloc (by simp; omega) _, by simp⟩
    have := MapS.made ((w.alloc (.cells #[.slice A w.heap.size c] 22)).alloc (.cells #[.slice none 0 0, .slice none 0 0, .slice none 0 0, .map none] 49))
    have h2 := MapS.made ((w.alloc (.cells #[.slice A n c] 22)).alloc (.cells #[.slice none 0 0, .slice none 0 0, .slice none 0 0, .map none] 49))
    rw [World.size_alloc, World.size_alloc] at h2
    exact h2)
  have HE := Lib.hid hW1
  have y0 : W1.cell? ⟨R, 0, none⟩ = some (.slice A n c) := HW1.out.1.cell 0
  clear hFI hn h hW1
  go_enter Try.func19, Try.ntmps19
  go_upto_region 6 with (first
    | (rw [HE.out])
    | (go_at_call 26; refine (HFI.out _ HW1.out.2.2.2.1).mono ?_; rintro e v1 ⟨MF, nF, rfl, hmap, hnF, hMF, hb1⟩))
  generalize hC : v1.heap.size = C at *
  obtain ⟨F27, hF27⟩ : ∃ F, Value.func (.func 27) #[] #[.pointer (some ⟨C, 0, none⟩), .pointer (some ⟨C + 1, 0, none⟩)] = F := ⟨_, rfl⟩
  obtain ⟨F28, hF28⟩ : ∃ F, Value.func (.func 28) #[] #[.pointer (some ⟨C + 1 + 1 + 1, 0, none⟩), .pointer (some ⟨C, 0, none⟩), .pointer (some ⟨C + 1 + 1 + 1 + 1, 0, none⟩), .pointer (some ⟨C + 1 + 1, 0, none⟩), .pointer (some ⟨R, 0, none⟩)] = F := ⟨_, rfl⟩
  generalize hW5 : (((((v1.alloc (.cells #[.slice none 0 0, .slice none 0 0, .slice none 0 0, .map (some (R + 1 + 1))] 49)).alloc (.cells #[.map (some MF)] 47)).alloc (.cells #[Value.func (.func 27) #[] #[.pointer (some ⟨C, 0, none⟩), .pointer (some ⟨C + 1, 0, none⟩)]] 58)).alloc (.cells #[.int .i64 0] 3)).alloc (.cells #[Value.func (.func 28) #[] #[.pointer (some ⟨C + 1 + 1 + 1, 0, none⟩), .pointer (some ⟨C, 0, none⟩), .pointer (some ⟨C + 1 + 1 + 1 + 1, 0, none⟩), .pointer (some ⟨C + 1 + 1, 0, none⟩), .pointer (some ⟨R, 0, none⟩)]] 54)) = W5
  obtain ⟨⟨s0, s1, s2, s3, s4, s5⟩, p2, psz, pbl, psz6⟩ := six v1 _ _ _ _ _ #[.string r] _ _ _ _ _ 9 C hC W5 hW5
  clear hF27 hF28 hW5
  have hMFl := hmap.lt
  rw [hC] at hMFl
  obtain ⟨w1a, w1b, w1c, w1d, w1e⟩ := HW1.out
  rw [w1e] at hMF hb1
  have hC3 : R + 3 ≤ C := by rw [← hC, ← w1e]; exact hb1.size
  obtain ⟨W6, hW6⟩ : ∃ W6, W5.alloc (.cells #[.string r] 9) = W6 := ⟨_, rfl⟩
  rw [hW6] at s0 s1 s2 s3 s4 s5 pbl psz6
  have hb16 : Below (R + 3) W1 W6 := hb1.trans (pbl.mono hC3)
  have q0 := w1a.below hb16 (by omega)
  have q1 := w1b.below hb16 (by omega)
  have q2 := w1c.below hb16 (by omega)
  have q3 : Below R w W6 := w1d.trans (hb16.mono (by omega))
  have q4 := hmap.below pbl (by omega)
  have hcl : Cl (C + 6) C (R + 2) L (.slice none 0 0) (.slice none 0 0) (.slice none 0 0) ⟨[], [], []⟩ W6 := ⟨s0, R3.start _ _, q2.congr (fun y => rfl), by omega⟩
  have hme := meet_any (C + 6) C (C + 1) (R + 2) MF nF L ⟨[], [], []⟩ _ _ _ [r] (some ⟨C + 5, 0, none⟩) 1 0 W6 hcl (WOk.start L) rfl (by omega) (by omega) (by omega)
    (fun u hu i hi => by
      obtain rfl : i = 0 := by simp at hi; omega
      have b5 := s5.but hu (fun h => by rcases h with h | h | h <;> omega)
      exact ⟨_, rfl, b5.lt, b5.cell 0, hr⟩)
    (fun u hu => ⟨(s1.but hu (fun h => by rcases h with h | h | h <;> omega)).cell 0, q4.but hu (fun h => by rcases h with h | h | h <;> omega)⟩)
    (by simp) (by simp) (by omega) (by rw [HN.out.1]; omega)
  have HME : Hid (∀ v, v = W6 → Calls Try.prog 27 #[.slice (some ⟨C + 5, 0, none⟩) 1 1, .int .i64 0, .pointer (some ⟨C, 0, none⟩), .pointer (some ⟨C + 1, 0, none⟩)] v fun e w' => e = .returned (.tuple #[]) ∧ (∃ u1 u2 u3, Cl (C + 6) C (R + 2) L u1 u2 u3 (startW L r) w') ∧ But (CS (C + 6) C (R + 2)) W6 w') := Lib.hid (fun v hv => by subst hv; exact hme)
  have hKK : ∀ v, But (GS (C + 6) C (R + 2) (C + 3)) W6 v → Below w.heap.size w v ∧ v.cell? ⟨C + 1, 0, none⟩ = some (.map (some MF)) ∧ MapS MF nF (firstF L) v ∧ v.cell? ⟨R, 0, none⟩ = some (.slice A L.length c) ∧
      v.cell? ⟨C + 2, 0, none⟩ = some (.func (.func 27) #[] #[.pointer (some ⟨C, 0, none⟩), .pointer (some ⟨C + 1, 0, none⟩)]) ∧
      v.cell? ⟨C + 4, 0, none⟩ = some (.func (.func 28) #[] #[.pointer (some ⟨C + 3, 0, none⟩), .pointer (some ⟨C, 0, none⟩), .pointer (some ⟨C + 4, 0, none⟩), .pointer (some ⟨C + 2, 0, none⟩), .pointer (some ⟨R, 0, none⟩)]) := fun v hv =>
    ⟨by rw [HN.out.2]; exact q3.trans (hv.below (by omega) (fun k hk => by rcases hk with h | h | h | h <;> omega)),
     (s1.but hv (fun h => by rcases h with h | h | h | h <;> omega)).cell 0, q4.but hv (fun h => by rcases h with h | h | h | h <;> omega),
     by rw [HN.out.1]; exact (q0.but hv (fun h => by rcases h with h | h | h | h <;> omega)).cell 0,
     (s2.but hv (fun h => by rcases h with h | h | h | h <;> omega)).cell 0, (s4.but hv (fun h => by rcases h with h | h | h | h <;> omega)).cell 0⟩
  have HGO := Lib.hid (goOver_any w W6 (C + 6) C (R + 2) (C + 3) (C + 1) MF nF (C + 4) (C + 2) R L r A c (by omega) (by omega) (by omega) (by omega) (by omega) (by omega) (by rw [HN.out.1]; exact hL) H.out
    (fun b hb => by
      obtain ⟨i, hi, rfl⟩ := List.getElem_of_mem hb
      obtain ⟨_, _, _, _, _, h3⟩ := H.out i hi
      exact h3.len) hKK (lenB n) (by have := lenB_le (n := n) (by omega); omega))
  have HK := Lib.hid hKK
  have HG1 := Lib.hid (fun w2 (u1 u2 u3 : Value) (hc : Cl (C + 6) C (R + 2) L u1 u2 u3 (startW L r) w2) (hb : But (CS (C + 6) C (R + 2)) W6 w2) =>
    show Go1 W6 (C + 6) C (R + 2) (C + 3) L r (startW L r, 0) w2 from
    ⟨⟨u1, u2, u3, hc⟩, s3.but hb (fun h => by rcases h with h | h | h <;> omega), hb.mono (fun k hk => by rcases hk with h | h | h; exact .inl h; exact .inr (.inl h); exact .inr (.inr (.inr h))), Inv.start L r, Bd.start L r⟩)
  have HQ1 := Lib.hid (And.intro q1 q3)
  have HW6 := Lib.hid hW6
  clear s0 s1 s2 s3 s4 s5 q0 q1 q2 q4 q3 hcl hme hb16 hKK hmap hb1 pbl w1a w1b w1c w1d hC psz6 hW6
  go_upto_region 7 with (first
    | (rw [HW6.out])
    | (go_at_call 27; refine (HME.out _ (by first | exact HW6.out | rfl)).mono ?_; rintro e w2 ⟨rfl, ⟨u1, u2, u3, hc2⟩, hbt2⟩))
  have hg1 := HG1.out w2 u1 u2 u3 hc2 hbt2
  have hfc : Hid (∀ q, (w2.drewN q).cell? ⟨R, 0, none⟩ = some (.slice A n c) ∧ (w2.drewN q).cell? ⟨C + 1 + 1 + 1 + 1, 0, none⟩ = some (.func (.func 28) #[] #[.pointer (some ⟨C + 1 + 1 + 1, 0, none⟩), .pointer (some ⟨C, 0, none⟩), .pointer (some ⟨C + 1 + 1 + 1 + 1, 0, none⟩), .pointer (some ⟨C + 1 + 1, 0, none⟩), .pointer (some ⟨R, 0, none⟩)]) ∧ Go1 W6 (C + 6) C (R + 2) (C + 3) L r (startW L r, 0) (w2.drewN q)) := Lib.hid (fun q => by
    obtain ⟨-, -, -, h3, -, h5⟩ := HK.out (w2.drewN q) (hg1.but.drewN q)
    rw [HN.out.1] at h3
    refine ⟨h3, h5, ?_⟩
    obtain ⟨⟨v1, v2, v3, hcl⟩, hgo, hbt, hinv, hbd⟩ := hg1
    exact ⟨⟨v1, v2, v3, hcl.off ((But.refl (fun _ => False) w2).drewN q) (fun h => h) (fun h => h) (fun _ h => h.elim)⟩, hgo.drewN q, hbt.drewN q, hinv, hbd⟩)
  have hrun := run_clo L r (2 ^ lenB n) (by rw [HN.out.1]; exact lenB_lt n)
  have HGO2 : Hid (∀ w, Go1 W6 (C + 6) C (R + 2) (C + 3) L r (startW L r, 0) w → Calls Try.prog 28 #[.int .i64 (lenB n : Nat), .pointer (some ⟨C + 1 + 1 + 1, 0, none⟩), .pointer (some ⟨C, 0, none⟩), .pointer (some ⟨C + 1 + 1 + 1 + 1, 0, none⟩), .pointer (some ⟨C + 1 + 1, 0, none⟩), .pointer (some ⟨R, 0, none⟩)] w fun e w' => e = .returned (.tuple #[]) ∧ Go1 W6 (C + 6) C (R + 2) (C + 3) L r (cloW L r, (cloW L r).N.length) w') := Lib.hid (fun w hw => by
    have := HGO.out (startW L r, 0) w hw
    rw [hrun] at this
    exact this)
  obtain ⟨z0, z1, -⟩ := hfc.out 0
  obtain ⟨z2, z3, HZ1⟩ := hfc.out 1
  rw [World.drewN_zero] at z0 z1
  have hn0 : (0 : Int) ≤ (n : Int) := by omega
  have hLE := fun v => len_any (n : Int) v hn0 (by omega)
  rw [Int.toNat_natCast] at hLE
  have HLE := Lib.hid hLE
  have hcv : IntKind.u64.wrap (n : Int) = n := by
    have e : IntKind.u64.wrap (n : Int) = (n : Int) % 18446744073709551616 := rfl
    rw [e]; omega
  have HZ := Lib.hid HZ1
  have z2' : w2.drew.cell? ⟨R, 0, none⟩ = _ := z2
  have z3' : w2.drew.cell? ⟨C + 1 + 1 + 1 + 1, 0, none⟩ = _ := z3
  generalize lenB n = LB at *
  clear hg1 hrun hLE HZ1 hc2 hbt2 HG1 HME HGO hfc z2 z3
  go_region_with (first
    | (go_at_call 29; refine (HLE.out _).mono ?_; rintro e w' ⟨rfl, rfl⟩)
    | (go_at_call 28; refine (HGO2.out _ HZ.out).mono ?_; rintro e w3 ⟨rfl, hg3⟩; have HG3 := Lib.hid hg3; clear hg3))
  all_goals
    obtain ⟨⟨x1, x2, x3, hcl⟩, -, hbt, -, -⟩ := HG3.out
    simp only at hcl
    obtain ⟨A1, cc1, hx1, -⟩ := own_atG hcl.rows.a
    obtain ⟨A2, cc2, hx2, -⟩ := own_atG hcl.rows.b
    obtain ⟨A3, cc3, hx3, -⟩ := own_atG hcl.rows.c
    generalize (nints ((cloW L r).N.map (posL L))).length = n1 at hx1
    generalize (nints (cloW L r).D).length = n2 at hx2
    generalize (strs (cloW L r).M).length = n3 at hx3
    subst hx1 hx2 hx3
    have k0 := hcl.blk.cell 0
    have k1 := hcl.blk.cell 1
    have k2 := hcl.blk.cell 2
    have k3 := hcl.blk.cell 3
    have q1 := HQ1.out.1.but hbt (fun h => by rcases h with h | h | h | h <;> omega)
    have e0 := q1.cell 0
    have e1 := q1.cell 1
    have e2 := q1.cell 2
    have e3 := q1.cell 3
    have f0 := q1.frozen 0
    have f1 := q1.frozen 1
    have f2 := q1.frozen 2
    have f3 := q1.frozen 3
    have HR := Lib.hid (hcl.rows.but (but4 w3 (R + 1) (.slice A1 n1 cc1) (.slice A2 n2 cc2) (.slice A3 n3 cc3) (.map (some (R + 2)))) (fun k hk => by have hk : k = R + 1 := hk; omega))
    have HM := Lib.hid (hcl.map.but (but4 w3 (R + 1) (.slice A1 n1 cc1) (.slice A2 n2 cc2) (.slice A3 n3 cc3) (.map (some (R + 2)))) (fun hk => by have hk : R + 2 = R + 1 := hk; omega))
    have HB := Lib.hid (blk4 q1 (.slice A1 n1 cc1) (.slice A2 n2 cc2) (.slice A3 n3 cc3) (.map (some (R + 2))))
    have HBW := Lib.hid (show Below R w w3 from HQ1.out.2.trans (hbt.below (by have := HQ1.out.2.size; omega) (fun k hk => by rcases hk with h | h | h | h <;> omega)))
    have HBF := Lib.hid (show Below R w ((((w3.setCell ⟨R + 1, 0, none⟩ (.slice A1 n1 cc1)).setCell ⟨R + 1, 1, none⟩ (.slice A2 n2 cc2)).setCell ⟨R + 1, 2, none⟩ (.slice A3 n3 cc3)).setCell ⟨R + 1, 3, none⟩ (.map (some (R + 2)))) from HBW.out.trans ((but4 w3 (R + 1) (.slice A1 n1 cc1) (.slice A2 n2 cc2) (.slice A3 n3 cc3) (.map (some (R + 2)))).below (by have := HBW.out.size; have := HN.out.2; omega) (fun k hk => by have hk : k = R + 1 := hk; omega)))
    have HLT := Lib.hid (Nat.le_trans hcl.lt (but4 w3 (R + 1) (.slice A1 n1 cc1) (.slice A2 n2 cc2) (.slice A3 n3 cc3) (.map (some (R + 2)))).size)
    clear hcl hbt q1 z0 z1 z2' z3' HGO2 HK HZ HLE
    go_wp2_with fail
    have HR2 := HR.out
    have HM2 := HM.out
    have HB2 := HB.out
    have HBF2 := HBF.out
    have HLT2 := HLT.out
    generalize World.setCell _ _ _ = W9 at *
    refine bodyPost_ret (results_cell_row rfl _ _ (R + 1) 49 _ (0, 0) _ rfl HB2 Try.underlying49 rfl (by kernel_rfl)) rfl ?_
    exact ⟨_, _, _, R + 2, C + 6, rfl, HR2, HM2, by rw [HN.out.2]; omega, by rw [HN.out.2]; omega, by omega, HLT2, by rw [HN.out.2]; exact HBF2⟩
end Go.Proofs.Ytmkaehnekhejmaa
