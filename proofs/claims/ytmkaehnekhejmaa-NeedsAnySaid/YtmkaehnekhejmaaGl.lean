/- Package needs: Round. -/
import Derived.Test.YtmkaehnekhejmaaGk
namespace Go.Proofs.Ytmkaehnekhejmaa
open Go.RowKit
set_option linter.unusedVariables false
set_option linter.unusedSimpArgs false

theorem edW_idx (L : List Lb) (N : List ByteArray) (i : Nat) (h : i < N.length) : edW L N i = idxL N (needOf L N[i]) := by
  unfold edW idxL
  rw [show N.getD i default = N[i] by rw [List.getD_eq_getElem?_getD, List.getElem?_eq_getElem h]; rfl]
theorem own_empty {w : World} {H : Nat} {t : TypeId} (h : Blk w H t #[]) : w.ownsRow H t 1 (.slice (some ⟨H, 0, none⟩) 0 0) 0 [] :=
  ⟨rfl, .inr ⟨H, 0, #[], rfl, Nat.le_refl _, h, Nat.le_refl _, Nat.zero_le _, rfl, rfl⟩⟩
theorem urow_zero (n : Nat) : icells (List.replicate n 0) = urow (fun _ => 0) n := by
  apply Array.ext_getElem?
  intro i
  by_cases hi : i < n
  · rw [urow_at hi]
    simp [icells, hi]
  · rw [Array.getElem?_eq_none (by simp [icells]; omega), Array.getElem?_eq_none (by simp [urow]; omega)]
/-- Who has no users, of the first k. -/
def freeL (E : Nat → List Nat) (n k : Nat) : List Nat := (List.range k).filter fun j => decide (cntB E n j = 0)
theorem freeL_succ (E : Nat → List Nat) (n k : Nat) : freeL E n (k + 1) = if cntB E n k = 0 then freeL E n k ++ [k] else freeL E n k := by
  unfold freeL
  rw [List.range_succ, List.filter_append]
  by_cases h : cntB E n k = 0 <;> simp [h]
theorem freeL_len (E : Nat → List Nat) (n k : Nat) : (freeL E n k).length ≤ k := by
  have := List.length_filter_le (fun j => decide (cntB E n j = 0)) (List.range k)
  unfold freeL
  simpa using this

theorem remU_le (E : Nat → List Nat) (P : List Nat) (j : Nat) : ∀ n, remU E P n j ≤ cntB E n j
  | 0 => Nat.le_refl _
  | n + 1 => by
    unfold remU cntB
    have := remU_le E P j n
    split <;> omega
theorem idxL_len (N l : List ByteArray) : (idxL N l).length ≤ l.length := List.length_filterMap_le _ _
/-- One more is free. -/
theorem Uf.push {H gU pu pfr n j nf c2 : Nat} {f : Nat → Nat} {F : List Nat} {W w1 : World} {vF : Value} {A2 : Option Addr} (h : Uf H gU pu pfr n f F W) (hg : gU < H) (hp2 : pu ≠ pfr) (hp3 : pu < H) (hgf : gU ≠ pfr)
    (hbf : Blk W pfr 33 #[vF]) (how : W.ownsRow H 3 1 vF nf (nints F)) (hne : vF.ownBlock ≠ some pfr) (hnf : F.length = nf)
    (hown1 : w1.ownsRow H 3 1 (.slice A2 (nf + 1) c2) (nf + 1) (nints F ++ [.int .i64 (j : Int)])) (hgrow1 : (W.alloc (.cells #[.int .i64 (j : Int)] 3)).grownBy w1 vF.ownBlock)
    (hat1 : (Value.slice A2 (nf + 1) c2).ownBlock = vF.ownBlock ∨ (Value.slice A2 (nf + 1) c2).ownBlock = some (W.alloc (.cells #[.int .i64 (j : Int)] 3)).heap.size) :
    Uf H gU pu pfr n f (F ++ [j]) (w1.setCell ⟨pfr, 0, none⟩ (.slice A2 (nf + 1) c2)) ∧ But (US H gU pfr) W (w1.setCell ⟨pfr, 0, none⟩ (.slice A2 (nf + 1) c2)) ∧ w1.cell? ⟨pfr, 0, none⟩ = some vF ∧ w1.frozen? ⟨pfr, 0, none⟩ = false := by
  have hg2 : ∀ k, vF.ownBlock = some k → H ≤ k := fun k hk => (how.lt k hk).1
  have b1 := (hbf.alloc (.cells #[.int .i64 (j : Int)] 3)).grown hgrow1 (fun e => hne e.symm)
  have hag : But (fun k => vF.ownBlock = some k) W w1 := ((But.refl _ W).alloc (.cells #[.int .i64 (j : Int)] 3)).grown hgrow1 (fun k e => .inl e)
  have hUB : But (US H gU pfr) W w1 := hag.mono (fun k e => .inr (.inr (hg2 k e)))
  have hne2 : (Value.slice A2 (nf + 1) c2).ownBlock ≠ some pfr := by
    rcases hat1 with h | h
    · rw [h]; exact hne
    · rw [h]
      intro e
      injection e with e
      have := hbf.lt
      simp at e
      omega
  have hs : But (· = pfr) w1 (w1.setCell ⟨pfr, 0, none⟩ (.slice A2 (nf + 1) c2)) := (But.refl (· = pfr) w1).setCell (p := ⟨pfr, 0, none⟩) (.inl rfl) _
  refine ⟨⟨(h.row.but hag (fun e => by have := hg2 gU e; omega)).but hs (fun e => hgf e), ?_, ⟨_, by simpa using b1.set_ 0 (.slice A2 (nf + 1) c2), ?_, hne2⟩, ?_⟩, hUB.setCell (.inl (.inr (.inl rfl))) _, b1.cell 0, b1.frozen 0⟩
  · have hpu := h.pu
    have h1 : w1.cell? ⟨pu, 0, none⟩ = W.cell? ⟨pu, 0, none⟩ := by
      have hlt : pu < W.heap.size := World.block_lt_of_cell? W _ hpu
      have := hag.block pu hlt (fun e => by have := hg2 pu e; omega)
      unfold World.cell?
      simp only [this]
    rw [World.cell?_setCell_far w1 ⟨pfr, 0, none⟩ ⟨pu, 0, none⟩ _ (fun e => hp2 e.symm), h1]
    exact hpu
  · rw [nints_snoc, List.length_append, hnf]
    refine own_butG hown1 hs (fun k hk e => hne2 ?_)
    have e : k = pfr := e
    rw [← e]; exact hk
  · have h1 := hUB.size
    have h2 := hs.size
    have h3 := h.lt
    omega
set_option maxRecDepth 100000 in
set_option maxHeartbeats 3200000 in
theorem round_any (L : List Lb) (r : ByteArray) (A : Option Addr) (c : Nat) (w : World) (h : LibRow w A L) (hL : L.length ≤ 255) (hr : r.size ≤ maxLen) :
    Calls Try.prog 14 #[.slice A L.length c, .string r] w fun e w' => e = .returned (.bool (rndW L r)) ∧ Below w.heap.size w w' := by
  have hmf : ∀ (fn : Fn) (first cap : Array Value) (w : World), (Instr.makeFunc fn first cap).run Try.prog w = .ok (.func fn first cap) w := fun _ _ _ _ => rfl
  obtain ⟨R, hR⟩ : ∃ R, w.heap.size = R := ⟨_, rfl⟩
  have HG := Lib.hid (fun v (hv : Below R w v) => gatherS L r A c v (h.below hR.symm hv) hL hr)
  have hI := clo_inv L r
  have hcyc := cyc_iff L r
  obtain ⟨S, hS⟩ : ∃ S, cloW L r = S := ⟨_, rfl⟩
  rw [hS] at HG hI hcyc
  obtain ⟨E, hE⟩ : ∃ E, edW L S.N = E := ⟨_, rfl⟩
  rw [hE] at hcyc
  obtain ⟨n, hn⟩ : ∃ n, S.N.length = n := ⟨_, rfl⟩
  obtain ⟨m, hm⟩ : ∃ n, S.M.length = n := ⟨_, rfl⟩
  obtain ⟨l, hl⟩ : ∃ l, L.length = l := ⟨_, rfl⟩
  have hmany := hI.many
  have hEl : ∀ i, (E i).length ≤ 100000 := fun i => by rw [← hE]; exact Nat.le_trans (edW_len L S.N i) (need_le h.small.1 _)
  have hElt : ∀ i, i < n → ∀ j ∈ E i, j < n := fun i _ j hj => by rw [← hE] at hj; rw [← hn]; exact edW_lt L S.N i j hj
  have hEi : ∀ i, (hi : i < S.N.length) → E i = idxL S.N (needOf L S.N[i]) := fun i hi => by rw [← hE]; exact edW_idx L S.N i hi
  have hcb : ∀ i j, i ≤ n → cntB E i j ≤ 25500000 := fun i j hi => by
    have h1 := cntB_le E j 100000 i (fun k _ => hEl k)
    have h2 : i * 100000 ≤ 255 * 100000 := Nat.mul_le_mul_right _ (by omega)
    omega
  rw [hn] at hmany hcyc HG
  rw [hl] at hmany
  rw [hm, hl] at HG
  have hL2 : l ≤ 255 := by omega
  have HI := Lib.hid hI
  have HN := Lib.hid (And.intro hn (And.intro hm hl))
  have HE := Lib.hid (And.intro hEl (And.intro hElt (And.intro hEi hcb)))
  have HCY := Lib.hid hcyc
  have HR0 := Lib.hid (And.intro h (And.intro hL hR))
  obtain ⟨i0, hi, hz0, hz1, hz2⟩ := info_parts infoInt
  have hmk : ∀ w, (Instr.makeSlice 33 (.int .i64 n) (.int .i64 n)).run Try.prog w = .ok (.slice (some ⟨w.heap.size, 0, none⟩) n n) (w.alloc (.cells (urow (fun _ => 0) n) 3)) := fun w => by
    rw [← urow_zero]
    exact run_make_ints (P := Try.prog) 33 3 i0 Try.underlying33 hi hz0 hz1 hz2 n (by omega) w
  have hn255 : n ≤ 255 := by omega
  rw [hl]
  obtain ⟨rv, hrv⟩ : ∃ rv, rndW L r = rv := ⟨_, rfl⟩
  rw [hrv] at HCY ⊢
  have hW0a := Blk.new w 22 #[.slice A l c]
  have hW0b : Below R w (w.alloc (.cells #[.slice A l c] 22)) := by rw [← hR]; exact (Below.refl _ _).alloc (Nat.le_refl _) _
  rw [hR] at hW0a
  obtain ⟨W0, hW0⟩ : ∃ W0, w.alloc (.cells #[.slice A l c] 22) = W0 := ⟨_, rfl⟩
  rw [hW0] at hW0a hW0b
  have HW0 := Lib.hid (And.intro hW0a (And.intro hW0b hW0))
  have y0 := hW0a.cell 0
  clear h hI hcyc hS hn hm hl hEl hElt hEi hcb hmany hrv hE hW0a hW0b hW0 hL
  go_enter Try.func14, Try.ntmps14
  go_upto_region 4 with (first
    | (rw [HW0.out.2.2])
    | (go_at_call 19; refine (HG.out _ HW0.out.2.1).mono ?_; rintro e v1 ⟨A1, c1, A2, c2, A3, c3, MC, rfl, hcl, hb⟩))
  generalize hC : v1.heap.size = C at *
  generalize hW2 : ((v1.alloc (.cells #[.slice A1 n c1, .slice A2 n c2, .slice A3 m c3, .map (some MC)] 49)).alloc (.cells (urow (fun _ => 0) n) 3)).alloc (.cells #[.slice (some ⟨C + 1, 0, none⟩) n n] 33) = W2
  have hS2 : Blk W2 C 49 #[.slice A1 n c1, .slice A2 n c2, .slice A3 m c3, .map (some MC)] ∧ Blk W2 (C + 1) 3 (urow (fun _ => 0) n) ∧ Blk W2 (C + 2) 33 #[.slice (some ⟨C + 1, 0, none⟩) n n] ∧ Below C v1 W2 ∧ W2.heap.size = C + 3 := by
    subst hW2 hC
    have b2 := Blk.new ((v1.alloc (.cells #[.slice A1 n c1, .slice A2 n c2, .slice A3 m c3, .map (some MC)] 49)).alloc (.cells (urow (fun _ => 0) n) 3)) 33 #[.slice (some ⟨v1.heap.size + 1, 0, none⟩) n n]
    simp only [World.size_alloc] at b2
    exact ⟨((Blk.new v1 _ _).alloc _).alloc _, (blk_two v1 _ _ _).alloc _, b2, (((Below.refl _ _).alloc (Nat.le_refl _) _).alloc (by simp) _).alloc (by simp; omega) _, by simp⟩
  obtain ⟨s0, s1, s2, s3, s4⟩ := hS2
  have hRC : R + 1 ≤ C := by
    have h1 := HW0.out.1.lt
    have h2 := hb.size
    omega
  have hb0 : Below R w v1 := HW0.out.2.1.trans (hb.mono (by have := HW0.out.1.lt; omega))
  have hRD : ∀ v, Below (C + 1) W2 v → RdE w L S A c A1 A2 A3 c1 c2 c3 MC R C v := fun v hv => by
    refine ⟨?_, ?_, ?_, ?_, ?_⟩
    · rw [HR0.out.2.2]
      exact (hb0.trans (s3.mono (by omega))).trans (hv.mono (by omega))
    · have b0 := ((HW0.out.1.below hb HW0.out.1.lt).below s3 (by omega)).below hv (by omega)
      rw [HN.out.2.2]
      exact b0.cell 0
    · rw [HN.out.1]
      exact (s0.below hv (by omega)).cell 0
    · exact (s0.below hv (by omega)).cell 3
    · exact hcl.below hC.symm (s3.trans (hv.mono (by omega)))
  have HRD := Lib.hid hRD
  have HB0 := Lib.hid (And.intro hb0 (And.intro s3 s4))
  have HP := Lib.hid s2
  have HS0 := Lib.hid s0
  have H1 := Lib.hid (show Blk W2 (C + 1) 3 (urow (cntB E 0) n) from by rw [show cntB E 0 = fun _ => 0 from funext fun _ => rfl]; exact s1)
  have k0 := s0.cell 0
  clear hW2 s0 s1 s2 s3 hRD hb0 hb hcl hmk HG y0
  go_wp2_with fail
  clear k0
  go_loopw [24] (fun z wr => ∃ i : Nat, i ≤ n ∧ z = .int .i64 i ∧ Hid (Blk wr (C + 1) 3 (urow (cntB E i) n)) ∧ Hid (But (· = C + 1) W2 wr)) (fun z _ => n - (intOf z).toNat)
  case atStart => exact ⟨0, Nat.zero_le _, rfl, H1, Lib.hid (But.refl _ _)⟩
  case round =>
    obtain ⟨i, hi, rfl, HB1, HBT⟩ := hrel
    by_cases hlt : i < n
    · have hi1 : i < S.N.length := by rw [HN.out.1]; exact hlt
      obtain ⟨need, hneed⟩ : ∃ l, needOf L S.N[i] = l := ⟨_, rfl⟩
      have hEi := HE.out.2.2.1 i hi1
      rw [hneed] at hEi
      have hEle := HE.out.1 i
      have hEn : E i = idxL S.N (need.take need.length) := by rw [hEi, List.take_length]
      have hbd := HE.out.2.2.2
      have hbt := HBT.out
      have heach := each2_any w L r A c A1 A2 A3 c1 c2 c3 MC R C (C + 2) (fun k v => Blk v (C + 1) 3 (urow (fun j => cntB E i j + (idxL S.N (need.take k)).count j) n) ∧ But (· = C + 1) W2 v ∧ k ≤ need.length) i wr HR0.out.1 HR0.out.2.1 S HI.out hi1 need hneed
        (fun k v hv => HRD.out v (hv.2.1.below (by have := HB0.out.2.2; omega) (fun j hj => by have hj : j = C + 1 := hj; omega)))
        (fun k v q hv => ⟨hv.1.drewN q, hv.2.1.drewN q, hv.2.2⟩)
        ⟨by rw [urow_congr (g := cntB E i) (fun j _ => by simp [idxL])]; exact HB1.out, hbt, Nat.zero_le _⟩
        (fun k hk hm v hv => by
          obtain ⟨z, hz⟩ : ∃ z, S.N.idxOf need[k] = z := ⟨_, rfl⟩
          have hzn : z < n := by rw [← hz, ← HN.out.1]; exact idx_lt hm
          have hix := idxL_take (N := S.N) hk
          rw [if_pos hm, hz] at hix
          have hlen : (idxL S.N (need.take k)).length ≤ 100000 := by
            have h1 : (idxL S.N (need.take k)).length ≤ (need.take k).length := List.length_filterMap_le _ _
            have h2 := need_le HR0.out.1.small.1 S.N[i]
            rw [hneed] at h2
            rw [List.length_take] at h1
            omega
          rw [hz]
          refine (do1_any (C + 1) (C + 2) n z _ v hv.1 ((HP.out.but hv.2.1 (fun e => by have e : C + 2 = C + 1 := e; omega)).cell 0) hzn (by
            have h1 := hbd i z hi
            have h2 := List.count_le_length (a := z) (l := idxL S.N (need.take k))
            show cntB E i z + (idxL S.N (need.take k)).count z ≤ _
            omega)).mono ?_
          rintro e v' ⟨rfl, rfl⟩
          refine ⟨rfl, ?_, hv.2.1.setCell (.inl rfl) _, hk⟩
          have h1 := hv.1.set_ z (.int .i64 ((cntB E i z + (idxL S.N (need.take k)).count z + 1 : Nat) : Int))
          rw [urow_set hzn] at h1
          rw [urow_congr (g := upd (fun j => cntB E i j + (idxL S.N (need.take k)).count j) z (cntB E i z + (idxL S.N (need.take k)).count z + 1)) (fun j _ => by
            unfold upd
            rw [hix, List.count_append]
            by_cases e : j = z
            · rw [if_pos e, e]
              have : List.count z [z] = 1 := by simp
              omega
            · rw [if_neg e]
              have : List.count j [z] = 0 := List.count_eq_zero.2 (by simpa using e)
              rw [this]
              rfl)]
          exact h1)
        (fun k hk hm v hv => by
          have hix := idxL_take (N := S.N) hk
          rw [if_neg hm, List.append_nil] at hix
          rw [hix]
          exact ⟨hv.1, hv.2.1, hk⟩)
      have HEA : Hid (Calls Try.prog 22 #[.int .i64 i, .func (.func 23) #[] #[.pointer (some ⟨C + 1 + 1, 0, none⟩)], .pointer (some ⟨R, 0, none⟩), .pointer (some ⟨C, 0, none⟩)] wr fun e w' => e = .returned (.tuple #[]) ∧ Blk w' (C + 1) 3 (urow (cntB E (i + 1)) n) ∧ But (· = C + 1) W2 w') := Lib.hid (heach.mono (fun e w' ⟨he, h1, h2, _⟩ => by
        refine ⟨he, ?_, h2⟩
        rw [urow_congr (g := fun j => cntB E i j + (idxL S.N (need.take need.length)).count j) (fun j _ => by rw [← hEn]; rfl)]
        exact h1))
      clear heach hEi hEle hEn hbd hbt hneed HB1 HBT
      go_wp2_with (go_at_call 22; with_reducible refine HEA.out.mono ?_; rintro e w5 ⟨rfl, h5, h6⟩; have H5 := Lib.hid h5; have H6 := Lib.hid h6; clear h5 h6)
      go_roundw
      case rel => exact ⟨i + 1, by omega, by go_num, H5, H6⟩
      case measure => simp [intOf]; omega
    · obtain rfl : i = n := by omega
      clear hlt
      have hlow1 : Below (C + 1) W2 wr := HBT.out.below (by have := HB0.out.2.2; omega) (fun j hj => by have hj : j = C + 1 := hj; omega)
      have hb1 := HB1.out
      have hp1 := HP.out.but HBT.out (fun e => by have e : C + 2 = C + 1 := e; omega)
      have hsz1 : C + 3 ≤ wr.heap.size := by have := HBT.out.size; have := HB0.out.2.2; omega
      go_upto_region 10 with fail
      generalize hH : wr.heap.size = H at *
      generalize hW3 : (wr.alloc (.cells #[] 3)).alloc (.cells #[.slice (some ⟨H, 0, none⟩) 0 0] 33) = W3
      have hS3 : Uf H (C + 1) (C + 2) (H + 1) i (cntB E i) (freeL E i 0) W3 ∧ Below (C + 1) W2 W3 := by
        subst hW3
        have e0 := (Blk.new wr 3 #[]).alloc (.cells #[.slice (some ⟨H, 0, none⟩) 0 0] 33)
        have e1 := blk_two wr (.cells #[] 3) 33 #[.slice (some ⟨H, 0, none⟩) 0 0]
        rw [hH] at e0 e1
        have hs : ((wr.alloc (.cells #[] 3)).alloc (.cells #[.slice (some ⟨H, 0, none⟩) 0 0] 33)).heap.size = H + 2 := by simp [hH]
        refine ⟨⟨(hb1.alloc _).alloc _, ((hp1.alloc _).alloc _).cell 0, ⟨_, e1, ?_, ?_⟩, by omega⟩, (hlow1.alloc (by omega) _).alloc (by simp; omega) _⟩
        · exact own_empty e0
        · show some H ≠ some (H + 1)
          intro e
          injection e with e
          omega
      have HS3 := Lib.hid hS3
      have p0 := hS3.1.pu
      have HHC := Lib.hid hsz1
      clear hW3 hS3 hb1 hp1 hlow1 hsz1 hH HB1 HBT H1
      go_wp2_with fail
      clear p0
      go_loopw [35] (fun z wr => ∃ k : Nat, k ≤ i ∧ z = .int .i64 k ∧ Hid (Uf H (C + 1) (C + 2) (H + 1) i (cntB E i) (freeL E i k) wr) ∧ Hid (But (US H (C + 1) (H + 1)) W3 wr)) (fun z _ => i - (intOf z).toNat)
      case atStart => exact ⟨0, Nat.zero_le _, rfl, Lib.hid HS3.out.1, Lib.hid (But.refl _ _)⟩
      case round =>
        obtain ⟨k, hk, rfl, HUF, HBT2⟩ := hrel
        by_cases hlt2 : k < i
        · obtain ⟨vF, hbf, how, hne⟩ := HUF.out.free
          have hc := (HUF.out.row.cell k).trans (urow_at hlt2)
          have hfs := freeL_succ E i k
          have hfl := freeL_len E i k
          have hk0 : (0 : Int) ≤ (k : Int) := by omega
          have hk2 : (k : Int) < (i : Int) := by omega
          obtain ⟨x, hx⟩ : ∃ x, cntB E i k = x := ⟨_, rfl⟩
          rw [hx] at hc hfs
          have HX := Lib.hid hx
          by_cases hx0 : x = 0
          · subst hx0
            rw [if_pos rfl] at hfs
            have f0 := hbf.cell 0
            obtain ⟨nf, hnf⟩ : ∃ nf, (freeL E i k).length = nf := ⟨_, rfl⟩
            rw [hnf] at how hfl
            have HH := Lib.hid (And.intro hbf (And.intro how (And.intro hne hnf)))
            have HFS := Lib.hid hfs
            obtain ⟨j0, hj, hy0, hy1, hy2⟩ := info_parts infoInt
            clear hbf how hne hnf hfs hx
            go_wp2_with (at_builtin; refine Hid.out ?_)
            refine Lib.hid ?_
            refine wpList_append_own_at _ rfl _ _ 33 rfl H 3 j0 (.int .i64 0) 1 8 Try.underlying33 hj hy0 hy1 hy2 rfl (by decide) vF nf (nints (freeL E i k)) rfl (HH.out.2.1.alloc _) ⟨wr.heap.size, 0, none⟩ 1 1 [.int .i64 (k : Int)] rfl rfl (cell_oneG _ _ _) (fun u hu => by simp at hu; subst hu; rfl) (by unfold maxLen; omega) (by omega) (by have := HUF.out.lt; simp; omega) ?_
            intro v' w1 hown1 hgrow1 _ hat1
            obtain ⟨A2, c2', rfl⟩ := own_slice hown1
            obtain ⟨u1, u2, u3, u4⟩ := HUF.out.push (by have := HHC.out; omega) (by have := HHC.out; omega) (by have := HHC.out; omega) (by have := HHC.out; omega) HH.out.1 HH.out.2.1 HH.out.2.2.1 HH.out.2.2.2 hown1 hgrow1 hat1
            rw [← HFS.out] at u1
            have HU1 := Lib.hid u1
            have HU2 := Lib.hid (HBT2.out.trans u2)
            clear hown1 hgrow1 hat1 f0 u1 u2 hc HH
            go_wp2_with fail
            go_roundw
            case rel => exact ⟨k + 1, by omega, by go_num, HU1, HU2⟩
            case measure => simp [intOf]; omega
          · rw [if_neg hx0] at hfs
            have hxb : ((x : Int) == 0) = false := by simp; omega
            have HU1 := Lib.hid (show Uf H (C + 1) (C + 2) (H + 1) i (cntB E i) (freeL E i (k + 1)) wr from by rw [hfs]; exact HUF.out)
            clear hbf how hne hfs hx
            go_wp2_with fail
            go_roundw
            case rel => exact ⟨k + 1, by omega, by go_num, HU1, HBT2⟩
            case measure => simp [intOf]; omega
        · obtain rfl : k = i := by omega
          have HK0 := Lib.hid (Kh.start E k)
          have HLW : Hid (∀ v, But (US H (C + 1) (H + 1)) W3 v → Below (C + 1) W2 v) := Lib.hid (fun v hv => HS3.out.2.trans (hv.below (by have := HS3.out.2.size; have := HB0.out.2.2; omega) (fun j hj => by have := HHC.out; rcases hj with h | h | h <;> omega)))
          clear hlt2
          obtain ⟨vF0, hbf0, -, -⟩ := HUF.out.free
          go_upto_region 16 with fail
          clear hbf0
          go_wp2_with fail
          go_loopw [12] (fun z wr => ∃ (q : Nat) (F : List Nat) (f : Nat → Nat), q ≤ F.length ∧ z = .int .i64 q ∧ Hid (Uf H (C + 1) (C + 2) (H + 1) k f F wr ∧ Kh E k q F f [] ∧ But (US H (C + 1) (H + 1)) W3 wr)) (fun z _ => k - (intOf z).toNat)
          case atStart => exact ⟨0, freeL E k k, cntB E k, Nat.zero_le _, rfl, Lib.hid ⟨HUF.out, HK0.out, HBT2.out⟩⟩
          case round =>
            clear HUF HBT2 HK0
            obtain ⟨q, F, f, hq, rfl, HST⟩ := hrel
            have hroom := HST.out.2.1.room
            obtain ⟨vF, hbf, how, hne⟩ := HST.out.1.free
            obtain ⟨AF, cF, hvF, hrF⟩ := nrow_own how
            have f0 := hbf.cell 0
            have hrd := HRD.out wr (HLW.out wr HST.out.2.2)
            subst hvF
            obtain ⟨nf, hnf⟩ : ∃ nf, F.length = nf := ⟨_, rfl⟩
            have HNF := Lib.hid hnf
            by_cases hlt3 : q < nf
            · have hq1 : q < F.length := by omega
              obtain ⟨af, rfl, -, hcf⟩ := hrF q hq1
              have hik := HST.out.2.1.lt _ (List.getElem_mem hq1)
              have hi1 : F[q] < S.N.length := by rw [HN.out.1]; exact hik
              obtain ⟨need, hneed⟩ : ∃ l, needOf L S.N[F[q]] = l := ⟨_, rfl⟩
              have hEi := HE.out.2.2.1 F[q] hi1
              rw [hneed] at hEi
              have hkt := HST.out.2.1.take hq1
              rw [hEi] at hkt
              have hnl := need_le HR0.out.1.small.1 S.N[F[q]]
              rw [hneed] at hnl
              have hbd := HE.out.2.2.2
              have hst := HST.out
              have hhc := HHC.out
              have heach := each3_any w L r A c A1 A2 A3 c1 c2 c3 MC R C (C + 2) (H + 1) (fun kk v => ∃ F' f', Uf H (C + 1) (C + 2) (H + 1) k f' F' v ∧ Kh E k (q + 1) F' f' (idxL S.N (need.drop kk)) ∧ But (US H (C + 1) (H + 1)) W3 v) F[q] wr HR0.out.1 HR0.out.2.1 S HI.out hi1 need hneed
                (fun kk v ⟨F', f', _, _, hv⟩ => HRD.out v (HLW.out v hv))
                (fun kk v d ⟨F', f', hu, hk', hv⟩ => by
                  obtain ⟨u1, u2, ⟨u3, u4, u5, u6⟩, u7⟩ := hu
                  exact ⟨F', f', ⟨u1.drewN d, u2, ⟨u3, u4.drewN d, u5, u6⟩, u7⟩, hk', hv.drewN d⟩)
                ⟨F, f, hst.1, by rw [List.drop_zero]; exact hkt, hst.2.2⟩
                (fun kk hkk hm v ⟨F', f', hu, hk', hv⟩ => by
                  have hix := idxL_drop (N := S.N) hkk
                  rw [if_pos hm] at hix
                  rw [hix] at hk'
                  obtain ⟨z, hz⟩ : ∃ z, S.N.idxOf need[kk] = z := ⟨_, rfl⟩
                  have hzn : z < k := by rw [← hz, ← HN.out.1]; exact idx_lt hm
                  rw [hz] at hk' ⊢
                  have hk'' : Kh E k (q + 1) F' f' (z :: idxL S.N (need.drop (kk + 1))) := hk'
                  have h1 := hk''.cnt z hzn
                  have h2 := remU_le E (F'.take (q + 1)) z k
                  have h3 := hbd k z (Nat.le_refl _)
                  have h4 := List.count_le_length (a := z) (l := z :: idxL S.N (need.drop (kk + 1)))
                  have h5 := idxL_len S.N (need.drop (kk + 1))
                  rw [List.length_drop] at h5
                  rw [List.length_cons] at h4
                  have h6 := hk''.room
                  refine (do2_any H (C + 1) (C + 2) (H + 1) k z f' F' v hu (by omega) (by omega) (by omega) (by omega) (by omega) hzn (by omega) (hk''.pos hzn).1 (by omega)).mono ?_
                  rintro e v' ⟨rfl, hu', hb'⟩
                  exact ⟨rfl, _, _, hu', hk''.one hzn, hv.trans hb'⟩)
                (fun kk hkk hm v ⟨F', f', hu, hk', hv⟩ => by
                  have hix := idxL_drop (N := S.N) hkk
                  rw [if_neg hm, List.nil_append] at hix
                  rw [hix] at hk'
                  exact ⟨F', f', hu, hk', hv⟩)
              have HEA : Hid (Calls Try.prog 22 #[.int .i64 (F[q] : Nat), .func (.func 24) #[] #[.pointer (some ⟨C + 1 + 1, 0, none⟩), .pointer (some ⟨H + 1, 0, none⟩)], .pointer (some ⟨R, 0, none⟩), .pointer (some ⟨C, 0, none⟩)] wr fun e w' => e = .returned (.tuple #[]) ∧ ∃ F' f', Uf H (C + 1) (C + 2) (H + 1) k f' F' w' ∧ Kh E k (q + 1) F' f' [] ∧ But (US H (C + 1) (H + 1)) W3 w') := Lib.hid (heach.mono (fun e w' ⟨he, F', f', h1, h2, h3⟩ => by
                rw [List.drop_length] at h2
                exact ⟨he, F', f', h1, h2, h3⟩))
              have hq0 : (0 : Int) ≤ (q : Int) := by omega
              have hq2 : (q : Int) < (nf : Int) := by omega
              have hqk : q < k := by omega
              rw [hnf] at f0
              obtain ⟨x, hx⟩ : ∃ x, F[q] = x := ⟨_, rfl⟩
              rw [hx] at hcf HEA
              clear heach hEi hkt hnl hbd hst hhc hneed hik hi1 hx hrF how hne hbf hrd hroom
              go_wp2_with (go_at_call 22; with_reducible refine HEA.out.mono ?_; rintro e w5 ⟨rfl, F', f', h5⟩; have H5 := Lib.hid h5; clear h5)
              go_roundw
              case rel => exact ⟨q + 1, F', f', H5.out.2.1.le, by go_num, H5⟩
              case measure => simp [intOf]; omega
            · obtain rfl : q = nf := by omega
              have hdone := HST.out.2.1
              rw [← hnf] at hdone
              have hd := hdone.done HE.out.2.1
              have hrv : decide ((q : Int) < (k : Int)) = rv := by
                rw [hnf] at hd
                cases hb : rv with
                | true =>
                  have := HCY.out.2 hb
                  have := hd.2 this
                  exact decide_eq_true (by omega)
                | false =>
                  refine decide_eq_false (fun hc => ?_)
                  have := HCY.out.1 (hd.1 (by omega))
                  rw [hb] at this
                  cases this
              have HRV := Lib.hid hrv
              have x0 := hrd.libs
              rw [HN.out.1] at x0
              have HLO := Lib.hid hrd.low
              rw [hnf] at f0
              clear hdone hd hrv hrF how hne hbf hrd
              go_wp2
              go_ret
              exact ⟨congrArg (fun b => Ending.returned (.bool b)) (by rw [← HRV.out]; simp), HLO.out⟩
end Go.Proofs.Ytmkaehnekhejmaa
