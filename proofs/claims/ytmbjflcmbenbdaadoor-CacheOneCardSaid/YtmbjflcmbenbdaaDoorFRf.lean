/- The reference of layer 4: Build. -/
import Derived.Test.YtmbjflcmbenbdaaDoorFRd
import Derived.Laws.AppendOwnNone
import Derived.Deep.AppendLies
import Derived.Deep.CutRange
namespace Go.Proofs.YtmbjflcmbenbdaaDoor
open Go.RowKit Go.Shelf
set_option linter.unusedVariables false
set_option linter.unusedSimpArgs false

theorem Below.drewN2 {B : Nat} {a w : World} (h : Below B a w) (n : Nat) : Below B a (w.drewN n) := ⟨h.os, h.tape, h.output, h.size, h.block⟩
/-- The reference's sectors. -/
def RBuilt (w : World) (L : List ByteArray) (e : Ending) (w' : World) : Prop := ∃ g c, e = .returned (.tuple #[.slice (some ⟨g, 0, none⟩) L.length c, .int .i64 0]) ∧ w.heap.size ≤ g ∧ TextRow w' (.slice (some ⟨g, 0, none⟩) L.length c) L ∧ Below w.heap.size w w'
theorem text_of_own {W : World} {B n : Nat} {v : Value} {L : List ByteArray} (h : W.ownsRow B 9 1 v n (strs L)) (hv : v ≠ .slice none 0 0) : ∃ g c, v = .slice (some ⟨g, 0, none⟩) L.length c ∧ B ≤ g ∧ TextRow W (.slice (some ⟨g, 0, none⟩) L.length c) L := by
  have hn : L.length = n := by have := h.1; simpa [strs] using this
  rcases h.2 with ⟨h1, _⟩ | ⟨g, cap, cur, h1, hB, h2, _, _, _, h3⟩
  · exact absurd h1 hv
  · subst hn
    exact ⟨g, cap, h1, hB, g, cap, cur, rfl, h2, by simpa using h3⟩
theorem apart_next {W : World} {v v' dv : Value} (hap : ∀ g, v.ownBlock = some g → dv.ownBlock = some g → False) (hlt : ∀ g, dv.ownBlock = some g → g < W.heap.size) (hat : v'.ownBlock = v.ownBlock ∨ v'.ownBlock = some W.heap.size) : ∀ g, v'.ownBlock = some g → dv.ownBlock = some g → False := fun g e1 e2 => by
  rcases hat with h | h
  · exact hap g (by rw [← h]; exact e1) e2
  · have h2 := hlt g e2
    rw [h] at e1
    injection e1 with e1
    omega
theorem strs_cell (l : List ByteArray) : ∀ u ∈ strs l, u.oneCell' = true := fun u hu => by
  simp only [strs, List.mem_map] at hu
  obtain ⟨y, _, rfl⟩ := hu
  rfl
/-- Another row of sectors grows. -/
theorem RSt.far {W W' : World} {B gi : Nat} {fs : List Fl} {ex : List (List (Nat × Nat))} {vs : List Value} {dv : Value} {dat : List ByteArray} (h : RSt W B gi fs ex vs dv dat) {v : Value} {C n : Nat} {xs : List Value} (hv : W.ownsRow C 9 1 v n xs) (hg : W.grownBy W' v.ownBlock) (hd : ∀ g, v.ownBlock = some g → dv.ownBlock = some g → False) : RSt W' B gi fs ex vs dv dat :=
  ⟨h.bi.grown hg (fun e => by have h2 := own_type hv e.symm h.bi; revert h2; decide), h.lenv, h.lenx, fun j hj hj' => own_by (h.own j hj hj') (fun g cur _ _ hb => hb.grown hg (fun e => by have h2 := own_type hv e.symm hb; revert h2; decide)), h.apart, own_by h.dat (fun g cur hgd _ hb => hb.grown hg (fun e => hd g e.symm hgd))⟩
set_option maxRecDepth 100000 in
set_option maxHeartbeats 8000000 in
theorem rbuild_yes (A : Option Addr) (c n : Nat) (fs : List Fl) (s : Nat) (w : World) (hn : fs.length = n) (hf : FileRow w (.slice A n c) fs) (hm : n ≤ 8) (hsm : Small8 fs) (hno : namesOk fs) (h1 : 1 ≤ s) (hs : (Lit.int .i64 s).wf = true) :
    Calls Tryd.prog 6 #[.slice A n c, .int .i64 s] w (RBuilt w (builtL fs s)) := by
  obtain ⟨_, _⟩ := bounds_i64 hs
  unfold RBuilt
  obtain ⟨i0, hi0, hz0, hz1, hz2⟩ := info_parts infoExt
  obtain ⟨i1, hj0, hy0, hy1, hy2⟩ := info_parts infoStr
  have hnd : ∀ i j (hi : i < fs.length) (hj : j < fs.length), fs[i].name = fs[j].name → i = j := fun i j hi hj e => by
    have h2 := (List.nodup_iff_pairwise_ne.1 hno.2)
    rw [List.pairwise_map] at h2
    rcases Nat.lt_trichotomy i j with h | h | h
    · exact absurd e (List.pairwise_iff_getElem.1 h2 i j hi hj h)
    · exact h
    · exact absurd e.symm (List.pairwise_iff_getElem.1 h2 j i hj hi h)
  have HAT := Lib.hid (fun k hk => hf.at_ k hk)
  have HSM := Lib.hid hsm
  have HN := Lib.hid hn
  have HOK := Lib.hid hno
  have HND := Lib.hid hnd
  have m1 := run_make_ino n (by omega)
  have hms : ∀ k, ((fs.map Fl.pg).take k).sum ≤ 16 * 8 := fun k => by
    have h2 := take_sum_le (fs.map Fl.pg) k
    have h3 := sum_le Fl.pg 16 fs (fun f hf => by have := (hsm f hf).2; unfold Fl.pg pgs; omega)
    rw [hn] at h3
    omega
  have HMS := Lib.hid hms
  clear hf hsm hn hno hnd hms
  go_enter Tryd.func6, Tryd.ntmps6
  go_wp2
  go_loopw [6, 7] (fun a i wr => ∃ k q S : Nat, k ≤ n ∧ i = .int .i64 k ∧ a = .int .i64 S ∧ S = 1 + n + ((fs.map Fl.pg).take k).sum ∧ wr = w.drewN q) (fun _ i _ => n - (intOf i).toNat)
  case atStart => exact ⟨0, 0, 1 + n, Nat.zero_le _, rfl, by go_num, by simp, (World.drewN_zero w).symm⟩
  case round =>
    obtain ⟨k, q, S, hk, rfl, rfl, hS, rfl⟩ := hrel
    by_cases hlt : k < n
    · have hkl : k < fs.length := by rw [HN.out]; exact hlt
      obtain ⟨g, rfl, hg, d0, d1⟩ := HAT.out k hkl
      have hsz := HSM.out _ (List.getElem_mem hkl)
      have hck := fun v => rcheck_any fs[k].name v (by unfold maxLen; omega)
      rw [HOK.out.1 _ (List.getElem_mem hkl)] at hck
      have HCK := Lib.hid hck
      have HPG := Lib.hid (fun v => rpages_any fs[k].data.size v (by omega))
      have hnx := take_sum_succ (fs.map Fl.pg) k
      have hgd : (fs.map Fl.pg).getD k 0 = pgs fs[k].data.size := by rw [List.getD, List.getElem?_map, List.getElem?_eq_getElem hkl]; rfl
      rw [hgd] at hnx
      have hpg : pgs fs[k].data.size ≤ 16 := by unfold pgs; omega
      have hSb : S ≤ 137 := by have := HMS.out k; omega
      have HOTH := Lib.hid (fun j (hj : j < fs.length) => show w.cell? ⟨g, j * 2, none⟩ = some (.string fs[j].name) from by
        obtain ⟨g', e, _, h, _⟩ := HAT.out j hj
        cases e
        exact h)
      have k0 : (0 : Int) ≤ (k : Int) := by omega
      have k1 : (k : Int) < (n : Int) := by omega
      have HNX := Lib.hid hnx
      have HS_ := Lib.hid hS
      clear hck hgd hnx hS
      go_wp2_with (go_at_call 24; refine (HCK.out _).mono ?_; rintro e v1 ⟨rfl, rfl⟩)
      go_loopw [9] (fun j wr => ∃ t r : Nat, t ≤ k ∧ j = .int .i64 t ∧ wr = w.drewN r) (fun j _ => k - (intOf j).toNat)
      case atStart => exact ⟨0, q, Nat.zero_le _, rfl, rfl⟩
      case round =>
        obtain ⟨t, r, ht, rfl, rfl⟩ := hrel
        by_cases hlt2 : t < k
        · have htl : t < fs.length := by omega
          have c1 := HOTH.out t htl
          have t0 : (0 : Int) ≤ (t : Int) := by omega
          have t1 : (t : Int) < (n : Int) := by omega
          have heq : fs[t].name ≠ fs[k].name := fun e => by have := HND.out t k htl hkl e; omega
          have hx := beq_no4 heq
          clear heq
          generalize fs[t].name = nt at *
          go_wp2
          go_quiet (fail)
          go_wp2
          go_roundw
          case rel => exact ⟨t + 1, _, by omega, by go_num, rfl⟩
          case measure => simp [intOf]; omega
        · obtain rfl : t = k := by omega
          generalize pgs fs[t].data.size = pg at *
          go_wp2_with (go_at_call 25; refine (HPG.out _).mono ?_; rintro e v1 ⟨rfl, rfl⟩)
          go_roundw
          case rel => exact ⟨t + 1, r, S + pg, by omega, by go_num, by go_num, by have h2 := HNX.out; have h3 := HS_.out; omega, rfl⟩
          case measure => simp [intOf]; omega
    · obtain rfl : k = n := by omega
      have hSb : S ≤ 137 := by have := HMS.out k; omega
      have hSd : S = 1 + fs.length + (Laid.rows fs s 4).dat.length := by
        rw [dat_len (LaidOk.rows fs h1 4 (by omega)), HN.out, hS, List.take_of_length_le (by rw [List.length_map, HN.out]; exact Nat.le_refl _)]
      have HSD := Lib.hid hSd
      have hbi := Blk.new (w.drewN q) 67 (inoCells (List.replicate k noIno) (List.replicate k (.slice none 0 0))).toArray
      have hB0 := (Below.drewN2 (Below.refl w.heap.size w) q).alloc (Nat.le_refl _) (.cells (inoCells (List.replicate k noIno) (List.replicate k (.slice none 0 0))).toArray 67)
      clear hSd hS
      go_wp2
      have hgz : (w.drewN q).heap.size = w.heap.size := rfl
      rw [hgz] at hbi
      generalize (w.drewN q).alloc (.cells (inoCells (List.replicate k noIno) (List.replicate k (.slice none 0 0))).toArray 67) = W1 at *
      obtain ⟨gi, hgi⟩ : ∃ gi, w.heap.size = gi := ⟨_, rfl⟩
      rw [hgi] at hbi hB0 ⊢
      have HGI := Lib.hid hgi
      clear hgi hgz m1
      go_loopw [12] (fun i wr => ∃ (t : Nat) (xs : List Ino), t ≤ k ∧ i = .int .i64 t ∧ xs.length = k ∧ Hid (∀ j (h : j < fs.length), j < t → xs[j]? = some ⟨fs[j].name, fs[j].data.size, []⟩) ∧ Blk wr gi 67 (inoCells xs (List.replicate k (.slice none 0 0))).toArray ∧ Below gi w wr) (fun i _ => k - (intOf i).toNat)
      case atStart => exact ⟨0, _, Nat.zero_le _, rfl, List.length_replicate .., Lib.hid (fun j _ h => by omega), hbi, hB0⟩
      case round =>
        clear hbi hB0
        obtain ⟨t, xs, ht, rfl, hxl, hxs, hbi, hB⟩ := hrel
        by_cases hlt : t < k
        · have htl : t < fs.length := by rw [HN.out]; exact hlt
          obtain ⟨g, rfl, hg, d0, d1⟩ := HAT.out t htl
          have hsz := HSM.out _ (List.getElem_mem htl)
          replace d0 : wr.drew.cell? ⟨g, t * 2, none⟩ = _ := (hB.cell (p := ⟨g, t * 2, none⟩) (by rw [← HGI.out]; exact hg)).trans d0
          replace d1 := (hB.cell (p := ⟨g, t * 2 + 1, none⟩) (by rw [← HGI.out]; exact hg)).trans d1
          have d1d : wr.drew.cell? ⟨g, t * 2 + 1, none⟩ = _ := d1
          obtain ⟨hz1, hz2⟩ := hsz
          obtain ⟨e0, e1, e2⟩ := inoCells_at xs (List.replicate k (.slice none 0 0)) t (by omega) (by simpa using hlt)
          have s0 := hbi.at_ (t * 3) _ (by simpa using e0)
          have s1 := hbi.at_ (t * 3 + 1) _ (by simpa using e1)
          have s2 := hbi.at_ (t * 3 + 2) _ (by simpa using e2)
          have g0 := hbi.frozen (t * 3)
          have g1 := hbi.frozen (t * 3 + 1)
          have g2 := hbi.frozen (t * 3 + 2)
          have t0 : (0 : Int) ≤ (t : Int) := by omega
          have t1 : (t : Int) < (k : Int) := by omega
          have HXS := Lib.hid (fun j (hj : j < fs.length) (hjt : j < t + 1) => show (xs.set t ⟨fs[t].name, fs[t].data.size, []⟩)[j]? = some ⟨fs[j].name, fs[j].data.size, []⟩ from by
            rw [List.getElem?_set]
            by_cases e : t = j
            · subst e
              rw [if_pos rfl, if_pos (by omega)]
            · rw [if_neg e]
              exact hxs.out j hj (by omega))
          have HBI := Lib.hid hbi
          have HB := Lib.hid hB
          clear hxs hbi hB e0 e1 e2
          generalize fs[t].name = nt at *
          generalize fs[t].data = dd at *
          go_wp2
          go_still_tail 14, (by kernel_rfl)
          change wpList _ _ _ _ _ wr.drew
          go_wp2
          go_roundw
          case rel =>
            refine ⟨t + 1, _, by omega, by go_num, by rw [List.length_set]; exact hxl, Lib.hid HXS.out, ?_, ?_⟩
            · have h2 := (((HBI.out.set_ (t * 3) (.string nt)).set_ (t * 3 + 1) (.int .i64 dd.size)).set_ (t * 3 + 2) (.slice none 0 0)).drew
              have h3 := inoCells_set xs (List.replicate k (.slice none 0 0)) t ⟨nt, dd.size, []⟩ (.slice none 0 0) (by omega) (by simpa using hlt)
              rw [List.set_replicate_self] at h3
              rw [h3]
              simpa using h2
            · exact (((HB.out.setCell (p := ⟨gi, t * 3, none⟩) (Nat.le_refl _) _).setCell (p := ⟨gi, t * 3 + 1, none⟩) (Nat.le_refl _) _).setCell (p := ⟨gi, t * 3 + 2, none⟩) (Nat.le_refl _) _).drew
          case measure => simp [intOf]; omega
        · obtain rfl : t = k := by omega
          have hxe : xs = inosOf fs (Laid.rows fs s 0).ex := by
            apply List.ext_getElem?
            intro j
            rcases Nat.lt_or_ge j fs.length with hj | hj
            · rw [hxs.out j hj (by rw [← HN.out]; exact hj)]
              simp [inosOf, Laid.rows, hj]
            · rw [List.getElem?_eq_none (by rw [hxl, ← HN.out]; exact hj), List.getElem?_eq_none (by rw [inosOf_length (by simp [Laid.rows])]; omega)]
          have hst : RSt wr gi gi fs (Laid.rows fs s 0).ex (List.replicate t (.slice none 0 0)) (.slice none 0 0) (Laid.rows fs s 0).dat := by
            refine ⟨by rw [← hxe]; exact hbi, by simp [HN.out], by simp [Laid.rows], fun j hj hj' => ?_, fun a b ha hb g ga => ?_, ?_⟩
            · have e : (Laid.rows fs s 0).ex[j] = [] := by simp [Laid.rows]
              rw [e, List.getElem_replicate]
              exact World.ownsRow_nil _ _ _ _
            · simp [Value.ownBlock] at ga
            · exact World.ownsRow_nil _ _ _ _
          have HST := Lib.hid hst
          have HB := Lib.hid hB
          clear hst hB hbi hxe hxs hxl
          generalize wr = W0 at *
          go_wp2
          go_loopw [11, 13] (fun dv p wr => ∃ (k : Nat) (vs : List Value), k ≤ 4 ∧ p = .int .i64 k ∧ RSt wr gi gi fs (Laid.rows fs s k).ex vs dv (Laid.rows fs s k).dat ∧ Below gi w wr) (fun _ p _ => 4 - (intOf p).toNat)
          case atStart => exact ⟨0, _, by omega, rfl, HST.out, HB.out⟩
          case round =>
            clear HST HB
            obtain ⟨k, vs, hk, rfl, hst, hB⟩ := hrel
            by_cases hlt : k < 4
            · have hok := LaidOk.rows fs h1 k (by omega)
              have hrow0 := Laid.row_zero fs s k (Laid.rows fs s k)
              have hnext := Laid.rows_succ fs s k
              have HNX := Lib.hid hnext
              have HOk := Lib.hid hok
              have HST := Lib.hid (show RSt wr gi gi fs ((Laid.rows fs s k).row fs s k 0).ex vs _ ((Laid.rows fs s k).row fs s k 0).dat by rw [hrow0]; exact hst)
              have HB := Lib.hid hB
              clear hok hnext hrow0 hst hB
              generalize Laid.rows fs s k = Lk at *
              have hd4 : decide ((k : Int) < 4) = true := decide_eq_true (by omega)
              go_wp2
              go_loopw [11, 14] (fun dv p wr => ∃ (i : Nat) (vs : List Value), i ≤ t ∧ p = .int .i64 i ∧ RSt wr gi gi fs (Lk.row fs s k i).ex vs dv (Lk.row fs s k i).dat ∧ Below gi w wr) (fun _ p _ => t - (intOf p).toNat)
              case atStart => exact ⟨0, _, Nat.zero_le _, rfl, HST.out, HB.out⟩
              case round =>
                clear HST HB
                obtain ⟨i, vs, hi, rfl, hst, hB⟩ := hrel
                by_cases hil : i < t
                · have hif : i < fs.length := by rw [HN.out]; exact hil
                  obtain ⟨g, rfl, hg, d0, d1⟩ := HAT.out i hif
                  have hsz := (HSM.out _ (List.getElem_mem hif)).2
                  have hok := HOk.out.row h1 (by omega) i (by omega)
                  have hdl := hok.dat_le (fun f hf => by have := (HSM.out f hf).2; omega)
                  rw [HN.out] at hdl
                  have hxl : i < (Lk.row fs s k i).ex.length := by rw [hok.len]; exact hif
                  have hvl : i < vs.length := by rw [hst.lenv]; exact hif
                  have hthere := cuts_there (n := fs[i].pg) h1 k
                  have hcs := cuts_sum fs[i].pg s
                  have hclen := cuts_len fs[i].pg s
                  have hpgd : fs[i].pg = pgs fs[i].data.size := rfl
                  have hrs := Laid.row_succ fs s k Lk i
                  unfold Laid.add at hrs
                  rw [List.getElem?_eq_getElem hif] at hrs
                  simp only at hrs
                  have hgd : (Lk.row fs s k i).ex.getD i [] = (Lk.row fs s k i).ex[i] := by rw [List.getD, List.getElem?_eq_getElem hxl]; rfl
                  rw [hgd, HN.out] at hrs
                  have hxs4 : (Lk.row fs s k i).ex[i].length ≤ 4 := by
                    have h4 := congrArg List.length (hok.cut i hif hxl)
                    rw [if_neg (by omega), List.length_map, List.length_take] at h4
                    omega
                  have HLX := Lib.hid hok.len
                  generalize hL : Lk.row fs s k i = L at *
                  clear hL hok hgd
                  generalize fs[i].pg = pg at *
                  generalize fs[i].data = dd at *
                  have hpg : pg ≤ 16 := by rw [hpgd]; unfold pgs; omega
                  have hpgz : ∀ q, q < pg → 64 * q ≤ dd.size := fun q hq => by rw [hpgd] at hq; unfold pgs at hq; omega
                  have HPZ := Lib.hid hpgz
                  have hp1 := fun v => rpages_any dd.size v (by omega)
                  rw [← hpgd] at hp1
                  have HP1 := Lib.hid hp1
                  have hc1 := fun v => rcuts_any pg s v (by omega) h1 hs
                  unfold CutTold at hc1
                  obtain ⟨CL, hCL⟩ : ∃ CL, cutsL pg s = CL := ⟨_, rfl⟩
                  rw [hCL] at hthere hcs hclen hrs hc1
                  have HC1 := Lib.hid hc1
                  have HTH := Lib.hid hthere
                  have HCS := Lib.hid hcs
                  have HRS := Lib.hid hrs
                  have HST := Lib.hid hst
                  have HB := Lib.hid hB
                  have hgw : gi ≤ wr.heap.size := by have h2 := hB.size; have h3 := HGI.out; omega
                  have HDC := Lib.hid (fun v (hv : Below gi w v) => (hv.cell (p := ⟨g, i * 2 + 1, none⟩) (by rw [← HGI.out]; exact hg)).trans d1)
                  replace d1 := (hB.cell (p := ⟨g, i * 2 + 1, none⟩) (by rw [← HGI.out]; exact hg)).trans d1
                  obtain ⟨dA, dc, rfl⟩ := own_slice2 hst.dat
                  clear hpgz hp1 hc1 hthere hcs hrs hst hB d0 hCL hpgd
                  by_cases hC0 : k < CL.length
                  · go_wp2_with (first
                      | (go_at_call 25; go_loud (refine (HP1.out _).mono ?_; rintro e v1 ⟨rfl, rfl⟩))
                      | (go_at_call 26; go_loud (refine (HC1.out _).mono ?_; rintro e v2 ⟨cA, cc, rfl, hco, hcb⟩; have HCO := Lib.hid hco; have HST2 := Lib.hid (HST.out.below hcb); have HB2 := Lib.hid (HB.out.trans (hcb.mono hgw)); clear hco hcb)))
                    have hgv : gi ≤ v2.heap.size := by have h2 := HB2.out.size; have h3 := HGI.out; omega
                    obtain ⟨gc, hcv, hcc⟩ : ∃ gc, cA = some ⟨gc, 0, none⟩ ∧ ∀ v : World, v.ownsRow wr.heap.size 3 1 (.slice cA CL.length cc) CL.length (intCells CL) → ∀ j (hj : j < CL.length), v.cell? ⟨gc, j, none⟩ = some (.int .i64 (CL[j] : Nat)) := by
                      rcases HCO.out.2 with ⟨_, h0⟩ | ⟨gc, cap, cur, hv, _⟩
                      · omega
                      · injection hv with h2 h3 h4
                        refine ⟨gc, h2, fun v hv j hj => ?_⟩
                        have h5 := hv.cells (g := gc) (by rw [h2]; rfl) j (.int .i64 (CL[j] : Nat)) (by simp [intCells, List.getElem?_eq_getElem hj])
                        rwa [show (⟨gc, 0, none⟩ : Addr).add j = ⟨gc, j, none⟩ by unfold Addr.add; split <;> simp_all] at h5
                    subst hcv
                    have HCC := Lib.hid hcc
                    have hCk : (CL[k]'hC0) ≤ pg := by
                      have h2 := take_sum_succ CL k
                      have h3 := take_sum_le CL (k + 1)
                      rw [List.getD, List.getElem?_eq_getElem hC0] at h2
                      have h4 := HCS.out
                      simp at h2
                      omega
                    have htk : ∀ j, (CL.take j).sum ≤ pg := fun j => by have h3 := take_sum_le CL j; have h4 := HCS.out; omega
                    have HTK := Lib.hid htk
                    clear hcc htk
                    go_loop [16, 17] (fun fr jj => ∃ j : Nat, j ≤ k ∧ jj = .int .i64 j ∧ fr = .int .i64 ((CL.take j).sum : Nat)) (fun _ jj => k - (intOf jj).toNat)
                    case atStart => exact ⟨0, Nat.zero_le _, rfl, by simp⟩
                    case round =>
                      obtain ⟨j, hj, rfl, rfl⟩ := hrel
                      by_cases hlt6 : j < k
                      · have hjl : j < CL.length := by omega
                        have c0 := HCC.out _ HCO.out j hjl
                        have hn2 := take_sum_succ CL j
                        rw [List.getD, List.getElem?_eq_getElem hjl] at hn2
                        have hb1 := HTK.out j
                        have hb2 := HTK.out (j + 1)
                        have HN2 := Lib.hid hn2
                        rw [hn2] at hb2
                        simp only [Option.getD_some] at hb2
                        clear hn2
                        generalize (CL.take j).sum = sj at *
                        generalize CL[j] = cj at *
                        go_wp2
                        go_round
                        case rel => exact ⟨j + 1, by omega, by go_num, by rw [HN2.out]; simp only [Option.getD_some]; go_num⟩
                        case measure => simp [intOf]; omega
                      · obtain rfl : j = k := by omega
                        have hr2 := HRS.out
                        have hck := HCC.out _ HCO.out j hC0
                        have hgdk : CL.getD j 0 = CL[j] := by rw [List.getD, List.getElem?_eq_getElem hC0]; rfl
                        rw [if_pos (HTH.out.2 hC0), hgdk] at hr2
                        have hFb := HTK.out (j + 1)
                        have hn2 := take_sum_succ CL j
                        rw [hgdk] at hn2
                        rw [hn2] at hFb
                        have HCC2 := Lib.hid (fun v (hv : v.ownsRow wr.heap.size 3 1 (.slice (some ⟨gc, 0, none⟩) CL.length cc) CL.length (intCells CL)) => HCC.out v hv j hC0)
                        obtain ⟨FR, hFR⟩ : ∃ FR, (CL.take j).sum = FR := ⟨_, rfl⟩
                        obtain ⟨C, hC⟩ : ∃ C, CL[j] = C := ⟨_, rfl⟩
                        rw [hFR, hC] at hr2 hFb
                        rw [hC] at hck hCk HCC2
                        rw [hFR]
                        have HR2 := Lib.hid hr2
                        clear hr2 hn2 hgdk hC hFR HCC HTK HCS HTH HRS
                        have hown := HST2.out.own i hxl hvl
                        obtain ⟨vA, vc, hvs⟩ := own_slice2 hown
                        have cx := HST2.out.ext_at i hif hvl
                        rw [hvs] at cx
                        have k0 : (0 : Int) ≤ (i : Int) := by omega
                        have k1 : (i : Int) < (t : Int) := by omega
                        have j0 : (0 : Int) ≤ (j : Int) := by omega
                        have j1 : (j : Int) < (CL.length : Int) := by omega
                        obtain ⟨u, hu⟩ : ∃ u, 1 + t + L.dat.length = u := ⟨_, rfl⟩
                        have hub : u ≤ 2000000 := by omega
                        have huI : (1 + (t : Int)) + (L.dat.length : Int) = (u : Int) := by omega
                        have hw1 : IntKind.i64.wrap (1 + (t : Int)) = 1 + (t : Int) := IntWalk.i64_in _ (by omega)
                        have hw2 : IntKind.i64.wrap (u : Int) = (u : Int) := IntWalk.i64_in _ (by omega)
                        have HVS := Lib.hid hvs
                        have HU := Lib.hid hu
                        clear hown hvs hu
                        have hst3 := (HST2.out.alloc (.cells #[.int .i64 u, .int .i64 C] 70)).drew
                        have hown3 := hst3.own i hxl hvl
                        have hB3 := (HB2.out.alloc hgv (.cells #[.int .i64 u, .int .i64 C] 70)).drew
                        have hnew := World.news_of_block (cs := #[.int .i64 (u : Nat), .int .i64 (C : Nat)]) (t := 70) (fr := (0, 0)) (heap_alloc_new v2 (.cells #[.int .i64 (u : Nat), .int .i64 (C : Nat)] 70))
                        have hsz3 : gi ≤ (v2.alloc (.cells #[.int .i64 u, .int .i64 C] 70)).drew.heap.size := by have h2 := hB3.size; have h3 := HGI.out; omega
                        have hco3 : (v2.alloc (.cells #[.int .i64 u, .int .i64 C] 70)).drew.ownsRow wr.heap.size 3 1 (.slice (some ⟨gc, 0, none⟩) CL.length cc) CL.length (intCells CL) := HCO.out.alloc _
                        have cxd : v2.drew.cell? ⟨gi, i * 3 + 2, none⟩ = _ := cx
                        have ckd : v2.drew.cell? ⟨gc, j, none⟩ = _ := hck
                        have cxa := hst3.ext_at i hif hvl
                        rw [HVS.out] at cxa
                        have cka := HCC2.out _ hco3
                        have cxb : (v2.alloc (.cells #[.int .i64 u, .int .i64 C] 70)).cell? ⟨gi, i * 3 + 2, none⟩ = _ := cxa
                        have ckb : (v2.alloc (.cells #[.int .i64 u, .int .i64 C] 70)).cell? ⟨gc, j, none⟩ = _ := cka
                        rw [HVS.out] at hown3
                        have HX := Lib.hid (show (inoCells (inosOf fs L.ex) vs).toArray[i * 3 + 2]? = some vs[i] by
                          have hx2 := (inoCells_at (inosOf fs L.ex) vs i (by rw [inosOf_length HLX.out]; exact hif) hvl).2.2
                          simpa using hx2)
                        have HST3 := Lib.hid hst3
                        have HOWN3 := Lib.hid hown3
                        have HB3 := Lib.hid hB3
                        have HN3 := Lib.hid hnew
                        have HCO3 := Lib.hid hco3
                        have HSZ3 := Lib.hid hsz3
                        clear hst3 hown3 hB3 hnew hco3 hsz3
                        go_wp2_with (fail)
                        go_cut [] from 107 to 181 (fun wx => ∃ vA' vc', RSt wx gi gi fs (L.ex.set i (L.ex[i] ++ [(u, C)])) (vs.set i (.slice vA' (L.ex[i].length + 1) vc')) (.slice dA L.dat.length dc) L.dat ∧ Below gi w wx ∧ wx.ownsRow wr.heap.size 3 1 (.slice (some ⟨gc, 0, none⟩) CL.length cc) CL.length (intCells CL))
                        case first =>
                          go_wp2_with (fail)
                          go_region_law (first
                            | (refine step_append_lies _ (by rfl) _ _ _ (by rfl) gi 70 i0 _ 2 16 Tryd.underlying65 hi0 hz0 hz1 hz2 rfl (by decide) (.slice vA L.ex[i].length vc) L.ex[i].length (extCells L.ex[i]) (by rfl) HOWN3.out ⟨v2.heap.size, 0, none⟩ 1 1 [.int .i64 (u : Nat), .int .i64 (C : Nat)] (by rfl) (by rfl) HN3.out (by simp [Value.oneCell']) (by omega) (by unfold maxLen; omega) (by omega) HSZ3.out (v2.heap.size + 1) (by simp) ?_; intro gg cap w1 hown1 hgrow hat hlt1
                               have HP2 := Lib.hid (HST3.out.push i hif hxl hvl (u, C) (.slice (some ⟨gg, 0, none⟩) (L.ex[i].length + 1) cap) (by rw [HVS.out]; exact hgrow) hown1 (by rw [HVS.out]; rcases hat with h | h; exact .inl h.symm; exact .inr (by simp [Value.ownBlock, h])))
                               have hb1 := HST3.out.bi.grown hgrow (fun e => HST3.out.bi.not_row (by decide) HOWN3.out e.symm)
                               have q1 := hb1.frozen (i * 3 + 2)
                               have q0 := hb1.at_ (i * 3 + 2) _ HX.out
                               have HB4 := Lib.hid (HB3.out.grown hgrow HSZ3.out (by exact fun k hk => own_ge HOWN3.out hk))
                               have HBI4 := Lib.hid hb1
                               have HCO4 := Lib.hid (own_by HCO3.out (fun g cur _ _ hb => hb.grown hgrow (fun e => by have h2 := own_type HOWN3.out e.symm hb; revert h2; decide)))
                               clear hown1 hgrow hat hb1))
                          all_goals
                            have HB5 := Lib.hid (HB4.out.setCell (p := ⟨gi, i * 3 + 2, none⟩) (Nat.le_refl _) (.slice (some ⟨gg, 0, none⟩) (L.ex[i].length + 1) cap))
                            have HCO5 := Lib.hid (own_by HCO4.out (fun g cur _ _ hb => hb.far (p := ⟨gi, i * 3 + 2, none⟩) (fun e => by
                              have e' : g = gi := e
                              subst e'
                              have h2 := hb.two HBI4.out
                              revert h2
                              decide) (.slice (some ⟨gg, 0, none⟩) (L.ex[i].length + 1) cap)))
                            go_wp2_with (fail)
                            go_meet
                            exact ⟨some ⟨gg, 0, none⟩, cap, HP2.out, HB5.out, HCO5.out⟩
                        case rest =>
                          obtain ⟨vA', vc', hst, hB, hco⟩ := hcut
                          clear HST HB cx cxd cxa cxb hck ckd cka ckb HST3 HOWN3 HB3 HN3 HCO3 HSZ3 HX HST2 HB2 HCO d1
                          generalize wr.heap.size = Bc at *
                          obtain ⟨EX, hEX⟩ : ∃ EX, L.ex.set i (L.ex[i] ++ [(u, C)]) = EX := ⟨_, rfl⟩
                          obtain ⟨VS, hVS⟩ : ∃ VS, vs.set i (.slice vA' (L.ex[i].length + 1) vc') = VS := ⟨_, rfl⟩
                          rw [hEX, hVS] at hst
                          have HEX := Lib.hid hEX
                          have HST6 := Lib.hid hst
                          have HB6 := Lib.hid hB
                          have HCO6 := Lib.hid hco
                          clear hst hB hco hEX hVS
                          have hFb2 : FR + C ≤ 16 := by omega
                          go_wp2
                          go_loopw [11, 18] (fun dv' p wr => ∃ Q : Nat, FR ≤ Q ∧ Q ≤ FR + C ∧ p = .int .i64 Q ∧ RSt wr gi gi fs EX VS dv' (L.dat ++ pagesL dd FR (Q - FR)) ∧ Below gi w wr ∧ wr.ownsRow Bc 3 1 (.slice (some ⟨gc, 0, none⟩) CL.length cc) CL.length (intCells CL)) (fun _ p _ => FR + C - (intOf p).toNat)
                          case atStart => exact ⟨FR, Nat.le_refl _, by omega, rfl, by rw [Nat.sub_self]; simpa [pagesL] using HST6.out, HB6.out, HCO6.out⟩
                          case round =>
                            clear HST6 HB6 HCO6
                            obtain ⟨Q, hQ1, hQ2, rfl, hst, hB, hco⟩ := hrel
                            have ck := HCC2.out _ hco
                            have dC := HDC.out _ hB
                            by_cases hlt7 : Q < FR + C
                            · obtain ⟨dA', dc', rfl⟩ := own_slice2 hst.dat
                              have hq64 := HPZ.out Q (by omega)
                              have hsn : L.dat ++ pagesL dd FR (Q + 1 - FR) = (L.dat ++ pagesL dd FR (Q - FR)) ++ [fillS (dd.extract (64 * Q) dd.size) 64] := by
                                rw [show Q + 1 - FR = (Q - FR) + 1 by omega, pagesL_snoc, fillS_page, List.append_assoc, show FR + (Q - FR) = Q by omega]
                              have hdtl : (L.dat ++ pagesL dd FR (Q - FR)).length ≤ 1000000 := by
                                rw [List.length_append]
                                have h2 : (pagesL dd FR (Q - FR)).length = Q - FR := by simp [pagesL]
                                omega
                              have hff := fun v => rfill_any (dd.extract (64 * Q) dd.size) 64 v (by decide) (by rw [ByteArray.size_extract]; omega) (by omega)
                              obtain ⟨DT, hDT⟩ : ∃ DT, L.dat ++ pagesL dd FR (Q - FR) = DT := ⟨_, rfl⟩
                              rw [hDT] at hsn hst hdtl
                              obtain ⟨F, hF⟩ : ∃ F, fillS (dd.extract (64 * Q) dd.size) 64 = F := ⟨_, rfl⟩
                              rw [hF] at hsn hff
                              rw [hDT]
                              have HFF := Lib.hid hff
                              have HSN := Lib.hid hsn
                              have HST7 := Lib.hid hst
                              have HB7 := Lib.hid hB
                              have HCO7 := Lib.hid hco
                              have hgw7 : gi ≤ wr.heap.size := by have h2 := hB.size; have h3 := HGI.out; omega
                              have m0 : (0 : Int) ≤ 64 * (Q : Int) := by omega
                              have m1 : IntKind.i64.wrap (64 * (Q : Int)) = 64 * (Q : Int) := IntWalk.i64_in _ (by omega)
                              have m2 : (64 * (Q : Int)).toNat = 64 * Q := by omega
                              have m3 : 64 * (Q : Int) ≤ (dd.size : Int) := by omega
                              clear hff hsn hst hB hco hDT hF
                              go_wp2_with (first
                                | (go_at_call 27; go_loud (refine (HFF.out _).mono ?_; rintro e v5 ⟨rfl, hb5⟩; have HST8 := Lib.hid ((HST7.out.below hb5).alloc (.cells #[.string F] 9)); have HB8 := Lib.hid ((HB7.out.trans (hb5.mono hgw7)).alloc (by have h2 := hb5.size; omega) (.cells #[.string F] 9)); have HCO8 := Lib.hid ((own_by HCO7.out (fun g cur _ _ hg => hg.below hb5 hg.lt)).alloc (.cells #[.string F] 9)); have HN8 := Lib.hid (World.news_of_block (cs := #[.string F]) (t := 9) (fr := (0, 0)) (heap_alloc_new v5 (.cells #[.string F] 9))); have hs8 : gi ≤ (v5.alloc (.cells #[.string F] 9)).heap.size := (by have h2 := hb5.size; simp; omega); clear hb5))
                                | (at_builtin; go_loud (refine wpList_append_own _ rfl _ _ 29 rfl gi 9 i1 _ 1 16 Tryd.underlying29 hj0 hy0 hy1 hy2 rfl (by decide) (.slice dA' DT.length dc') DT.length (strs DT) rfl HST8.out.dat ⟨v5.heap.size, 0, none⟩ 1 1 [.string F] rfl (by rfl) HN8.out (by simp [Value.oneCell']) (by unfold maxLen; omega) (by omega) hs8 ?_; intro v' w1 hown1 hgrow hnil; have HAP := Lib.hid (HST8.out.app F v' hgrow hown1); have HB9 := Lib.hid (HB8.out.grown hgrow hs8 (by exact fun k hk => own_ge HST8.out.dat hk)); have HCO9 := Lib.hid (own_by HCO8.out (fun g cur _ _ hb => hb.grown hgrow (fun e => by have h2 := own_type HST8.out.dat e.symm hb; revert h2; decide))); clear hown1 hgrow hnil)))
                              go_roundw
                              case rel => exact ⟨Q + 1, by omega, by omega, by go_num, by rw [HSN.out]; exact HAP.out, HB9.out, HCO9.out⟩
                              case measure => simp [intOf]; omega
                            · obtain rfl : Q = FR + C := by omega
                              have hr2 := HR2.out
                              rw [HU.out, HEX.out] at hr2
                              rw [Nat.add_sub_cancel_left] at hst
                              have HST7 := Lib.hid hst
                              have HB7 := Lib.hid hB
                              have HR3 := Lib.hid hr2
                              clear hst hB hco hr2
                              go_wp2
                              go_roundw
                              case rel => exact ⟨i + 1, VS, by omega, by go_num, by rw [HR3.out]; exact HST7.out, HB7.out⟩
                              case measure => simp [intOf]; omega
                  · have hr2 := HRS.out
                    rw [if_neg (fun h => hC0 (HTH.out.1 h))] at hr2
                    have HR2 := Lib.hid hr2
                    clear hr2
                    go_wp2_with (first
                      | (go_at_call 25; go_loud (refine (HP1.out _).mono ?_; rintro e v1 ⟨rfl, rfl⟩))
                      | (go_at_call 26; go_loud (refine (HC1.out _).mono ?_; rintro e v2 ⟨cA, cc, rfl, hco, hcb⟩; have HST2 := Lib.hid (HST.out.below hcb); have HB2 := Lib.hid (HB.out.trans (hcb.mono hgw)); clear hco hcb)))
                    go_roundw
                    case rel => exact ⟨i + 1, vs, by omega, by go_num, by rw [HR2.out]; exact HST2.out, HB2.out⟩
                    case measure => simp [intOf]; omega
                · obtain rfl : i = t := by omega
                  have HST := Lib.hid hst
                  have HB := Lib.hid hB
                  clear hst hB
                  go_wp2
                  go_roundw
                  case rel => exact ⟨k + 1, vs, by omega, by go_num, by rw [HNX.out, HN.out]; exact HST.out, HB.out⟩
                  case measure => simp [intOf]; omega
            · obtain rfl : k = 4 := by omega
              have hok := LaidOk.rows fs h1 4 (by omega)
              have hdb : ∀ f ∈ fs, f.data.size ≤ 1048576 := fun f hf => by have := (HSM.out f hf).2; omega
              have hu16 : 1 + fs.length + (Laid.rows fs s 4).dat.length ≤ 16384 := by rw [← HSD.out]; omega
              have hsmall := fun j hj hj' => (hok.small hdb hu16 j hj hj').1
              have hbl : builtL fs s = (headS t S :: ((inosOf fs (Laid.rows fs s 4).ex).take t).map inoS) ++ (Laid.rows fs s 4).dat := by
                unfold builtL diskL
                rw [← HSD.out, HN.out, List.take_of_length_le (by rw [inosOf_length hok.len, HN.out]; exact Nat.le_refl _)]
              have hxl := hok.len
              clear hok
              generalize Laid.rows fs s 4 = L at *
              obtain ⟨dA, dc, rfl⟩ := own_slice2 hst.dat
              have hdl : L.dat.length ≤ 16384 := by omega
              have HHD := Lib.hid (fun v => rhead_any t S v (by omega) (by omega))
              generalize headS t S = HD at *
              have HBL := Lib.hid hbl
              have HSMALL := Lib.hid hsmall
              have HXL := Lib.hid hxl
              have HST := Lib.hid hst
              have HB := Lib.hid hB
              have hgw : gi ≤ wr.heap.size := by have h2 := hB.size; have h3 := HGI.out; omega
              clear hst hB hbl hsmall hxl hdb hu16
              go_wp2_with (go_at_call 28; refine (HHD.out _).mono ?_; rintro e v1 ⟨rfl, hb1⟩)
              have hs1 : gi ≤ v1.heap.size := by have h2 := hb1.size; omega
              have HST1 := Lib.hid ((HST.out.below hb1).alloc (.cells #[.string HD] 9))
              have HB1 := Lib.hid ((HB.out.trans (hb1.mono hgw)).alloc hs1 (.cells #[.string HD] 9))
              have HRO1 := Lib.hid (show (v1.alloc (.cells #[.string HD] 9)).ownsRow gi 9 1 (.slice (some ⟨v1.heap.size, 0, none⟩) 1 1) 1 (strs [HD]) from ⟨by simp [strs], .inr ⟨v1.heap.size, 1, #[.string HD], rfl, hs1, heap_alloc_new v1 _, Nat.le_refl _, by decide, by simp, by simp [strs]⟩⟩)
              have hap1 : ∀ g, (Value.slice (some ⟨v1.heap.size, 0, none⟩) 1 1).ownBlock = some g → (Value.slice dA L.dat.length dc).ownBlock = some g → False := fun g e1 e2 => by
                have h2 := ((HST.out.below hb1).dat.lt g e2).2
                simp [Value.ownBlock] at e1
                omega
              have HAP1 := Lib.hid hap1
              clear hb1 hap1 HST HB
              generalize v1.alloc (.cells #[.string HD] 9) = W8 at *
              generalize v1.heap.size = bo at *
              go_loopw [19, 20] (fun ov p wr => ∃ i : Nat, i ≤ t ∧ p = .int .i64 i ∧ RSt wr gi gi fs L.ex vs (.slice dA L.dat.length dc) L.dat ∧ Below gi w wr ∧ wr.ownsRow gi 9 1 ov (1 + i) (strs (HD :: ((inosOf fs L.ex).take i).map inoS)) ∧ ov ≠ .slice none 0 0 ∧ (∀ g, ov.ownBlock = some g → (Value.slice dA L.dat.length dc).ownBlock = some g → False)) (fun _ p _ => t - (intOf p).toNat)
              case atStart => exact ⟨0, Nat.zero_le _, rfl, HST1.out, HB1.out, HRO1.out, by simp, HAP1.out⟩
              case round =>
                clear HST1 HB1 HRO1 HAP1
                obtain ⟨i, hi, rfl, hst, hB, hro, hnn, hap⟩ := hrel
                by_cases hlt8 : i < t
                · have hif : i < fs.length := by rw [HN.out]; exact hlt8
                  have hxi : i < L.ex.length := by rw [HXL.out]; exact hif
                  have hvi : i < vs.length := by rw [hst.lenv]; exact hif
                  have hii : i < (inosOf fs L.ex).length := by rw [inosOf_length HXL.out]; exact hif
                  obtain ⟨e0, e1, e2⟩ := inoCells_at (inosOf fs L.ex) vs i hii hvi
                  obtain ⟨_, _, hxe⟩ := inosOf_at hii
                  have hsz := HSM.out _ (List.getElem_mem hif)
                  have hsn : strs (HD :: ((inosOf fs L.ex).take (i + 1)).map inoS) = strs (HD :: ((inosOf fs L.ex).take i).map inoS) ++ [.string (inoS (inosOf fs L.ex)[i])] := by
                    rw [List.take_succ_eq_append_getElem hii, List.map_append, List.map_singleton, ← List.cons_append, strs_snoc]
                  have hin := fun v => rinode_any (inosOf fs L.ex)[i] vs[i] v (by rw [hxe]; exact Nat.le_trans hsz.1 (by decide)) (by rw [hxe]; exact Nat.le_trans hsz.2 (by decide)) (by rw [hxe]; exact HSMALL.out i hif hxi)
                  have hex : ExtRow wr vs[i] (inosOf fs L.ex)[i].ext := by rw [hxe]; exact ExtRow.of_own (hst.own i hxi hvi)
                  have s0 := hst.bi.at_ (i * 3) _ (by simpa using e0)
                  have s1 := hst.bi.at_ (i * 3 + 1) _ (by simpa using e1)
                  have s2 := hst.bi.at_ (i * 3 + 2) _ (by simpa using e2)
                  have hgw8 : gi ≤ wr.heap.size := by have h2 := hB.size; have h3 := HGI.out; omega
                  have k0 : (0 : Int) ≤ (i : Int) := by omega
                  have k1 : (i : Int) < (t : Int) := by omega
                  obtain ⟨oA, oc, rfl⟩ := own_slice2 hro
                  clear e0 e1 e2 hxe hnn
                  generalize (inosOf fs L.ex)[i] = x at *
                  unfold inoV at hin
                  have HSN := Lib.hid hsn
                  have HIN := Lib.hid hin
                  have HEX := Lib.hid hex
                  have HST2 := Lib.hid hst
                  have HB2 := Lib.hid hB
                  have HRO2 := Lib.hid hro
                  have HAP2 := Lib.hid hap
                  obtain ⟨OL, hOL⟩ : ∃ OL, strs (HD :: ((inosOf fs L.ex).take i).map inoS) = OL := ⟨_, rfl⟩
                  rw [hOL] at HSN HRO2
                  clear hsn hin hex hst hB hro hap hOL
                  go_wp2_with (first
                    | (go_at_call 29; go_loud (refine (HIN.out _ HEX.out).mono ?_; rintro e v5 ⟨rfl, hb5⟩; have HST8 := Lib.hid ((HST2.out.below hb5).alloc (.cells #[.string (inoS x)] 9)); have HB8 := Lib.hid ((HB2.out.trans (hb5.mono hgw8)).alloc (by have h2 := hb5.size; omega) (.cells #[.string (inoS x)] 9)); have HRO8 := Lib.hid ((own_by HRO2.out (fun g cur _ _ hg => hg.below hb5 hg.lt)).alloc (.cells #[.string (inoS x)] 9)); have HN8 := Lib.hid (World.news_of_block (cs := #[.string (inoS x)]) (t := 9) (fr := (0, 0)) (heap_alloc_new v5 (.cells #[.string (inoS x)] 9))); have hs8 : gi ≤ (v5.alloc (.cells #[.string (inoS x)] 9)).heap.size := (by have h2 := hb5.size; simp; omega); clear hb5))
                    | (at_builtin; go_loud (refine wpList_append_own_at _ rfl _ _ 29 rfl gi 9 i1 _ 1 16 Tryd.underlying29 hj0 hy0 hy1 hy2 rfl (by decide) (.slice oA (1 + i) oc) (1 + i) OL rfl HRO8.out ⟨v5.heap.size, 0, none⟩ 1 1 [.string (inoS x)] rfl (by rfl) HN8.out (by simp [Value.oneCell']) (by unfold maxLen; omega) (by omega) hs8 ?_; intro v' w1 hown1 hgrow hnil hat; have HST9 := Lib.hid (HST8.out.far HRO8.out hgrow HAP2.out); have HB9 := Lib.hid (HB8.out.grown hgrow hs8 (by exact fun k hk => own_ge HRO8.out hk)); have HRO9 := Lib.hid hown1; have HNN9 := Lib.hid (show v' ≠ .slice none 0 0 from fun e => by have h2 := (hnil.1 e).2; omega); have HAP9 := Lib.hid (apart_next HAP2.out (fun g e => (HST8.out.dat.lt g e).2) hat); clear hown1 hgrow hnil hat)))
                  go_roundw
                  case rel => exact ⟨i + 1, by omega, by go_num, HST9.out, HB9.out, by rw [HSN.out, show 1 + (i + 1) = 1 + i + 1 by omega]; exact HRO9.out, HNN9.out, HAP9.out⟩
                  case measure => simp [intOf]; omega
                · obtain rfl : i = t := by omega
                  have hbl := HBL.out
                  obtain ⟨OL, hOL⟩ : ∃ OL, HD :: ((inosOf fs L.ex).take i).map inoS = OL := ⟨_, rfl⟩
                  rw [hOL] at hro hbl
                  obtain ⟨oA, oc, rfl⟩ := own_slice2 hro
                  have hgw8 : gi ≤ wr.heap.size := by have h2 := hB.size; have h3 := HGI.out; omega
                  have HRO := Lib.hid hro
                  have HB8 := Lib.hid hB
                  have HNN := Lib.hid hnn
                  have HDT := Lib.hid hst.dat
                  have HOL := Lib.hid (show strs (builtL fs s) = strs OL ++ strs L.dat by rw [hbl]; simp [strs])
                  have HLL := Lib.hid (show L.dat.length = 0 → builtL fs s = OL from fun h => by rw [hbl, List.length_eq_zero_iff.1 h, List.append_nil])
                  have HGI2 := Lib.hid HGI.out
                  clear hbl hro hB hst hnn hap hOL HBL
                  rcases HDT.out.2 with ⟨hv, hn0⟩ | ⟨gd, cap, cur, hv, _⟩
                  · injection hv with hv1 hv2 hv3
                    subst hv1 hv3
                    rw [hn0]
                    go_wp2_with (at_builtin; go_loud (refine wpList_append_own_none rfl _ _ 29 rfl gi 9 i1 1 Tryd.underlying29 hj0 (.slice oA (1 + i) oc) (1 + i) (strs OL) rfl HRO.out rfl ?_))
                    go_ret2
                    have he := HLL.out hn0
                    rw [he]
                    obtain ⟨g, c, e, hB, ht⟩ := text_of_own HRO.out HNN.out
                    rw [e]
                    exact ⟨g, c, rfl, by rw [HGI2.out]; exact hB, ht, by rw [HGI2.out]; exact HB8.out⟩
                  · injection hv with hv1 hv2 hv3
                    subst hv1
                    have HNW := Lib.hid (HDT.out.cells (g := gd) rfl)
                    go_wp2_with (at_builtin; go_loud (refine wpList_append_own _ rfl _ _ 29 rfl gi 9 i1 _ 1 16 Tryd.underlying29 hj0 hy0 hy1 hy2 rfl (by decide) (.slice oA (1 + i) oc) (1 + i) (strs OL) rfl HRO.out ⟨gd, 0, none⟩ L.dat.length dc (strs L.dat) rfl (by simp [strs]) HNW.out (strs_cell _) (by unfold maxLen; omega) (by omega) hgw8 ?_; intro v' w1 hown1 hgrow hnil; have HRO9 := Lib.hid hown1; have HB9 := Lib.hid (HB8.out.grown hgrow hgw8 (by exact fun k hk => own_ge HRO.out hk)); have HNN9 := Lib.hid (show v' ≠ .slice none 0 0 from fun e => HNN.out (hnil.1 e).1); clear hown1 hgrow hnil))
                    go_ret2
                    have h9 := HRO9.out
                    rw [← HOL.out] at h9
                    obtain ⟨g, c, e, hB, ht⟩ := text_of_own h9 HNN9.out
                    rw [e]
                    exact ⟨g, c, rfl, by rw [HGI2.out]; exact hB, ht, by rw [HGI2.out]; exact HB9.out⟩
end Go.Proofs.YtmbjflcmbenbdaaDoor
