/- Package files: lay. -/
import Derived.Test.YtgkhgjihjbjfnaaDoorFN
namespace Go.Proofs.YtgkhgjihjbjfnaaDoor
open Go.RowKit Go.Shelf
set_option linter.unusedVariables false
set_option linter.unusedSimpArgs false

/-- Files were laid. -/
def WasLaid (w : World) (fs : List Fl) (s : Nat) (e : Ending) (w' : World) : Prop :=
  ∃ gi gl ls vs, e = .returned (.tuple #[.slice (some ⟨gi, 0, none⟩) fs.length fs.length, .int .i64 (1 + fs.length + (Laid.rows fs s 4).dat.length : Nat)]) ∧ LaySt w' w.heap.size gi gl fs (Laid.rows fs s 4).ex ls vs ∧ w.heap.size ≤ gi ∧ Below w.heap.size w w'

set_option maxRecDepth 100000 in
set_option maxHeartbeats 4000000 in
theorem lay_any (A : Option Addr) (c : Nat) (fs : List Fl) (s : Nat) (w : World) (hf : FileRow w (.slice A fs.length c) fs) (hm : fs.length ≤ 64) (hd : ∀ f ∈ fs, f.data.size ≤ 1048576) (h1 : 1 ≤ s) (hs : (Lit.int .i64 s).wf = true) :
    Calls Tryd.prog 27 #[.slice A fs.length c, .int .i64 s] w (WasLaid w fs s) := by
  obtain ⟨_, _⟩ := bounds_i64 hs
  obtain ⟨i0, hi0, hz0, hz1, hz2⟩ := info_parts infoExt
  have m1 := run_make_ino fs.length (by omega)
  have m2 := run_make_ints fs.length (by omega)
  have HF := Lib.hid (fun (k : Nat) (hk : k < fs.length) => hf.at_ k hk)
  have HD := Lib.hid hd
  have HP := Lib.hid (fun (n : Nat) w (hn : n ≤ 1048576) => pages_any n w (by omega))
  have hbi := (Blk.new w 55 (inoCells (List.replicate fs.length noIno) (List.replicate fs.length (.slice none 0 0))).toArray).alloc (.cells (intCells (List.replicate fs.length 0)).toArray 3)
  have hbl := Blk.new (w.alloc (.cells (inoCells (List.replicate fs.length noIno) (List.replicate fs.length (.slice none 0 0))).toArray 55)) 3 (intCells (List.replicate fs.length 0)).toArray
  have hB0 := ((Below.refl w.heap.size w).alloc (Nat.le_refl _) (.cells (inoCells (List.replicate fs.length noIno) (List.replicate fs.length (.slice none 0 0))).toArray 55)).alloc (by simp) (.cells (intCells (List.replicate fs.length 0)).toArray 3)
  have hz : (w.alloc (.cells (inoCells (List.replicate fs.length noIno) (List.replicate fs.length (.slice none 0 0))).toArray 55)).heap.size = w.heap.size + 1 := World.size_alloc ..
  rw [hz] at hbl
  clear hf hd
  go_enter Tryd.func27, Tryd.ntmps27
  go_wp2
  go_loopw [22] (fun i wr => ∃ (k : Nat) (xs : List Ino) (ls : List Nat), k ≤ fs.length ∧ i = .int .i64 k ∧ xs.length = fs.length ∧ ls.length = fs.length ∧ (∀ j (h : j < fs.length), j < k → xs[j]? = some ⟨fs[j].name, fs[j].data.size, []⟩) ∧ (∀ j (h : j < fs.length), j < k → ls[j]? = some fs[j].pg) ∧ Blk wr w.heap.size 55 (inoCells xs (List.replicate fs.length (.slice none 0 0))).toArray ∧ Blk wr (w.heap.size + 1) 3 (intCells ls).toArray ∧ Below w.heap.size w wr) (fun i _ => fs.length - (intOf i).toNat)
  case atStart => exact ⟨0, _, _, Nat.zero_le _, rfl, List.length_replicate .., List.length_replicate .., by intros; omega, by intros; omega, hbi, by first | exact hbl | (rw [hz]; exact hbl), hB0⟩
  case round =>
    obtain ⟨k, xs, ls, hk, rfl, hxl, hll, hxs, hls, hbi, hbl, hB⟩ := hrel
    by_cases hlt : k < fs.length
    · obtain ⟨g, rfl, hg, c0, c1⟩ := HF.out k hlt
      replace c0 := (hB.cell (p := ⟨g, k * 2, none⟩) hg).trans c0
      replace c1 := (hB.cell (p := ⟨g, k * 2 + 1, none⟩) hg).trans c1
      have hdk := HD.out _ (List.getElem_mem hlt)
      have hx1 := hxs
      obtain ⟨f, hfk⟩ : ∃ f, fs[k] = f := ⟨_, rfl⟩
      rw [hfk] at c0 c1 hdk
      obtain ⟨e0, e1, e2⟩ := inoCells_at xs (List.replicate fs.length (.slice none 0 0)) k (by omega) (by simpa using hlt)
      have hbx := hbi.alloc (.cells #[.string f.name, .string f.data] 32)
      have hby := hbl.alloc (.cells #[.string f.name, .string f.data] 32)
      have hbox := Blk.new wr 32 #[.string f.name, .string f.data]
      have hne1 : w.heap.size < wr.heap.size := hbi.lt
      have hne2 : w.heap.size + 1 < wr.heap.size := hbl.lt
      have hB2 := hB.alloc hB.size (.cells #[.string f.name, .string f.data] 32)
      have n1 : wr.heap.size ≠ w.heap.size := by omega
      have n2 : wr.heap.size ≠ w.heap.size + 1 := by omega
      have n3 : w.heap.size ≠ wr.heap.size := by omega
      have n4 : w.heap.size + 1 ≠ wr.heap.size := by omega
      obtain ⟨W, hW⟩ : ∃ W, wr.alloc (.cells #[.string f.name, .string f.data] 32) = W := ⟨_, rfl⟩
      rw [hW] at hbx hby hbox hB2
      have HW := Lib.hid hW
      clear hW
      have s0 := hbx.at_ (k * 3) _ (by simpa using e0)
      have s1 := hbx.at_ (k * 3 + 1) _ (by simpa using e1)
      have s2 := hbx.at_ (k * 3 + 2) _ (by simpa using e2)
      have g0 := hbx.frozen (k * 3)
      have g1 := hbx.frozen (k * 3 + 1)
      have g2 := hbx.frozen (k * 3 + 2)
      have t0 := hby.at_ k (.int .i64 (ls[k] : Nat)) (by simp [intCells, List.getElem?_eq_getElem (show k < ls.length by omega)])
      have t1 := hby.frozen k
      have x0 := hbox.at_ 0 _ rfl
      have x1 := hbox.at_ 1 _ rfl
      have HXS := Lib.hid hxs
      have HLS := Lib.hid hls
      clear hxs hls hx1 e0 e1 e2
      go_wp2_with (first | (rw [HW.out]) | go_at_call 42; refine (HP.out f.data.size _ hdk).mono ?_; rintro e v1 ⟨rfl, rfl⟩)
      go_roundw
      case rel =>
        refine ⟨k + 1, xs.set k ⟨f.name, f.data.size, []⟩, ls.set k f.pg, by omega, by go_num, by simpa using hxl, by simpa using hll, fun j hj hjk => ?_, fun j hj hjk => ?_, ?_, ?_, ?_⟩
        · rw [List.getElem?_set]
          by_cases e : k = j
          · subst e
            rw [if_pos rfl, if_pos (by omega), hfk]
          · rw [if_neg e]
            exact HXS.out j hj (by omega)
        · rw [List.getElem?_set]
          by_cases e : k = j
          · subst e
            rw [if_pos rfl, if_pos (by omega), hfk]
          · rw [if_neg e]
            exact HLS.out j hj (by omega)
        · have h2 := ((((hbx.set_ (k * 3) (.string f.name)).set_ (k * 3 + 1) (.int .i64 f.data.size)).set_ (k * 3 + 2) (.slice none 0 0)).far (p := ⟨w.heap.size + 1, k, none⟩) (by simp) (.int .i64 (pgs f.data.size : Nat)))
          have h3 := inoCells_set xs (List.replicate fs.length (.slice none 0 0)) k ⟨f.name, f.data.size, []⟩ (.slice none 0 0) (by omega) (by simpa using hlt)
          rw [List.set_replicate_self] at h3
          rw [h3]
          simpa using h2
        · have h2 := (((hby.far (p := ⟨w.heap.size, k * 3, none⟩) (by simp) (.string f.name)).far (p := ⟨w.heap.size, k * 3 + 1, none⟩) (by simp) (.int .i64 f.data.size)).far (p := ⟨w.heap.size, k * 3 + 2, none⟩) (by simp) (.slice none 0 0)).set_ k (.int .i64 (pgs f.data.size : Nat))
          unfold intCells at h2 ⊢
          rw [List.map_set]
          simpa [Fl.pg] using h2
        · exact (((hB2.setCell (p := ⟨w.heap.size, k * 3, none⟩) (Nat.le_refl _) _).setCell (p := ⟨w.heap.size, k * 3 + 1, none⟩) (Nat.le_refl _) _).setCell (p := ⟨w.heap.size, k * 3 + 2, none⟩) (Nat.le_refl _) _).setCell (p := ⟨w.heap.size + 1, k, none⟩) (by simp) _
      case measure => simp [intOf]; omega
    · obtain rfl : k = fs.length := by omega
      have hxe : xs = inosOf fs (Laid.rows fs s 0).ex := by
        apply List.ext_getElem?
        intro j
        rcases Nat.lt_or_ge j fs.length with hj | hj
        · rw [hxs j hj hj]
          simp [inosOf, Laid.rows, hj]
        · rw [List.getElem?_eq_none (by omega), List.getElem?_eq_none (by rw [inosOf_length (by simp [Laid.rows])]; omega)]
      have hst : LaySt wr w.heap.size w.heap.size (w.heap.size + 1) fs (Laid.rows fs s 0).ex ls (List.replicate fs.length (.slice none 0 0)) := by
        refine ⟨by rw [← hxe]; exact hbi, hbl, by omega, by simp, by simp [Laid.rows], hll, fun j hj hj' => ?_, fun a b ha hb g ga => ?_⟩
        · have e : (Laid.rows fs s 0).ex[j] = [] := by simp [Laid.rows]
          rw [e, List.getElem_replicate]
          exact World.ownsRow_nil _ _ _ _
        · simp [Value.ownBlock] at ga
      have hle : ∀ j (h : j < fs.length), ls[j]? = some (fs[j].pg - ((cutsL fs[j].pg s).take 0).sum) := fun j hj => by rw [hls j hj hj]; simp
      have hu0 : (1 + (fs.length : Int)) = ((1 + fs.length + (Laid.rows fs s 0).dat.length : Nat) : Int) := by simp [Laid.rows]
      clear hxs hls hbi hbl hxe
      have HST := Lib.hid hst
      have HLE := Lib.hid hle
      have HU0 := Lib.hid hu0
      clear hst hle hu0
      go_wp2
      go_loopw [10, 47] (fun u p wr => ∃ (k : Nat) (ls : List Nat) (vs : List Value), k ≤ 4 ∧ p = .int .i64 k ∧ u = .int .i64 (1 + fs.length + (Laid.rows fs s k).dat.length : Nat) ∧ (∀ j (h : j < fs.length), ls[j]? = some (fs[j].pg - ((cutsL fs[j].pg s).take k).sum)) ∧ LaySt wr w.heap.size w.heap.size (w.heap.size + 1) fs (Laid.rows fs s k).ex ls vs ∧ Below w.heap.size w wr) (fun _ p _ => 4 - (intOf p).toNat)
      case atStart => exact ⟨0, _, _, by omega, rfl, by rw [← HU0.out], HLE.out, HST.out, hB⟩
      case round =>
        clear HST HLE HU0 hB
        obtain ⟨k, ls, vs, hk, rfl, rfl, hls, hst, hB⟩ := hrel
        by_cases hlt : k < 4
        · have HST := Lib.hid hst
          have HLS := Lib.hid hls
          clear hst hls
          have hok := (LaidOk.rows fs h1 k (by omega))
          have hrow0 := Laid.row_zero fs s k (Laid.rows fs s k)
          have hLE : ∀ j (h : j < fs.length), ls[j]? = some (fs[j].pg - ((cutsL fs[j].pg s).take (if j < 0 then k + 1 else k)).sum) := fun j hj => by rw [if_neg (by omega)]; exact HLS.out j hj
          have hnext := Laid.rows_succ fs s k
          have HN := Lib.hid hnext
          have HOK := Lib.hid hok
          clear hok hnext
          generalize Laid.rows fs s k = Lk at *
          rw [← hrow0] at HST
          obtain ⟨U, hU⟩ : ∃ U, 1 + fs.length + Lk.dat.length = U := ⟨_, rfl⟩
          have HU : Hid (1 + fs.length + (Lk.row fs s k 0).dat.length = U) := Lib.hid (by rw [hrow0]; exact hU)
          rw [hU]
          clear hU hrow0
          have HLE := Lib.hid hLE
          clear hLE HLS
          go_wp2
          go_loopw [10, 52] (fun u i wr => ∃ (i' : Nat) (ls : List Nat) (vs : List Value), i' ≤ fs.length ∧ i = .int .i64 i' ∧ u = .int .i64 (1 + fs.length + (Lk.row fs s k i').dat.length : Nat) ∧ (∀ j (h : j < fs.length), ls[j]? = some (fs[j].pg - ((cutsL fs[j].pg s).take (if j < i' then k + 1 else k)).sum)) ∧ LaySt wr w.heap.size w.heap.size (w.heap.size + 1) fs (Lk.row fs s k i').ex ls vs ∧ Below w.heap.size w wr) (fun _ i _ => fs.length - (intOf i).toNat)
          case atStart => exact ⟨0, _, _, by omega, rfl, by rw [HU.out], HLE.out, HST.out, hB⟩
          case round =>
            clear HST HLE HU hB
            obtain ⟨i, ls, vs, hi, rfl, rfl, hls, hst, hB⟩ := hrel
            by_cases hil : i < fs.length
            · have hok := HOK.out.row h1 (by omega) i hi
              have hdl := hok.dat_le HD.out
              have hpg := pg_le (HD.out _ (List.getElem_mem hil))
              have hxl : i < (Lk.row fs s k i).ex.length := by rw [hok.len]; exact hil
              have hvl : i < vs.length := by rw [hst.lenv]; exact hil
              have hll : i < ls.length := by rw [hst.lenl]; exact hil
              have hli := hls i hil
              rw [if_neg (by omega), List.getElem?_eq_getElem hll] at hli
              have hli := Option.some.inj hli
              have hcut := cuts_at (n := fs[i].pg) h1 (k := k) (by omega)
              have htl := take_sum_succ (cutsL fs[i].pg s) k
              have hthere := cuts_there (n := fs[i].pg) h1 k
              have hrs := Laid.row_succ fs s k Lk i
              unfold Laid.add at hrs
              rw [List.getElem?_eq_getElem hil] at hrs
              simp only at hrs
              have hls2 : ∀ C, C = (cutsL fs[i].pg s).getD k 0 → ∀ j (h : j < fs.length), (ls.set i (fs[i].pg - ((cutsL fs[i].pg s).take k).sum - C))[j]? = some (fs[j].pg - ((cutsL fs[j].pg s).take (if j < i + 1 then k + 1 else k)).sum) := fun C hC j hj => by
                rw [List.getElem?_set]
                by_cases e : i = j
                · subst e
                  rw [if_pos rfl, if_pos (by omega), if_pos (by omega), htl, hC]
                  congr 1
                  omega
                · rw [if_neg e, hls j hj]
                  by_cases h : j < i
                  · rw [if_pos h, if_pos (by omega)]
                  · rw [if_neg h, if_neg (by omega)]
              have hown := hst.own i hxl hvl
              have hgd : (Lk.row fs s k i).ex.getD i [] = (Lk.row fs s k i).ex[i] := by rw [List.getD, List.getElem?_eq_getElem hxl]; rfl
              rw [hgd] at hrs
              generalize hL : Lk.row fs s k i = L at *
              generalize hC : (cutsL fs[i].pg s).getD k 0 = C at *
              have hls3 := hls2 C rfl
              generalize hT : fs[i].pg - ((cutsL fs[i].pg s).take k).sum = T at *
              have hTle : T ≤ 16384 := by omega
              obtain ⟨vA, vc, hvs⟩ := own_slice2 hown
              have cL := hst.left_at i hll
              rw [hli] at cL
              have cx := hst.ext_at i hil hvl
              rw [hvs] at cx
              obtain ⟨u, hu⟩ : ∃ u, 1 + fs.length + L.dat.length = u := ⟨_, rfl⟩
              have hub : u ≤ 2000000 := by omega
              rw [hu] at hrs ⊢
              have hls4 : C = 0 → ls.set i (T - C) = ls := fun h => by
                rw [h, Nat.sub_zero, ← hli, List.set_getElem_self]
              have hCT : C ≤ T := by rw [hcut]; split <;> omega
              have hmin : k < 3 → min (T : Int) (s : Int) = (C : Int) := fun h => by rw [hcut, if_pos h]; omega
              have hmax : ¬ k < 3 → T = C := fun h => by rw [hcut, if_neg h]
              have HST := Lib.hid hst
              have HL3 := Lib.hid hls3
              have HL4 := Lib.hid hls4
              have HRS := Lib.hid hrs
              have HU := Lib.hid hu
              have HOWN := Lib.hid hown
              have HVS := Lib.hid hvs
              have HLX := Lib.hid hok.len
              have hlv := hst.lenv
              have hxs4 : L.ex[i].length ≤ 4 := by
                have h4 := congrArg List.length (hok.cut i hil hxl)
                rw [if_neg (by omega), List.length_map, List.length_take] at h4
                omega
              clear hls hls2 hls3 hls4 hst hok hrs hcut htl hthere hL hgd hC hu hT hown hvs
              by_cases hC0 : 0 < C
              · have hst2 := HST.out.alloc (.cells #[.int .i64 u, .int .i64 C] 61)
                have hown2 := hst2.own i hxl hvl
                have hB2 := hB.alloc hB.size (.cells #[.int .i64 u, .int .i64 C] 61)
                have hnew := World.news_of_block (cs := #[.int .i64 (u : Nat), .int .i64 (C : Nat)]) (t := 61) (fr := (0, 0)) (heap_alloc_new wr (.cells #[.int .i64 (u : Nat), .int .i64 (C : Nat)] 61))
                have hsz2 : w.heap.size ≤ (wr.alloc (.cells #[.int .i64 u, .int .i64 C] 61)).heap.size := hB2.size
                rw [HVS.out] at hown2
                have c2 := (hst2.ext_at i hil hvl)
                rw [HVS.out] at c2
                obtain ⟨W2, hW2⟩ : ∃ W2, wr.alloc (.cells #[.int .i64 u, .int .i64 C] 61) = W2 := ⟨_, rfl⟩
                rw [hW2] at hst2 hown2 hB2 hnew hsz2 c2
                have HW := Lib.hid hW2
                have HST2 := Lib.hid hst2
                have HOWN2 := Lib.hid hown2
                have HB2 := Lib.hid hB2
                have HN2 := Lib.hid hnew
                clear hW2 hst2 hown2 hB2 hnew
                have hr2 := HRS.out
                rw [if_pos hC0] at hr2
                have HR2 := Lib.hid hr2
                have HCT := Lib.hid hCT
                have hx2 := (inoCells_at (inosOf fs L.ex) vs i (by rw [inosOf_length HLX.out]; exact hil) hvl).2.2
                have HX2 := Lib.hid (show (inoCells (inosOf fs L.ex) vs).toArray[i * 3 + 2]? = some vs[i] by simpa using hx2)
                have HT2 := Lib.hid (show (intCells ls).toArray[i]? = some (Value.int .i64 (T : Nat)) by
                  simp only [intCells, List.getElem?_toArray, List.getElem?_map, List.getElem?_eq_getElem hll, hli, Option.map_some])
                clear hr2 hx2 c2
                by_cases hk3 : k < 3
                · have hm := hmin hk3
                  clear hmin hmax
                  go_wp2_with (first | (rw [HW.out]) | (at_builtin; go_loud (refine wpList_append_own_at _ rfl _ _ 53 rfl w.heap.size 61 i0 _ 2 16 Tryd.underlying53 hi0 hz0 hz1 hz2 rfl (by decide) (.slice vA L.ex[i].length vc) _ _ rfl HOWN2.out ⟨wr.heap.size, 0, none⟩ 1 1 [.int .i64 (u : Nat), .int .i64 (C : Nat)] rfl (by rfl) (by simpa using HN2.out) (by simp [Value.oneCell']) (by unfold maxLen; omega) (by omega) hsz2 ?_; intro v' w1 hown1 hgrow hnil hat; obtain ⟨vA', vc', rfl⟩ := own_slice2 hown1; have HP1 := Lib.hid (HST2.out.push i hil hxl hvl (u, C) _ (by rw [HVS.out]; exact hgrow) hown1 (by rw [HVS.out]; exact hat)); have hb1 := HST2.out.bi.grown hgrow (fun e => HST2.out.bi.not_row (by decide) HOWN2.out e.symm); have hl1 := HST2.out.bl.grown hgrow (fun e => HST2.out.bl.not_row (by decide) HOWN2.out e.symm); have q1 := hb1.frozen (i * 3 + 2); have q0 := hb1.at_ (i * 3 + 2) _ (HX2.out); have r0 := hl1.at_ i (.int .i64 (T : Nat)) HT2.out; have r1 := hl1.frozen i; have HB3 := Lib.hid (HB2.out.grown hgrow (by exact hsz2) (by exact fun k hk => own_ge HOWN2.out hk)); clear hown1 hgrow hnil hat hb1 hl1)))
                  refine ⟨⟨.int .i64 ((u : Int) + C), .int .i64 i, .int .i64 C, .int .i64 ((i : Int) + 1), ⟨i + 1, by omega, by go_num, ?_, ls.set i (T - C), HL3.out, ⟨vs.set i (.slice vA' (L.ex[i].length + 1) vc'), ?_⟩, ?_⟩, rfl, rfl, rfl, rfl⟩, by simp [intOf]; omega⟩
                  · rw [HR2.out]
                    simp only [List.length_append, pagesL_length]
                    have h6 := HU.out
                    congr 1
                    omega
                  · rw [HR2.out]
                    have h5 := HP1.out.left_set i (T - C)
                    rw [Int.natCast_sub HCT.out] at h5
                    exact h5
                  · exact (HB3.out.setCell (p := ⟨w.heap.size, i * 3 + 2, none⟩) (Nat.le_refl _) _).setCell (p := ⟨w.heap.size + 1, i, none⟩) (by simp) _
                · obtain rfl : T = C := hmax hk3
                  clear hmin hmax
                  go_wp2_with (first | (rw [HW.out]) | (at_builtin; go_loud (refine wpList_append_own_at _ rfl _ _ 53 rfl w.heap.size 61 i0 _ 2 16 Tryd.underlying53 hi0 hz0 hz1 hz2 rfl (by decide) (.slice vA L.ex[i].length vc) _ _ rfl HOWN2.out ⟨wr.heap.size, 0, none⟩ 1 1 [.int .i64 (u : Nat), .int .i64 (T : Nat)] rfl (by rfl) (by simpa using HN2.out) (by simp [Value.oneCell']) (by unfold maxLen; omega) (by omega) hsz2 ?_; intro v' w1 hown1 hgrow hnil hat; obtain ⟨vA', vc', rfl⟩ := own_slice2 hown1; have HP1 := Lib.hid (HST2.out.push i hil hxl hvl (u, T) _ (by rw [HVS.out]; exact hgrow) hown1 (by rw [HVS.out]; exact hat)); have hb1 := HST2.out.bi.grown hgrow (fun e => HST2.out.bi.not_row (by decide) HOWN2.out e.symm); have hl1 := HST2.out.bl.grown hgrow (fun e => HST2.out.bl.not_row (by decide) HOWN2.out e.symm); have q1 := hb1.frozen (i * 3 + 2); have q0 := hb1.at_ (i * 3 + 2) _ (HX2.out); have r0 := hl1.at_ i (.int .i64 (T : Nat)) HT2.out; have r1 := hl1.frozen i; have HB3 := Lib.hid (HB2.out.grown hgrow (by exact hsz2) (by exact fun k hk => own_ge HOWN2.out hk)); clear hown1 hgrow hnil hat hb1 hl1)))
                  refine ⟨⟨.int .i64 ((u : Int) + T), .int .i64 i, .int .i64 T, .int .i64 ((i : Int) + 1), ⟨i + 1, by omega, by go_num, ?_, ls.set i (T - T), HL3.out, ⟨vs.set i (.slice vA' (L.ex[i].length + 1) vc'), ?_⟩, ?_⟩, rfl, rfl, rfl, rfl⟩, by simp [intOf]; omega⟩
                  · rw [HR2.out]
                    simp only [List.length_append, pagesL_length]
                    have h6 := HU.out
                    congr 1
                    omega
                  · rw [HR2.out]
                    have h5 := HP1.out.left_set i (T - T)
                    rw [Nat.sub_self] at h5
                    simpa using h5
                  · exact (HB3.out.setCell (p := ⟨w.heap.size, i * 3 + 2, none⟩) (Nat.le_refl _) _).setCell (p := ⟨w.heap.size + 1, i, none⟩) (by simp) _
              · obtain rfl : C = 0 := by omega
                have hgo : ∀ u', u' = u → ∃ i' ls vs, i' ≤ fs.length ∧ Value.int IntKind.i64 ((i : Int) + 1) = .int .i64 (i' : Nat) ∧ Value.int .i64 (u' : Nat) = .int .i64 (1 + fs.length + (Lk.row fs s k i').dat.length : Nat) ∧ (∀ j (h : j < fs.length), ls[j]? = some (fs[j].pg - ((cutsL fs[j].pg s).take (if j < i' then k + 1 else k)).sum)) ∧ LaySt wr w.heap.size w.heap.size (w.heap.size + 1) fs (Lk.row fs s k i').ex ls vs ∧ Below w.heap.size w wr := fun u' hu' => by
                  have h2 := HRS.out
                  rw [if_neg (by omega)] at h2
                  have h3 := HL3.out
                  rw [HL4.out rfl] at h3
                  refine ⟨i + 1, ls, vs, by omega, by go_num, ?_, h3, ?_, hB⟩
                  · rw [h2, HU.out, hu']
                  · rw [h2]; exact HST.out
                have HGO := Lib.hid hgo
                have hmax' := hmax
                clear hgo hmax hCT
                by_cases hk3 : k < 3
                · have hm := hmin hk3
                  clear hmin
                  go_wp2
                  go_roundw
                  case rel => exact HGO.out _ rfl
                  case measure => simp [intOf]; omega
                · obtain rfl : T = 0 := hmax' hk3
                  clear hmin
                  go_wp2
                  go_roundw
                  case rel => exact HGO.out _ rfl
                  case measure => simp [intOf]; omega
            · obtain rfl : i = fs.length := by omega
              go_wp2
              go_roundw
              case rel => exact ⟨k + 1, _, _, by omega, by go_num, by rw [HN.out], fun j hj => by rw [hls j hj, if_pos hj], by rw [HN.out]; exact hst, hB⟩
              case measure => simp [intOf]; omega
        · obtain rfl : k = 4 := by omega
          go_wp2
          go_ret2
          exact ⟨_, _, _, _, rfl, hst, Nat.le_refl _, hB⟩
end Go.Proofs.YtgkhgjihjbjfnaaDoor
