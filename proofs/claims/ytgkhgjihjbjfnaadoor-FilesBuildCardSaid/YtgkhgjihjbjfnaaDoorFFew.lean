/- Layer 4: few: at most eight files, cut and filled. -/
import Derived.Test.YtgkhgjihjbjfnaaDoorFN
import Derived.Test.YtgkhgjihjbjfnaaDoorFOs
import Derived.Deep.CutRange
namespace Go.Proofs.YtgkhgjihjbjfnaaDoor
open Go.RowKit Go.Shelf Go.Deep
set_option linter.unusedVariables false
set_option linter.unusedSimpArgs false

theorem infoFile : (Tryd.prog.info? 32).map (fun i => (i.zero, i.size, i.bytes)) = some (some (.agg #[.string ⟨#[]⟩, .string ⟨#[]⟩]), 2, 32) := by kernel_rfl
theorem infoU8f : (Tryd.prog.info? 5).map (fun i => (i.zero, i.size, i.bytes)) = some (some (.int .u8 0), 1, 1) := by kernel_rfl
/-- Files that are small. -/
def Small8 (fs : List Fl) : Prop := ∀ f ∈ fs, f.name.size ≤ 30 ∧ f.data.size ≤ 599
/-- A few files were told, in new memory. -/
def FewTold (w : World) (n : Nat) (e : Ending) (w' : World) : Prop := ∃ A c fs, e = .returned (.slice A fs.length c) ∧ fs.length = min n 8 ∧ Small8 fs ∧ w'.ownsRow w.heap.size 32 2 (.slice A fs.length c) fs.length (fileCells fs) ∧ Below w.heap.size w w'
theorem ad_add1 (a : Addr) (k : Nat) : (a.add (k * 2 + 1)) = ⟨(a.add (k * 2)).block, (a.add (k * 2)).off + 1, none⟩ := by
  unfold Addr.add
  by_cases h : k = 0
  · subst h; simp
  · rw [if_neg (by omega), if_neg (by omega)]
    simp [Nat.add_assoc]
theorem row_set (lst : List UInt8) (t : Nat) (x : Int) (h0 : 0 ≤ x) (h1 : x < 256) : (Lib.byteCells lst).toArray.setIfInBounds t (.int .u8 x) = (Lib.byteCells (lst.set t (UInt8.ofNat x.toNat))).toArray := by
  have e : ((UInt8.ofNat x.toNat).toNat : Int) = x := by
    rw [UInt8.toNat_ofNat']
    omega
  unfold Lib.byteCells
  rw [List.map_set, e]
  simp
theorem tmod600 (z : Int) : -600 < z.tmod 600 ∧ z.tmod 600 < 600 := by
  rcases Int.le_total 0 z with h | h
  · rw [Int.tmod_eq_emod_of_nonneg h]; omega
  · obtain ⟨y, rfl⟩ : ∃ y, z = -y := ⟨-z, by omega⟩
    rw [Int.neg_tmod, Int.tmod_eq_emod_of_nonneg (by omega)]; omega

set_option maxRecDepth 100000 in
set_option maxHeartbeats 4000000 in
theorem few_any (A B : Option Addr) (l : List Fl) (zs : List Int) (c0 c1 : Nat) (w : World) (hl : l.length ≤ maxLen) (hz : zs.length ≤ maxLen) (hA : FileIn w A l) (hB : IntRow w B zs) :
    Calls Tryd.prog 10 #[.slice A l.length c0, .slice B zs.length c1] w (FewTold w l.length) := by
  obtain ⟨M, hM⟩ : ∃ M, min l.length 8 = M := ⟨_, rfl⟩
  have hM1 : M ≤ l.length := by omega
  have hM2 : M ≤ 8 := by omega
  have hMlt : ∀ k, k < M → k < l.length ∧ k < 8 := fun k h => by omega
  unfold maxLen at hl hz
  unfold FewTold
  rw [hM]
  obtain ⟨i0, hi, hz0, hz1, hz2⟩ := info_parts infoFile
  obtain ⟨i1, hj, hy0, hy1, hy2⟩ := info_parts infoU8f
  have HM := Lib.hid hM
  have HA := Lib.hid hA
  have HB := Lib.hid hB
  clear hM hA hB
  go_enter Tryd.func10, Tryd.ntmps10
  go_wp2
  go_loopw [5, 6] (fun out i wr => ∃ (k : Nat) (fs : List Fl), k ≤ M ∧ i = .int .i64 k ∧ fs.length = k ∧ Small8 fs ∧ wr.ownsRow w.heap.size 32 2 out k (fileCells fs) ∧ Below w.heap.size w wr) (fun _ i _ => M - (intOf i).toNat)
  case atStart => exact ⟨0, [], Nat.zero_le _, rfl, rfl, (fun f hf => by cases hf), ⟨rfl, .inl ⟨rfl, rfl⟩⟩, Below.refl _ _⟩
  case round =>
    obtain ⟨k, fs, hk, rfl, hfl, hsm, hown, hBw⟩ := hrel
    by_cases hlt : k < M
    · obtain ⟨hk1, hk2⟩ := hMlt k hlt
      obtain ⟨ad, rfl, had, d0, d1, _, _⟩ := HA.out k hk1
      have hadb : (ad.add (k * 2)).block < w.heap.size := by unfold Addr.add; split <;> exact had
      rw [ad_add1] at d1
      replace d0 := (hBw.cell (p := ad.add (k * 2)) hadb).trans d0
      replace d1 := (hBw.cell (p := ⟨(ad.add (k * 2)).block, (ad.add (k * 2)).off + 1, none⟩) hadb).trans d1
      obtain ⟨A', c', rfl⟩ := own_slice2 hown
      have HOWN := Lib.hid hown
      have HSM := Lib.hid hsm
      have HFL := Lib.hid hfl
      have HBW := Lib.hid hBw
      clear hown hsm hfl hBw
      generalize l[k].name = nm at *
      generalize l[k].data = dt at *
      have hF := Blk.new wr 32 #[.string nm, .string dt]
      have hBf := (Below.refl wr.heap.size wr).alloc (Nat.le_refl _) (.cells #[.string nm, .string dt] 32)
      have hgr : w.heap.size ≤ wr.heap.size := HBW.out.size
      go_upto_if 28 with fail
      generalize wr.alloc (.cells #[.string nm, .string dt] 32) = W1 at *
      generalize wr = W0 at *
      obtain ⟨bf, hbf⟩ : ∃ bf, W0.heap.size = bf := ⟨_, rfl⟩
      rw [hbf] at hF ⊢
      clear d0 d1
      have f0 := hF.at_ 0 _ rfl
      have f1 := hF.at_ 1 _ rfl
      have g0 := hF.frozen 0
      have HF := Lib.hid hF
      have HBF := Lib.hid hBf
      clear hF hBf
      go_cut [] from 11 to 92 (fun wx => ∃ nm' : ByteArray, nm'.size ≤ 30 ∧ Blk wx bf 32 #[.string nm', .string dt] ∧ Below W0.heap.size W0 wx)
      case first =>
        by_cases h30 : 30 < nm.size
        · have hd : decide ((30 : Int) < (nm.size : Int)) = true := decide_eq_true (by omega)
          go_wp2
          go_meet
          exact ⟨nm.extract 0 30, by rw [extract_mkb, mkb_size, List.length_take]; omega, by simpa using HF.out.set_ 0 (.string (nm.extract 0 30)), HBF.out.setCell (p := ⟨bf, 0, none⟩) (by show _ ≤ bf; omega) _⟩
        · have hd : decide ((30 : Int) < (nm.size : Int)) = false := decide_eq_false (by omega)
          go_wp2
          go_meet
          exact ⟨nm, by omega, HF.out, HBF.out⟩
      case rest =>
        obtain ⟨nm', hn', hF, hBf⟩ := hcut
        clear f0 f1 g0 HF HBF
        have f0 := hF.at_ 0 _ rfl
        have f1 := hF.at_ 1 _ rfl
        have g1 := hF.frozen 1
        have HF := Lib.hid hF
        have HBF := Lib.hid hBf
        clear hF hBf
        go_upto_if 36 with fail
        go_cut [] from 11 to 92 (fun wx => ∃ dt' : ByteArray, dt'.size ≤ 40 ∧ Blk wx bf 32 #[.string nm', .string dt'] ∧ Below W0.heap.size W0 wx)
        case first =>
          by_cases h40 : 40 < dt.size
          · have hd : decide ((40 : Int) < (dt.size : Int)) = true := decide_eq_true (by omega)
            go_wp2
            go_meet
            exact ⟨dt.extract 0 40, by rw [extract_mkb, mkb_size, List.length_take]; omega, by simpa using HF.out.set_ 1 (.string (dt.extract 0 40)), HBF.out.setCell (p := ⟨bf, 1, none⟩) (by show _ ≤ bf; omega) _⟩
          · have hd : decide ((40 : Int) < (dt.size : Int)) = false := decide_eq_false (by omega)
            go_wp2
            go_meet
            exact ⟨dt, by omega, HF.out, HBF.out⟩
        case rest =>
          obtain ⟨dt', hd', hF, hBf⟩ := hcut
          clear f0 f1 g1 HF HBF
          generalize wc = W2 at *
          go_upto_if 44 with fail
          have hBw2 := HBW.out.trans (hBf.mono hgr)
          go_cut [8] from 11 to 92 (fun s8 wx => ∃ N : Nat, N ≤ 599 ∧ s8 = .int .i64 N ∧ wx = W2)
          case first =>
            by_cases hk3 : k < zs.length
            · obtain ⟨ad2, rfl, hb2, e0, _⟩ := HB.out k hk3
              replace e0 := (hBw2.cell (p := ad2.add k) (by unfold Addr.add; split <;> exact hb2)).trans e0
              obtain ⟨hq1, hq2⟩ := tmod600 zs[k]
              generalize zs[k] = z at *
              obtain ⟨N, hN⟩ : ∃ N : Nat, (z.tmod 600 + 600) % 600 = (N : Int) := ⟨((z.tmod 600 + 600) % 600).toNat, by omega⟩
              have hNb : N ≤ 599 := by omega
              clear hBw2 hF hBf
              go_wp2
              go_meet
              exact ⟨N, hNb, by rw [hN], rfl⟩
            · go_wp2
              go_meet
              exact ⟨0, by omega, rfl, rfl⟩
          case rest =>
            obtain ⟨N, hNb, rfl, hwc⟩ := hcut
            rw [hwc]
            clear hwc
            have hmk := run_make_bytes (P := Tryd.prog) 35 5 i1 Tryd.underlying35 hj hy0 hy1 hy2 (N : Int) (by omega) (by omega)
            simp only [Int.toNat_natCast] at hmk
            have gF := hF.alloc (.cells (zrow N) 5)
            have gR := Blk.new W2 5 (zrow N)
            have gB := hBf.alloc hBf.size (.cells (zrow N) 5)
            have hgl : bf < W2.heap.size := hF.lt
            clear hF hBf hBw2
            go_wp2
            obtain ⟨g, hg⟩ : ∃ g, W2.heap.size = g := ⟨_, rfl⟩
            generalize W2.alloc (.cells (zrow N) 5) = W3 at *
            rw [hg] at gR hgl ⊢
            have GF := Lib.hid gF
            have GR := Lib.hid gR
            have GB := Lib.hid gB
            clear gF gR gB hmk hg
            go_loopw [10] (fun j wx => ∃ (t : Nat) (lst : List UInt8), t ≤ N ∧ j = .int .i64 t ∧ lst.length = N ∧ Blk wx g 5 (Lib.byteCells lst).toArray ∧ Blk wx bf 32 #[.string nm', .string dt'] ∧ Below W0.heap.size W0 wx) (fun j _ => N - (intOf j).toNat)
            case atStart => exact ⟨0, List.replicate N 0, Nat.zero_le _, rfl, List.length_replicate .., GR.out, GF.out, GB.out⟩
            case round =>
              obtain ⟨t, lst, ht, rfl, hll, hR, hF, hBf⟩ := hrel
              by_cases hlt4 : t < N
              · obtain ⟨b7, hb7⟩ : ∃ b7 : Nat, ((t : Int) / 7 + k) % 256 = (b7 : Int) ∧ b7 < 256 := ⟨(((t : Int) / 7 + k) % 256).toNat, by omega, by omega⟩
                have hb8 := hb7.2
                have r0 := hR.at_ t (.int .u8 (lst[t]'(by omega)).toNat) (by simp [Lib.byteCells, hll, hlt4])
                have r1 := hR.frozen t
                have f1 := hF.at_ 1 _ rfl
                have HR := Lib.hid hR
                have HF2 := Lib.hid hF
                have HB2 := Lib.hid hBf
                clear hR hF hBf
                have hx : (0 : Int) ≤ (t : Int) / 7 + k ∧ (t : Int) / 7 + k < 256 := by omega
                have HX := Lib.hid hx
                clear hb7 hb8 hx
                by_cases hdz : 0 < dt'.size
                · have hdd : decide ((0 : Int) < (dt'.size : Int)) = true := decide_eq_true (by omega)
                  go_wp2
                  have hR1 := HR.out.set_ t (.int .u8 ((t : Int) / 7 + k))
                  rw [row_set _ _ _ HX.out.1 HX.out.2] at hR1
                  have hF1 := HF2.out.far (p := ⟨g, t, none⟩) (by show bf ≠ g; omega) (.int .u8 ((t : Int) / 7 + k))
                  have hB1 := HB2.out.setCell (p := ⟨g, t, none⟩) (by show _ ≤ g; omega) (.int .u8 ((t : Int) / 7 + k))
                  have hl2 : (lst.set t (UInt8.ofNat ((t : Int) / 7 + k).toNat)).length = N := by rw [List.length_set]; exact hll
                  generalize lst.set t (UInt8.ofNat ((t : Int) / 7 + k).toNat) = lst2 at *
                  generalize wr.setCell ⟨g, t, none⟩ (.int .u8 ((t : Int) / 7 + k)) = W4 at *
                  clear r0 r1 f1
                  have f1 := hF1.drew.at_ 1 _ rfl
                  have r0 := hR1.drew.at_ t (.int .u8 (lst2[t]'(by omega)).toNat) (by simp [Lib.byteCells, hl2, hlt4])
                  have r1 := hR1.drew.frozen t
                  obtain ⟨r, hr, hrl⟩ : ∃ r : Nat, (t : Int).tmod (dt'.size : Int) = (r : Int) ∧ r < dt'.size := ⟨t % dt'.size, by rw [Int.tmod_eq_emod_of_nonneg (by omega)]; rfl, Nat.mod_lt _ hdz⟩
                  obtain ⟨q, hq, hql⟩ : ∃ q : Nat, (t : Int).tdiv 64 = (q : Int) ∧ q < 10 := ⟨t / 64, by rw [Int.tdiv_eq_ediv_of_nonneg (by omega)]; rfl, by omega⟩
                  have hr0 : (0 : Int) ≤ (r : Int) := by omega
                  have hr1 : (r : Int) < (dt'.size : Int) := by omega
                  have hdn : ¬ (dt' = ByteArray.empty) := fun e => by subst e; simp at hdz
                  have e1 : IntKind.i64.wrap (r : Int) = (r : Int) := IntWalk.i64_in _ (by omega)
                  have e2 : IntKind.i64.wrap (q : Int) = (q : Int) := IntWalk.i64_in _ (by omega)
                  have e3 : IntKind.u8.wrap (q : Int) = (q : Int) := by simp [IntKind.wrap, IntKind.bits, IntKind.signed]; omega
                  obtain ⟨y, hy, hyl⟩ : ∃ y : Nat, IntKind.u8.wrap (((dt'[r]'hrl).toNat : Int) + (q : Int)) = (y : Int) ∧ y < 256 := ⟨((((dt'[r]'hrl).toNat : Int) + (q : Int)) % 256).toNat, by simp [IntKind.wrap, IntKind.bits, IntKind.signed]; omega, by omega⟩
                  go_still_tail 15, (by kernel_rfl)
                  change wpList _ _ _ _ _ W4.drew
                  go_wp2
                  go_roundw
                  case rel => exact ⟨t + 1, lst2.set t (UInt8.ofNat (y : Int).toNat), by omega, by go_num, by rw [List.length_set]; exact hl2, by rw [← row_set _ _ _ (by omega) (by omega)]; exact (hR1.set_ t _).drew, (hF1.far (p := ⟨g, t, none⟩) (by show bf ≠ g; omega) _).drew, (hB1.setCell (p := ⟨g, t, none⟩) (by show _ ≤ g; omega) _).drew⟩
                  case measure => simp [intOf]; omega
                · have hdd : decide ((0 : Int) < (dt'.size : Int)) = false := decide_eq_false (by omega)
                  go_wp2
                  go_roundw
                  case rel => exact ⟨t + 1, lst.set t (UInt8.ofNat ((t : Int) / 7 + k).toNat), by omega, by go_num, by rw [List.length_set]; exact hll, by rw [← row_set _ _ _ HX.out.1 HX.out.2]; exact HR.out.set_ t _, HF2.out.far (p := ⟨g, t, none⟩) (by show bf ≠ g; omega) _, HB2.out.setCell (p := ⟨g, t, none⟩) (by show _ ≤ g; omega) _⟩
                  case measure => simp [intOf]; omega
              · obtain rfl : t = N := by omega
                have hcv := run_string_blk (P := Tryd.prog) wr 35 9 5 g t 5 lst t hll Tryd.underlying35 Tryd.underlying5 Tryd.underlying9 hR
                have f0 := hF.at_ 0 _ rfl
                have f1 := hF.at_ 1 _ rfl
                have g1 := hF.frozen 1
                have hlz : (mkb lst).size ≤ 599 := by rw [mkb_size, hll]; exact hNb
                have hB5 := hBf.setCell (p := ⟨bf, 1, none⟩) (by show _ ≤ bf; omega) (.string (mkb lst))
                have hsz5 : w.heap.size ≤ wr.heap.size := Nat.le_trans hgr hBf.size
                have HOWN5 := Lib.hid (own_below HOWN.out hB5)
                have HB5 := Lib.hid hB5
                have HLZ := Lib.hid hlz
                clear hR hF hBf hB5 hlz GF GR GB
                generalize mkb lst = dd at *
                go_wp2_with (at_builtin; go_loud (refine wpList_append_own _ rfl _ _ 22 rfl w.heap.size 32 i0 _ 2 32 Tryd.underlying22 hi hz0 hz1 hz2 rfl (by decide) _ _ _ rfl (HOWN5.out.alloc _) ⟨wr.heap.size, 0, none⟩ 1 1 [.string nm', .string dd] rfl (by rfl) (fun j u hj => by rw [show (⟨wr.heap.size, 0, none⟩ : Addr).add j = ⟨wr.heap.size, j, none⟩ by unfold Addr.add; split <;> simp_all]; have h := (Blk.new (wr.setCell ⟨bf, 1, none⟩ (.string dd)) 32 #[.string nm', .string dd]).at_ j u (by simpa using hj); simpa using h) (fun u hu => by simp at hu; rcases hu with rfl | rfl <;> rfl) (by unfold maxLen; omega) (by omega) (by simp; omega) ?_; intro v' w1 hown1 hgrow1 _; have HOWN1 := Lib.hid hown1; have HG1 := Lib.hid hgrow1; clear hown1 hgrow1))
                go_roundw
                case rel => exact ⟨k + 1, fs ++ [⟨nm', dd⟩], by omega, by go_num, by rw [List.length_append, HFL.out]; rfl, (fun f hf => (List.mem_append.1 hf).elim (HSM.out f) (fun h => by rw [List.mem_singleton.1 h]; exact ⟨hn', HLZ.out⟩)), by rw [fileCells_snoc]; exact HOWN1.out, ((HBW.out.trans (HB5.out.mono hgr)).alloc (by simp; omega) _).grown HG1.out (by simp; omega) (fun k hk => own_ge HOWN5.out hk)⟩
                case measure => simp [intOf]; omega
    · obtain rfl : k = M := by omega
      have hM := HM.out
      obtain ⟨A', c', rfl⟩ := own_slice2 hown
      have HOWN := Lib.hid hown
      have HBW := Lib.hid hBw
      have HFL := Lib.hid hfl
      have hex : (k < l.length → k = 8) := fun h => by omega
      clear hown hBw hfl hM HA HB
      by_cases hlt2 : k < l.length
      · obtain rfl := hex hlt2
        go_wp2
        go_ret
        exact ⟨A', c', fs, by rw [HFL.out]; rfl, HFL.out, hsm, by rw [HFL.out]; exact HOWN.out, HBW.out⟩
      · go_wp2
        go_ret
        exact ⟨A', c', fs, by rw [HFL.out]; rfl, HFL.out, hsm, by rw [HFL.out]; exact HOWN.out, HBW.out⟩
end Go.Proofs.YtgkhgjihjbjfnaaDoor
