/- SymbolThere: for any names (twelve at most, cut to 8 bytes and at their first byte 0), any values, any ahead and any name that is looked for: what was put into a table, and is defined, is found (of one name the last one that is); what is not there is not. -/
import Derived.Test.YtkembimfkoganaaYQ
namespace Go.Proofs.Ytkembimfkoganaa.lawThereY
open Go.ChangeShapes Go.WideShapes Go.ChangeAt Go.RowKit Go.Deep
open Go.ChangeMaps (open_string)
set_option linter.unusedVariables false
set_option linter.unusedSimpArgs false

/-- What was found so far. -/
def wantY (ns : List ByteArray) (L : List Sy) (nm : ByteArray) (i : Nat) : Sy := match lastOf (cndY ns L nm) i with | some j => L.getD j ⟨0, false, 0⟩ | none => ⟨0, false, 0⟩
theorem cnd0 (ns : List ByteArray) (L : List Sy) (nm : ByteArray) : cndY ns L nm 0 = false := by unfold cndY; simp
theorem last1 (ns : List ByteArray) (L : List Sy) (nm : ByteArray) : lastOf (cndY ns L nm) 1 = none := by
  show (if cndY ns L nm 0 = true then some 0 else lastOf _ 0) = none
  rw [cnd0]
  rfl
theorem suffY {V : ByteArray} {q : Nat} {l r : List UInt8} (h : V.data.toList.drop q = l ++ 0 :: r) (hnz : ∀ c ∈ l, c ≠ 0) :
    l.length < (V.extract q V.size).size ∧ (∀ j (hj : j < (V.extract q V.size).size), j < l.length → (((V.extract q V.size)[j]).toNat == 0) = false) ∧
    (∀ (hj : l.length < (V.extract q V.size).size), (((V.extract q V.size)[l.length]).toNat == 0) = true) ∧ (V.extract q V.size).extract 0 l.length = mkb l := by
  have hl : V.data.toList.length - q = l.length + (r.length + 1) := by
    have := congrArg List.length h
    simpa using this
  have hd : (V.extract q V.size).data.toList = l ++ 0 :: r := by
    rw [extract_mkb, mkb_data, h, List.take_of_length_le]
    rw [List.length_append, List.length_cons, ← len_data]
    omega
  have hs : (V.extract q V.size).size = l.length + (r.length + 1) := by rw [← len_data, hd, List.length_append, List.length_cons]
  have hg : ∀ j (hj : j < (V.extract q V.size).size), (V.extract q V.size)[j] = (l ++ 0 :: r)[j]'(by rw [List.length_append, List.length_cons]; omega) := fun j hj => by
    have e : (V.extract q V.size)[j] = (V.extract q V.size).data.toList[j]'(by rw [len_data]; exact hj) := rfl
    rw [e]
    simp only [hd]
  refine ⟨by omega, fun j hj hjl => ?_, fun hj => ?_, ?_⟩
  · rw [hg j hj, List.getElem_append_left hjl]
    have := hnz _ (List.getElem_mem hjl)
    simp only [beq_eq_false_iff_ne, ne_eq]
    intro e
    exact this (UInt8.toNat_inj.1 (by simpa using e))
  · rw [hg _ hj, List.getElem_append_right (Nat.le_refl _)]
    simp
  · rw [extract_mkb, hd, List.drop_zero, Nat.sub_zero, List.take_left]
theorem Dyn_DM_wf (ah : Int) (ss : List ByteArray) : (DM ah ss).wf := by
  have hc : cntM ss ≤ ss.length := by unfold cntM; omega
  have hc2 : cntM ss ≤ 12 := by unfold cntM; omega
  have h1 := nbM_le (nmsM ss (cntM ss)) (nmsM_size ss _)
  rw [nmsM_length ss hc] at h1
  have ha : aheadY ah ≤ 71 := by unfold aheadY; omega
  refine ⟨by simp [DM], fun j => WalkArith.wf_i64 ?_⟩
  unfold DM
  simp only
  repeat' split
  all_goals omega
theorem VM_size (ah : Int) (ss : List ByteArray) (zs : List Int) : (mkb (VM ah ss zs)).size ≤ 1000 := by
  have h := made_MdY ah ss zs
  have h1 := h.size
  have h2 := h.few
  have h3 := nbM_le (nmsM ss (cntM ss)) (nmsM_size ss _)
  have h4 := h.a
  rw [h1]
  unfold bN
  omega

set_option maxRecDepth 100000 in
set_option maxHeartbeats 6400000 in
theorem walk (p : PrgIn) (s : ByteArray) (w : World) (hp : p.In w) (ws : s.size ≤ maxLen) :
    Calls Try.prog 4 #[.agg p.cs, .string s] w fun e w' => e = .returned (.bool true) ∧ Below w.heap.size w w' := by
  have HA := Lib.hid (fun v => awakeY_any v)
  have HSH := Lib.hid (fun v => shortY_any s 8 v ws (by omega))
  have hss := shortSY_size s 8
  generalize shortSY s 8 = nm at *
  obtain ⟨R, hR⟩ : ∃ R, w.heap.size = R := ⟨_, rfl⟩
  have HMD := Lib.hid (made_MdY p.ah p.ss p.zs)
  have hvs := VM_size p.ah p.ss p.zs
  have hdw := Dyn_DM_wf p.ah p.ss
  have HMA := Lib.hid (fun v (hv : Below R w v) => made_any p v (by
    obtain ⟨l1, l2, r1, r2, wf⟩ := hp
    exact ⟨l1, l2, strRow_belowY r1 hR.symm hv, intRow_below r2 hR.symm hv, wf⟩))
  unfold MadeP at HMA
  clear hp
  have hkk : cntM p.ss ≤ 12 := by unfold cntM; omega
  have hln := HMD.out.len
  have hll : (symsM p.ss p.zs (cntM p.ss)).length = cntM p.ss := symsM_length _ _ _
  obtain ⟨ss, zs, ah, A1, c1, A2, c2⟩ := p
  unfold PrgIn.cs at *
  unfold Dyn.cs at HMA
  simp only at *
  generalize hL : symsM ss zs (cntM ss) = L at *
  generalize nmsM ss (cntM ss) = ns at *
  generalize mkb (VM ah ss zs) = V at *
  generalize DM ah ss = D at *
  generalize cntM ss = k at *
  generalize aheadY ah = AA at *
  clear hL
  have hK0 := Blk.new w 36 #[.slice A1 ss.length c1, .slice A2 zs.length c2, .int .i64 ah]
  have hB0 := (Below.refl R w).alloc (by omega) (.cells #[.slice A1 ss.length c1, .slice A2 zs.length c2, .int .i64 ah] 36)
  rw [hR] at hK0
  go_enter Try.func4, Try.ntmps4
  go_upto_region 1 with fail
  generalize w.alloc (.cells #[.slice A1 ss.length c1, .slice A2 zs.length c2, .int .i64 ah] 36) = W0 at *
  go_upto_region 2 with (go_at_call 7; refine (HA.out _).mono ?_; rintro e v1 ⟨rfl, hb1⟩)
  have hB1 := hB0.trans (hb1.mono (by rw [← hR]; exact hB0.size))
  have hK1 := hK0.below hb1 hK0.lt
  have x0 : v1.cell? ⟨R, 0, none⟩ = some (.slice A1 ss.length c1) := hK1.at_ 0 _ rfl
  have x1 : v1.cell? ⟨R, 1, none⟩ = some (.slice A2 zs.length c2) := hK1.at_ 1 _ rfl
  have x2 : v1.cell? ⟨R, 2, none⟩ = some (.int .i64 ah) := hK1.at_ 2 _ rfl
  clear hb1 hB0 hK0 hK1
  go_upto_region 3 with (go_at_call 15; with_reducible refine (HMA.out _ hB1).mono ?_; rintro e v2 ⟨A, c, rfl, hrow, hb2⟩)
  have hR2 : R ≤ v2.heap.size := by rw [← hR]; exact (hB1.trans (hb2.mono (by rw [← hR]; exact hB1.size))).size
  have HB2 := Lib.hid (hB1.trans (hb2.mono (by rw [← hR]; exact hB1.size)))
  have HROW := Lib.hid (fun v (hv : Below v2.heap.size v2 v) => hrow.below rfl hv)
  have hd3 := Blk.new v2 38 #[.slice none 0 0, .int .i64 (D.f 1), .int .i64 (D.f 2), .int .i64 (D.f 3), .int .i64 (D.f 4), .int .i64 (D.f 5), .int .i64 (D.f 6), .int .i64 (D.f 7), .int .i64 (D.f 8)]
  have hb3 := (Below.refl v2.heap.size v2).alloc (Nat.le_refl _) (.cells #[.slice none 0 0, .int .i64 (D.f 1), .int .i64 (D.f 2), .int .i64 (D.f 3), .int .i64 (D.f 4), .int .i64 (D.f 5), .int .i64 (D.f 6), .int .i64 (D.f 7), .int .i64 (D.f 8)] 38)
  have hsz3 : (v2.alloc (.cells #[.slice none 0 0, .int .i64 (D.f 1), .int .i64 (D.f 2), .int .i64 (D.f 3), .int .i64 (D.f 4), .int .i64 (D.f 5), .int .i64 (D.f 6), .int .i64 (D.f 7), .int .i64 (D.f 8)] 38)).heap.size = v2.heap.size + 1 := World.size_alloc _ _
  clear hb2 hrow hB1 x0 x1 x2 HMA HA
  generalize v2.alloc (.cells #[.slice none 0 0, .int .i64 (D.f 1), .int .i64 (D.f 2), .int .i64 (D.f 3), .int .i64 (D.f 4), .int .i64 (D.f 5), .int .i64 (D.f 6), .int .i64 (D.f 7), .int .i64 (D.f 8)] 38) = W3 at *
  obtain ⟨E, hE⟩ : ∃ E, v2.heap.size = E := ⟨_, rfl⟩
  rw [hE] at hd3 hb3 hsz3 HROW hR2 ⊢
  go_upto_region 5 with (go_at_call 8; refine (HSH.out _).mono ?_; rintro e v3 ⟨rfl, rfl⟩)
  have hd4 := hd3.alloc (.cells #[.int .i64 0, .bool false, .int .i64 0] 23)
  have hw4 := Blk.new W3 23 #[.int .i64 0, .bool false, .int .i64 0]
  have hb4 := hb3.alloc (by omega) (.cells #[.int .i64 0, .bool false, .int .i64 0] 23)
  rw [hsz3] at hw4
  have hE1 := Lib.hid hE
  clear hd3 hb3
  go_upto_region 6 with fail
  generalize W3.alloc (.cells #[.int .i64 0, .bool false, .int .i64 0] 23) = W4 at *
  clear hsz3
  have HS4 := Lib.hid (show Blk W4 E 38 #[.slice none 0 0, .int .i64 (D.f 1), .int .i64 (D.f 2), .int .i64 (D.f 3), .int .i64 (D.f 4), .int .i64 (D.f 5), .int .i64 (D.f 6), .int .i64 (D.f 7), .int .i64 (D.f 8)] ∧ Blk W4 (E + 1) 23 (wantY ns L nm 1).cs ∧ Below E v2 W4 from ⟨hd4, by unfold wantY; rw [last1]; exact hw4, hb4⟩)
  clear hd4 hw4 hb4 hE
  go_wp2_with fail
  go_loopw [9, 11] (fun tv iv wr => ∃ (i : Nat), 1 ≤ i ∧ (i ≤ k ∨ i = 1) ∧ iv = .int .i64 i ∧ tv = .bool (lastOf (cndY ns L nm) i).isSome ∧ Hid (Blk wr E 38 #[.slice none 0 0, .int .i64 (D.f 1), .int .i64 (D.f 2), .int .i64 (D.f 3), .int .i64 (D.f 4), .int .i64 (D.f 5), .int .i64 (D.f 6), .int .i64 (D.f 7), .int .i64 (D.f 8)] ∧ Blk wr (E + 1) 23 (wantY ns L nm i).cs ∧ Below E v2 wr)) (fun _ iv _ => 20 - (intOf iv).toNat)
  case atStart => exact ⟨1, Nat.le_refl _, .inr rfl, rfl, by rw [last1]; rfl, HS4⟩
  case round =>
    clear HS4
    obtain ⟨i, hi1, hi, rfl, rfl, HS⟩ := hrel
    by_cases hik : i < k
    · have hil : i < L.length := by rw [hll]; exact hik
      have hin : i < ns.length := by rw [← hln]; exact hil
      obtain ⟨hD, hT, hBe⟩ := HS.out
      obtain ⟨ad, rfl, hblt, s0, s1, s2⟩ := (HROW.out wr hBe).at_ hil
      have hoff := HMD.out.off i hil
      have hV := HMD.out.size
      obtain ⟨r, hr⟩ := HMD.out.drop hin
      obtain ⟨nz1, nz2⟩ := HMD.out.nz _ (List.getElem_mem hin)
      have hsp := nb_split ns hin
      have hnl : (nbM (ns.take i)).length ≤ (nbM ns).length := by rw [hsp]; simp
      generalize (nbM (ns.take i)).length = o at *
      obtain ⟨q, hq⟩ : ∃ q, AA + o = q := ⟨_, rfl⟩
      rw [hq] at hr
      have hqV : q ≤ V.size := by omega
      have hVs : V.size ≤ 1000 := hvs
      have c1 : wr.cell? ⟨E, 1, none⟩ = some (.int .i64 AA) := by rw [← HMD.out.f1]; exact hD.at_ 1 _ rfl
      have hsum : (AA : Int) + (o : Int) = (q : Int) := by omega
      have hLn : L[i].n = (o : Int) := hoff
      have s0' : wr.cell? (ad.add (i * 3)) = some (.int .i64 o) := by rw [← hLn]; exact s0
      clear s0 hoff hsp hnl hV hLn hq
      have ik : decide ((i : Int) < (k : Int)) = true := decide_eq_true (by omega)
      go_upto_region 9 with fail
      go_cut [12] from 27 to 85 (fun x wx => x = .string (V.extract q V.size) ∧ Hid (Blk wx E 38 #[.slice none 0 0, .int .i64 (D.f 1), .int .i64 (D.f 2), .int .i64 (D.f 3), .int .i64 (D.f 4), .int .i64 (D.f 5), .int .i64 (D.f 6), .int .i64 (D.f 7), .int .i64 (D.f 8)] ∧ Blk wx (E + 1) 23 (wantY ns L nm i).cs ∧ Below E v2 wx))
      case first =>
        go_quiet (fail)
        all_goals (try go_wp2)
        go_meet
        exact ⟨rfl, Lib.hid ⟨hD.drewN _, hT.drewN _, Below.drewN hBe _⟩⟩
      case rest =>
        obtain ⟨rfl, HS2⟩ := hcut
        clear s0' s1 s2 c1 hsum hD hT hBe HS hblt
        obtain ⟨t1, t2, t3, t4⟩ := suffY hr nz2
        rw [len_data] at t1 t2 t4
        have t3' : ∀ (hj : ns[i].size < (V.extract q V.size).size), (((V.extract q V.size)[ns[i].size]).toNat == 0) = true := fun hj => by
          have := t3 (by rw [len_data]; exact hj)
          simpa [len_data] using this
        rw [mkb_of] at t4
        have hXs : (V.extract q V.size).size ≤ 1000 := by rw [extract_mkb, mkb_size, List.length_take]; omega
        have HLS := Lib.hid (show lastOf (cndY ns L nm) (i + 1) = (if cndY ns L nm i = true then some i else lastOf (cndY ns L nm) i) from rfl)
        have hcd : cndY ns L nm i = ((decide (0 < i) && decide (ns[i].size ≠ 0)) && ((ns[i].toList == nm.toList) && L[i].d)) := by
          unfold cndY
          have e2 : nmT ns i = ns[i] := by unfold nmT; rw [List.getD_eq_getElem?_getD, List.getElem?_eq_getElem hin]; rfl
          have e3 : L.getD i ⟨0, false, 0⟩ = L[i] := by rw [List.getD_eq_getElem?_getD, List.getElem?_eq_getElem hil]; rfl
          rw [e2, e3]
        have hgL : L.getD i ⟨0, false, 0⟩ = L[i] := by rw [List.getD_eq_getElem?_getD, List.getElem?_eq_getElem hil]; rfl
        have hn8 : ns[i].size ≤ 8 := nz1
        clear t3 hr nz2 nz1
        generalize ns[i] = NS at *
        generalize V.extract q V.size = X at *
        generalize hN : NS.size = N at *
        have HNS := Lib.hid hN
        clear hN
        go_upto_region 10 with fail
        go_wp2_with fail
        go_loopw [13] (fun jv wx => ∃ (j : Nat), j ≤ N ∧ jv = .int .i64 j ∧ wc = wx) (fun jv _ => 20 - (intOf jv).toNat)
        case atStart => exact ⟨0, Nat.zero_le _, rfl, rfl⟩
        case round =>
          obtain ⟨j, hj, rfl, rfl⟩ := hrel
          have hjx : j < X.size := by omega
          by_cases hjn : j < N
          · have b2 := t2 j hjx hjn
            go_wp2_with fail
            go_roundw
            case rel => exact ⟨j + 1, by omega, by go_num, trivial⟩
            case measure => simp [intOf]; omega
          · obtain rfl : j = N := by omega
            have b2 := t3' hjx
            go_upto_region 13 with fail
            clear t1 t2 t3' b2 hj hjn
            have hrd := HMD.out.read hil
            have HRD := Lib.hid hrd
            clear hrd
            obtain ⟨hD, hT, hBe⟩ := HS2.out
            obtain ⟨ad', hae, hblt, s0, s1, s2⟩ := (HROW.out _ hBe).at_ hil
            obtain rfl : ad = ad' := by injection hae
            clear hae s0 s2 hblt
            generalize hLi : L[i] = y at *
            have hi0 : decide (0 < i) = true := decide_eq_true (by omega)
            go_cut [64] from 27 to 85 (fun x wx => x = .bool (cndY ns L nm i) ∧ Hid (Blk wx E 38 #[.slice none 0 0, .int .i64 (D.f 1), .int .i64 (D.f 2), .int .i64 (D.f 3), .int .i64 (D.f 4), .int .i64 (D.f 5), .int .i64 (D.f 6), .int .i64 (D.f 7), .int .i64 (D.f 8)] ∧ Blk wx (E + 1) 23 (wantY ns L nm i).cs ∧ Below E v2 wx))
            case first =>
              have hjd : decide ((0 : Int) < (j : Int)) = decide (j ≠ 0) := by rw [decide_eq_decide]; omega
              generalize decide (j ≠ 0) = bj at *
              generalize y.d = bd at *
              rw [hi0, Bool.true_and] at hcd
              generalize hbn : (NS.toList == nm.toList) = bn at *
              cases bn <;> cases bj <;> cases bd
              all_goals go_wp2
              all_goals go_meet
              all_goals first | exact ⟨by rw [hcd]; rfl, Lib.hid ⟨hD, hT, hBe⟩⟩ | (exfalso; simp at hjd; omega)
            case rest =>
              obtain ⟨rfl, HS3⟩ := hcut
              clear HS2 s1 hD hT hBe hcd t4 HNS hn8
              go_upto_if 64 with fail
              generalize hcy : cndY ns L nm i = cy at *
              go_cut [9] from 27 to 85 (fun x wx => x = .bool (lastOf (cndY ns L nm) (i + 1)).isSome ∧ Hid (Blk wx E 38 #[.slice none 0 0, .int .i64 (D.f 1), .int .i64 (D.f 2), .int .i64 (D.f 3), .int .i64 (D.f 4), .int .i64 (D.f 5), .int .i64 (D.f 6), .int .i64 (D.f 7), .int .i64 (D.f 8)] ∧ Blk wx (E + 1) 23 (wantY ns L nm (i + 1)).cs ∧ Below E v2 wx))
              case first =>
                obtain ⟨hD, hT, hBe⟩ := HS3.out
                cases cy with
                | false =>
                  have hw : wantY ns L nm (i + 1) = wantY ns L nm i := by unfold wantY; rw [HLS.out, if_neg (by decide)]
                  go_wp2
                  go_meet
                  exact ⟨by rw [HLS.out, if_neg (by decide)], by rw [hw]; exact HS3⟩
                | true =>
                  have hw : wantY ns L nm (i + 1) = y := by unfold wantY; rw [HLS.out, if_pos rfl]; exact hgL
                  obtain ⟨ad', hae, hblt, s0, s1, s2⟩ := (HROW.out _ hBe).at_ hil
                  obtain rfl : ad = ad' := by injection hae
                  rw [hLi] at s0 s1 s2
                  clear hae
                  generalize wantY ns L nm i = wy at *
                  obtain ⟨sn, sd, sv⟩ := y
                  obtain ⟨qn, qd, qv⟩ := wy
                  unfold Sy.cs at hT
                  simp only at s0 s1 s2 hT
                  have q0 : wc.cell? ⟨E + 1, 0, none⟩ = some (.int .i64 qn) := hT.at_ 0 _ rfl
                  have q1 : wc.cell? ⟨E + 1, 1, none⟩ = some (.bool qd) := hT.at_ 1 _ rfl
                  have q2 : wc.cell? ⟨E + 1, 2, none⟩ = some (.int .i64 qv) := hT.at_ 2 _ rfl
                  have g0 := hT.frozen 0
                  have g1 := hT.frozen 1
                  have g2 := hT.frozen 2
                  go_wp2
                  go_meet
                  refine ⟨by rw [HLS.out, if_pos trivial]; rfl, Lib.hid ⟨((hD.far (by simp) _).far (by simp) _).far (by simp) _, ?_, ((hBe.setCell (p := ⟨E + 1, 0, none⟩) (by simp) _).setCell (p := ⟨E + 1, 1, none⟩) (by simp) _).setCell (p := ⟨E + 1, 2, none⟩) (by simp) _⟩⟩
                  rw [hw]
                  unfold Sy.cs
                  simpa using ((hT.set_ 0 (.int .i64 sn)).set_ 1 (.bool sd)).set_ 2 (.int .i64 sv)
              case rest =>
                obtain ⟨rfl, HS4⟩ := hcut
                clear HS3 hcy HLS hgL
                obtain ⟨hD, hT, hBe⟩ := HS4.out
                obtain ⟨hd0, hd1, hd2, hd3, hd4, hd5, hd6, hd7, hd8⟩ : wc.cell? ⟨E, 0, none⟩ = some (.slice none 0 0) ∧ wc.cell? ⟨E, 1, none⟩ = some (.int .i64 (D.f 1)) ∧ wc.cell? ⟨E, 2, none⟩ = some (.int .i64 (D.f 2)) ∧ wc.cell? ⟨E, 3, none⟩ = some (.int .i64 (D.f 3)) ∧ wc.cell? ⟨E, 4, none⟩ = some (.int .i64 (D.f 4)) ∧ wc.cell? ⟨E, 5, none⟩ = some (.int .i64 (D.f 5)) ∧ wc.cell? ⟨E, 6, none⟩ = some (.int .i64 (D.f 6)) ∧ wc.cell? ⟨E, 7, none⟩ = some (.int .i64 (D.f 7)) ∧ wc.cell? ⟨E, 8, none⟩ = some (.int .i64 (D.f 8)) := ⟨hD.at_ 0 _ rfl, hD.at_ 1 _ rfl, hD.at_ 2 _ rfl, hD.at_ 3 _ rfl, hD.at_ 4 _ rfl, hD.at_ 5 _ rfl, hD.at_ 6 _ rfl, hD.at_ 7 _ rfl, hD.at_ 8 _ rfl⟩
                have hr1 := fun u => sread_any V D (.slice none 0 0) i u hdw (WalkArith.wf_i64 (by omega)) (by omega)
                rw [HRD.out.1, HRD.out.2] at hr1
                unfold Dyn.cs at hr1
                obtain ⟨sn, sd, sv⟩ := y
                unfold Sy.cs at hr1
                simp only at hr1
                have HR1 := Lib.hid hr1
                clear hr1 HRD hD hT hBe
                go_upto_region 17 with (go_at_call 16; with_reducible refine (HR1.out _).mono ?_; rintro e v5 ⟨rfl, hb5⟩)
                obtain ⟨hD, hT, hBe⟩ := HS4.out
                have hb6 := hBe.trans (hb5.mono (by rw [← hE1.out]; exact hBe.size))
                have hE5 : E ≤ v5.heap.size := by rw [← hE1.out]; exact hb6.size
                have HS6 := Lib.hid (show Blk (v5.alloc (.cells #[.int .i64 sn, .bool sd, .int .i64 sv] 23)) E 38 #[.slice none 0 0, .int .i64 (D.f 1), .int .i64 (D.f 2), .int .i64 (D.f 3), .int .i64 (D.f 4), .int .i64 (D.f 5), .int .i64 (D.f 6), .int .i64 (D.f 7), .int .i64 (D.f 8)] ∧ Blk (v5.alloc (.cells #[.int .i64 sn, .bool sd, .int .i64 sv] 23)) (E + 1) 23 (wantY ns L nm (i + 1)).cs ∧ Below E v2 (v5.alloc (.cells #[.int .i64 sn, .bool sd, .int .i64 sv] 23)) from ⟨(hD.below hb5 hD.lt).alloc _, (hT.below hb5 hT.lt).alloc _, hb6.alloc hE5 _⟩)
                have hN6 := Blk.new v5 23 #[.int .i64 sn, .bool sd, .int .i64 sv]
                clear HS4 hb5 hb6 hE5 hD hT hBe hd0 hd1 hd2 hd3 hd4 hd5 hd6 hd7 hd8 HR1
                generalize v5.alloc (.cells #[.int .i64 sn, .bool sd, .int .i64 sv] 23) = W6 at *
                generalize v5.heap.size = P5 at *
                obtain ⟨hD, hT, hBe⟩ := HS6.out
                obtain ⟨ad', hae, hblt, s0, s1, s2⟩ := (HROW.out _ hBe).at_ hil
                obtain rfl : ad = ad' := by injection hae
                rw [hLi] at s0 s1 s2
                simp only at s0 s1 s2
                have n0 : W6.cell? ⟨P5, 0, none⟩ = some (.int .i64 sn) := hN6.at_ 0 _ rfl
                have n1 : W6.cell? ⟨P5, 1, none⟩ = some (.bool sd) := hN6.at_ 1 _ rfl
                have n2 : W6.cell? ⟨P5, 2, none⟩ = some (.int .i64 sv) := hN6.at_ 2 _ rfl
                have HS7 := Lib.hid (fun n => show Blk (W6.drewN n) E 38 #[.slice none 0 0, .int .i64 (D.f 1), .int .i64 (D.f 2), .int .i64 (D.f 3), .int .i64 (D.f 4), .int .i64 (D.f 5), .int .i64 (D.f 6), .int .i64 (D.f 7), .int .i64 (D.f 8)] ∧ Blk (W6.drewN n) (E + 1) 23 (wantY ns L nm (i + 1)).cs ∧ Below E v2 (W6.drewN n) from ⟨hD.drewN _, hT.drewN _, Below.drewN hBe _⟩)
                clear hae hblt hD hT hBe HS6 hN6
                go_quiet (fail)
                all_goals (try go_wp2)
                all_goals go_roundw
                case rel => exact ⟨i + 1, by omega, by omega, by go_num, rfl, Lib.hid (HS7.out _)⟩
                case measure => simp [intOf]; omega
    · obtain ⟨hD, hT, hBe⟩ := HS.out
      have hnk : ns.length = k := by omega
      have hlk : lastOf (cndY ns L nm) i = lastOf (cndY ns L nm) k := by
        rcases hi with h | h
        · rw [show i = k by omega]
        · rw [h]
          rcases Nat.eq_zero_or_pos k with h0 | h0
          · rw [h0]; exact last1 _ _ _
          · rw [show k = 1 by omega]
      have hfi : fndI V D nm = lastOf (cndY ns L nm) i := by rw [HMD.out.find nm, hnk, hlk]
      have hfs : fndS V D nm = wantY ns L nm i := by rw [HMD.out.told nm, hnk, ← hlk]; rfl
      have hcn : cntV V (D.f 4) = k := by rw [HMD.out.cnt, hnk]
      have hr1 := fun u => sfind_any V D (.slice none 0 0) nm u hdw (by omega) (by omega)
      have hr2 := fun u => scount_any V D (.slice none 0 0) u hdw (by omega)
      rw [hfi, hfs] at hr1
      rw [hcn] at hr2
      unfold Dyn.cs at hr1 hr2
      clear hfi hfs hcn hlk HS hnk
      generalize wantY ns L nm i = y at *
      obtain ⟨sn, sd, sv⟩ := y
      unfold Sy.cs at hr1 hT
      simp only at hr1 hT
      have HR1 := Lib.hid hr1
      have HR2 := Lib.hid hr2
      clear hr1 hr2
      obtain ⟨hd0, hd1, hd2, hd3, hd4, hd5, hd6, hd7, hd8⟩ : wr.cell? ⟨E, 0, none⟩ = some (.slice none 0 0) ∧ wr.cell? ⟨E, 1, none⟩ = some (.int .i64 (D.f 1)) ∧ wr.cell? ⟨E, 2, none⟩ = some (.int .i64 (D.f 2)) ∧ wr.cell? ⟨E, 3, none⟩ = some (.int .i64 (D.f 3)) ∧ wr.cell? ⟨E, 4, none⟩ = some (.int .i64 (D.f 4)) ∧ wr.cell? ⟨E, 5, none⟩ = some (.int .i64 (D.f 5)) ∧ wr.cell? ⟨E, 6, none⟩ = some (.int .i64 (D.f 6)) ∧ wr.cell? ⟨E, 7, none⟩ = some (.int .i64 (D.f 7)) ∧ wr.cell? ⟨E, 8, none⟩ = some (.int .i64 (D.f 8)) := ⟨hD.at_ 0 _ rfl, hD.at_ 1 _ rfl, hD.at_ 2 _ rfl, hD.at_ 3 _ rfl, hD.at_ 4 _ rfl, hD.at_ 5 _ rfl, hD.at_ 6 _ rfl, hD.at_ 7 _ rfl, hD.at_ 8 _ rfl⟩
      have ik : decide ((i : Int) < (k : Int)) = false := decide_eq_false (by omega)
      have HS := Lib.hid (And.intro hD (And.intro hT hBe))
      clear hD hT hBe
      go_upto_region 20 with (go_at_call 17; with_reducible refine (HR1.out _).mono ?_; rintro e v5 ⟨rfl, hb5⟩)
      obtain ⟨hD, hT, hBe⟩ := HS.out
      have hb6 := hBe.trans (hb5.mono (by rw [← hE1.out]; exact hBe.size))
      have hE5 : E ≤ v5.heap.size := by rw [← hE1.out]; exact hb6.size
      have hN6 := Blk.new v5 23 #[.int .i64 sn, .bool sd, .int .i64 sv]
      have hD6 := (hD.below hb5 hD.lt).alloc (.cells #[.int .i64 sn, .bool sd, .int .i64 sv] 23)
      have hT6 := (hT.below hb5 hT.lt).alloc (.cells #[.int .i64 sn, .bool sd, .int .i64 sv] 23)
      have hB6 := hb6.alloc hE5 (.cells #[.int .i64 sn, .bool sd, .int .i64 sv] 23)
      clear HS hb5 hb6 hE5 hD hT hBe hd0 hd1 hd2 hd3 hd4 hd5 hd6 hd7 hd8 HR1
      generalize v5.alloc (.cells #[.int .i64 sn, .bool sd, .int .i64 sv] 23) = W6 at *
      generalize v5.heap.size = P5 at *
      have n0 : W6.cell? ⟨P5, 0, none⟩ = some (.int .i64 sn) := hN6.at_ 0 _ rfl
      have n1 : W6.cell? ⟨P5, 1, none⟩ = some (.bool sd) := hN6.at_ 1 _ rfl
      have n2 : W6.cell? ⟨P5, 2, none⟩ = some (.int .i64 sv) := hN6.at_ 2 _ rfl
      have m0 : W6.cell? ⟨E + 1, 0, none⟩ = some (.int .i64 sn) := hT6.at_ 0 _ rfl
      have m1 : W6.cell? ⟨E + 1, 1, none⟩ = some (.bool sd) := hT6.at_ 1 _ rfl
      have m2 : W6.cell? ⟨E + 1, 2, none⟩ = some (.int .i64 sv) := hT6.at_ 2 _ rfl
      obtain ⟨hd0, hd1, hd2, hd3, hd4, hd5, hd6, hd7, hd8⟩ : W6.cell? ⟨E, 0, none⟩ = some (.slice none 0 0) ∧ W6.cell? ⟨E, 1, none⟩ = some (.int .i64 (D.f 1)) ∧ W6.cell? ⟨E, 2, none⟩ = some (.int .i64 (D.f 2)) ∧ W6.cell? ⟨E, 3, none⟩ = some (.int .i64 (D.f 3)) ∧ W6.cell? ⟨E, 4, none⟩ = some (.int .i64 (D.f 4)) ∧ W6.cell? ⟨E, 5, none⟩ = some (.int .i64 (D.f 5)) ∧ W6.cell? ⟨E, 6, none⟩ = some (.int .i64 (D.f 6)) ∧ W6.cell? ⟨E, 7, none⟩ = some (.int .i64 (D.f 7)) ∧ W6.cell? ⟨E, 8, none⟩ = some (.int .i64 (D.f 8)) := ⟨hD6.at_ 0 _ rfl, hD6.at_ 1 _ rfl, hD6.at_ 2 _ rfl, hD6.at_ 3 _ rfl, hD6.at_ 4 _ rfl, hD6.at_ 5 _ rfl, hD6.at_ 6 _ rfl, hD6.at_ 7 _ rfl, hD6.at_ 8 _ rfl⟩
      have HB6 := Lib.hid hB6
      have hW6 : E ≤ W6.heap.size := by rw [← hE1.out]; exact hB6.size
      clear hN6 hD6 hT6 hB6
      go_wp2_with (go_at_call 18; with_reducible refine (HR2.out _).mono ?_; rintro e v7 ⟨rfl, hb7⟩)
      all_goals
        go_ret
        exact ⟨by simp, by rw [hR]; exact HB2.out.trans ((HB6.out.trans (hb7.mono hW6)).mono hR2)⟩

set_option maxRecDepth 100000 in
theorem lifted (os : Os) (started : os.Started) (H : Type) (enc : TypeId × Value → H) :
    ReturnsInHanded {} Try.checked os 4 .any (Rows.symbolThereSpec.pre6 enc Try.prog Try.f4 Rows.symbolThereRow.domain false) (Rows.symbolThereSpec.post enc Try.prog Try.f4 false true false false) := by
  refine returnsInHanded_of_change (C := Try.checked) own started (by kernel_rfl) Try.func4
    (ChangeSpec.witness6 (enc := enc) (C := Try.checked) false ⟨#[], #[zprgV, .string ⟨#[]⟩], []⟩ 8 (by kernel_rfl) (by kernel_rfl) (by kernel_rfl) (by kernel_rfl)) ?_
  intro W base args ds gs before hval0 hW hcnd _
  have hval : ∀ (j : Nat) t v, Try.f4.params[j]? = some t → args[j]? = some v → Value.okWide Try.prog W .any base t v := hval0
  have hW' := hW
  obtain ⟨p, q, hA0, hV, rfl, hfz, hnd⟩ := hW
  have hA : DataW.TrodAll enc Try.prog W 0 (fun _ => true) true Try.f4.params.toList args.toList ds p := hA0
  rw [Try.params4] at hA hval
  obtain ⟨v0, vs0, d0, ds0, p0, q0, hargs, rfl, rfl, h0, r0⟩ := trodAll_cons hA
  obtain ⟨v1, vs1, d1, ds1, p1, q1, rfl, rfl, rfl, h1, r1⟩ := trodAll_cons r0
  obtain ⟨rfl, rfl, rfl⟩ := trodAll_nil r1
  obtain rfl : args = #[v0, v1] := by cases args; simp_all
  obtain ⟨rfl, rfl⟩ := trodVars_none hV
  have k0 := h0
  have lt0 : ∀ x ∈ p0, x.block < W.heap.size := by obtain ⟨m, hm⟩ := k0; exact DataW.trod_lt m _ _ _ hm
  obtain ⟨a0, rfl, w0⟩ := open_prgY (hval 0 36 v0 rfl rfl) h0
  have k1 := h1
  have lt1 : ∀ x ∈ p1, x.block < W.heap.size := by obtain ⟨m, hm⟩ := k1; exact DataW.trod_lt m _ _ _ hm
  obtain ⟨a1, rfl, _, _, w1⟩ := open_string Try.underlying9 (hval 1 9 v1 rfl rfl) h1
  clear hA0 hval0
  refine (walk a0 a1 W w0 w1).mono fun e W' ⟨he, bel⟩ => ?_
  subst he
  exact ⟨_, rfl, _, _, _, [], _, [], hW', trodAll_mk1 (shut_bool Try.underlying4 _), (trodAll_cons_mk (Below.trod laidOut (by kernel_rfl) (of_decide_eq_true (by kernel_rfl)) k0 bel lt0) (trodAll_cons_mk (Below.trod laidOut (by kernel_rfl) (of_decide_eq_true (by kernel_rfl)) k1 bel lt1) trodAll_mk0)), rfl, bel.frame _, fun h => by cases h⟩
theorem over : Rows.symbolThereRow.holds Try.pinned (OpenSpec.ofChange Rows.symbolThereSpec) :=
  OpenClaim.holds_of_wide 4 Try.f4 rfl rfl rfl rfl rfl rfl rfl ⟨rfl, rfl, rfl, rfl, rfl⟩ rfl rfl rfl rfl rfl (by kernel_rfl) Try.func4 (by kernel_rfl)
    (of_decide_eq_true (by kernel_rfl)) (by unfold Func.isWrapper; first | (rw [if_pos (by decide +kernel)]; kernel_rfl) | (rw [if_neg (by decide +kernel)]; exact ⟨rfl, rfl⟩))
    (fun os started H enc _ => lifted os started H enc)
/-- The statement. -/
theorem proved : Rows.SymbolThereSaid := over
end Go.Proofs.Ytkembimfkoganaa.lawThereY
