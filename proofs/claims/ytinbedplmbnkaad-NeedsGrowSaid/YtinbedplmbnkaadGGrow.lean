/- NeedsGrow: for any Spec and any number: of its list, and the library that the number picks, one more library that nobody needs changes no order; one that is needed by the last one of an order comes last, and if it needs the root, then one needs itself. -/
import Derived.Test.YtinbedplmbnkaadGw
namespace Go.Proofs.Ytinbedplmbnkaad.lawGrow
open Go.ChangeShapes Go.WideShapes Go.ChangeAt Go.RowKit
set_option linter.unusedVariables false
set_option linter.unusedSimpArgs false

theorem in_below {s : SpecIn} {w w' : World} (h : s.In w) {n : Nat} (hn : n = w.heap.size) (hb : Below n w w') : s.In w' := ⟨h.len, h.row.below hn hb, h.wf⟩
theorem ns_spec (nd : List (List Int)) (m : Nat) : ∀ b ∈ specL nd m, b.name.size ≤ maxLen ∧ b.need.length ≤ 8 := by
  intro b hb
  obtain ⟨i, _, rfl⟩ := List.mem_map.1 hb
  refine ⟨?_, ?_⟩
  · show (nameN i).size ≤ maxLen
    rw [nameN_size]; decide
  · unfold specB
    simp
    omega
set_option maxRecDepth 100000 in
set_option maxHeartbeats 6400000 in
theorem walk (s : SpecIn) (root : Int) (w : World) (hs : s.In w) (wn : (Lit.int .i64 root).wf = true) :
    Calls Try.prog 3 #[.agg s.cs, .int .i64 root] w fun e w' => e = .returned (.bool true) ∧ Below w.heap.size w w' := by
  have HA := Lib.hid (fun v => awake_any v)
  obtain ⟨R, hR⟩ : ∃ R, w.heap.size = R := ⟨_, rfl⟩
  have HLS := Lib.hid (fun v (hv : Below R w v) => list_any2 s v (in_below hs hR.symm hv))
  have HR := Lib.hid hR
  obtain ⟨m, hm⟩ : ∃ m, cntS s.many = m := ⟨_, rfl⟩
  rw [hm] at HLS
  have hm1 : 0 < m ∧ m ≤ 16 := by rw [← hm]; unfold cntS; omega
  obtain ⟨t0, t1, p1, p2, p3, p4, p5, p6, p7, p8⟩ := pickG_eq hm1.1 hm1.2 root
  obtain ⟨q, hq⟩ : ∃ q, pickG m root = q := ⟨_, rfl⟩
  rw [hq] at p4 p5 p8
  have hqw : IntKind.i64.wrap (q : Int) = (q : Int) := IntWalk.i64_in _ (by omega)
  obtain ⟨d1, d2, d3, d4⟩ := spec_ord (nd := s.nd) hm1.2 p5
  obtain ⟨o1, o2⟩ := grow_one (nd := s.nd) hm1.2 p5
  have htwo := fun k hk hE hl => grow_two (nd := s.nd) (k := k) hm1.2 p5 hk hE hl
  have hth := fun i (h : i < m) => spec_there (nd := s.nd) hm1.2 h
  have hns := ns_spec s.nd m
  have hlen : (specL s.nd m).length = m := specL_len _ _
  obtain ⟨L, hL⟩ : ∃ L, specL s.nd m = L := ⟨_, rfl⟩
  rw [hL] at HLS d1 d2 d3 d4 o1 o2 hns hlen
  simp only [hL] at htwo
  have hat : ∀ i (h : i < L.length), L[i].name = nameN i ∧ L[i].need = needOf L (nameN i) := fun i h => by
    have h' : i < m := by rw [← hlen]; exact h
    subst hL
    rw [(hth i h').2.2, specL_at]
    exact ⟨rfl, rfl⟩
  have HT := Lib.hid (And.intro d1 (And.intro d4 (And.intro o1 (And.intro o2 (And.intro htwo (And.intro hns hlen))))))
  have HAT := Lib.hid hat
  have hNq := nameB_nat (k := q) (by omega)
  have HNM := Lib.hid (show ∀ v, Calls Try.prog 6 #[.int .i64 q] v fun e w' => e = .returned (.string (nameN q)) ∧ Below v.heap.size v w' from fun v => by
    have h := name_any (q : Int) v
    rw [hNq] at h
    exact h)
  have hmne : ((m : Int) == 0) = false := by simp; omega
  have hrs : (nameN q).size ≤ maxLen := by rw [nameN_size]; decide
  unfold SpecIn.cs at HLS ⊢
  obtain ⟨l0, hl0⟩ : ∃ l0, s.nd.length = l0 := ⟨_, rfl⟩
  rw [hl0] at HLS ⊢
  have hK0 := Blk.new w 24 #[.slice s.A l0 s.c, .int .i64 s.many]
  have hB0 : Below R w (w.alloc (.cells #[.slice s.A l0 s.c, .int .i64 s.many] 24)) := by rw [← hR]; exact (Below.refl _ _).alloc (Nat.le_refl _) _
  rw [hR] at hK0
  obtain ⟨W0, hW0⟩ : ∃ W0, w.alloc (.cells #[.slice s.A l0 s.c, .int .i64 s.many] 24) = W0 := ⟨_, rfl⟩
  rw [hW0] at hK0 hB0
  have HW := Lib.hid (And.intro hK0 (And.intro hB0 hW0))
  clear hs hm hL hq d1 d4 o1 o2 htwo hth hat hns hK0 hB0 hW0 hl0 wn p2 hNq
  go_enter Try.func3, Try.ntmps3
  go_upto_region 1 with fail
  rw [HW.out.2.2]
  clear hR
  go_upto_region 4 with (first
    | (go_at_call 4; refine (HA.out _).mono ?_; rintro e v1 ⟨rfl, hb1⟩; have HB1 := Lib.hid (HW.out.2.1.trans (hb1.mono (by have := HW.out.1.lt; omega))); have hbk := HW.out.1.below hb1 HW.out.1.lt; have x0 := hbk.cell 0; have x1 := hbk.cell 1; clear hb1 hbk)
    | (go_at_call 5; refine (HLS.out _ HB1.out).mono ?_; rintro e v2 ⟨A5, c5, As, lo5, rfl, hrow, hb2, hbld, hnil⟩; have HB2 := Lib.hid (HB1.out.trans (hb2.mono (by have := HB1.out.size; have := HR.out; omega))); have HROW := Lib.hid (And.intro hrow (And.intro hbld hnil)); clear hb2 hrow hbld hnil x0 x1)
    | (go_at_call 6; with_reducible refine (HNM.out _).mono ?_; rintro e v3 ⟨rfl, hb3⟩; have HB3 := Lib.hid hb3; clear hb3))
  obtain ⟨g5, rfl, hg5, hcl5⟩ := bld_cells HROW.out.2.1 (by omega)
  have HC5 := Lib.hid hcl5
  have hOR := order_any L (nameN q) (some ⟨g5, 0, none⟩) c5 v3 (HROW.out.1.below rfl HB3.out) (by omega) hrs
  rw [hlen] at hOR
  have HOR := Lib.hid hOR
  obtain ⟨oN, hoN⟩ : ∃ oN, ordN L (nameN q) = oN := ⟨_, rfl⟩
  obtain ⟨oE, hoE⟩ : ∃ oE, ordE L (nameN q) = oE := ⟨_, rfl⟩
  obtain ⟨n, hn⟩ : ∃ n, oN.length = n := ⟨_, rfl⟩
  have hn16 : n ≤ 16 := by
    rw [← hn, ← hoN]
    unfold ordN
    split
    · omega
    · simp
  have HO := Lib.hid (And.intro hoN (And.intro hoE hn))
  have HLW := Lib.hid (show Below w.heap.size w v2 from by rw [HR.out]; exact HB2.out)
  clear hcl5 hOR hoN hoE hn HB1 HB2 HLS HW
  go_upto_region 6 with (go_at_call 7; (with_reducible refine HOR.out.mono ?_); rintro e v4 ⟨A6, c6, he, hr6, hb4⟩; rw [HO.out.1, HO.out.2.1, HO.out.2.2] at he; rw [HO.out.1] at hr6; subst he; have HR6 := Lib.hid hr6; have HB4 := Lib.hid (HB3.out.trans (hb4.mono HB3.out.size)); clear hb4 hr6)
  obtain ⟨H1, hH1⟩ : ∃ H1, v4.heap.size = H1 := ⟨_, rfl⟩
  have HH1 := Lib.hid hH1
  have HROW4 := Lib.hid (fun v (hv : Below H1 v4 v) => show LibRow v (some ⟨g5, 0, none⟩) L ∧ StrRow v A6 oN from ⟨HROW.out.1.below rfl (HB4.out.trans (hv.mono (by rw [← HH1.out]; exact HB4.out.size))), strRow_belowG HR6.out HH1.out.symm hv⟩)
  obtain ⟨i0, hi, hz0, hz1, hz2⟩ := info_parts infoLibG
  go_wp2_with (at_builtin; refine Hid.out ?_)
  refine Lib.hid ?_
  refine wpList_append_own _ rfl _ _ 26 rfl H1 34 i0 _ 2 40 Try.underlying26 hi hz0 hz1 hz2 rfl (by decide) (.slice none 0 0) 0 [] rfl (World.ownsRow_nil _ _ _ _) ⟨g5, 0, none⟩ m c5 (libCells L As) rfl (by rw [libCells_len HROW.out.2.1.len, hlen]) (fun j u hj => by rw [addr0]; exact (HB4.out.cell (p := ⟨g5, j, none⟩) hg5).trans (HC5.out j u hj)) (libCells_one L As) (by unfold maxLen; omega) (by omega) (by omega) ?_
  intro v' w5 hown5 hgrow5 _
  have hbw5 : Below H1 v4 w5 := by rw [← HH1.out]; exact ⟨hgrow5.os, hgrow5.tape, hgrow5.output, hgrow5.size, fun k hk => hgrow5.block k hk (fun e => by cases e)⟩
  have hm5 : w5.ownsRow H1 34 2 v' m (libCells L As) := by simpa using hown5
  have hsz5 : H1 ≤ w5.heap.size := by rw [← HH1.out]; exact hgrow5.size
  have HM5 := Lib.hid (And.intro hm5 (And.intro hbw5 hsz5))
  clear hown5 hgrow5 hm5 hbw5 hsz5
  go_upto_region 7 with fail
  obtain ⟨X, hX⟩ : ∃ X, w5.heap.size = X := ⟨_, rfl⟩
  have HX := Lib.hid hX
  go_wp2_with (at_builtin; refine Hid.out ?_)
  refine Lib.hid ?_
  try rw [hX]
  refine wpList_append_own _ rfl _ _ 26 rfl H1 34 i0 _ 2 40 Try.underlying26 hi hz0 hz1 hz2 rfl (by decide) v' m (libCells L As) rfl ((HM5.out.1.alloc _).alloc _) ⟨X + 1, 0, none⟩ 1 1 [.string newB, .slice (some ⟨X, 0, none⟩) 1 1] rfl rfl (fun j u hj => by
    rw [addr0]
    have := (blk_two w5 (.cells #[.string (nameN q)] 9) 34 #[.string newB, .slice (some ⟨X, 0, none⟩) 1 1]).at_ j u (by simpa using hj)
    rw [hX] at this
    exact this) (fun u hu => by simp at hu; rcases hu with rfl | rfl <;> rfl) (by unfold maxLen; omega) (by omega) (by have := HM5.out.2.2; simp; omega) ?_
  intro v6 w6 hown6 hgrow6 _
  have hge : ∀ k, v'.ownBlock = some k → H1 ≤ k := fun k hk => (HM5.out.1.lt k hk).1
  have hb56 : Below H1 v4 ((w5.alloc (.cells #[.string (nameN q)] 9)).alloc (.cells #[.string newB, .slice (some ⟨X, 0, none⟩) 1 1] 34)) := (HM5.out.2.1.alloc HM5.out.2.2 _).alloc (by have := HM5.out.2.2; simp; omega) _
  have hb6 : Below H1 v4 w6 := hb56.grown hgrow6 (by have := HM5.out.2.2; simp; omega) hge
  have hlX : H1 ≤ X := by rw [← hX]; exact HM5.out.2.2
  have hbX : SRow ((w5.alloc (.cells #[.string (nameN q)] 9)).alloc (.cells #[.string newB, .slice (some ⟨X, 0, none⟩) 1 1] 34)) (some ⟨X, 0, none⟩) [nameN q] := .inr ⟨X, _, rfl, by rw [← hX]; exact (Blk.new w5 _ _).alloc _, rfl⟩
  have hbX6 := hbX.grown ((HM5.out.1.alloc _).alloc _) hgrow6
  have hlen1 : As.length = L.length := HROW.out.2.1.len
  have hown1 : w6.ownsRow H1 34 2 v6 (L1 L (nameN q)).length (libCells (L1 L (nameN q)) (As ++ [(some ⟨X, 0, none⟩, 1)])) := by
    unfold L1
    rw [libCells_snoc hlen1, List.length_append, hlen]
    exact hown6
  have hrowsL : ∀ i (hi : i < L.length), ∀ v, Below H1 v4 v → StrRow v (As[i]'(by omega)).1 L[i].need := fun i hi v hv => by
    have h1 := HROW.out.2.1.rows i hi
    have h2 := h1.below rfl HB4.out
    exact (h2.below HH1.out.symm hv).str (fun x hx => by
      obtain ⟨_, _, _, _, _, h3⟩ := HROW.out.1 i hi
      obtain ⟨j, hj, rfl⟩ := List.getElem_of_mem hx
      exact (h3.row j hj).choose_spec.2.2.2)
  have hMo : Mo H1 v6 (L1 L (nameN q)) (As ++ [(some ⟨X, 0, none⟩, 1)]) w6 := ⟨hown1, by simp [L1, hlen1], fun i hi => by
    by_cases hlt : i < L.length
    · rw [List.getElem_append_left (by omega)]
      rw [L1_at hlt]
      exact hrowsL i hlt w6 hb6
    · have e0 : i = L.length := by unfold L1 at hi; simp at hi; omega
      subst e0
      rw [L1_last, List.getElem_append_right (by omega)]
      simp only [hlen1, Nat.sub_self, List.getElem_cons_zero]
      exact hbX6.str (fun x hx => by simp at hx; rw [hx]; exact hrs)⟩
  have hnm1 : ∀ b ∈ L1 L (nameN q), b.name.size ≤ maxLen := fun b hb => by
    unfold L1 at hb
    rcases List.mem_append.1 hb with h | h
    · exact (HT.out.2.2.2.2.2.1 b h).1
    · simp at h; rw [h]; show (3 : Nat) ≤ maxLen; decide
  have hnl1 : ∀ b ∈ L1 L (nameN q), b.need.length ≤ 100000 := fun b hb => by
    unfold L1 at hb
    rcases List.mem_append.1 hb with h | h
    · have := (HT.out.2.2.2.2.2.1 b h).2; omega
    · simp at h; rw [h]; simp
  have hl1 : (L1 L (nameN q)).length = m + 1 := by unfold L1; simp [hlen]
  obtain ⟨g7, c7, hv6, hrow1⟩ := hMo.row hnm1 hnl1 (by omega)
  rw [hl1] at hv6
  subst hv6
  have hg7 : H1 ≤ g7 := (hown1.lt g7 rfl).1
  have hO2 := fun v (hv : Below w6.heap.size w6 v) => order_any (L1 L (nameN q)) (nameN q) (some ⟨g7, 0, none⟩) c7 v (hrow1.below rfl hv) (by rw [hl1]; omega) hrs
  rw [hl1] at hO2
  have HO2 := Lib.hid hO2
  have HMO := Lib.hid (And.intro hMo (And.intro hb6 (And.intro hbX6 (And.intro hg7 hlX))))
  have HRL := Lib.hid hrowsL
  have hs6 : H1 ≤ w6.heap.size := by rw [← HH1.out]; exact hb6.size
  have HS6 := Lib.hid hs6
  clear hown6 hgrow6 hge hb56 hb6 hbX hbX6 hown1 hrowsL hMo hnm1 hnl1 hl1 hrow1 hO2 hX hs6 hlX
  go_upto_region 9 with (go_at_call 7; (with_reducible refine (HO2.out _ (Below.refl _ _)).mono ?_); rintro e w7 ⟨A8, c8, he, hr8, hb7⟩; rw [HT.out.2.2.1, HT.out.2.2.2.1, HO.out.1, HO.out.2.1, HO.out.2.2] at he; rw [HT.out.2.2.2.1, HO.out.1] at hr8; subst he; have HR8 := Lib.hid hr8; have HB7 := Lib.hid hb7; clear hb7 hr8)
  have hT := texts_any oN oN A6 A8 c6 c8 w7 (HROW4.out _ (HMO.out.2.1.trans (HB7.out.mono HS6.out))).2 HR8.out (by rw [HO.out.2.2]; omega) (by rw [HO.out.2.2]; omega)
  rw [decide_eq_true rfl, HO.out.2.2] at hT
  have HTX := Lib.hid hT
  have hbx := (oE != oE)
  have hee : (oE != oE) = false := by simp
  clear hT
  go_upto_region 12 with (go_at_call 8; (with_reducible refine HTX.out.mono ?_); rintro e w8 ⟨rfl, hb8⟩; have HB8 := Lib.hid (HB7.out.trans (hb8.mono HB7.out.size)); clear hb8)
  have hF8 : Below w.heap.size w w8 := HLW.out.trans ((HB4.out.trans ((HMO.out.2.1.trans (HB8.out.mono HS6.out)).mono (by rw [← HH1.out]; exact HB4.out.size))).mono HLW.out.size)
  have HF8 := Lib.hid hF8
  clear hF8 hbx HTX HO2
  rcases HT.out.1 with hE | ⟨hE, -⟩
  · have h0 : oE = 0 := by rw [← HO.out.2.1]; exact hE
    subst h0
    have hNe : (cloW L (nameN q)).N = oN := by rw [← HO.out.1]; unfold ordN; rw [if_pos hE]
    rw [hNe, HO.out.2.2] at d2 d3
    obtain ⟨p, hp⟩ : ∃ p, p + 1 = n := ⟨n - 1, by omega⟩
    have hpl : p < oN.length := by rw [HO.out.2.2]; omega
    obtain ⟨k, hkm, hy⟩ := HT.out.2.1 (oN[p]) (by rw [hNe]; exact List.getElem_mem hpl)
    obtain ⟨w1', w2', w3'⟩ := HT.out.2.2.2.2.1 k hkm hE (by rw [hNe, HO.out.2.2, show n - 1 = p by omega, List.getElem?_eq_getElem hpl, hy])
    rw [HO.out.1] at w2'
    have HTW := Lib.hid (And.intro w1' (And.intro w2' w3'))
    have hlowA : Below H1 v4 w8 := HMO.out.2.1.trans (HB8.out.mono HS6.out)
    obtain ⟨ao, rfl, -, hcy, -⟩ := (HROW4.out _ hlowA).2 p hpl
    rw [hy] at hcy
    have hk16 : k < 16 := by omega
    have hix := fun v => nameN_at (i := k) hk16 v
    have hsz1 := nameN_size k
    have hpw : IntKind.i64.wrap ((n : Int) - 1) = (p : Int) := by rw [show (n : Int) - 1 = (p : Int) by omega]; exact IntWalk.i64_in _ (by omega)
    have hnz : ((n : Int) == 0) = false := by simp; omega
    have hp0 : (0 : Int) ≤ (p : Int) := by omega
    have hpn : (p : Int) < (n : Int) := by omega
    have ha97 : IntKind.u8.wrap (((97 + k : Nat) : Int) - 97) = (k : Int) := by
      have e : IntKind.u8.wrap (((97 + k : Nat) : Int) - 97) = (((97 + k : Nat) : Int) - 97) % 256 := rfl
      rw [e]; omega
    have ha64 : IntKind.i64.wrap (k : Int) = (k : Int) := IntWalk.i64_in _ (by omega)
    have hk0 : (0 : Int) ≤ (k : Int) := by omega
    have hkmI : (k : Int) < (m : Int) := by omega
    have hkm1 : (k : Int) < ((m + 1 : Nat) : Int) := by omega
    have hkn0 : ¬ (k : Int) < 0 := by omega
    have hkge : ¬ (k : Int) ≥ (m : Int) := by omega
    generalize hK97 : ((97 + k : Nat) : Int) = K97 at *
    clear hNe hy w1' w2' w3' hE hK97
    go_upto_region 19 with fail
    have hkL : k < L.length := by rw [hlen]; exact hkm
    have hkA : k < As.length := by rw [hlen1]; exact hkL
    obtain ⟨An, hAn⟩ : ∃ A, As[k].1 = A := ⟨_, rfl⟩
    obtain ⟨cn, hcn⟩ : ∃ c, As[k].2 = c := ⟨_, rfl⟩
    obtain ⟨nd, hnd⟩ : ∃ nd, needOf L (nameN k) = nd := ⟨_, rfl⟩
    have hLk := HAT.out k hkL
    rw [hnd] at hLk
    obtain ⟨nl, hnl⟩ : ∃ nl, nd.length = nl := ⟨_, rfl⟩
    have hnl8 : nl ≤ 8 := by rw [← hnl, ← hLk.2]; exact (HT.out.2.2.2.2.2.1 _ (List.getElem_mem hkL)).2
    have hca := (libCells_at HROW.out.2.1.len k hkL).2
    rw [hLk.2, hnl, hAn, hcn] at hca
    have hrk := fun v hv => HRL.out k hkL v hv
    rw [hLk.2, hAn] at hrk
    have hnil : An = none → cn = 0 := fun h => by
      have := HROW.out.2.2 As[k] (List.getElem_mem hkA)
      rw [hAn, hcn] at this
      exact this h
    obtain ⟨H2, hH2⟩ : ∃ H2, w8.heap.size = H2 := ⟨_, rfl⟩
    have hH12 : H1 ≤ H2 := by rw [← hH2, ← HH1.out]; exact hlowA.size
    have hg5b : g5 < H1 := by rw [← HH1.out]; have := HB4.out.size; omega
    have hw9 : Below H2 w8 (w8.alloc (.cells #[] 9)) := by rw [← hH2]; exact (Below.refl _ _).alloc (Nat.le_refl _) _
    have hE9 := Blk.new w8 9 #[]
    rw [hH2] at hE9
    obtain ⟨w9, hW9⟩ : ∃ w9, w8.alloc (.cells #[] 9) = w9 := ⟨_, rfl⟩
    rw [hW9] at hw9 hE9
    have hlow9 : Below H1 v4 w9 := hlowA.trans (hw9.mono hH12)
    have hc9 : w9.cell? ⟨g5, k * 2 + 1, none⟩ = some (.slice An nl cn) := ((HB4.out.trans (hlow9.mono (by rw [← HH1.out]; exact HB4.out.size))).cell (p := ⟨g5, k * 2 + 1, none⟩) hg5).trans (HC5.out _ _ hca)
    have hc9' : w9.cell? ⟨((⟨g5, 0, none⟩ : Addr).add (k * 2)).block, ((⟨g5, 0, none⟩ : Addr).add (k * 2)).off + 1, none⟩ = some (.slice An nl cn) := by rw [addr0]; exact hc9
    rw [← hW9] at hc9 hc9'
    have HW9 := Lib.hid (And.intro hW9 (And.intro hw9 (And.intro hE9 hlow9)))
    have HND := Lib.hid (And.intro hnd (And.intro hnl (And.intro hLk.1 hLk.2)))
    have HRK := Lib.hid hrk
    have HNI := Lib.hid hnil
    have HH2 := Lib.hid hH2
    have HHY := Lib.hid (And.intro hH12 hg5b)
    clear hca hrk hnil hLk hnd hnl hAn hcn hW9 hw9 hE9 hlow9 hH12 hg5b hcy hlowA hix ha97 ha64 hsz1
    obtain ⟨j0, hj, hy0, hy1, hy2⟩ := info_parts infoStr
    go_wp2_with (at_builtin; refine Hid.out ?_)
    refine Lib.hid ?_
    rw [HW9.out.1]
    clear hc9 hc9'
    refine wpList_append_names rfl _ _ rfl H2 (.slice (some ⟨H2, 0, none⟩) 0 0) 0 [] rfl (own_empty HW9.out.2.2.1) An nl cn nd rfl HND.out.2.1 (HRK.out _ HW9.out.2.2.2) HNI.out (by omega) (by have := HW9.out.2.1.size; have := HH2.out; omega) ?_
    intro v9 w10 hown10 hgrow10
    have hlow10 : Below H2 w8 w10 := HW9.out.2.1.grown hgrow10 (by have := HW9.out.2.1.size; have := HH2.out; omega) (fun j hj => by simp [Value.ownBlock] at hj; omega)
    have hown10' : w10.ownsRow H2 9 1 v9 nl (strs nd) := by simpa using hown10
    have hM10 := HMO.out.1.below rfl (HB8.out.trans (hlow10.mono (by rw [← HH2.out]; exact HB8.out.size)))
    have hlA : Below H1 v4 w10 := HW9.out.2.2.2.trans ((show Below H2 w9 w10 from ⟨hgrow10.os, hgrow10.tape, hgrow10.output, hgrow10.size, fun j hj => hgrow10.block j (Nat.lt_of_lt_of_le hj (by have := HW9.out.2.1.size; have := HH2.out; omega)) (fun e => by simp [Value.ownBlock] at e; omega)⟩).mono HHY.out.1)
    obtain ⟨A9, c9, hv9⟩ := own_slice hown10'
    subst hv9
    have hg7b : g7 < H2 := by
      rw [← HH2.out]
      have := (HMO.out.1.own.lt g7 rfl).2
      have := HB8.out.size
      omega
    have hl1 : (L1 L (nameN q)).length = m + 1 := by unfold L1; simp [hlen]
    have hXb : SRow w10 (some ⟨X, 0, none⟩) [nameN q] := HMO.out.2.2.1.below rfl (HB8.out.trans (hlow10.mono (by rw [← HH2.out]; exact HB8.out.size)))
    have hXg : X ≠ g7 := two_types (n := m + 1) (by have := hM10.own; rw [hl1] at this; exact this) hXb (by simp)
    obtain ⟨As1, hAs1⟩ : ∃ As1, As ++ [((some ⟨X, 0, none⟩ : Option Addr), 1)] = As1 := ⟨_, rfl⟩
    have hAsl : As1.length = m + 1 := by rw [← hAs1]; simp [hlen1, hlen]
    obtain ⟨M1, hM1⟩ : ∃ M1, L1 L (nameN q) = M1 := ⟨_, rfl⟩
    have hRO : ∀ i (hi : i < m + 1) (hiA : i < As1.length) (hiM : i < M1.length), ∀ v, Below H1 v4 v → SRow v (some ⟨X, 0, none⟩) [nameN q] → StrRow v As1[i].1 M1[i].need := fun i hi hiA hiM v h1 h2 => by
      subst hAs1 hM1
      by_cases hlt : i < L.length
      · rw [List.getElem_append_left (by omega), L1_at hlt]
        exact HRL.out i hlt v h1
      · have e0 : i = L.length := by omega
        subst e0
        rw [L1_last, List.getElem_append_right (by omega)]
        simp only [hlen1, Nat.sub_self, List.getElem_cons_zero]
        exact h2.str (fun x hx => by simp at hx; rw [hx]; exact hrs)
    rw [hAs1, hM1] at hM10
    rw [hM1] at hl1
    have hM1k : ∀ (h : k < M1.length), M1[k].name = nameN k := fun h => by subst hM1; rw [L1_at hkL]; exact HND.out.2.2.1
    have ho10 := hM10.own
    rw [hl1] at ho10
    obtain ⟨gg, cc, cur, hv, -, hcur, hcells⟩ := hM10.form (by omega)
    injection hv with e1 e2 e3
    injection e1 with e1
    injection e1 with e1
    subst e1
    obtain ⟨u, hu⟩ : ∃ u, (libCells M1 As1)[k * 2 + 1]? = some u := ⟨_, List.getElem?_eq_getElem (by rw [libCells_len (by omega)]; omega)⟩
    have hold := (hcur.cell (k * 2 + 1)).trans (hcells _ _ hu)
    have hfro := hcur.frozen (k * 2 + 1)
    have hold' : w10.cell? ⟨((⟨g7, 0, none⟩ : Addr).add (k * 2)).block, ((⟨g7, 0, none⟩ : Addr).add (k * 2)).off + 1, none⟩ = some u := by rw [addr0]; exact hold
    have hfro' : w10.frozen? ⟨((⟨g7, 0, none⟩ : Addr).add (k * 2)).block, ((⟨g7, 0, none⟩ : Addr).add (k * 2)).off + 1, none⟩ = false := by rw [addr0]; exact hfro
    have hown9 : ∀ j, (Value.slice A9 nl c9).ownBlock = some j → H2 ≤ j := fun j hj => (hown10'.lt j hj).1
    have hturn := mo_turn (by rw [hl1]; exact ho10) (by omega) k (by omega) nd A9 c9 (fun i hi hne v hb => hRO i (by omega) (by omega) hi v (hlA.trans (hb.below (by have := hlA.size; have := HH1.out; omega) (fun j hj => by have hj : j = g7 := hj; have := HMO.out.2.2.2.1; omega))) (hXb.but hb (fun g hg => by injection hg with hg; injection hg with hg; intro e; have e : g = g7 := e; omega))) (fun v hb => by
      have := own_butG hown10' hb (fun j hj e => by have := hown9 j hj; have e : j = g7 := e; omega)
      obtain ⟨_, A', c', hv', hr'⟩ := strRow_ownG this (fun x hx => by
        obtain ⟨jx, hjx, rfl⟩ := List.getElem_of_mem hx
        exact ((HRK.out _ HW9.out.2.2.2) jx hjx).choose_spec.2.2.2)
      injection hv' with e1 e2 e3
      rw [e1]; exact hr')
    rw [HND.out.2.1, hM1k] at hturn
    have hb11 := (But.refl (· = g7) w10).setCell (p := ⟨g7, k * 2 + 1, none⟩) (.inl rfl) (.slice A9 nl c9)
    have h9own11 := own_butG hown10' hb11 (fun j hj e => by have := hown9 j hj; have e : j = g7 := e; omega)
    have hlA11 : Below H1 v4 (w10.setCell ⟨g7, k * 2 + 1, none⟩ (.slice A9 nl c9)) := hlA.trans (hb11.below (by have := hlA.size; have := HH1.out; omega) (fun j hj => by have hj : j = g7 := hj; have := HMO.out.2.2.2.1; omega))
    have hX11 := hXb.but hb11 (fun g hg => by injection hg with hg; injection hg with hg; intro e; have e : g = g7 := e; omega)
    have hs11 : H2 ≤ (w10.setCell ⟨g7, k * 2 + 1, none⟩ (.slice A9 nl c9)).heap.size := by have := hb11.size; have := hlow10.size; have := HH2.out; omega
    have H11 := Lib.hid (fun W (hW : w10.setCell ⟨g7, k * 2 + 1, none⟩ (.slice A9 nl c9) = W) => show (Mo H1 (.slice (some ⟨g7, 0, none⟩) M1.length c7) (M1.set k ⟨nameN k, nd⟩) (As1.set k (A9, c9)) W ∧ W.ownsRow H2 9 1 (.slice A9 nl c9) nl (strs nd)) ∧ Below H1 v4 W ∧ SRow W (some ⟨X, 0, none⟩) [nameN q] ∧ H2 ≤ W.heap.size from by subst hW; exact ⟨⟨hturn, h9own11⟩, hlA11, hX11, hs11⟩)
    have HRO := Lib.hid hRO
    have HQ1 := Lib.hid (And.intro hAsl (And.intro hl1 (And.intro hXg hg7b)))
    have HM1 := Lib.hid (And.intro hM1 (And.intro hAs1 hM1k))
    clear hown10 hgrow10 hlow10 hown10' hM10 hlA hXb hRO hM1k ho10 hcur hcells hu hturn hb11 h9own11 hlA11 hX11 hs11 e2 e3 hAs1 hM1 hl1 hAsl hXg
    go_upto_region 20 with fail
    clear hold hfro hold' hfro' hown9
    obtain ⟨W11, hW11⟩ : ∃ W, w10.setCell ⟨g7, k * 2 + 1, none⟩ (.slice A9 nl c9) = W := ⟨_, rfl⟩
    rw [hW11]
    obtain ⟨⟨hMo2, hv9o⟩, hlA11, hX11, hs11⟩ := H11.out W11 hW11
    clear H11 hW11
    have hM2l : (M1.set k ⟨nameN k, nd⟩).length = m + 1 := by rw [List.length_set]; exact HQ1.out.2.1
    obtain ⟨M2, hM2⟩ : ∃ M2, M1.set k ⟨nameN k, nd⟩ = M2 := ⟨_, rfl⟩
    obtain ⟨As2, hAs2⟩ : ∃ As2, As1.set k (A9, c9) = As2 := ⟨_, rfl⟩
    have hAs2l : As2.length = m + 1 := by rw [← hAs2, List.length_set]; exact HQ1.out.1
    have hM2k : ∀ (h : k < M2.length), M2[k].name = nameN k := fun h => by subst hM2; rw [List.getElem_set, if_pos rfl]
    have hRO2 : ∀ i (hi : i < m + 1) (hiA : i < As2.length) (hiM : i < M2.length), i ≠ k → ∀ v, Below H1 v4 v → SRow v (some ⟨X, 0, none⟩) [nameN q] → StrRow v As2[i].1 M2[i].need := fun i hi hiA hiM hne v h1 h2 => by
      subst hM2 hAs2
      rw [List.getElem_set, List.getElem_set, if_neg (fun e => hne e.symm), if_neg (fun e => hne e.symm)]
      exact HRO.out i hi (by rw [HQ1.out.1]; omega) (by rw [HQ1.out.2.1]; omega) v h1 h2
    have hcl2 : (libCells M2 As2)[k * 2 + 1]? = some (.slice A9 nl c9) := by
      have h := (libCells_at (L := M2) (As := As2) (by rw [hAs2l, ← hM2, hM2l]) k (by rw [← hM2, hM2l]; omega)).2
      have e1 : ∀ (h : k < M2.length), M2[k].need.length = nl := fun h => by subst hM2; rw [List.getElem_set, if_pos rfl]; exact HND.out.2.1
      have e2 : ∀ (h : k < As2.length), As2[k] = (A9, c9) := fun h => by subst hAs2; rw [List.getElem_set, if_pos rfl]
      rw [e1, e2] at h
      exact h
    rw [hM2, hAs2] at hMo2
    rw [HQ1.out.2.1] at hMo2
    rw [hM2] at hM2l
    obtain ⟨gg, cc, cur2, hvv, -, hcur2, hcells2⟩ := hMo2.form (by omega)
    injection hvv with e1 e2 e3
    injection e1 with e1
    injection e1 with e1
    subst e1
    have n1 := (hcur2.cell (k * 2 + 1)).trans (hcells2 _ _ hcl2)
    have n1' : W11.cell? ⟨((⟨g7, 0, none⟩ : Addr).add (k * 2)).block, ((⟨g7, 0, none⟩ : Addr).add (k * 2)).off + 1, none⟩ = some (.slice A9 nl c9) := by rw [addr0]; exact n1
    have HMO2 := Lib.hid (And.intro hMo2 (And.intro hv9o (And.intro hlA11 (And.intro hX11 hs11))))
    have HCUR := Lib.hid (And.intro hcur2 (hcells2 _ _ hcl2))
    have HM2 := Lib.hid (And.intro hM2l (And.intro hAs2l (And.intro hM2k hM2)))
    have HRO2 := Lib.hid hRO2
    clear hMo2 hv9o hlA11 hX11 hs11 hM2l hAs2l hM2k hRO2 hcl2 hcur2 hcells2 e2 e3 hAs2 hM2
    obtain ⟨Y, hY⟩ : ∃ Y, W11.heap.size = Y := ⟨_, rfl⟩
    have HY := Lib.hid hY
    go_wp2_with (at_builtin; refine Hid.out ?_)
    refine Lib.hid ?_
    try rw [hY]
    refine wpList_append_own _ rfl _ _ 29 rfl H2 9 j0 (.string ⟨#[]⟩) 1 16 Try.underlying29 hj hy0 hy1 hy2 rfl (by decide) (.slice A9 nl c9) nl (strs nd) rfl (HMO2.out.2.1.alloc _) ⟨Y, 0, none⟩ 1 1 [.string newB] rfl rfl (fun j u hj => by
      have := cell_oneG W11 (.string newB) 9 j u hj
      rw [hY] at this
      exact this) (fun u hu => by simp at hu; subst hu; rfl) (by unfold maxLen; omega) (by omega) (by have := HMO2.out.2.2.2.2; simp; omega) ?_
    intro v10 w12 hown12 hgrow12 _
    have hbl9 : ∀ j, (Value.slice A9 nl c9).ownBlock = some j → H2 ≤ j := fun j hj => (HMO2.out.2.1.lt j hj).1
    have hg9 : some g7 ≠ (Value.slice A9 nl c9).ownBlock := fun e => by have := hbl9 g7 e.symm; have := HQ1.out.2.2.2; omega
    have hcur12 := (HCUR.out.1.alloc (.cells #[.string newB] 9)).grown hgrow12 hg9
    have r1 := (hcur12.cell (k * 2 + 1)).trans HCUR.out.2
    have r2 := hcur12.frozen (k * 2 + 1)
    have r1' : w12.cell? ⟨((⟨g7, 0, none⟩ : Addr).add (k * 2)).block, ((⟨g7, 0, none⟩ : Addr).add (k * 2)).off + 1, none⟩ = some (.slice A9 nl c9) := by rw [addr0]; exact r1
    have r2' : w12.frozen? ⟨((⟨g7, 0, none⟩ : Addr).add (k * 2)).block, ((⟨g7, 0, none⟩ : Addr).add (k * 2)).off + 1, none⟩ = false := by rw [addr0]; exact r2
    have hown12' : w12.ownsRow H2 9 1 v10 (nl + 1) (strs (nd ++ [newB])) := by rw [strs_snoc]; exact hown12
    have hB12 : Below H2 W11 w12 := ((Below.refl H2 W11).alloc (by have := HMO2.out.2.2.2.2; omega) (.cells #[.string newB] 9)).grown hgrow12 (by have := HMO2.out.2.2.2.2; simp; omega) hbl9
    have hlA12 : Below H1 v4 w12 := HMO2.out.2.2.1.trans (hB12.mono HHY.out.1)
    have hXH : X < H2 := by
      rcases HMO2.out.2.2.2.1 with h | ⟨g, cs, e, h, _⟩
      · simp at h
      · have h3 := HB8.out.size
        have h4 : X < w6.heap.size := by
          rcases HMO.out.2.2.1 with h | ⟨g2, cs2, e2, h2, _⟩
          · simp at h
          · injection e2 with e2
            injection e2 with e2
            rw [e2]; exact h2.lt
        have := HH2.out
        omega
    have hX12 : SRow w12 (some ⟨X, 0, none⟩) [nameN q] := by
      rcases HMO2.out.2.2.2.1 with h | ⟨g, cs, e, h, h2⟩
      · exact .inl h
      · injection e with e
        injection e with e
        subst e
        exact .inr ⟨_, cs, rfl, h.below hB12 hXH, h2⟩
    have ho12 : w12.ownsRow H1 34 2 (.slice (some ⟨g7, 0, none⟩) M2.length c7) M2.length (libCells M2 As2) := by
      have h := (HMO2.out.1.own.alloc (.cells #[.string newB] 9)).kept hgrow12 (.inr (fun e => hg9 e.symm.symm))
      rw [HM2.out.1]
      rw [HM2.out.1] at h
      exact h
    obtain ⟨A10, c10, hv10⟩ := own_slice hown12'
    subst hv10
    have hbl10 : ∀ j, (Value.slice A10 (nl + 1) c10).ownBlock = some j → H2 ≤ j := fun j hj => (hown12'.lt j hj).1
    have hsz12 : H2 ≤ w12.heap.size := by have := hB12.size; have := HMO2.out.2.2.2.2; omega
    have hndl : (nd ++ [newB]).length = nl + 1 := by rw [List.length_append, HND.out.2.1]; rfl
    have hnds : ∀ x ∈ nd ++ [newB], x.size ≤ maxLen := fun x hx => by
      rcases List.mem_append.1 hx with h | h
      · obtain ⟨jx, hjx, rfl⟩ := List.getElem_of_mem h
        exact ((HRK.out _ HW9.out.2.2.2) jx hjx).choose_spec.2.2.2
      · simp at h; rw [h]; show (3 : Nat) ≤ maxLen; decide
    have hturn2 := mo_turn ho12 (by rw [HM2.out.2.1, HM2.out.1]) k (by rw [HM2.out.1]; omega) (nd ++ [newB]) A10 c10 (fun i hi hne v hb => HRO2.out i (by rw [HM2.out.1] at hi; exact hi) (by rw [HM2.out.2.1]; rw [HM2.out.1] at hi; exact hi) hi hne v (hlA12.trans (hb.below (by have := hlA12.size; have := HH1.out; omega) (fun j hj => by have hj : j = g7 := hj; have := HMO.out.2.2.2.1; omega))) (hX12.but hb (fun g hg => by injection hg with hg; injection hg with hg; intro e; have e : g = g7 := e; have := HQ1.out.2.2.1; omega))) (fun v hb => by
      have := own_butG hown12' hb (fun j hj e => by have := hbl10 j hj; have e : j = g7 := e; have := HQ1.out.2.2.2; omega)
      obtain ⟨_, A', c', hv', hr'⟩ := strRow_ownG this hnds
      injection hv' with e1 e2 e3
      rw [e1]; exact hr')
    rw [hndl, HM2.out.2.2.1] at hturn2
    have hM3 : M2.set k ⟨nameN k, nd ++ [newB]⟩ = L2 L (nameN q) k := by
      rw [← HM2.out.2.2.2, ← HM1.out.1, List.set_set]
      unfold L1 L2
      rw [List.set_append_left _ _ hkL, HND.out.1]
    rw [hM3] at hturn2
    have hb13 := (But.refl (· = g7) w12).setCell (p := ⟨g7, k * 2 + 1, none⟩) (.inl rfl) (.slice A10 (nl + 1) c10)
    have hlA13 : Below H1 v4 (w12.setCell ⟨g7, k * 2 + 1, none⟩ (.slice A10 (nl + 1) c10)) := hlA12.trans (hb13.below (by have := hlA12.size; have := HH1.out; omega) (fun j hj => by have hj : j = g7 := hj; have := HMO.out.2.2.2.1; omega))
    have hml2 : (L2 L (nameN q) k).length = m + 1 := by unfold L2; simp [hlen]
    have hnm2 : (∀ b ∈ L2 L (nameN q) k, b.name.size ≤ maxLen) ∧ (∀ b ∈ L2 L (nameN q) k, b.need.length ≤ 100000) := by
      constructor <;> intro b hb <;> unfold L2 at hb <;> rcases List.mem_append.1 hb with h | h
      · rcases List.mem_or_eq_of_mem_set h with h | h
        · exact (HT.out.2.2.2.2.2.1 b h).1
        · rw [h]; show (nameN k).size ≤ maxLen; rw [nameN_size]; decide
      · simp at h; rw [h]; show (3 : Nat) ≤ maxLen; decide
      · rcases List.mem_or_eq_of_mem_set h with h | h
        · have := (HT.out.2.2.2.2.2.1 b h).2; omega
        · rw [h]
          show (needOf L (nameN k) ++ [newB]).length ≤ 100000
          rw [HND.out.1, hndl]; omega
      · simp at h; rw [h]; simp
    have H13 := Lib.hid (fun W (hW : w12.setCell ⟨g7, k * 2 + 1, none⟩ (.slice A10 (nl + 1) c10) = W) => show LibRow W (some ⟨g7, 0, none⟩) (L2 L (nameN q) k) ∧ Below H1 v4 W ∧ H2 ≤ W.heap.size from by
      subst hW
      refine ⟨?_, hlA13, by have := hb13.size; omega⟩
      obtain ⟨g, c', hv', hrow'⟩ := hturn2.row hnm2.1 hnm2.2 (by rw [hml2]; omega)
      injection hv' with e1 e2 e3
      rw [e1]; exact hrow')
    have HML2 := Lib.hid hml2
    clear hown12 hgrow12 hbl9 hg9 hcur12 hown12' hB12 hlA12 hX12 ho12 hbl10 hsz12 hndl hnds hturn2 hM3 hb13 hlA13 hml2 hnm2 n1 n1'
    go_upto_region 21 with fail
    clear r1 r2 r1' r2'
    obtain ⟨W13, hW13⟩ : ∃ W, w12.setCell ⟨g7, k * 2 + 1, none⟩ (.slice A10 (nl + 1) c10) = W := ⟨_, rfl⟩
    rw [hW13]
    obtain ⟨hrow13, hlA13, hs13⟩ := H13.out W13 hW13
    clear H13 hW13
    have hO3 := order_any (L2 L (nameN q) k) (nameN q) (some ⟨g7, 0, none⟩) c7 W13 hrow13 (by rw [HML2.out]; omega) hrs
    have hR3 := fun v (hv : Below W13.heap.size W13 v) => round_any (L2 L (nameN q) k) (nameN q) (some ⟨g7, 0, none⟩) c7 v (hrow13.below rfl hv) (by rw [HML2.out]; omega) hrs
    rw [HML2.out] at hO3
    rw [HML2.out, HTW.out.2.2] at hR3
    have HO3 := Lib.hid hO3
    have HR3 := Lib.hid hR3
    have HL13 := Lib.hid (And.intro hlA13 hs13)
    have hnl1 : (oN ++ [newB]).length = n + 1 := by rw [List.length_append, HO.out.2.2]; rfl
    have HNL1 := Lib.hid hnl1
    clear hrow13 hlA13 hs13 hO3 hR3 hnl1
    go_upto_region 23 with (go_at_call 7; (with_reducible refine HO3.out.mono ?_); rintro e w14 ⟨A14, c14, he, hr14, hb14⟩; rw [HTW.out.1, HTW.out.2.1, HNL1.out] at he; rw [HTW.out.2.1] at hr14; subst he; have HR14 := Lib.hid hr14; have HB14 := Lib.hid hb14; clear hb14 hr14)
    obtain ⟨H3, hH3⟩ : ∃ H3, w14.heap.size = H3 := ⟨_, rfl⟩
    have HH3 := Lib.hid hH3
    have hlA14 : Below H1 v4 w14 := HL13.out.1.trans (HB14.out.mono (by rw [← HH1.out]; exact HL13.out.1.size))
    have HA14 := Lib.hid hlA14
    clear hlA14
    go_wp2_with (at_builtin; refine Hid.out ?_)
    refine Lib.hid ?_
    refine wpList_append_names rfl _ _ rfl H3 (.slice none 0 0) 0 [] rfl (World.ownsRow_nil _ _ _ _) (some ao) n c6 oN rfl HO.out.2.2 ((HROW4.out _ HA14.out).2) (fun h => by cases h) (by omega) (by omega) ?_
    intro v15 w15 hown15 hgrow15
    have hown15' : w15.ownsRow H3 9 1 v15 n (strs oN) := by simpa using hown15
    have hB15 : Below H3 w14 w15 := by rw [← HH3.out]; exact ⟨hgrow15.os, hgrow15.tape, hgrow15.output, hgrow15.size, fun j hj => hgrow15.block j hj (fun e => by cases e)⟩
    have H15 := Lib.hid (And.intro hown15' hB15)
    clear hown15 hgrow15 hown15' hB15
    go_upto_region 24 with fail
    obtain ⟨Z, hZ⟩ : ∃ Z, w15.heap.size = Z := ⟨_, rfl⟩
    have HZ := Lib.hid hZ
    go_wp2_with (at_builtin; refine Hid.out ?_)
    refine Lib.hid ?_
    try rw [hZ]
    refine wpList_append_own _ rfl _ _ 29 rfl H3 9 j0 (.string ⟨#[]⟩) 1 16 Try.underlying29 hj hy0 hy1 hy2 rfl (by decide) v15 n (strs oN) rfl (H15.out.1.alloc _) ⟨Z, 0, none⟩ 1 1 [.string newB] rfl rfl (fun j u hj => by
      have := cell_oneG w15 (.string newB) 9 j u hj
      rw [hZ] at this
      exact this) (fun u hu => by simp at hu; subst hu; rfl) (by unfold maxLen; omega) (by omega) (by have := H15.out.2.size; have := HH3.out; simp; omega) ?_
    intro v16 w16 hown16 hgrow16 _
    have hown16' : w16.ownsRow H3 9 1 v16 (n + 1) (strs (oN ++ [newB])) := by rw [strs_snoc]; exact hown16
    have hB16 : Below H3 w14 w16 := (H15.out.2.alloc (by have := H15.out.2.size; have := HH3.out; omega) (.cells #[.string newB] 9)).grown hgrow16 (by have := H15.out.2.size; have := HH3.out; simp; omega) (fun j hj => (H15.out.1.lt j hj).1)
    have hsz16 : ∀ x ∈ oN ++ [newB], x.size ≤ maxLen := fun x hx => by
      rcases List.mem_append.1 hx with h | h
      · obtain ⟨jx, hjx, rfl⟩ := List.getElem_of_mem h
        exact ((HROW4.out _ HA14.out).2 jx hjx).choose_spec.2.2.2
      · simp at h; rw [h]; show (3 : Nat) ≤ maxLen; decide
    obtain ⟨-, A16, c16, hv16, hr16⟩ := strRow_ownG hown16' hsz16
    rw [HNL1.out] at hv16
    subst hv16
    have hT2 := texts_any (oN ++ [newB]) (oN ++ [newB]) A14 A16 c14 c16 w16 (strRow_belowG HR14.out HH3.out.symm hB16) hr16 (by rw [HNL1.out]; omega) (by rw [HNL1.out]; omega)
    rw [decide_eq_true rfl, HNL1.out] at hT2
    have HT2 := Lib.hid hT2
    have HB16 := Lib.hid (show Below W13.heap.size W13 w16 from HB14.out.trans (hB16.mono (by rw [← HH3.out]; exact HB14.out.size)))
    clear hown16 hgrow16 hown16' hB16 hsz16 hr16 hT2
    go_wp2_with (first
      | (go_at_call 8; (with_reducible refine HT2.out.mono ?_); rintro e w17 ⟨rfl, hb17⟩; have HB17 := Lib.hid (HB16.out.trans (hb17.mono HB16.out.size)); clear hb17)
      | (go_at_call 9; (with_reducible refine (HR3.out _ HB17.out).mono ?_); rintro e w18 ⟨rfl, hb18⟩; have HB18 := Lib.hid (HB17.out.trans (hb18.mono HB17.out.size)); clear hb18))
    go_ret
    exact ⟨by simp, HLW.out.trans ((HB4.out.trans ((HL13.out.1.trans (HB18.out.mono (by rw [← HH1.out]; exact HL13.out.1.size))).mono (by rw [← HH1.out]; exact HB4.out.size))).mono HLW.out.size)⟩
  · have h17 : oE = 17 := by rw [← HO.out.2.1]; exact hE
    subst h17
    go_wp2
    go_ret
    exact ⟨rfl, HF8.out⟩

set_option maxRecDepth 100000 in
theorem lifted (os : Os) (started : os.Started) (H : Type) (enc : TypeId × Value → H) :
    ReturnsInHanded {} Try.checked os 3 .any (Rows.needsGrowSpec.pre6 enc Try.prog Try.f3 Rows.needsGrowRow.domain false) (Rows.needsGrowSpec.post enc Try.prog Try.f3 false true false false) := by
  refine returnsInHanded_of_change (C := Try.checked) own started (by kernel_rfl) Try.func3
    (ChangeSpec.witness6 (enc := enc) (C := Try.checked) false ⟨#[], #[zspecV, .int .i64 0], []⟩ 8 (by kernel_rfl) (by kernel_rfl) (by kernel_rfl) (by kernel_rfl)) ?_
  intro W base args ds gs before hval0 hW hcnd _
  have hval : ∀ (j : Nat) t v, Try.f3.params[j]? = some t → args[j]? = some v → Value.okWide Try.prog W .any base t v := hval0
  have hW' := hW
  obtain ⟨p, q, hA0, hV, rfl, hfz, hnd⟩ := hW
  have hA : DataW.TrodAll enc Try.prog W 0 (fun _ => true) true Try.f3.params.toList args.toList ds p := hA0
  rw [Try.params3] at hA hval
  obtain ⟨v0, vs0, d0, ds0, p0, q0, hargs, rfl, rfl, h0, r0⟩ := trodAll_cons hA
  obtain ⟨v1, vs1, d1, ds1, p1, q1, rfl, rfl, rfl, h1, r1⟩ := trodAll_cons r0
  obtain ⟨rfl, rfl, rfl⟩ := trodAll_nil r1
  obtain rfl : args = #[v0, v1] := by cases args; simp_all
  obtain ⟨rfl, rfl⟩ := trodVars_none hV
  have k0 := h0
  have lt0 : ∀ x ∈ p0, x.block < W.heap.size := by obtain ⟨m, hm⟩ := k0; exact DataW.trod_lt m _ _ _ hm
  obtain ⟨a0, rfl, w0⟩ := open_specG (hval 0 24 v0 rfl rfl) h0
  have k1 := h1
  have lt1 : ∀ x ∈ p1, x.block < W.heap.size := by obtain ⟨m, hm⟩ := k1; exact DataW.trod_lt m _ _ _ hm
  obtain ⟨a1, rfl, _, _, w1⟩ := open_int Try.underlying3 (hval 1 3 v1 rfl rfl) h1
  clear hA0 hval0
  refine (walk a0 a1 W w0 w1).mono fun e W' ⟨he, bel⟩ => ?_
  subst he
  exact ⟨_, rfl, _, _, _, [], _, [], hW', trodAll_mk1 (shut_bool Try.underlying4 _), (trodAll_cons_mk (Below.trod laidOut (by kernel_rfl) (of_decide_eq_true (by kernel_rfl)) k0 bel lt0) (trodAll_cons_mk (Below.trod laidOut (by kernel_rfl) (of_decide_eq_true (by kernel_rfl)) k1 bel lt1) trodAll_mk0)), rfl, bel.frame _, fun h => by cases h⟩
theorem over : Rows.needsGrowRow.holds Try.pinned (OpenSpec.ofChange Rows.needsGrowSpec) :=
  OpenClaim.holds_of_wide 3 Try.f3 rfl rfl rfl rfl rfl rfl rfl ⟨rfl, rfl, rfl, rfl, rfl⟩ rfl rfl rfl rfl rfl (by kernel_rfl) Try.func3 (by kernel_rfl)
    (of_decide_eq_true (by kernel_rfl)) (by unfold Func.isWrapper; first | (rw [if_pos (by decide +kernel)]; kernel_rfl) | (rw [if_neg (by decide +kernel)]; exact ⟨rfl, rfl⟩))
    (fun os started H enc _ => lifted os started H enc)
/-- The statement. -/
theorem proved : Rows.NeedsGrowSaid := over
end Go.Proofs.Ytinbedplmbnkaad.lawGrow
