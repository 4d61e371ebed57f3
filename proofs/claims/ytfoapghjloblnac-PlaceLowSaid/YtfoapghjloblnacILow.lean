/- PlaceLow: for any pairs of numbers (eight at most are looked at) and one number: a thing that likes no place goes as low as can be. -/
import Derived.Test.YtfoapghjloblnacIw
namespace Go.Proofs.Ytfoapghjloblnac.lawLow
open Go.ChangeShapes Go.WideShapes Go.ChangeAt Go.RowKit Go.Deep
set_option linter.unusedVariables false
set_option linter.unusedSimpArgs false

theorem own_slice2 {w : World} {B e n : Nat} {v : Value} {xs : List Value} (h : w.ownsRow B e 2 v n xs) : ∃ A c, v = .slice A n c := by
  rcases h.2 with ⟨h0, h1⟩ | ⟨g, cap, cur, hv, _⟩
  · exact ⟨none, 0, by rw [h0, h1]⟩
  · exact ⟨_, _, hv⟩
def thL (z : Int × Int) : Int × Int := (1 + z.1 % 256, 64 * (z.2 % 32))
theorem thL_b (z : Int × Int) : 1 ≤ (thL z).1 ∧ (thL z).1 ≤ 256 ∧ 0 ≤ (thL z).2 ∧ (thL z).2 ≤ 1984 := by
  show 1 ≤ 1 + z.1 % 256 ∧ 1 + z.1 % 256 ≤ 256 ∧ 0 ≤ 64 * (z.2 % 32) ∧ 64 * (z.2 % 32) ≤ 1984
  omega
/-- All of them are placed, the last one as low as can be. -/
theorem low_told (l : List (Int × Int)) (x : Int × Int) (hl : ∀ y ∈ l, 1 ≤ y.1 ∧ y.1 ≤ 256 ∧ 0 ≤ y.2 ∧ y.2 ≤ 1984) (hx : 1 ≤ x.1 ∧ x.1 ≤ 256 ∧ x.2 = 0) (hn : l.length ≤ 8) :
    ∃ P, allP (l ++ [x]) 0 65536 = (P.map Prod.fst, 0) ∧ FolP 0 65536 (l ++ [x]) P ∧ ∀ (h : l.length < P.length) p, 0 ≤ p → p < P[l.length].1 → ∃ k y, k < l.length ∧ P[k]? = some y ∧ ¬ (y.1 + y.2 ≤ p ∨ p + rndP x.1 ≤ y.1) := by
  have hb : ∀ y ∈ l ++ [x], 1 ≤ y.1 ∧ y.1 ≤ 256 ∧ 0 ≤ y.2 ∧ y.2 + 256 ≤ 2240 := fun y hy => by
    rcases List.mem_append.1 hy with hy | hy
    · have := hl y hy; omega
    · rw [List.mem_singleton.1 hy]; omega
  have hth : ∀ y ∈ l ++ [x], thingP y = true := fun y hy => by
    have := hb y hy
    unfold thingP
    simp
    omega
  have hlen : ((l ++ [x]).length : Int) ≤ 9 := by simp; omega
  obtain ⟨P, hP⟩ := low_go (high := 65536) (by decide) (l ++ [x]) [] 2240 hb (fun y hy => by cases hy) (fun y hy => by cases hy) (by decide) (by decide) (by omega)
  have hf := goP_fol (by decide) hth hP
  refine ⟨P, ?_, hf, fun h p h0 hp => ?_⟩
  · rw [allP_go (by decide +kernel) (List.all_eq_true.2 hth), hP]
  · have hi2 : l.length < (l ++ [x]).length := by simp
    have hst := hf.step l.length h hi2
    have hin := hf.inr l.length h
    have hsz := hf.size l.length h hi2
    have ex : (l ++ [x])[l.length]'hi2 = x := by simp
    rw [ex] at hst hsz
    have hrx := rndP_pos hx.1 (show x.1 ≤ 1099511627776 by omega)
    have hw := goP_whole (by decide) _ _ P hth (fun y hy => by cases hy) hP
    have hwt : WholeP (P.take l.length) 0 65536 := fun y hy => hw y (List.mem_of_mem_take hy)
    have hfr : freeP (P.take l.length) 0 65536 (rndP x.1) = some P[l.length].1 := by
      unfold stepP likeP at hst
      rw [hx.2.2] at hst
      exact hst
    have hleast := ((freeP_some hwt (by decide) (by omega)).1 hfr).2 p
    have hnf : fitP (P.take l.length) 0 65536 p (rndP x.1) = false := by
      rw [Bool.eq_false_iff]
      intro hh
      have := hleast hh
      omega
    by_cases hall : ∀ k (hk : k < l.length), P[k].1 + P[k].2 ≤ p ∨ p + rndP x.1 ≤ P[k].1
    · exfalso
      have : fitP (P.take l.length) 0 65536 p (rndP x.1) = true := by
        rw [fitP_iff]
        refine ⟨h0, by rw [hsz] at hin; omega, fun y hy => ?_⟩
        obtain ⟨k, hk, rfl⟩ := List.mem_take_iff_getElem.1 hy
        have hk2 : k < l.length := by omega
        have := hw _ (List.getElem_mem (show k < P.length by omega))
        rw [metP_false this.2.2.1 (by omega)]
        have := hall k hk2
        omega
      rw [hnf] at this
      cases this
    · apply Classical.byContradiction
      intro hc
      exact hall (fun k hk => Classical.byContradiction fun hh => hc ⟨k, P[k], hk, List.getElem?_eq_getElem (by omega), hh⟩)
def frL (p n : Int) (x : Int × Int) : Bool := decide (x.1 + x.2 ≤ p) || decide (p + n ≤ x.1)
theorem frL_take {P : List (Int × Int)} {p n : Int} {k : Nat} (hk : k < P.length) : (P.take (k + 1)).all (frL p n) = ((P.take k).all (frL p n) && frL p n P[k]) := by
  rw [List.take_succ_eq_append_getElem hk, List.all_append]
  simp
set_option maxRecDepth 100000 in
set_option maxHeartbeats 1600000 in
theorem walk (A : Option Addr) (zs : List (Int × Int)) (c : Nat) (sz : Int) (w : World) (hm : zs.length ≤ maxLen) (hz : WRow w A zs) (wp : (Lit.int .i64 sz).wf = true) :
    Calls Try.prog 3 #[.slice A zs.length c, .int .i64 sz] w fun e w' => e = .returned (.bool true) ∧ Below w.heap.size w w' := by
  unfold maxLen at hm
  have HAW := Lib.hid (fun v => awakeI v)
  obtain ⟨iw, hj, hw0, hw1, hw2⟩ := info_parts infoWant
  obtain ⟨ns, hns⟩ : ∃ ns, (zs.take 8).map thL = ns := ⟨_, rfl⟩
  obtain ⟨n, hn⟩ : ∃ n, zs.length = n := ⟨_, rfl⟩
  have hlen : ns.length = min 8 n := by rw [← hns, ← hn, List.length_map, List.length_take]
  have hat : ∀ k (h : k < ns.length) (h2 : k < zs.length), ns[k] = thL zs[k] := fun k h h2 => by subst hns; simp
  have hnb : ∀ m ∈ ns, 1 ≤ m.1 ∧ m.1 ≤ 256 ∧ 0 ≤ m.2 ∧ m.2 ≤ 1984 := fun m hm => by
    rw [← hns] at hm
    obtain ⟨z, _, rfl⟩ := List.mem_map.1 hm
    exact thL_b z
  obtain ⟨R, hR⟩ : ∃ R, w.heap.size = R := ⟨_, rfl⟩
  have HZ := Lib.hid hz
  have HN := Lib.hid (And.intro hn (And.intro hlen hat))
  have HB := Lib.hid hnb
  have HR := Lib.hid hR
  have e255 := i64_and255I sz
  obtain ⟨s1, hs1⟩ : ∃ z, sz % 256 = z := ⟨_, rfl⟩
  rw [hs1] at e255
  have HS1 := Lib.hid (show 0 ≤ s1 ∧ s1 ≤ 255 by omega)
  obtain ⟨q, hq⟩ : ∃ q, min 8 n = q := ⟨_, rfl⟩
  rw [hq] at hlen
  have HQ := Lib.hid (And.intro hq hlen)
  rw [hn] at hm ⊢
  clear hns hn hlen hat hnb hR hz hs1 hq wp
  go_enter Try.func3, Try.ntmps3
  go_wp2_with (go_at_call 4; refine (HAW.out _).mono ?_; rintro e w1 ⟨rfl, hb1⟩; have HB1 := Lib.hid (show Below R w w1 from by rw [← HR.out]; exact hb1); clear hb1)
  go_loopw [6, 7] (fun a z wr => ∃ (k : Nat) (A1 : Option Addr) (c1 : Nat), k ≤ q ∧ z = .int .i64 k ∧ a = .slice A1 k c1 ∧ Hid (wr.ownsRow R 27 2 (.slice A1 k c1) k (wCells (ns.take k))) ∧ Hid (Below R w wr)) (fun _ z _ => q - (intOf z).toNat)
  case atStart => exact ⟨0, none, 0, Nat.zero_le _, rfl, rfl, Lib.hid ⟨rfl, .inl ⟨rfl, rfl⟩⟩, HB1⟩
  case round =>
    obtain ⟨k, A1, c1, hk, rfl, rfl, HO1, HL⟩ := hrel
    have hq12 : q ≤ 8 ∧ q ≤ n := by have := HQ.out.1; omega
    by_cases hlt : k < q
    · have hkn : k < zs.length := by rw [HN.out.1]; omega
      have hks : k < ns.length := by rw [HQ.out.2]; exact hlt
      obtain ⟨ad, rfl, -, wf0, wf1, c0, c1'⟩ := (HZ.out.below HR.out.symm HL.out).at_ hkn
      have hat := HN.out.2.2 k hks hkn
      have htk : ns.take (k + 1) = ns.take k ++ [ns[k]] := List.take_succ_eq_append_getElem hks
      generalize zs[k] = z at c0 c1' wf0 wf1 hat
      rw [hat] at htk
      obtain ⟨z1, z2⟩ := z
      have htk : ns.take (k + 1) = ns.take k ++ [(1 + z1 % 256, 64 * (z2 % 32))] := htk
      have f255 := i64_and255I z1
      have f31 := i64_and31I z2
      obtain ⟨y1, hy1⟩ : ∃ y, z1 % 256 = y := ⟨_, rfl⟩
      obtain ⟨y2, hy2⟩ : ∃ y, z2 % 32 = y := ⟨_, rfl⟩
      rw [hy1] at f255 htk
      rw [hy2] at f31 htk
      have hbb : 0 ≤ 1 + y1 ∧ 1 + y1 ≤ 4611686018427387904 ∧ 0 ≤ 64 * y2 ∧ 64 * y2 ≤ 4611686018427387904 := by omega
      obtain ⟨m1, hm1⟩ : ∃ m, 1 + y1 = m := ⟨_, rfl⟩
      obtain ⟨m2, hm2⟩ : ∃ m, 64 * y2 = m := ⟨_, rfl⟩
      have v2 : IntKind.i64.wrap (1 + y1) = m1 := by rw [← hm1]; exact (wrapsI hbb.1 hbb.2.1).2
      have v4 : IntKind.i64.wrap (64 * y2) = m2 := by rw [← hm2]; exact (wrapsI hbb.2.2.1 hbb.2.2.2).2
      rw [hm1, hm2] at htk
      have HTK := Lib.hid htk
      have hk0 : (0 : Int) ≤ (k : Int) := by clear v2 v4; omega
      have hk2 : (k : Int) < (n : Int) := by clear v2 v4; omega
      have hk3 : (k : Int) < 8 := by clear v2 v4; omega
      have hk4 : k + 1 ≤ 100 := by clear v2 v4; omega
      have HOA := Lib.hid (HO1.out.alloc (.cells #[.int .i64 m1, .int .i64 m2] 27))
      clear hat htk hy1 hy2 hbb hm1 hm2 hkn hks hm wf0 wf1
      go_upto_region 6 with fail
      go_region_law (first
        | (refine step_append_lies _ (by rfl) _ _ _ (by rfl) R 27 iw _ 2 16 Try.underlying24 hj hw0 hw1 hw2 rfl (by decide) (.slice A1 k c1) k (wCells (ns.take k)) (by rfl) HOA.out ⟨wr.heap.size, 0, none⟩ 1 1 [.int .i64 m1, .int .i64 m2] (by rfl) (by rfl) (World.news_of_block (cs := #[.int .i64 m1, .int .i64 m2]) (t := 27) (fr := (0, 0)) (heap_alloc_new wr (.cells #[.int .i64 m1, .int .i64 m2] 27))) (by simp [Value.oneCell']) (by omega) (by unfold maxLen; omega) (by omega) (by have := HL.out.size; have := HR.out; simp; omega) (wr.heap.size + 1) (by simp) ?_
           intro g4 c4 w4 hown4 hgrow4 hat4 hlt4
           have HO4 := Lib.hid (show w4.ownsRow R 27 2 (.slice (some ⟨g4, 0, none⟩) (k + 1) c4) (k + 1) (wCells (ns.take (k + 1))) from by rw [HTK.out, wCells_snoc]; exact hown4)
           have HL4 := Lib.hid (show Below R w w4 from ((HL.out.alloc (by have := HL.out.size; have := HR.out; omega) (.cells #[.int .i64 m1, .int .i64 m2] 27)).drew).grown hgrow4 (by have := HL.out.size; have := HR.out; simp; omega) (fun g hg => (own_lo HO1.out hg).1))
           clear hown4 hgrow4 hat4))
      all_goals
        go_wp2_with fail
        go_roundw
        case rel => exact ⟨k + 1, some ⟨g4, 0, none⟩, c4, by omega, by go_num, rfl, HO4, HL4⟩
        case measure => simp [intOf]; omega
    · have hkq : q = k := by omega
      have htk : ns.take k = ns := by rw [← hkq, ← HQ.out.2, List.take_length]
      rw [htk] at HO1
      have hs1 := HS1.out
      have hql : ns.length = q := HQ.out.2
      subst hkq
      obtain ⟨x1, hx1⟩ : ∃ z, 1 + s1 = z := ⟨_, rfl⟩
      have hx1b : 1 ≤ x1 ∧ x1 ≤ 256 := by omega
      have v0 : IntKind.i64.wrap (1 + s1) = x1 := by rw [← hx1]; exact IntWalk.i64_in _ (by omega)
      obtain ⟨P, hP, hF, hlow⟩ := low_told ns (x1, 0) HB.out ⟨hx1b.1, hx1b.2, rfl⟩ (by omega)
      have hwf : ∀ y ∈ ns ++ [(x1, 0)], (Lit.int .i64 y.1).wf = true ∧ (Lit.int .i64 y.2).wf = true := fun y hy => by
        rcases List.mem_append.1 hy with hy | hy
        · have := HB.out y hy
          exact ⟨wf_I (by omega) (by omega), wf_I (by omega) (by omega)⟩
        · rw [List.mem_singleton.1 hy]
          exact ⟨wf_I (by show -4611686018427387904 ≤ x1; omega) (by show x1 ≤ 4611686018427387904; omega), (by decide : (Lit.int .i64 0).wf = true)⟩
      have hPl : P.length = q + 1 := by have := hF.len; simp [hql] at this; omega
      have hll : (ns ++ [(x1, (0 : Int))]).length = q + 1 := by simp [hql]
      have HALL := Lib.hid (fun (v : World) A c (hv : v.ownsRow R 27 2 (.slice A (q + 1) c) (q + 1) (wCells (ns ++ [(x1, 0)]))) => show Calls Try.prog 5 #[.slice A (q + 1) c, .int .i64 0, .int .i64 65536] v fun e w' => ∃ A' c', e = .returned (.tuple #[.slice A' (q + 1) c', .int .i64 0]) ∧ IntRow w' A' (P.map Prod.fst) ∧ Below v.heap.size v w' from by
        have h := all_anyI (ns ++ [(x1, 0)]) A c 0 65536 v (WRow.of_own hv hwf) (by omega) (by decide) (by decide)
        unfold AllR at h
        rw [hP, hll] at h
        refine h.mono fun e w' hx => ?_
        obtain ⟨A', c', h1, h2, h3⟩ := hx
        have h1 : e = .returned (.tuple #[.slice A' (P.map Prod.fst).length c', .int .i64 0]) := h1
        rw [List.length_map, hPl] at h1
        exact ⟨A', c', h1, h2, h3⟩)
      have HWR := Lib.hid (fun (v : World) A c (hv : v.ownsRow R 27 2 (.slice A (q + 1) c) (q + 1) (wCells (ns ++ [(x1, 0)]))) => WRow.of_own hv hwf)
      have HF := Lib.hid (And.intro hF (And.intro hPl hll))
      have HLW := Lib.hid hlow
      have hend : ¬ ((q : Int) < (n : Int)) ∨ ((q : Int) < (n : Int) ∧ ¬ ((q : Int) < 8)) := by have := HQ.out.1; omega
      have HQL := Lib.hid (And.intro hql (show q ≤ 8 by omega))
      have hqb : q + 1 ≤ 100 := by omega
      have HX1 := Lib.hid hx1b
      have HOA := Lib.hid (HO1.out.alloc (.cells #[.int .i64 x1, .int .i64 0] 27))
      have HRB := Lib.hid (show R ≤ wr.heap.size by have := HL.out.size; have := HR.out; omega)
      clear htk hs1 hql hx1 hP hF hlow hwf hPl hll hk hlt hm hq12 hx1b
      have hgo : ∀ (P0 : Prop), P0 → P0 := fun _ h => h
      rcases hend with hend | ⟨hend1, hend2⟩
      all_goals
        go_upto_region 8 with (at_builtin; refine wpList_append_own _ rfl _ _ 24 rfl R 27 iw (.agg #[.int .i64 0, .int .i64 0]) 2 16 Try.underlying24 hj hw0 hw1 hw2 rfl (by decide) (.slice A1 q c1) q (wCells ns) rfl HOA.out ⟨wr.heap.size, 0, none⟩ 1 1 [.int .i64 x1, .int .i64 0] rfl rfl (cell_twoI _ _ _ _) (fun u hu => by simp at hu; rcases hu with rfl | rfl <;> rfl) (by unfold maxLen; omega) (by omega) (by have := HRB.out; simp; omega) ?_; intro v' w4 hown4 hgrow4 _
                               obtain ⟨A4, c4, hv4⟩ := own_slice2 hown4
                               subst hv4)
        have HO4 := Lib.hid (show w4.ownsRow R 27 2 (.slice A4 (q + 1) c4) (q + 1) (wCells (ns ++ [(x1, 0)])) from by rw [wCells_snoc]; exact hown4)
        have HL4 := Lib.hid (show Below R w w4 from (HL.out.alloc HRB.out (.cells #[.int .i64 x1, .int .i64 0] 27)).grown hgrow4 (by have := HRB.out; simp; omega) (fun g hg => (own_lo HO1.out hg).1))
        clear hown4 hgrow4
        go_upto_region 9 with (go_at_call 5; refine (HALL.out _ _ _ HO4.out).mono ?_; rintro e v9 ⟨A9, c9, rfl, hr9, hb9⟩)
        have hrw := (HWR.out w4 A4 c4 HO4.out).below rfl hb9
        have HBL := Lib.hid (show Below w.heap.size w v9 from by rw [HR.out]; exact HL4.out.trans (hb9.mono (by have := HL4.out.size; have := HR.out; omega)))
        obtain ⟨hF, hPl, hll⟩ := HF.out
        obtain ⟨ad, rfl, -, -, -, m0, -⟩ := hrw.at_ (i := q) (by rw [hll]; omega)
        obtain ⟨bd, rfl, -, a0, -⟩ := hr9 q (by rw [List.length_map, hPl]; omega)
        have hqP : q < P.length := by omega
        have hxq : (ns ++ [(x1, (0 : Int))])[q]'(by rw [hll]; omega) = (x1, 0) := by
          rw [List.getElem_append_right (by rw [HQL.out.1]; exact Nat.le_refl _)]
          simp [HQL.out.1]
        rw [hxq] at m0
        have hPq : (P.map Prod.fst)[q]'(by rw [List.length_map, hPl]; omega) = P[q].1 := by simp
        rw [hPq] at a0
        have hinq := hF.inr q hqP
        have hlow := HLW.out (by rw [HQL.out.1]; exact hqP)
        simp only [HQL.out.1] at hlow
        have hsq : P[q].2 = rndP x1 := by
          have := hF.size q hqP (by rw [hll]; omega)
          rw [hxq] at this
          exact this
        have hx1b := HX1.out
        have hrx := rndP_pos hx1b.1 (show x1 ≤ 1099511627776 by omega)
        obtain ⟨a1, ha1⟩ : ∃ a, P[q].1 = a := ⟨_, rfl⟩
        rw [ha1] at a0 hinq hlow
        rw [hsq] at hinq
        obtain ⟨nn, hnn⟩ : ∃ a, rndP x1 = a := ⟨_, rfl⟩
        obtain ⟨tq, htq⟩ : ∃ a, (x1 + 63) / 64 = a := ⟨_, rfl⟩
        have hnt : tq * 64 = nn := by rw [← hnn, ← htq]; exact hrx.1.symm
        rw [hnn] at hinq hlow hrx
        have e1 : Int.tdiv (x1 + 63) 64 = tq := by rw [Int.tdiv_eq_ediv_of_nonneg (by omega)]; exact htq
        have hbb : 0 ≤ x1 + 63 ∧ x1 + 63 ≤ 4611686018427387904 ∧ 0 ≤ tq ∧ tq ≤ 4611686018427387904 ∧ 0 ≤ nn ∧ nn ≤ 4611686018427387904 ∧ (0 : Int) ≤ (q : Int) ∧ (q : Int) ≤ 4611686018427387904 := by omega
        obtain ⟨u1, u2⟩ := wrapsI hbb.1 hbb.2.1
        obtain ⟨u3, u4⟩ := wrapsI hbb.2.2.1 hbb.2.2.2.1
        obtain ⟨u5, u6⟩ := wrapsI hbb.2.2.2.2.1 hbb.2.2.2.2.2.1
        obtain ⟨u7, u8⟩ := wrapsI hbb.2.2.2.2.2.2.1 hbb.2.2.2.2.2.2.2
        have hq0 := hbb.2.2.2.2.2.2.1
        have hqq : (q : Int) < ((q + 1 : Nat) : Int) := by clear u1 u2 u3 u4 u5 u6 u7 u8; omega
        have hqq2 : (q : Int) < (q : Int) + 1 := by clear u1 u2 u3 u4 u5 u6 u7 u8; omega
        have hqm : (q : Int) + 1 - 1 = (q : Int) := by clear u1 u2 u3 u4 u5 u6 u7 u8; omega
        have HRA := Lib.hid hr9
        have HRW := Lib.hid hrw
        have HNB := Lib.hid (And.intro hinq (And.intro hlow (And.intro hrx.2.1 (show nn ≤ 256 + 63 by clear u1 u2 u3 u4 u5 u6 u7 u8; omega))))
        clear hr9 hrw hb9 hF hPl hll hxq hPq hinq hlow hsq hx1b hrx ha1 hnn htq hbb HO4 HALL HWR HL4 HOA hqP HLW
        go_upto_region 13 with fail
        clear e1 u1 u2 u3 u4 u5 u6 u7 u8 hnt
        go_wp2_with fail
        go_loopw [12] (fun p wx => ∃ pz : Int, p = .int .i64 pz ∧ 0 ≤ pz ∧ pz ≤ 70000 ∧ wx = v9) (fun p _ => (a1 - intOf p).toNat)
        case atStart => exact ⟨0, rfl, Int.le_refl _, by decide, rfl⟩
        case round =>
          obtain ⟨pz, rfl, hp0, hp1, rfl⟩ := hrel
          have hnb := HNB.out
          by_cases hlt : pz < a1
          · obtain ⟨kk, yy, hkk, hyy, hno⟩ := hnb.2.1 pz hp0 hlt
            have HNO := Lib.hid (show (P.take q).all (frL pz nn) = false from by
              obtain ⟨hkl, rfl⟩ := List.getElem?_eq_some_iff.1 hyy
              rw [List.all_eq_false]
              refine ⟨P[kk], List.mem_take_iff_getElem.2 ⟨kk, by omega, rfl⟩, ?_⟩
              unfold frL
              simp only [Bool.or_eq_true, decide_eq_true_eq]
              exact hno)
            have hpb : 0 ≤ pz + 64 ∧ pz + 64 ≤ 4611686018427387904 ∧ 0 ≤ pz + nn ∧ pz + nn ≤ 4611686018427387904 := by omega
            have HPB := Lib.hid hpb
            have HP2 := Lib.hid (show pz + 64 ≤ 70000 by omega)
            clear hkk hyy hno hnb hpb
            go_wp2_with fail
            go_loopw [13, 14] (fun f z wx => ∃ i : Nat, i ≤ q ∧ z = .int .i64 i ∧ f = .bool ((P.take i).all (frL pz nn)) ∧ wx = wr) (fun _ z _ => q - (intOf z).toNat)
            case atStart => exact ⟨0, Nat.zero_le _, rfl, rfl, rfl⟩
            case round =>
              obtain ⟨i, hi', rfl, rfl, rfl⟩ := hrel
              by_cases hli : i < q
              · obtain ⟨hF, hPl, hll⟩ := HF.out
                have hiP : i < P.length := by omega
                obtain ⟨ad', had, -, -, -, m1, -⟩ := HRW.out.at_ (i := i) (by rw [hll]; omega)
                injection had with had
                subst had
                obtain ⟨bd', hbd, -, a1', -⟩ := HRA.out i (by rw [List.length_map]; exact hiP)
                injection hbd with hbd
                subst hbd
                have e9 : (P.map Prod.fst)[i]'(by rw [List.length_map]; exact hiP) = P[i].1 := by simp
                rw [e9] at a1'
                have hsz := hF.size i hiP (by rw [hll]; omega)
                have hin := hF.inr i hiP
                have hmb : 1 ≤ ((ns ++ [(x1, (0 : Int))])[i]'(by rw [hll]; omega)).1 ∧ ((ns ++ [(x1, (0 : Int))])[i]'(by rw [hll]; omega)).1 ≤ 256 := by
                  rcases List.mem_append.1 (List.getElem_mem (show i < (ns ++ [(x1, (0 : Int))]).length by rw [hll]; omega)) with hy | hy
                  · have := HB.out _ hy; omega
                  · rw [List.mem_singleton.1 hy]; exact HX1.out
                have hft := frL_take (p := pz) (n := nn) hiP
                generalize (ns ++ [(x1, (0 : Int))])[i]'(by rw [hll]; omega) = xi at m1 hsz hmb
                generalize P[i] = yi at a1' hsz hin hft
                obtain ⟨mi, si⟩ := xi
                obtain ⟨ai, oi⟩ := yi
                replace hsz : oi = rndP mi := hsz
                replace hmb : 1 ≤ mi ∧ mi ≤ 256 := hmb
                replace hin : ai % 64 = 0 ∧ 0 ≤ ai ∧ ai + oi ≤ 65536 := hin
                have hri := rndP_pos hmb.1 (show mi ≤ 1099511627776 by omega)
                rw [← hsz] at hri
                obtain ⟨ti, hti⟩ : ∃ a, (mi + 63) / 64 = a := ⟨_, rfl⟩
                have hto : ti * 64 = oi := by rw [← hti]; exact hri.1.symm
                have ei : Int.tdiv (mi + 63) 64 = ti := by rw [Int.tdiv_eq_ediv_of_nonneg (by omega)]; exact hti
                have hbb : 0 ≤ mi + 63 ∧ mi + 63 ≤ 4611686018427387904 ∧ 0 ≤ ti ∧ ti ≤ 4611686018427387904 ∧ 0 ≤ oi ∧ oi ≤ 4611686018427387904 ∧ 0 ≤ ai + oi ∧ ai + oi ≤ 4611686018427387904 := by omega
                have hi0 : (0 : Int) ≤ (i : Int) := by omega
                have hi1 : (i : Int) < (q : Int) := by omega
                have hi2 : (i : Int) < ((q + 1 : Nat) : Int) := by omega
                have hi3 : (i : Int) < (q : Int) + 1 := by omega
                have hi4 : i + 1 ≤ q := by omega
                have hi5 : q - (i + 1) < q - i := by omega
                obtain ⟨z1, z2⟩ := wrapsI hbb.1 hbb.2.1
                obtain ⟨z3, z4⟩ := wrapsI hbb.2.2.1 hbb.2.2.2.1
                obtain ⟨z5, z6⟩ := wrapsI hbb.2.2.2.2.1 hbb.2.2.2.2.2.1
                obtain ⟨z7, z8⟩ := wrapsI hbb.2.2.2.2.2.2.1 hbb.2.2.2.2.2.2.2
                obtain ⟨z9, z10⟩ := wrapsI HPB.out.2.2.1 HPB.out.2.2.2
                obtain ⟨fb, hfb⟩ : ∃ b, (P.take i).all (frL pz nn) = b := ⟨_, rfl⟩
                rw [hfb] at hft ⊢
                have hfr : frL pz nn (ai, oi) = (decide (ai + oi ≤ pz) || decide (pz + nn ≤ ai)) := rfl
                rw [hfr] at hft
                have HFT := Lib.hid hft
                clear hF hPl hll hiP e9 hsz hin hmb hri hti hbb hfb hfr hft hi'
                cases fb with
                | false =>
                  go_wp2_with fail
                  go_roundw
                  case rel => exact ⟨i + 1, hi4, by go_num, by rw [HFT.out]; simp, by simp⟩
                  case measure => clear z1 z2 z3 z4 z5 z6 z7 z8 z9 z10; simp [intOf]; omega
                | true =>
                  by_cases g1 : ai + oi ≤ pz
                  · have HG := Lib.hid (show (P.take (i + 1)).all (frL pz nn) = true from by rw [HFT.out]; simp [g1])
                    go_wp2_with fail
                    go_roundw
                    case rel => exact ⟨i + 1, hi4, by go_num, by rw [HG.out], by simp⟩
                    case measure => clear z1 z2 z3 z4 z5 z6 z7 z8 z9 z10; simp [intOf]; omega
                  · by_cases g2 : pz + nn ≤ ai
                    · have HG := Lib.hid (show (P.take (i + 1)).all (frL pz nn) = true from by rw [HFT.out]; simp [g2])
                      go_wp2_with fail
                      go_roundw
                      case rel => exact ⟨i + 1, hi4, by go_num, by rw [HG.out], by simp⟩
                      case measure => clear z1 z2 z3 z4 z5 z6 z7 z8 z9 z10; simp [intOf]; omega
                    · have HG := Lib.hid (show (P.take (i + 1)).all (frL pz nn) = false from by rw [HFT.out]; simp [g1, g2])
                      go_wp2_with fail
                      go_roundw
                      case rel => exact ⟨i + 1, hi4, by go_num, by rw [HG.out], by simp⟩
                      case measure => clear z1 z2 z3 z4 z5 z6 z7 z8 z9 z10; simp [intOf]; omega
              · obtain rfl : i = q := by omega
                rw [HNO.out]
                have hp2 : 0 ≤ pz + 64 := by omega
                obtain ⟨w1', w2'⟩ := wrapsI HPB.out.1 HPB.out.2.1
                go_wp2_with fail
                go_roundw
                case rel => exact ⟨pz + 64, rfl, hp2, HP2.out, by simp⟩
                case measure => clear w1' w2'; simp [intOf]; omega
          · go_wp2_with fail
            go_ret
            exact ⟨rfl, HBL.out⟩

set_option maxRecDepth 100000 in
theorem lifted (os : Os) (started : os.Started) (H : Type) (enc : TypeId × Value → H) :
    ReturnsInHanded {} Try.checked os 3 .any (Rows.placeLowSpec.pre6 enc Try.prog Try.f3 Rows.placeLowRow.domain false) (Rows.placeLowSpec.post enc Try.prog Try.f3 false true false false) := by
  refine returnsInHanded_of_change (C := Try.checked) own started (by kernel_rfl) Try.func3
    (ChangeSpec.witness6 (enc := enc) (C := Try.checked) false ⟨#[], #[.slice none 0 0, .int .i64 0], []⟩ 8 (by kernel_rfl) (by kernel_rfl) (by kernel_rfl) (by kernel_rfl)) ?_
  intro W base args ds gs before hval0 hW hcnd _
  have hval : ∀ (j : Nat) t v, Try.f3.params[j]? = some t → args[j]? = some v → Value.okWide Try.prog W .any base t v := hval0
  have hW' := hW
  obtain ⟨p, q, hA0, hV, rfl, hfz, hnd⟩ := hW
  have hA : DataW.TrodAll enc Try.prog W 0 (fun _ => true) true Try.f3.params.toList args.toList ds p := hA0
  rw [Try.params3] at hA hval
  obtain ⟨v0, vs0, d0, ds0, p0, q0, hargs, rfl, rfl, h0, r0⟩ := trodAll_cons hA
  obtain ⟨v1, vs1, d1, ds1, p1, q1, rfl, rfl, rfl, h1, r1⟩ := trodAll_cons r0
  obtain ⟨rfl, rfl, rfl⟩ := trodAll_nil r1
  obtain rfl : args = #[v0, v1] := by cases args; simp_all
  obtain ⟨rfl, rfl⟩ := trodVars_none hV
  have k0 := h0
  have lt0 : ∀ x ∈ p0, x.block < W.heap.size := by obtain ⟨m, hm⟩ := k0; exact DataW.trod_lt m _ _ _ hm
  obtain ⟨LA0, Ll0, Lc0, rfl, Lm0, Lr0⟩ := openPairs13 (hval 0 22 v0 rfl rfl) h0
  have k1 := h1
  have lt1 : ∀ x ∈ p1, x.block < W.heap.size := by obtain ⟨m, hm⟩ := k1; exact DataW.trod_lt m _ _ _ hm
  obtain ⟨a1, rfl, _, _, w1⟩ := open_int Try.underlying3 (hval 1 3 v1 rfl rfl) h1
  clear hA0 hval0
  refine (walk LA0 Ll0 Lc0 a1 W Lm0 Lr0 w1).mono fun e W' ⟨he, bel⟩ => ?_
  subst he
  exact ⟨_, rfl, _, _, _, [], _, [], hW', trodAll_mk1 (shut_bool Try.underlying4 _), (trodAll_cons_mk (Below.trod laidOut (by kernel_rfl) (of_decide_eq_true (by kernel_rfl)) k0 bel lt0) (trodAll_cons_mk (Below.trod laidOut (by kernel_rfl) (of_decide_eq_true (by kernel_rfl)) k1 bel lt1) trodAll_mk0)), rfl, bel.frame _, fun h => by cases h⟩
theorem over : Rows.placeLowRow.holds Try.pinned (OpenSpec.ofChange Rows.placeLowSpec) :=
  OpenClaim.holds_of_wide 3 Try.f3 rfl rfl rfl rfl rfl rfl rfl ⟨rfl, rfl, rfl, rfl, rfl⟩ rfl rfl rfl rfl rfl (by kernel_rfl) Try.func3 (by kernel_rfl)
    (of_decide_eq_true (by kernel_rfl)) (by unfold Func.isWrapper; first | (rw [if_pos (by decide +kernel)]; kernel_rfl) | (rw [if_neg (by decide +kernel)]; exact ⟨rfl, rfl⟩))
    (fun os started H enc _ => lifted os started H enc)
/-- The statement. -/
theorem proved : Rows.PlaceLowSaid := over
end Go.Proofs.Ytfoapghjloblnac.lawLow
