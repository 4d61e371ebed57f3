/- PlaceApart: for any pairs of numbers (twelve at most are looked at) and any room: things are in the room, at whole pages, none meets another one, each has the place that it likes if that may be. -/
import Derived.Test.YtfoapghjloblnabIw
import Derived.Deep.CutBlock
namespace Go.Proofs.Ytfoapghjloblnab.lawApart13
open Go.ChangeShapes Go.WideShapes Go.ChangeAt Go.RowKit Go.Deep
set_option linter.unusedVariables false
set_option linter.unusedSimpArgs false

def thA (z : Int × Int) : Int × Int := (1 + z.1 % 512, 64 * (z.2 % 256))
theorem thA_b (z : Int × Int) : 1 ≤ (thA z).1 ∧ (thA z).1 ≤ 512 ∧ 0 ≤ (thA z).2 ∧ (thA z).2 ≤ 16320 ∧ (thA z).2 % 64 = 0 := by
  show 1 ≤ 1 + z.1 % 512 ∧ 1 + z.1 % 512 ≤ 512 ∧ 0 ≤ 64 * (z.2 % 256) ∧ 64 * (z.2 % 256) ≤ 16320 ∧ 64 * (z.2 % 256) % 64 = 0
  omega
def frA (p n : Int) (x : Int × Int) : Bool := decide (x.1 + x.2 ≤ p) || decide (p + n ≤ x.1)
theorem frA_take {P : List (Int × Int)} {p n : Int} {k : Nat} (hk : k < P.length) : (P.take (k + 1)).all (frA p n) = ((P.take k).all (frA p n) && frA p n P[k]) := by
  rw [List.take_succ_eq_append_getElem hk, List.all_append]
  simp
def initA (lo hi s n : Int) : Bool := decide (s ≠ 0) && decide (lo ≤ s) && decide (s + n ≤ hi)
/-- What All tells of them. -/
theorem apart_told (l : List (Int × Int)) (lo hi : Int) (hl : ∀ y ∈ l, 1 ≤ y.1 ∧ y.1 ≤ 512 ∧ 0 ≤ y.2 ∧ y.2 ≤ 16320 ∧ y.2 % 64 = 0) (hr : 0 ≤ lo ∧ lo ≤ hi ∧ hi ≤ 1000000 ∧ lo % 64 = 0 ∧ hi % 64 = 0) :
    (allP l lo hi = ([], 18) ∧ l ≠ []) ∨ ∃ P, allP l lo hi = (P.map Prod.fst, 0) ∧ FolP lo hi l P ∧
      ∀ i (h : i < P.length) (h2 : i < l.length), initA lo hi l[i].2 P[i].2 = true → (P.take i).all (frA l[i].2 P[i].2) = true → P[i].1 = l[i].2 := by
  have hrm : roomP lo hi = true := by unfold roomP; simp; omega
  have hth : ∀ y ∈ l, thingP y = true := fun y hy => by
    have := hl y hy
    unfold thingP
    simp
    omega
  rw [allP_go hrm (List.all_eq_true.2 hth)]
  cases hg : goP lo hi [] l with
  | none =>
    refine .inl ⟨rfl, fun h => ?_⟩
    subst h
    cases hg
  | some P =>
    have hf := goP_fol hr.2.2.2.1 hth hg
    refine .inr ⟨P, rfl, hf, fun i h h2 h3 h4 => ?_⟩
    have hw := goP_whole hr.2.2.2.1 _ _ P hth (fun y hy => by cases hy) hg
    have hb := hl _ (List.getElem_mem h2)
    have hn := rndP_pos hb.1 (show l[i].1 ≤ 1099511627776 by omega)
    refine hf.like i h h2 ?_
    have hs := hf.size i h h2
    rw [hs] at h3 h4
    unfold initA at h3
    simp only [Bool.and_eq_true, decide_eq_true_eq] at h3
    unfold likeP
    simp only [Bool.and_eq_true, decide_eq_true_eq]
    refine ⟨⟨h3.1.1, hb.2.2.2.2⟩, fitP_iff.2 ⟨h3.1.2, h3.2, fun y hy => ?_⟩⟩
    have hy2 := hw y (List.mem_of_mem_take hy)
    have h5 := List.all_eq_true.1 h4 y hy
    unfold frA at h5
    simp only [Bool.or_eq_true, decide_eq_true_eq] at h5
    rw [metP_false hy2.2.2.1 (by omega)]
    omega
set_option maxRecDepth 100000 in
set_option maxHeartbeats 1600000 in
theorem walk (A : Option Addr) (zs : List (Int × Int)) (c : Nat) (q0 q1 : Int) (w : World) (hm : zs.length ≤ maxLen) (hz : WRow w A zs) (wp0 : (Lit.int .i64 q0).wf = true) (wp1 : (Lit.int .i64 q1).wf = true) :
    Calls Try.prog 3 #[.slice A zs.length c, .agg #[.int .i64 q0, .int .i64 q1]] w fun e w' => e = .returned (.bool true) ∧ Below w.heap.size w w' := by
  unfold maxLen at hm
  have HAW := Lib.hid (fun v => awakeI v)
  obtain ⟨iw, hj, hw0, hw1, hw2⟩ := info_parts infoWant
  obtain ⟨ns, hns⟩ : ∃ ns, (zs.take 12).map thA = ns := ⟨_, rfl⟩
  obtain ⟨n, hn⟩ : ∃ n, zs.length = n := ⟨_, rfl⟩
  have hlen : ns.length = min 12 n := by rw [← hns, ← hn, List.length_map, List.length_take]
  have hat : ∀ k (h : k < ns.length) (h2 : k < zs.length), ns[k] = thA zs[k] := fun k h h2 => by subst hns; simp
  have hnb : ∀ m ∈ ns, 1 ≤ m.1 ∧ m.1 ≤ 512 ∧ 0 ≤ m.2 ∧ m.2 ≤ 16320 ∧ m.2 % 64 = 0 := fun m hm => by
    rw [← hns] at hm
    obtain ⟨z, _, rfl⟩ := List.mem_map.1 hm
    exact thA_b z
  obtain ⟨X, hX⟩ : ∃ X, w.heap.size = X := ⟨_, rfl⟩
  obtain ⟨W0, hW0⟩ : ∃ W, w.alloc (.cells #[.int .i64 q0, .int .i64 q1] 23) = W := ⟨_, rfl⟩
  have hBa := (Below.refl w.heap.size w).alloc (Nat.le_refl _) (.cells #[.int .i64 q0, .int .i64 q1] 23)
  have hbx := Blk.new w 23 #[.int .i64 q0, .int .i64 q1]
  rw [hW0] at hBa hbx
  have hz := hz.below rfl hBa
  rw [hX] at hBa hbx ⊢
  have HBA := Lib.hid hBa
  have HBX := Lib.hid hbx
  have HW0 := Lib.hid hW0
  obtain ⟨R, hR⟩ : ∃ R, W0.heap.size = R := ⟨_, rfl⟩
  have hXR : X < R := by rw [← hR]; exact hbx.lt
  have HXR := Lib.hid hXR
  have HX := Lib.hid hX
  have HZ := Lib.hid hz
  have HN := Lib.hid (And.intro hn (And.intro hlen hat))
  have HB := Lib.hid hnb
  have HR := Lib.hid hR
  have e63 := i64_and63I q0
  have e127 := i64_and127I q1
  obtain ⟨l0, hl0⟩ : ∃ z, q0 % 64 = z := ⟨_, rfl⟩
  obtain ⟨l1, hl1⟩ : ∃ z, q1 % 128 = z := ⟨_, rfl⟩
  rw [hl0] at e63
  rw [hl1] at e127
  have HL0 := Lib.hid (show 0 ≤ l0 ∧ l0 ≤ 63 ∧ 0 ≤ l1 ∧ l1 ≤ 127 by omega)
  obtain ⟨q, hq⟩ : ∃ q, min 12 n = q := ⟨_, rfl⟩
  rw [hq] at hlen
  have HQ := Lib.hid (And.intro hq hlen)
  rw [hn] at hm ⊢
  have hmm := Lib.hid hm
  clear hns hn hlen hat hnb hR hz hl0 hl1 hq wp0 wp1 hBa hbx hW0 hX hXR
  go_enter Try.func3, Try.ntmps3
  go_upto_region 1 with fail
  rw [HW0.out, HX.out]
  go_upto_block 0 with (go_at_call 4; refine (HAW.out _).mono ?_; rintro e w1 ⟨rfl, hb1⟩; have HB1 := Lib.hid (show Below R W0 w1 from by rw [← HR.out]; exact hb1); clear hb1)
  go_cut [6] from 18 to 45 (fun x wx => ∃ (A1 : Option Addr) (c1 : Nat), x = .slice A1 q c1 ∧ Hid (wx.ownsRow R 27 2 (.slice A1 q c1) q (wCells ns)) ∧ Hid (Below R W0 wx))
  case first =>
    go_wp2_with fail
    go_loopw [6, 7] (fun a z wr => ∃ (k : Nat) (A1 : Option Addr) (c1 : Nat), k ≤ q ∧ z = .int .i64 k ∧ a = .slice A1 k c1 ∧ Hid (wr.ownsRow R 27 2 (.slice A1 k c1) k (wCells (ns.take k))) ∧ Hid (Below R W0 wr)) (fun _ z _ => q - (intOf z).toNat)
    case atStart => exact ⟨0, none, 0, Nat.zero_le _, rfl, rfl, Lib.hid ⟨rfl, .inl ⟨rfl, rfl⟩⟩, HB1⟩
    case round =>
      obtain ⟨k, A1, c1, hk, rfl, rfl, HO1, HL⟩ := hrel
      have hm := hmm.out
      have hq12 : q ≤ 12 ∧ q ≤ n := by have := HQ.out.1; omega
      by_cases hlt : k < q
      · have hkn : k < zs.length := by rw [HN.out.1]; omega
        have hks : k < ns.length := by rw [HQ.out.2]; exact hlt
        obtain ⟨ad, rfl, -, wf0, wf1, c0, c1'⟩ := (HZ.out.below HR.out.symm HL.out).at_ hkn
        have hat := HN.out.2.2 k hks hkn
        have htk : ns.take (k + 1) = ns.take k ++ [ns[k]] := List.take_succ_eq_append_getElem hks
        generalize zs[k] = z at c0 c1' wf0 wf1 hat
        rw [hat] at htk
        obtain ⟨z1, z2⟩ := z
        have htk : ns.take (k + 1) = ns.take k ++ [(1 + z1 % 512, 64 * (z2 % 256))] := htk
        have f511 := i64_and511I z1
        have f255 := i64_and255I z2
        obtain ⟨y1, hy1⟩ : ∃ y, z1 % 512 = y := ⟨_, rfl⟩
        obtain ⟨y2, hy2⟩ : ∃ y, z2 % 256 = y := ⟨_, rfl⟩
        rw [hy1] at f511 htk
        rw [hy2] at f255 htk
        have hbb : 0 ≤ 1 + y1 ∧ 1 + y1 ≤ 4611686018427387904 ∧ 0 ≤ 64 * y2 ∧ 64 * y2 ≤ 4611686018427387904 := by omega
        obtain ⟨m1, hm1⟩ : ∃ m, 1 + y1 = m := ⟨_, rfl⟩
        obtain ⟨m2, hm2⟩ : ∃ m, 64 * y2 = m := ⟨_, rfl⟩
        have v2 : IntKind.i64.wrap (1 + y1) = m1 := by rw [← hm1]; exact (wrapsI hbb.1 hbb.2.1).2
        have v4 : IntKind.i64.wrap (64 * y2) = m2 := by rw [← hm2]; exact (wrapsI hbb.2.2.1 hbb.2.2.2).2
        rw [hm1, hm2] at htk
        have HTK := Lib.hid htk
        have hk0 : (0 : Int) ≤ (k : Int) := by clear v2 v4; omega
        have hk2 : (k : Int) < (n : Int) := by clear v2 v4; omega
        have hk3 : (k : Int) < 12 := by clear v2 v4; omega
        have hk4 : k + 1 ≤ 100 := by clear v2 v4; omega
        have HOA := Lib.hid (HO1.out.alloc (.cells #[.int .i64 m1, .int .i64 m2] 27))
        clear hat htk hy1 hy2 hbb hm1 hm2 hkn hks hm wf0 wf1
        go_upto_region 6 with fail
        go_region_law (first
          | (refine step_append_lies _ (by rfl) _ _ _ (by rfl) R 27 iw _ 2 16 Try.underlying25 hj hw0 hw1 hw2 rfl (by decide) (.slice A1 k c1) k (wCells (ns.take k)) (by rfl) HOA.out ⟨wr.heap.size, 0, none⟩ 1 1 [.int .i64 m1, .int .i64 m2] (by rfl) (by rfl) (World.news_of_block (cs := #[.int .i64 m1, .int .i64 m2]) (t := 27) (fr := (0, 0)) (heap_alloc_new wr (.cells #[.int .i64 m1, .int .i64 m2] 27))) (by simp [Value.oneCell']) (by omega) (by unfold maxLen; omega) (by omega) (by have := HL.out.size; have := HR.out; simp; omega) (wr.heap.size + 1) (by simp) ?_
             intro g4 c4 w4 hown4 hgrow4 hat4 hlt4
             have HO4 := Lib.hid (show w4.ownsRow R 27 2 (.slice (some ⟨g4, 0, none⟩) (k + 1) c4) (k + 1) (wCells (ns.take (k + 1))) from by rw [HTK.out, wCells_snoc]; exact hown4)
             have HL4 := Lib.hid (show Below R W0 w4 from ((HL.out.alloc (by have := HL.out.size; have := HR.out; omega) (.cells #[.int .i64 m1, .int .i64 m2] 27)).drew).grown hgrow4 (by have := HL.out.size; have := HR.out; simp; omega) (fun g hg => (own_lo HO1.out hg).1))
             clear hown4 hgrow4 hat4))
        all_goals
          go_wp2_with fail
          go_roundw
          case rel => exact ⟨k + 1, some ⟨g4, 0, none⟩, c4, by omega, by go_num, rfl, HO4, HL4⟩
          case measure => simp [intOf]; omega
      · have hkq : q = k := by omega
        have htk : ns.take k = ns := by rw [← hkq, ← HQ.out.2, List.take_length]
        rw [htk] at HO1
        have hend : ¬ ((k : Int) < (n : Int)) ∨ ((k : Int) < (n : Int) ∧ ¬ ((k : Int) < 12)) := by have := HQ.out.1; omega
        subst hkq
        clear htk hm hq12 hk hlt
        rcases hend with hend | ⟨hend1, hend2⟩
        all_goals
          go_wp2_with fail
          go_meet
          case rel => exact ⟨A1, c1, rfl, HO1, HL⟩
  case rest =>
    obtain ⟨A1, c1, rfl, HO1, HL⟩ := hcut
    have hbw := HBX.out.below HL.out HXR.out
    have b0 := hbw.at_ 0 _ rfl
    have b1 := hbw.at_ 1 _ rfl
    have hl01 := HL0.out
    obtain ⟨lo, hlo⟩ : ∃ z, 64 * l0 = z := ⟨_, rfl⟩
    obtain ⟨hh, hhh⟩ : ∃ z, 64 * l1 = z := ⟨_, rfl⟩
    obtain ⟨hi, hhi⟩ : ∃ z, lo + hh = z := ⟨_, rfl⟩
    have hrm : 0 ≤ lo ∧ lo ≤ hi ∧ hi ≤ 1000000 ∧ lo % 64 = 0 ∧ hi % 64 = 0 := by omega
    have HRM := Lib.hid hrm
    have hbb : 0 ≤ lo ∧ lo ≤ 4611686018427387904 ∧ 0 ≤ hh ∧ hh ≤ 4611686018427387904 ∧ 0 ≤ hi ∧ hi ≤ 4611686018427387904 := by omega
    have v1 : IntKind.i64.wrap (64 * l0) = lo := by rw [hlo]; exact (wrapsI hbb.1 hbb.2.1).2
    have v2 : IntKind.i64.wrap (64 * l1) = hh := by rw [hhh]; exact (wrapsI hbb.2.2.1 hbb.2.2.2.1).2
    have v3 : IntKind.i64.wrap (lo + hh) = hi := by rw [hhi]; exact (wrapsI hbb.2.2.2.2.1 hbb.2.2.2.2.2).2
    have hwf : ∀ y ∈ ns, (Lit.int .i64 y.1).wf = true ∧ (Lit.int .i64 y.2).wf = true := fun y hy => by
      have := HB.out y hy
      exact ⟨wf_I (by omega) (by omega), wf_I (by omega) (by omega)⟩
    have hql := HQ.out.2
    have hq12 : q ≤ 12 := by have := HQ.out.1; clear v1 v2 v3; omega
    have hall := all_anyI ns A1 c1 lo hi wc (WRow.of_own HO1.out hwf) (by clear v1 v2 v3; omega) (wf_I (by clear v1 v2 v3; omega) (by clear v1 v2 v3; omega)) (wf_I (by clear v1 v2 v3; omega) (by clear v1 v2 v3; omega))
    unfold AllR at hall
    rw [hql] at hall
    have HWR := Lib.hid (fun v (hv : Below wc.heap.size wc v) => show WRow v A1 ns from (WRow.of_own HO1.out hwf).below rfl hv)
    have HLL := Lib.hid (fun v (hv : Below wc.heap.size wc v) => show Below X w v from by
      exact (HBA.out.trans (HL.out.mono (by have := HR.out; have := HXR.out; omega))).trans (hv.mono (by have := HL.out.size; have := HR.out; have := HXR.out; omega)))
    have htold := apart_told ns lo hi HB.out hrm
    clear hbw hl01 hlo hhh hhi hrm hbb hwf HO1 HL
    rcases htold with ⟨he, hne⟩ | ⟨P, hP, hF, hlike⟩
    · rw [he] at hall
      have HALL := Lib.hid (hall.mono fun e w' hx => show ∃ A c, e = .returned (.tuple #[.slice A 0 c, .int .i64 18]) ∧ Below wc.heap.size wc w' from by
        obtain ⟨A, c, h1, _, h2⟩ := hx
        exact ⟨A, c, h1, h2⟩)
      have hq0 : (0 : Int) < (q : Int) := by
        have : 0 < ns.length := List.length_pos_iff.2 hne
        clear v1 v2 v3
        omega
      have HQ0 := Lib.hid (show 0 < q by clear v1 v2 v3; omega)
      clear hall he hne
      go_wp2_with (go_at_call 5; refine HALL.out.mono ?_; rintro e v9 ⟨A9, c9, rfl, hb9⟩)
      go_ret
      exact ⟨by simp [HQ0.out], HLL.out _ hb9⟩
    · rw [hP] at hall
      have hPl : P.length = q := by rw [hF.len]; exact hql
      have HALL := Lib.hid (hall.mono fun e w' hx => show ∃ A c, e = .returned (.tuple #[.slice A q c, .int .i64 0]) ∧ IntRow w' A (P.map Prod.fst) ∧ Below wc.heap.size wc w' from by
        obtain ⟨A, c, h1, h3, h2⟩ := hx
        have h1 : e = .returned (.tuple #[.slice A (P.map Prod.fst).length c, .int .i64 0]) := h1
        rw [List.length_map, hPl] at h1
        exact ⟨A, c, h1, h3, h2⟩)
      have HF := Lib.hid (And.intro hF (And.intro hPl (And.intro hql hq12)))
      have HLK := Lib.hid hlike
      clear hall hP hF hlike hPl
      go_upto_region 10 with (go_at_call 5; refine HALL.out.mono ?_; rintro e v9 ⟨A9, c9, rfl, hr9, hb9⟩)
      have HRW := Lib.hid (HWR.out _ hb9)
      have HBL := Lib.hid (HLL.out _ hb9)
      have HRA := Lib.hid hr9
      clear hr9 hb9 HWR HLL HALL v1 v2 v3 b0 b1 hql hq12
      go_wp2_with fail
      go_loopw [12] (fun z wx => ∃ (i r : Nat), i ≤ q ∧ z = .int .i64 i ∧ wx = v9.drewN r) (fun z _ => q - (intOf z).toNat)
      case atStart => exact ⟨0, 0, Nat.zero_le _, rfl, rfl⟩
      case round =>
        obtain ⟨i, r, hi', rfl, rfl⟩ := hrel
        by_cases hli : i < q
        · obtain ⟨hF, hPl, hql, hq12⟩ := HF.out
          have hiP : i < P.length := by omega
          have hin' : i < ns.length := by omega
          obtain ⟨ad, rfl, -, -, -, m0, m1⟩ := HRW.out.at_ (i := i) hin'
          obtain ⟨bd, rfl, -, a0, -⟩ := HRA.out i (by rw [List.length_map]; exact hiP)
          have e9 : (P.map Prod.fst)[i]'(by rw [List.length_map]; exact hiP) = P[i].1 := by simp
          rw [e9] at a0
          have hsz := hF.size i hiP hin'
          have hin := hF.inr i hiP
          have hlk := HLK.out i hiP hin'
          have hap := fun k hk => hF.apart i k hiP hk
          have hmb := HB.out _ (List.getElem_mem hin')
          have hPT : ∀ k, k < i → k < P.length := fun k hk => by omega
          generalize ns[i] = xi at m0 m1 hsz hmb hlk
          generalize hyi : P[i] = yi at a0 hsz hin hlk hap
          obtain ⟨mi, si⟩ := xi
          obtain ⟨ai, oi⟩ := yi
          replace hsz : oi = rndP mi := hsz
          replace hmb : 1 ≤ mi ∧ mi ≤ 512 ∧ 0 ≤ si ∧ si ≤ 16320 ∧ si % 64 = 0 := hmb
          replace hin : ai % 64 = 0 ∧ lo ≤ ai ∧ ai + oi ≤ hi := hin
          replace hlk : initA lo hi si oi = true → (P.take i).all (frA si oi) = true → ai = si := hlk
          have HAP := Lib.hid (show ∀ k (hk : k < i), ¬ (ai < (P[k]'(hPT k hk)).1 + (P[k]'(hPT k hk)).2 ∧ (P[k]'(hPT k hk)).1 < ai + oi) from hap)
          have HLI := Lib.hid hlk
          have hri := rndP_pos hmb.1 (show mi ≤ 1099511627776 by omega)
          rw [← hsz] at hri
          have hrm := HRM.out
          obtain ⟨ti, hti⟩ : ∃ a, (mi + 63) / 64 = a := ⟨_, rfl⟩
          have hto : ti * 64 = oi := by rw [← hti]; exact hri.1.symm
          have ei : Int.tdiv (mi + 63) 64 = ti := by rw [Int.tdiv_eq_ediv_of_nonneg (by omega)]; exact hti
          have em : Int.tmod ai 64 = 0 := by rw [Int.tmod_eq_emod_of_nonneg (by omega)]; exact hin.1
          have hbb : 0 ≤ mi + 63 ∧ mi + 63 ≤ 4611686018427387904 ∧ 0 ≤ ti ∧ ti ≤ 4611686018427387904 ∧ 0 ≤ oi ∧ oi ≤ 4611686018427387904 ∧ 0 ≤ ai + oi ∧ ai + oi ≤ 4611686018427387904 ∧ 0 ≤ si + oi ∧ si + oi ≤ 4611686018427387904 := by omega
          have HBB := Lib.hid hbb
          have hi0 : (0 : Int) ≤ (i : Int) := by omega
          have hi1 : (i : Int) < (q : Int) := by omega
          have g1 : ¬ ai < lo := by omega
          have g2 : ¬ hi < ai + oi := by omega
          have HI4 := Lib.hid (show i + 1 ≤ q by omega)
          obtain ⟨z1, z2⟩ := wrapsI hbb.1 hbb.2.1
          obtain ⟨z3, z4⟩ := wrapsI hbb.2.2.1 hbb.2.2.2.1
          obtain ⟨z5, z6⟩ := wrapsI hbb.2.2.2.2.1 hbb.2.2.2.2.2.1
          obtain ⟨z7, z8⟩ := wrapsI hbb.2.2.2.2.2.2.1 hbb.2.2.2.2.2.2.2.1
          clear hF hPl hql hq12 hiP hin' e9 hsz hin hlk hap hmb hyi hri hrm hti hbb hi'
          go_upto_region 20 with fail
          clear ei em z1 z2 z3 z4 z5 z6 z7 z8 g1 g2 hto
          obtain ⟨b0, hb0⟩ : ∃ b, initA lo hi si oi = b := ⟨_, rfl⟩
          rw [hb0] at HLI
          have hzz := wrapsI HBB.out.2.2.2.2.2.2.2.2.1 HBB.out.2.2.2.2.2.2.2.2.2
          go_cut [14] from 85 to 227 (fun x wx => x = .bool b0 ∧ wx = v9.drewN r)
          case first =>
            obtain ⟨z9, z10⟩ := hzz
            unfold initA at hb0
            by_cases k1 : si = 0
            · obtain rfl : b0 = false := by rw [← hb0]; simp [k1]
              subst k1
              clear hb0
              go_wp2_with fail
              go_meet
              case rel => exact ⟨rfl, rfl⟩
            · by_cases k2 : lo ≤ si
              · by_cases k3 : si + oi ≤ hi
                · obtain rfl : b0 = true := by rw [← hb0]; simp [k1, k2, k3]
                  clear hb0
                  go_wp2_with fail
                  go_meet
                  case rel => exact ⟨by simp [k1], rfl⟩
                · obtain rfl : b0 = false := by rw [← hb0]; simp [k3]
                  clear hb0
                  go_wp2_with fail
                  go_meet
                  case rel => exact ⟨rfl, rfl⟩
              · obtain rfl : b0 = false := by rw [← hb0]; simp [k2]
                clear hb0
                go_wp2_with fail
                go_meet
                case rel => exact ⟨rfl, rfl⟩
          case rest =>
            obtain ⟨rfl, rfl⟩ := hcut
            have HB0 := Lib.hid hb0
            clear hb0 hzz
            go_wp2_with fail
            go_loopw [14, 15] (fun x z wx => ∃ (k r : Nat), k ≤ i ∧ z = .int .i64 k ∧ x = .bool (b0 && (P.take k).all (frA si oi)) ∧ wx = v9.drewN r) (fun _ z _ => i - (intOf z).toNat)
            case atStart => exact ⟨0, r, Nat.zero_le _, rfl, by simp, rfl⟩
            case round =>
              obtain ⟨k, r2, hk', rfl, rfl, rfl⟩ := hrel
              by_cases hlk : k < i
              · obtain ⟨hF, hPl, hql, hq12⟩ := HF.out
                have hiP : k < P.length := by omega
                have hin' : k < ns.length := by omega
                obtain ⟨ad', had, -, -, -, m3, -⟩ := HRW.out.at_ (i := k) hin'
                injection had with had
                subst had
                obtain ⟨bd', hbd, -, a3, -⟩ := HRA.out k (by rw [List.length_map]; exact hiP)
                injection hbd with hbd
                subst hbd
                have e9 : (P.map Prod.fst)[k]'(by rw [List.length_map]; exact hiP) = P[k].1 := by simp
                rw [e9] at a3
                have hsz := hF.size k hiP hin'
                have hin := hF.inr k hiP
                have hap := HAP.out k hlk
                have hmb := HB.out _ (List.getElem_mem hin')
                have hft := frA_take (p := si) (n := oi) hiP
                generalize ns[k] = xk at m3 hsz hmb
                generalize P[k] = yk at a3 hsz hin hap hft
                obtain ⟨mk, sk⟩ := xk
                obtain ⟨ak, ok⟩ := yk
                replace hsz : ok = rndP mk := hsz
                replace hmb : 1 ≤ mk ∧ mk ≤ 512 ∧ 0 ≤ sk ∧ sk ≤ 16320 ∧ sk % 64 = 0 := hmb
                replace hin : ak % 64 = 0 ∧ lo ≤ ak ∧ ak + ok ≤ hi := hin
                replace hap : ¬ (ai < ak + ok ∧ ak < ai + oi) := hap
                have hrk := rndP_pos hmb.1 (show mk ≤ 1099511627776 by omega)
                rw [← hsz] at hrk
                have hrm := HRM.out
                have hb2 := HBB.out
                obtain ⟨tk, htk⟩ : ∃ a, (mk + 63) / 64 = a := ⟨_, rfl⟩
                have hto : tk * 64 = ok := by rw [← htk]; exact hrk.1.symm
                have ei : Int.tdiv (mk + 63) 64 = tk := by rw [Int.tdiv_eq_ediv_of_nonneg (by omega)]; exact htk
                have hbb : 0 ≤ mk + 63 ∧ mk + 63 ≤ 4611686018427387904 ∧ 0 ≤ tk ∧ tk ≤ 4611686018427387904 ∧ 0 ≤ ok ∧ ok ≤ 4611686018427387904 ∧ 0 ≤ ak + ok ∧ ak + ok ≤ 4611686018427387904 := by omega
                have i0 : (0 : Int) ≤ (i : Int) := by omega
                have i1 : (i : Int) < (q : Int) := by omega
                have i2 : (0 : Int) ≤ (k : Int) := by omega
                have i3 : (k : Int) < (q : Int) := by omega
                have i4 : (k : Int) < (i : Int) := by omega
                have i9 : (q : Int) ≤ 12 := by omega
                have HI5 := Lib.hid (show k + 1 ≤ i by omega)
                have HM5 := Lib.hid (show k < i by omega)
                have j1 : decide (ai < ak + ok) = false ∨ (decide (ai < ak + ok) = true ∧ decide (ak < ai + oi) = false) := by
                  by_cases hc : ai < ak + ok
                  · exact .inr ⟨by simp [hc], by simp; omega⟩
                  · exact .inl (by simp; omega)
                have hfr : frA si oi (ak, ok) = (decide (ak + ok ≤ si) || decide (si + oi ≤ ak)) := rfl
                rw [hfr] at hft
                have HFT := Lib.hid hft
                obtain ⟨z1, z2⟩ := wrapsI hbb.1 hbb.2.1
                obtain ⟨z3, z4⟩ := wrapsI hbb.2.2.1 hbb.2.2.2.1
                obtain ⟨z5, z6⟩ := wrapsI hbb.2.2.2.2.1 hbb.2.2.2.2.2.1
                obtain ⟨z7, z8⟩ := wrapsI hbb.2.2.2.2.2.2.1 hbb.2.2.2.2.2.2.2
                obtain ⟨z9, z10⟩ := wrapsI HBB.out.2.2.2.2.2.2.1 HBB.out.2.2.2.2.2.2.2.1
                obtain ⟨z11, z12⟩ := wrapsI HBB.out.2.2.2.2.2.2.2.2.1 HBB.out.2.2.2.2.2.2.2.2.2
                clear hF hPl hql hq12 hiP hin' e9 hsz hin hap hmb hft hfr hrk hrm hb2 htk hbb hlk hk'
                go_upto_region 25 with fail
                go_cut [185] from 149 to 214 (fun x wx => x = .bool false ∧ ∃ r, wx = v9.drewN r)
                case first =>
                  rcases j1 with j1 | ⟨j1, j2⟩
                  all_goals
                    go_quiet (fail)
                    go_wp2_with fail
                    go_meet
                    case rel => exact ⟨rfl, _, rfl⟩
                case rest =>
                  obtain ⟨rfl, r3, rfl⟩ := hcut
                  clear j1
                  go_upto_region 27 with fail
                  obtain ⟨lk, hlk⟩ : ∃ b, (b0 && (P.take k).all (frA si oi)) = b := ⟨_, rfl⟩
                  have HLB := Lib.hid (show (b0 && (P.take (k + 1)).all (frA si oi)) = (lk && (decide (ak + ok ≤ si) || decide (si + oi ≤ ak))) from by rw [HFT.out, ← hlk, Bool.and_assoc])
                  rw [hlk]
                  clear hlk
                  cases lk with
                  | false =>
                    go_quiet (fail)
                    go_wp2_with fail
                    go_roundw
                    case rel => exact ⟨k + 1, _, HI5.out, by go_num, by rw [HLB.out]; rfl, rfl⟩
                    case measure => have := HM5.out; clear z1 z2 z3 z4 z5 z6 z7 z8 z9 z10 z11 z12; simp [intOf]; omega
                  | true =>
                    cases k1 : decide (ak + ok ≤ si) with
                    | true =>
                      go_quiet (fail)
                      go_wp2_with fail
                      go_roundw
                      case rel => exact ⟨k + 1, _, HI5.out, by go_num, by rw [HLB.out, k1]; rfl, rfl⟩
                      case measure => have := HM5.out; clear z1 z2 z3 z4 z5 z6 z7 z8 z9 z10 z11 z12; simp [intOf]; omega
                    | false =>
                      cases k2 : decide (si + oi ≤ ak)
                      all_goals
                        go_quiet (fail)
                        go_wp2_with fail
                        go_roundw
                        case rel => exact ⟨k + 1, _, HI5.out, by go_num, by rw [HLB.out, k1, k2]; rfl, rfl⟩
                        case measure => have := HM5.out; clear z1 z2 z3 z4 z5 z6 z7 z8 z9 z10 z11 z12; simp [intOf]; omega
              · obtain rfl : k = i := by omega
                have hq12 := HF.out.2.2.2
                have i0 : (0 : Int) ≤ (k : Int) := by omega
                have i1 : (k : Int) < (q : Int) := by have := HI4.out; omega
                have HM5 := Lib.hid (show k < q by have := HI4.out; omega)
                obtain ⟨lk, hlk⟩ : ∃ b, (b0 && (P.take k).all (frA si oi)) = b := ⟨_, rfl⟩
                rw [hlk]
                go_upto_region 28 with fail
                cases lk with
                | false =>
                  clear hlk
                  go_quiet (fail)
                  go_wp2_with fail
                  go_roundw
                  case rel => exact ⟨k + 1, _, HI4.out, by go_num, rfl⟩
                  case measure => have := HM5.out; simp [intOf]; omega
                | true =>
                  rw [Bool.and_eq_true] at hlk
                  have hai : ai = si := HLI.out hlk.1 hlk.2
                  subst hai
                  clear hlk
                  go_quiet (fail)
                  go_wp2_with fail
                  go_roundw
                  case rel => exact ⟨k + 1, _, HI4.out, by go_num, rfl⟩
                  case measure => have := HM5.out; simp [intOf]; omega
        · obtain rfl : i = q := by omega
          go_wp2_with fail
          go_ret
          exact ⟨rfl, (belowD HBL.out _)⟩

set_option maxRecDepth 100000 in
theorem lifted (os : Os) (started : os.Started) (H : Type) (enc : TypeId × Value → H) :
    ReturnsInHanded {} Try.checked os 3 .any (Rows.placeApartSpec.pre6 enc Try.prog Try.f3 Rows.placeApartRow.domain false) (Rows.placeApartSpec.post enc Try.prog Try.f3 false true false false) := by
  refine returnsInHanded_of_change (C := Try.checked) own started (by kernel_rfl) Try.func3
    (ChangeSpec.witness6 (enc := enc) (C := Try.checked) false ⟨#[], #[.slice none 0 0, .agg #[.int .i64 0, .int .i64 0]], []⟩ 8 (by kernel_rfl) (by kernel_rfl) (by kernel_rfl) (by kernel_rfl)) ?_
  intro W base args ds gs before hval0 hW hcnd _
  have hval : ∀ (j : Nat) t v, Try.f3.params[j]? = some t → args[j]? = some v → Value.okWide Try.prog W .any base t v := hval0
  have hW' := hW
  obtain ⟨p, q, hA0, hV, rfl, hfz, hnd⟩ := hW
  have hA : DataW.TrodAll enc Try.prog W 0 (fun _ => true) true Try.f3.params.toList args.toList ds p := hA0
  rw [Try.params3] at hA hval
  obtain ⟨v0, vs0, d0, ds0, p0, q0, hargs, rfl, rfl, h0, r0⟩ := trodAll_cons hA
  obtain ⟨v1, vs1, d1, ds1, p1, q1, rfl, rfl, rfl, h1, r1⟩ := trodAll_cons r0
  obtain ⟨rfl, rfl, rfl⟩ := trodAll_nil r1
  obtain rfl : args = #[v0, v1] := by cases args; simp_all
  obtain ⟨rfl, rfl⟩ := trodVars_none hV
  have k0 := h0
  have lt0 : ∀ x ∈ p0, x.block < W.heap.size := by obtain ⟨m, hm⟩ := k0; exact DataW.trod_lt m _ _ _ hm
  obtain ⟨LA0, Ll0, Lc0, rfl, Lm0, Lr0⟩ := openPairs13 (hval 0 22 v0 rfl rfl) h0
  have k1 := h1
  have lt1 : ∀ x ∈ p1, x.block < W.heap.size := by obtain ⟨m, hm⟩ := k1; exact DataW.trod_lt m _ _ _ hm
  obtain ⟨z1, e1, hl1, hw1⟩ := open_ints_array Try.underlying23 Try.underlying3 (by kernel_rfl) (by kernel_rfl) (hval 1 23 v1 rfl rfl) h1
  obtain ⟨a1_0, a1_1, rfl⟩ : ∃ a1_0 a1_1, z1 = [a1_0, a1_1] := by
    match z1, hl1 with
    | [a1_0, a1_1], _ => exact ⟨_, _, rfl⟩
  obtain rfl : v1 = .agg #[.int .i64 a1_0, .int .i64 a1_1] := e1
  clear hA0 hval0
  refine (walk LA0 Ll0 Lc0 a1_0 a1_1 W Lm0 Lr0 (hw1 a1_0 (by simp)) (hw1 a1_1 (by simp))).mono fun e W' ⟨he, bel⟩ => ?_
  subst he
  exact ⟨_, rfl, _, _, _, [], _, [], hW', trodAll_mk1 (shut_bool Try.underlying4 _), (trodAll_cons_mk (Below.trod laidOut (by kernel_rfl) (of_decide_eq_true (by kernel_rfl)) k0 bel lt0) (trodAll_cons_mk (Below.trod laidOut (by kernel_rfl) (of_decide_eq_true (by kernel_rfl)) k1 bel lt1) trodAll_mk0)), rfl, bel.frame _, fun h => by cases h⟩
theorem over : Rows.placeApartRow.holds Try.pinned (OpenSpec.ofChange Rows.placeApartSpec) :=
  OpenClaim.holds_of_wide 3 Try.f3 rfl rfl rfl rfl rfl rfl rfl ⟨rfl, rfl, rfl, rfl, rfl⟩ rfl rfl rfl rfl rfl (by kernel_rfl) Try.func3 (by kernel_rfl)
    (of_decide_eq_true (by kernel_rfl)) (by unfold Func.isWrapper; first | (rw [if_pos (by decide +kernel)]; kernel_rfl) | (rw [if_neg (by decide +kernel)]; exact ⟨rfl, rfl⟩))
    (fun os started H enc _ => lifted os started H enc)
/-- The statement. -/
theorem proved : Rows.PlaceApartSaid := over
end Go.Proofs.Ytfoapghjloblnab.lawApart13
