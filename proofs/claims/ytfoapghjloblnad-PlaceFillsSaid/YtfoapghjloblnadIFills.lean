/- PlaceFills: for any numbers (twelve at most are looked at): things of those sizes that like no place stand one behind the other, as long as there is room. -/
import Derived.Test.YtfoapghjloblnadIw
namespace Go.Proofs.Ytfoapghjloblnad.lawFills
open Go.ChangeShapes Go.WideShapes Go.ChangeAt Go.RowKit Go.Deep
set_option linter.unusedVariables false
set_option linter.unusedSimpArgs false

theorem own_slice2 {w : World} {B e n : Nat} {v : Value} {xs : List Value} (h : w.ownsRow B e 2 v n xs) : ∃ A c, v = .slice A n c := by
  rcases h.2 with ⟨h0, h1⟩ | ⟨g, cap, cur, hv, _⟩
  · exact ⟨none, 0, by rw [h0, h1]⟩
  · exact ⟨_, _, hv⟩
def sizesF (zs : List Int) : List Int := (zs.take 12).map fun z => 1 + z % 256
theorem sizesF_b {zs : List Int} : ∀ n ∈ sizesF zs, 1 ≤ n ∧ n ≤ 1099511627776 := fun n hn => by
  obtain ⟨z, _, rfl⟩ := List.mem_map.1 hn
  omega
theorem contE_bound : ∀ (l : List Int) (a : Int), (∀ n ∈ l, 1 ≤ n ∧ n ≤ 256) → a ≤ contE a l ∧ contE a l ≤ a + 256 * l.length ∧ (a % 64 = 0 → contE a l % 64 = 0)
  | [], a, _ => ⟨Int.le_refl _, by simp [contE], fun h => h⟩
  | n :: l, a, h => by
    have hn := h n (List.mem_cons_self ..)
    have hr := rndP_pos hn.1 (show n ≤ 1099511627776 by omega)
    obtain ⟨h1, h2, h3⟩ := contE_bound l (a + rndP n) (fun m hm => h m (List.mem_cons_of_mem _ hm))
    have e : contE a (n :: l) = contE (a + rndP n) l := rfl
    have e2 : ((n :: l).length : Int) = (l.length : Int) + 1 := by simp
    rw [e, e2]
    exact ⟨by omega, by omega, fun ha => h3 (by omega)⟩
theorem contL_wf : ∀ (l : List Int) (a : Int), (∀ n ∈ l, 1 ≤ n ∧ n ≤ 256) → 0 ≤ a → a + 256 * l.length ≤ 1000000 → ∀ z ∈ contL a l, (Lit.int .i64 z).wf = true
  | [], a, _, _, _, z, hz => by cases hz
  | n :: l, a, h, h0, h1, z, hz => by
    have hn := h n (List.mem_cons_self ..)
    have hr := rndP_pos hn.1 (show n ≤ 1099511627776 by omega)
    have e2 : ((n :: l).length : Int) = (l.length : Int) + 1 := by simp
    rw [e2] at h1
    have hz : z ∈ a :: contL (a + rndP n) l := hz
    rcases List.mem_cons.1 hz with rfl | hz
    · exact wf_I (by omega) (by omega)
    · exact contL_wf l (a + rndP n) (fun m hm => h m (List.mem_cons_of_mem _ hm)) (by omega) (by omega) z hz
/-- What All tells of them. -/
theorem fills_told (ns : List Int) (hn : ∀ n ∈ ns, 1 ≤ n ∧ n ≤ 1099511627776) (hz : Int) (h0 : 0 ≤ hz ∧ hz ≤ 63) :
    allP (ns.map fun n => (n, 0)) 640 (640 + 64 * hz) = if contE 640 ns ≤ 640 + 64 * hz then (contL 640 ns, 0) else ([], 18) := by
  have hrm : roomP 640 (640 + 64 * hz) = true := by unfold roomP; simp; omega
  have hth : (ns.map fun n => ((n, 0) : Int × Int)).all thingP = true := by
    rw [List.all_eq_true]
    intro x hx
    obtain ⟨n, hm, rfl⟩ := List.mem_map.1 hx
    have := hn n hm
    unfold thingP
    simp
    omega
  rw [allP_go hrm hth]
  obtain ⟨g1, g2⟩ := cont_go (low := 640) (high := 640 + 64 * hz) (by decide) ns [] 640 hn (ContP.start _ _) (by decide) (Int.le_refl _)
  by_cases hle : contE 640 ns ≤ 640 + 64 * hz
  · rw [if_pos hle]
    obtain ⟨Q, q1, q2⟩ := g1 hle
    rw [q1]
    show (Q.map Prod.fst, (0 : Int)) = _
    rw [q2]
    rfl
  · rw [if_neg hle, g2 (by omega) (by omega)]
set_option maxRecDepth 100000 in
set_option maxHeartbeats 1600000 in
theorem walk (A : Option Addr) (zs : List Int) (c : Nat) (pages : Int) (w : World) (hm : zs.length ≤ maxLen) (hz : IntRow w A zs) (wp : (Lit.int .i64 pages).wf = true) :
    Calls Try.prog 3 #[.slice A zs.length c, .int .i64 pages] w fun e w' => e = .returned (.bool true) ∧ Below w.heap.size w w' := by
  unfold maxLen at hm
  have HAW := Lib.hid (fun v => awakeI v)
  obtain ⟨i0, hi, hz0, hz1, hz2⟩ := info_parts infoInt
  obtain ⟨iw, hj, hw0, hw1, hw2⟩ := info_parts infoWant
  obtain ⟨ns, hns⟩ : ∃ ns, sizesF zs = ns := ⟨_, rfl⟩
  obtain ⟨n, hn⟩ : ∃ n, zs.length = n := ⟨_, rfl⟩
  have hlen : ns.length = min 12 n := by rw [← hns, ← hn]; unfold sizesF; rw [List.length_map, List.length_take]
  have hat : ∀ k (h : k < ns.length) (h2 : k < zs.length), ns[k] = 1 + zs[k] % 256 := fun k h h2 => by subst hns; simp [sizesF]
  have hnb : ∀ m ∈ ns, 1 ≤ m ∧ m ≤ 256 := fun m hm => by
    rw [← hns] at hm
    obtain ⟨z, _, rfl⟩ := List.mem_map.1 hm
    omega
  obtain ⟨R, hR⟩ : ∃ R, w.heap.size = R := ⟨_, rfl⟩
  have HZ := Lib.hid hz
  have HN := Lib.hid (And.intro hn (And.intro hlen hat))
  have HB := Lib.hid hnb
  have HR := Lib.hid hR
  have e63 := i64_and63I pages
  obtain ⟨pz, hpz⟩ : ∃ z, pages % 64 = z := ⟨_, rfl⟩
  rw [hpz] at e63
  have HPZ := Lib.hid (show 0 ≤ pz ∧ pz ≤ 63 by omega)
  have HFT := Lib.hid (fills_told ns (fun m hm => ⟨(hnb m hm).1, by have := (hnb m hm).2; omega⟩) pz HPZ.out)
  obtain ⟨q, hq⟩ : ∃ q, min 12 n = q := ⟨_, rfl⟩
  rw [hq] at hlen
  have HQ := Lib.hid (And.intro hq hlen)
  rw [hn] at hm ⊢
  clear hns hn hlen hat hnb hR hz hpz hq wp
  go_enter Try.func3, Try.ntmps3
  go_wp2_with (go_at_call 4; refine (HAW.out _).mono ?_; rintro e w1 ⟨rfl, hb1⟩; have HB1 := Lib.hid (show Below R w w1 from by rw [← HR.out]; exact hb1); clear hb1)
  go_loopw [6, 7, 8, 9] (fun a b t z wr => ∃ (k : Nat) (A1 : Option Addr) (c1 : Nat) (A2 : Option Addr) (c2 : Nat), k ≤ q ∧ z = .int .i64 k ∧ a = .slice A1 k c1 ∧ b = .slice A2 k c2 ∧ t = .int .i64 (contE 640 (ns.take k)) ∧
    Hid (wr.ownsRow R 26 2 (.slice A1 k c1) k (wCells ((ns.take k).map fun n => (n, 0)))) ∧ Hid (wr.ownsRow R 3 1 (.slice A2 k c2) k ((contL 640 (ns.take k)).map (Value.int .i64))) ∧ Hid (Below R w wr)) (fun _ _ _ z _ => q - (intOf z).toNat)
  case atStart => exact ⟨0, none, 0, none, 0, Nat.zero_le _, rfl, rfl, rfl, rfl, Lib.hid ⟨rfl, .inl ⟨rfl, rfl⟩⟩, Lib.hid ⟨rfl, .inl ⟨rfl, rfl⟩⟩, HB1⟩
  case round =>
    obtain ⟨k, A1, c1, A2, c2, hk, rfl, rfl, rfl, rfl, HO1, HO2, HL⟩ := hrel
    have hq12 : q ≤ 12 ∧ q ≤ n := by have := HQ.out.1; omega
    by_cases hlt : k < q
    · have hkn : k < zs.length := by rw [HN.out.1]; omega
      have hks : k < ns.length := by rw [HQ.out.2]; exact hlt
      obtain ⟨ad, rfl, -, c0, wf0⟩ := (HZ.out.belowI HR.out.symm HL.out) k hkn
      have hat := HN.out.2.2 k hks hkn
      have hn256 := HB.out ns[k] (List.getElem_mem hks)
      have hcb := contE_bound (ns.take k) 640 (fun m hm => HB.out m (List.mem_of_mem_take hm))
      have htl : (ns.take k).length = k := by rw [List.length_take]; omega
      rw [htl] at hcb
      have htk : ns.take (k + 1) = ns.take k ++ [ns[k]] := List.take_succ_eq_append_getElem hks
      obtain ⟨sn1, sn2⟩ := contL_snoc (ns.take k) 640 ns[k]
      rw [← htk] at sn1 sn2
      have hr := rndP_pos hn256.1 (show ns[k] ≤ 1099511627776 by omega)
      have e255 := i64_and255I zs[k]
      generalize zs[k] = z at c0 wf0 hat e255
      generalize ns[k] = m at hat hn256 htk sn1 sn2 hr
      obtain ⟨y, hy⟩ : ∃ y, z % 256 = y := ⟨_, rfl⟩
      rw [hy] at e255 hat
      obtain ⟨at_, hat_⟩ : ∃ a, contE 640 (ns.take k) = a := ⟨_, rfl⟩
      rw [hat_] at hcb sn1 sn2 ⊢
      have HTK := Lib.hid (And.intro htk (And.intro sn1 sn2))
      have w1' : IntKind.i64.wrap (1 + y) = m := by rw [← hat]; exact IntWalk.i64_in _ (by omega)
      obtain ⟨t, ht⟩ : ∃ t, (m + 63) / 64 = t := ⟨_, rfl⟩
      have e1 : Int.tdiv (m + 63) 64 = t := by rw [Int.tdiv_eq_ediv_of_nonneg (by omega)]; exact ht
      have hrm : rndP m = t * 64 := by rw [hr.1, ht]
      have hbb : 0 ≤ m + 63 ∧ m + 63 ≤ 4611686018427387904 ∧ 0 ≤ t ∧ t ≤ 4611686018427387904 ∧ 0 ≤ t * 64 ∧ t * 64 ≤ 4611686018427387904 ∧ 0 ≤ at_ + t * 64 ∧ at_ + t * 64 ≤ 4611686018427387904 := by omega
      obtain ⟨v1, v2⟩ := wrapsI hbb.1 hbb.2.1
      obtain ⟨v3, v4⟩ := wrapsI hbb.2.2.1 hbb.2.2.2.1
      obtain ⟨v5, v6⟩ := wrapsI hbb.2.2.2.2.1 hbb.2.2.2.2.2.1
      obtain ⟨v7, v8⟩ := wrapsI hbb.2.2.2.2.2.2.1 hbb.2.2.2.2.2.2.2
      have hk0 : (0 : Int) ≤ (k : Int) := by clear v1 v2 v3 v4 v5 v6 v7 v8 w1'; omega
      have hk2 : (k : Int) < (n : Int) := by clear v1 v2 v3 v4 v5 v6 v7 v8 w1'; omega
      have hk3 : (k : Int) < 12 := by clear v1 v2 v3 v4 v5 v6 v7 v8 w1'; omega
      have hk4 : k + 1 ≤ 100 := by clear v1 v2 v3 v4 v5 v6 v7 v8 w1'; omega
      have HRM := Lib.hid hrm
      clear hat hn256 hcb htl htk sn1 sn2 hr hy hat_ ht hrm hbb hkn hks hm
      go_upto_region 10 with (at_builtin; refine wpList_append_own _ rfl _ _ 24 rfl R 26 iw (.agg #[.int .i64 0, .int .i64 0]) 2 16 Try.underlying24 hj hw0 hw1 hw2 rfl (by decide) (.slice A1 k c1) k (wCells ((ns.take k).map fun n => (n, 0))) rfl (HO1.out.alloc _) ⟨wr.heap.size, 0, none⟩ 1 1 [.int .i64 m, .int .i64 0] rfl rfl (cell_twoI _ _ _ _) (fun u hu => by simp at hu; rcases hu with rfl | rfl <;> rfl) (by unfold maxLen; omega) (by omega) (by have := HL.out.size; have := HR.out; simp; omega) ?_; intro v' w4 hown4 hgrow4 _
                              obtain ⟨A4, c4, hv4⟩ := own_slice2 hown4
                              subst hv4)
      have HO4 := Lib.hid (show w4.ownsRow R 26 2 (.slice A4 (k + 1) c4) (k + 1) (wCells ((ns.take (k + 1)).map fun n => (n, 0))) from by rw [HTK.out.1, List.map_append, List.map_singleton, wCells_snoc]; exact hown4)
      have HP4 := Lib.hid (show w4.ownsRow R 3 1 (.slice A2 k c2) k ((contL 640 (ns.take k)).map (Value.int .i64)) from own_grown (HO2.out.alloc (.cells #[.int .i64 m, .int .i64 0] 26)) hgrow4 (fun g hg => own_apart HO2.out HO1.out (by decide) g hg))
      have HL4 := Lib.hid (show Below R w w4 from (HL.out.alloc (by have := HL.out.size; have := HR.out; omega) (.cells #[.int .i64 m, .int .i64 0] 26)).grown hgrow4 (by have := HL.out.size; have := HR.out; simp; omega) (fun g hg => (own_lo HO1.out hg).1))
      clear hown4 hgrow4 HO1 HO2
      go_upto_region 11 with (at_builtin; refine wpList_append_own _ rfl _ _ 22 rfl R 3 i0 (.int .i64 0) 1 8 Try.underlying22 hi hz0 hz1 hz2 rfl (by decide) (.slice A2 k c2) k ((contL 640 (ns.take k)).map (Value.int .i64)) rfl (HP4.out.alloc _) ⟨w4.heap.size, 0, none⟩ 1 1 [.int .i64 at_] rfl rfl (cell_oneI _ _ _) (ints_oneCell .i64 [at_]) (by unfold maxLen; omega) (by omega) (by have := HL4.out.size; have := HR.out; simp; omega) ?_; intro v' w5 hown5 hgrow5 _
                              obtain ⟨A5, c5, hv5⟩ := own_slice hown5
                              subst hv5)
      have HO5 := Lib.hid (show w5.ownsRow R 3 1 (.slice A5 (k + 1) c5) (k + 1) ((contL 640 (ns.take (k + 1))).map (Value.int .i64)) from by rw [HTK.out.2.1, List.map_append]; exact hown5)
      have HP5 := Lib.hid (own_grown (HO4.out.alloc (.cells #[.int .i64 at_] 3)) hgrow5 (fun g hg => own_apart HO4.out HP4.out (by decide) g hg))
      have HL5 := Lib.hid (show Below R w w5 from (HL4.out.alloc (by have := HL4.out.size; have := HR.out; omega) (.cells #[.int .i64 at_] 3)).grown hgrow5 (by have := HL4.out.size; have := HR.out; simp; omega) (fun g hg => (own_lo HP4.out hg).1))
      clear hown5 hgrow5 HO4 HP4 HL4
      have HAT := Lib.hid (show contE 640 (ns.take (k + 1)) = at_ + t * 64 from by rw [HTK.out.2.2, HRM.out])
      go_wp2_with fail
      go_roundw
      case rel => exact ⟨k + 1, A4, c4, A5, c5, by omega, by go_num, rfl, rfl, by rw [HAT.out], HP5, HO5, HL5⟩
      case measure => simp [intOf]; omega
    · have hkq : q = k := by omega
      have htk : ns.take k = ns := by rw [← hkq, ← HQ.out.2, List.take_length]
      rw [htk] at HO1 HO2 ⊢
      have hcb := contE_bound ns 640 HB.out
      rw [HQ.out.2] at hcb
      have hml : (ns.map fun n => ((n, 0) : Int × Int)).length = k := by rw [List.length_map, HQ.out.2, hkq]
      have hcl : (contL 640 ns).length = k := by rw [contL_length, HQ.out.2, hkq]
      have hwf : ∀ x ∈ (ns.map fun n => ((n, 0) : Int × Int)), (Lit.int .i64 x.1).wf = true ∧ (Lit.int .i64 x.2).wf = true := fun x hx => by
        obtain ⟨m, hm, rfl⟩ := List.mem_map.1 hx
        have := HB.out m hm
        exact ⟨wf_I (by show -4611686018427387904 ≤ m; omega) (by show m ≤ 4611686018427387904; omega), (by decide : (Lit.int .i64 0).wf = true)⟩
      have hpz := HPZ.out
      have hall := all_anyI (ns.map fun n => ((n, 0) : Int × Int)) A1 c1 640 (640 + 64 * pz) wr (WRow.of_own HO1.out hwf) (by omega) (by decide) (wf_I (by omega) (by omega))
      unfold AllR at hall
      rw [HFT.out, hml] at hall
      obtain ⟨at_, hat_⟩ : ∃ a, contE 640 ns = a := ⟨_, rfl⟩
      rw [hat_] at hall hcb ⊢
      have hcwf : ∀ z ∈ contL 640 ns, (Lit.int .i64 z).wf = true := fun z hz => contL_wf ns 640 HB.out (by omega) (by rw [HQ.out.2]; omega) z hz
      have HWT := Lib.hid (fun v (hv : Below wr.heap.size wr v) => show IntRow v A2 (contL 640 ns) from intRow_own (own_below HO2.out hv) hcwf)
      have hrd : rndP (at_ - 640) = at_ - 640 := by
        have h3 := hcb.2.2 (by decide)
        by_cases h0 : at_ - 640 = 0
        · rw [h0]; rfl
        · have := rndP_pos (s := at_ - 640) (by omega) (by omega)
          omega
      have hro := fun v => pround_any (at_ - 640) v (wf_I (by omega) (by omega))
      rw [hrd] at hro
      have HRO := Lib.hid hro
      have hbb : 0 ≤ 64 * pz ∧ 64 * pz ≤ 4611686018427387904 ∧ 0 ≤ 640 + 64 * pz ∧ 640 + 64 * pz ≤ 4611686018427387904 ∧ 0 ≤ at_ - 640 ∧ at_ - 640 ≤ 4611686018427387904 := by omega
      obtain ⟨v1, v2⟩ := wrapsI hbb.1 hbb.2.1
      obtain ⟨v3, v4⟩ := wrapsI hbb.2.2.1 hbb.2.2.2.1
      obtain ⟨v5, v6⟩ := wrapsI hbb.2.2.2.2.1 hbb.2.2.2.2.2
      have hend : ¬ ((k : Int) < (n : Int)) ∨ ((k : Int) < (n : Int) ∧ ¬ ((k : Int) < 12)) := by have := HQ.out.1; clear v1 v2 v3 v4 v5 v6; omega
      have HLL := Lib.hid (fun v (hv : Below wr.heap.size wr v) => show Below w.heap.size w v from by rw [HR.out]; exact HL.out.trans (hv.mono (by have := HL.out.size; have := HR.out; omega)))
      obtain ⟨hh, hhh⟩ : ∃ z, 640 + 64 * pz = z := ⟨_, rfl⟩
      rw [hhh] at hall v3 v4
      clear htk hcb hml hwf hpz hat_ hcwf hrd hro hbb hk hlt hm HO1 HO2 HL hq12
      subst hkq
      by_cases hgt : hh < at_
      · rw [if_neg (by clear v1 v2 v3 v4 v5 v6; omega)] at hall
        have HALL := Lib.hid (hall.mono fun e w' hx => show ∃ A c, e = .returned (.tuple #[.slice A 0 c, .int .i64 18]) ∧ Below wr.heap.size wr w' from by
          obtain ⟨A, c, h1, _, h2⟩ := hx
          exact ⟨A, c, h1, h2⟩)
        clear hall hcl
        rcases hend with hend | ⟨hend1, hend2⟩
        all_goals
          go_wp2_with (go_at_call 5; refine HALL.out.mono ?_; rintro e v9 ⟨A9, c9, rfl, hb9⟩)
          go_ret
          exact ⟨by simp, HLL.out _ hb9⟩
      · rw [if_pos (by clear v1 v2 v3 v4 v5 v6; omega)] at hall
        have HALL := Lib.hid (hall.mono fun e w' hx => show ∃ A c, e = .returned (.tuple #[.slice A q c, .int .i64 0]) ∧ IntRow w' A (contL 640 ns) ∧ Below wr.heap.size wr w' from by
          obtain ⟨A, c, h1, h3, h2⟩ := hx
          have h1 : e = .returned (.tuple #[.slice A (contL 640 ns).length c, .int .i64 0]) := h1
          rw [hcl] at h1
          exact ⟨A, c, h1, h3, h2⟩)
        have hsm := fun A1 A2 c1 c2 v (h1 : IntRow v A1 (contL 640 ns)) (h2 : IntRow v A2 (contL 640 ns)) => rsameI (contL 640 ns) A1 A2 c1 c2 v h1 h2 (by rw [hcl]; have := HQ.out.1; clear v1 v2 v3 v4 v5 v6; omega)
        rw [hcl] at hsm
        have HSM := Lib.hid hsm
        clear hall hcl hsm
        rcases hend with hend | ⟨hend1, hend2⟩
        all_goals
          go_wp2_with (first
            | (go_at_call 5; refine HALL.out.mono ?_; rintro e v9 ⟨A9, c9, rfl, hr9, hb9⟩)
            | (go_at_call 6; refine (HSM.out _ _ _ _ _ hr9 (HWT.out _ hb9)).mono ?_; rintro e v10 ⟨rfl, hb10⟩; have hb11 := hb9.trans (hb10.mono hb9.size))
            | (go_at_call 7; refine (HRO.out _).mono ?_; rintro e v12 ⟨rfl, hv12⟩; rw [hv12]; clear hv12 v12))
          go_ret
          exact ⟨by simp, HLL.out _ hb11⟩

set_option maxRecDepth 100000 in
theorem lifted (os : Os) (started : os.Started) (H : Type) (enc : TypeId × Value → H) :
    ReturnsInHanded {} Try.checked os 3 .any (Rows.placeFillsSpec.pre6 enc Try.prog Try.f3 Rows.placeFillsRow.domain false) (Rows.placeFillsSpec.post enc Try.prog Try.f3 false true false false) := by
  refine returnsInHanded_of_change (C := Try.checked) own started (by kernel_rfl) Try.func3
    (ChangeSpec.witness6 (enc := enc) (C := Try.checked) false ⟨#[], #[.slice none 0 0, .int .i64 0], []⟩ 8 (by kernel_rfl) (by kernel_rfl) (by kernel_rfl) (by kernel_rfl)) ?_
  intro W base args ds gs before hval0 hW hcnd _
  have hval : ∀ (j : Nat) t v, Try.f3.params[j]? = some t → args[j]? = some v → Value.okWide Try.prog W .any base t v := hval0
  have hW' := hW
  obtain ⟨p, q, hA0, hV, rfl, hfz, hnd⟩ := hW
  have hA : DataW.TrodAll enc Try.prog W 0 (fun _ => true) true Try.f3.params.toList args.toList ds p := hA0
  rw [Try.params3] at hA hval
  obtain ⟨v0, vs0, d0, ds0, p0, q0, hargs, rfl, rfl, h0, r0⟩ := trodAll_cons hA
  obtain ⟨v1, vs1, d1, ds1, p1, q1, rfl, rfl, rfl, h1, r1⟩ := trodAll_cons r0
  obtain ⟨rfl, rfl, rfl⟩ := trodAll_nil r1
  obtain rfl : args = #[v0, v1] := by cases args; simp_all
  obtain ⟨rfl, rfl⟩ := trodVars_none hV
  have k0 := h0
  have lt0 : ∀ x ∈ p0, x.block < W.heap.size := by obtain ⟨m, hm⟩ := k0; exact DataW.trod_lt m _ _ _ hm
  obtain ⟨LA0, Ll0, Lc0, rfl, Lm0, Lr0⟩ := openInts13 (hval 0 22 v0 rfl rfl) h0
  have k1 := h1
  have lt1 : ∀ x ∈ p1, x.block < W.heap.size := by obtain ⟨m, hm⟩ := k1; exact DataW.trod_lt m _ _ _ hm
  obtain ⟨a1, rfl, _, _, w1⟩ := open_int Try.underlying3 (hval 1 3 v1 rfl rfl) h1
  clear hA0 hval0
  refine (walk LA0 Ll0 Lc0 a1 W Lm0 Lr0 w1).mono fun e W' ⟨he, bel⟩ => ?_
  subst he
  exact ⟨_, rfl, _, _, _, [], _, [], hW', trodAll_mk1 (shut_bool Try.underlying4 _), (trodAll_cons_mk (Below.trod laidOut (by kernel_rfl) (of_decide_eq_true (by kernel_rfl)) k0 bel lt0) (trodAll_cons_mk (Below.trod laidOut (by kernel_rfl) (of_decide_eq_true (by kernel_rfl)) k1 bel lt1) trodAll_mk0)), rfl, bel.frame _, fun h => by cases h⟩
theorem over : Rows.placeFillsRow.holds Try.pinned (OpenSpec.ofChange Rows.placeFillsSpec) :=
  OpenClaim.holds_of_wide 3 Try.f3 rfl rfl rfl rfl rfl rfl rfl ⟨rfl, rfl, rfl, rfl, rfl⟩ rfl rfl rfl rfl rfl (by kernel_rfl) Try.func3 (by kernel_rfl)
    (of_decide_eq_true (by kernel_rfl)) (by unfold Func.isWrapper; first | (rw [if_pos (by decide +kernel)]; kernel_rfl) | (rw [if_neg (by decide +kernel)]; exact ⟨rfl, rfl⟩))
    (fun os started H enc _ => lifted os started H enc)
/-- The statement. -/
theorem proved : Rows.PlaceFillsSaid := over
end Go.Proofs.Ytfoapghjloblnad.lawFills
