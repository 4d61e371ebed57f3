/- The reference of layer 13: Round, Meet, room, fits. -/
import Derived.Test.YtfoapghjloblnaaIf
namespace Go.Proofs.Ytfoapghjloblnaa
open Go.RowKit Go.ChangeShapes Go.WideShapes Go.Deep
set_option linter.unusedVariables false
set_option linter.unusedSimpArgs false

set_option maxHeartbeats 800000 in
theorem rroundI (s : Int) (w : World) (hs : (Lit.int .i64 s).wf = true) : Calls Try.prog 18 #[.int .i64 s] w fun e w' => e = .returned (.int .i64 (rndP s)) ∧ w' = w := by
  have hk := bounds_i64 hs
  by_cases h0 : s < 0
  · have hr : rndP s = 0 := by unfold rndP; rw [if_pos h0]
    rw [hr]
    go_enter Try.func18, Try.ntmps18
    go_wp2
    go_ret
    exact ⟨rfl, rfl⟩
  · by_cases h1 : 1099511627776 < s
    · have hr : rndP s = 1099511627776 := by unfold rndP; rw [if_neg h0, if_pos h1]
      rw [hr]
      go_enter Try.func18, Try.ntmps18
      go_wp2
      go_ret
      exact ⟨rfl, rfl⟩
    · have hr : rndP s = (s + 63) / 64 * 64 := by unfold rndP; rw [if_neg h0, if_neg h1]
      have hb : 0 ≤ s + 63 ∧ s + 63 ≤ 4611686018427387904 := by omega
      obtain ⟨q, hq⟩ : ∃ q, (s + 63) / 64 = q := ⟨_, rfl⟩
      have e1 : Int.tdiv (s + 63) 64 = q := by rw [Int.tdiv_eq_ediv_of_nonneg hb.1]; exact hq
      have hqb : 0 ≤ q ∧ q ≤ 4611686018427387904 ∧ 0 ≤ q * 64 ∧ q * 64 ≤ 4611686018427387904 := by omega
      rw [hr, hq]
      obtain ⟨w1, w2⟩ := wrapsI hb.1 hb.2
      obtain ⟨w3, w4⟩ := wrapsI hqb.1 hqb.2.1
      obtain ⟨w5, w6⟩ := wrapsI hqb.2.2.1 hqb.2.2.2
      clear hr hb hq hqb hk hs
      go_enter Try.func18, Try.ntmps18
      go_wp2
      go_ret
      exact ⟨rfl, rfl⟩

set_option maxHeartbeats 1600000 in
theorem rmeetI (a na b nb : Int) (w : World) (h1 : 0 ≤ a ∧ a ≤ 4398046511104) (h2 : 0 ≤ b ∧ b ≤ 4398046511104) (h3 : 0 ≤ na ∧ na ≤ 4398046511104) (h4 : 0 ≤ nb ∧ nb ≤ 4398046511104) :
    Calls Try.prog 29 #[.int .i64 a, .int .i64 na, .int .i64 b, .int .i64 nb] w fun e w' => e = .returned (.bool (metP a na b nb)) ∧ w' = w := by
  have u1 : IntKind.u64.wrap a = a := by rw [IntKind.wrap_u64]; omega
  have u2 : IntKind.u64.wrap b = b := by rw [IntKind.wrap_u64]; omega
  have u3 : IntKind.u64.wrap na = na := by rw [IntKind.wrap_u64]; omega
  have u4 : IntKind.u64.wrap nb = nb := by rw [IntKind.wrap_u64]; omega
  by_cases z1 : na ≤ 0
  · have hr : metP a na b nb = false := by rw [Bool.eq_false_iff, ne_eq, metP_iff]; omega
    rw [hr]
    clear u1 u2 u3 u4
    go_enter Try.func29, Try.ntmps29
    go_wp2
    go_ret
    exact ⟨rfl, rfl⟩
  · by_cases z2 : nb ≤ 0
    · have hr : metP a na b nb = false := by rw [Bool.eq_false_iff, ne_eq, metP_iff]; omega
      rw [hr]
      clear u1 u2 u3 u4
      go_enter Try.func29, Try.ntmps29
      go_wp2
      go_ret
      exact ⟨rfl, rfl⟩
    · by_cases z3 : a ≤ b
      · have u5 : IntKind.u64.wrap (b - a) = b - a := by rw [IntKind.wrap_u64]; omega
        have hr : metP a na b nb = decide (b - a < na) := by
          rw [Bool.eq_iff_iff, metP_iff, decide_eq_true_eq]; omega
        rw [hr]
        clear hr
        go_enter Try.func29, Try.ntmps29
        go_wp2
        go_ret
        exact ⟨rfl, rfl⟩
      · have u5 : IntKind.u64.wrap (a - b) = a - b := by rw [IntKind.wrap_u64]; omega
        have hr : metP a na b nb = decide (a - b < nb) := by
          rw [Bool.eq_iff_iff, metP_iff, decide_eq_true_eq]; omega
        rw [hr]
        clear hr
        go_enter Try.func29, Try.ntmps29
        go_wp2
        go_ret
        exact ⟨rfl, rfl⟩

set_option maxHeartbeats 800000 in
theorem rroomI (low high : Int) (w : World) (hl : (Lit.int .i64 low).wf = true) (hh : (Lit.int .i64 high).wf = true) : Calls Try.prog 16 #[.int .i64 low, .int .i64 high] w fun e w' => e = .returned (.bool (roomP low high)) ∧ w' = w := by
  have hk := bounds_i64 hl
  have hk2 := bounds_i64 hh
  by_cases h1 : 0 ≤ low
  · by_cases h3 : high ≤ 1099511627776
    · by_cases h2 : low ≤ high
      · have e1 : Int.tmod low 64 = low % 64 := Int.tmod_eq_emod_of_nonneg h1
        have e2 : Int.tmod high 64 = high % 64 := Int.tmod_eq_emod_of_nonneg (by omega)
        by_cases h4 : low % 64 = 0
        · have hr : roomP low high = decide (high % 64 = 0) := by unfold roomP; simp [h1, h2, h3, h4]
          rw [hr]
          clear hr
          go_enter Try.func16, Try.ntmps16
          go_wp2
          go_ret
          exact ⟨rfl, rfl⟩
        · have hr : roomP low high = false := by unfold roomP; simp [h4]
          rw [hr]
          clear hr
          go_enter Try.func16, Try.ntmps16
          go_wp2
          go_ret
          exact ⟨rfl, rfl⟩
      · have hr : roomP low high = false := by unfold roomP; simp [h2]
        rw [hr]
        clear hr
        go_enter Try.func16, Try.ntmps16
        go_wp2
        go_ret
        exact ⟨rfl, rfl⟩
    · have hr : roomP low high = false := by unfold roomP; simp [h3]
      rw [hr]
      clear hr
      go_enter Try.func16, Try.ntmps16
      go_wp2
      go_ret
      exact ⟨rfl, rfl⟩
  · have hr : roomP low high = false := by unfold roomP; simp [h1]
    rw [hr]
    clear hr
    go_enter Try.func16, Try.ntmps16
    go_wp2
    go_ret
    exact ⟨rfl, rfl⟩

theorem all_takeR {α : Type} {f : α → Bool} {l : List α} {k : Nat} (hk : k < l.length) (h : (l.take k).all f = true) (h1 : f l[k] = true) : (l.take (k + 1)).all f = true := by
  rw [List.take_succ_eq_append_getElem hk, List.all_append, h]
  simp [h1]
theorem all_noR {α : Type} {f : α → Bool} {l : List α} {k : Nat} (hk : k < l.length) (h1 : f l[k] = false) : l.all f = false := by
  rw [List.all_eq_false]
  exact ⟨_, List.getElem_mem hk, by rw [h1]; decide⟩
theorem drewTo {w wr : World} (h : ∃ q, wr = w.drewN q) (n : Nat) : ∃ q, wr.drewN n = w.drewN q := by
  obtain ⟨q, rfl⟩ := h
  exact ⟨_, World.drewN_drewN ..⟩
/-- The first things stand at these places. -/
structure StandI (l P : List (Int × Int)) : Prop where
  len : P.length ≤ l.length
  size : ∀ i (h : i < P.length) (h2 : i < l.length), P[i].2 = rndP l[i].1
  ok : ∀ i (h : i < P.length), 0 ≤ P[i].1 ∧ P[i].1 ≤ 1099511627776 ∧ 64 ≤ P[i].2 ∧ P[i].2 ≤ 1099511627776

set_option maxRecDepth 100000 in
set_option maxHeartbeats 3200000 in
theorem rfitsI (l P : List (Int × Int)) (A At : Option Addr) (c ca : Nat) (low high p n : Int) (w : World) (hr : WRow w A l) (ha : IntRow w At (P.map Prod.fst)) (hs : StandI l P) (hl : l.length ≤ 1000) (hb : BndI low high) (hp : 0 ≤ p ∧ p ≤ 4398046511104) (hn : 64 ≤ n ∧ n ≤ 1099511627776) :
    Calls Try.prog 17 #[.slice A l.length c, .slice At P.length ca, .int .i64 low, .int .i64 high, .int .i64 p, .int .i64 n] w fun e w' => e = .returned (.bool (fitP P low high p n)) ∧ ∃ q, w' = w.drewN q := by
  obtain ⟨b1, b2, b3, b4, b5⟩ := hb
  obtain ⟨nl, hnl⟩ : ∃ k, l.length = k := ⟨_, rfl⟩
  obtain ⟨np, hnp⟩ : ∃ k, P.length = k := ⟨_, rfl⟩
  have hle := hs.len
  rw [hnl, hnp] at hle
  rw [hnl] at hl
  have HR := Lib.hid hr
  have HA := Lib.hid ha
  have HS := Lib.hid hs
  have HN := Lib.hid (And.intro hnl hnp)
  obtain ⟨rv, hrv⟩ : ∃ rv, fitP P low high p n = rv := ⟨_, rfl⟩
  rw [hnl, hnp, hrv]
  have HF := Lib.hid hrv
  clear hr ha hs hrv hnl hnp
  by_cases c1 : p < low
  · obtain rfl : rv = false := by rw [← HF.out, Bool.eq_false_iff, ne_eq, fitP_iff]; omega
    go_enter Try.func17, Try.ntmps17
    go_wp2_with fail
    go_ret
    exact ⟨rfl, 0, (World.drewN_zero w).symm⟩
  · by_cases c2 : high < p
    · obtain rfl : rv = false := by rw [← HF.out, Bool.eq_false_iff, ne_eq, fitP_iff]; omega
      go_enter Try.func17, Try.ntmps17
      go_wp2_with fail
      go_ret
      exact ⟨rfl, 0, (World.drewN_zero w).symm⟩
    · have k1 : IntKind.i64.wrap (high - p) = high - p := IntWalk.i64_in _ (by omega)
      by_cases c3 : high - p < n
      · obtain rfl : rv = false := by rw [← HF.out, Bool.eq_false_iff, ne_eq, fitP_iff]; omega
        go_enter Try.func17, Try.ntmps17
        go_wp2_with fail
        go_ret
        exact ⟨rfl, 0, (World.drewN_zero w).symm⟩
      · have HFN := Lib.hid (show rv = P.all fun x => !(metP x.1 x.2 p n) from by
          rw [← HF.out]
          unfold fitP
          rw [decide_eq_true (show low ≤ p by omega), decide_eq_true (show p + n ≤ high by omega)]
          rfl)
        clear HF
        go_enter Try.func17, Try.ntmps17
        go_wp2_with fail
        go_loopw [13] (fun z wr => ∃ k : Nat, k ≤ np ∧ z = .int .i64 k ∧ Hid ((P.take k).all (fun x => !(metP x.1 x.2 p n)) = true) ∧ ∃ q, wr = w.drewN q) (fun z _ => np - (intOf z).toNat)
        case atStart => exact ⟨0, Nat.zero_le _, rfl, Lib.hid rfl, 0, (World.drewN_zero w).symm⟩
        case round =>
          obtain ⟨k, hk, rfl, HT, HQ0⟩ := hrel
          have HQ := Lib.hid HQ0
          clear HQ0
          by_cases hlt : k < np
          · have hk1 : k < P.length := by rw [HN.out.2]; exact hlt
            have hk2 : k < l.length := by rw [HN.out.1]; omega
            obtain ⟨ad, rfl, -, wf0, -, x0, -⟩ := HR.out.at_ hk2
            obtain ⟨bd, rfl, -, d0, -⟩ := HA.out k (by rw [List.length_map]; exact hk1)
            have hsz := HS.out.size k hk1 hk2
            have hok := HS.out.ok k hk1
            have e1 : (P.map Prod.fst)[k]'(by rw [List.length_map]; exact hk1) = P[k].1 := by simp
            rw [e1] at d0
            have HTK := Lib.hid (fun (h : (!(metP P[k].1 P[k].2 p n)) = true) => all_takeR (f := fun x : Int × Int => !(metP x.1 x.2 p n)) hk1 HT.out h)
            have HTN := Lib.hid (fun (h : (!(metP P[k].1 P[k].2 p n)) = false) => show rv = false from by rw [HFN.out]; exact all_noR (f := fun x : Int × Int => !(metP x.1 x.2 p n)) hk1 h)
            have x0' : wr.cell? (ad.add (k * 2)) = some (.int .i64 l[k].1) := by obtain ⟨q, e⟩ := HQ.out; rw [e]; exact x0
            have d0' : wr.cell? (bd.add k) = some (.int .i64 P[k].1) := by obtain ⟨q, e⟩ := HQ.out; rw [e]; exact d0
            clear x0 d0
            generalize l[k] = x at x0' wf0 hsz
            generalize P[k] = y at d0' hsz hok HTK HTN
            obtain ⟨x1, x2⟩ := x
            obtain ⟨y1, y2⟩ := y
            replace hsz : y2 = rndP x1 := hsz
            have HRO := Lib.hid (fun v => rroundI x1 v wf0)
            rw [← hsz] at HRO
            have HME := Lib.hid (fun v => rmeetI y1 y2 p n v ⟨hok.1, by have := hok.2.1; omega⟩ hp ⟨by have := hok.2.2.1; omega, by have := hok.2.2.2; omega⟩ ⟨by omega, by omega⟩)
            obtain ⟨mt, hmt⟩ : ∃ b, metP y1 y2 p n = b := ⟨_, rfl⟩
            rw [hmt] at HME HTK HTN
            have hk0 : (0 : Int) ≤ (k : Int) := by omega
            have hk3 : (k : Int) < (np : Int) := by omega
            have hk4 : (k : Int) < (nl : Int) := by omega
            clear hk1 hk2 hsz hok e1 hmt wf0
            go_wp2_with fail
            go_quiet ((first
              | (go_at_call 18; exact Calls.quiet_of_same (HRO.out _))
              | (go_at_call 29; exact Calls.quiet_of_same (HME.out _))))
            cases mt with
            | true =>
              obtain rfl := HTN.out rfl
              go_wp2_with fail
              go_ret
              exact ⟨rfl, drewTo HQ.out _⟩
            | false =>
              have HT2 := Lib.hid (HTK.out rfl)
              go_wp2_with fail
              go_roundw
              case rel => exact ⟨k + 1, by omega, by go_num, HT2, drewTo HQ.out _⟩
              case measure => simp [intOf]; omega
          · have hkn : k = np := by omega
            have hr1 : rv = true := by
              have h := HT.out
              rw [hkn, ← HN.out.2, List.take_length] at h
              rw [HFN.out, h]
            subst hkn
            subst hr1
            clear HT HFN
            go_wp2_with fail
            go_ret
            exact ⟨rfl, HQ.out⟩
end Go.Proofs.Ytfoapghjloblnaa
