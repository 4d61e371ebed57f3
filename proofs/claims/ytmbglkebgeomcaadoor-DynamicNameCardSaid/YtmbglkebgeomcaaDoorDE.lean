/- Package dynamic: Same; the reference's SameTexts. -/
import Derived.Test.YtmbglkebgeomcaaDoorDD
import Derived.BigRegion
import Derived.Deep.CutRange
import Derived.Deep.CutBlock
import Derived.RegionTactic
namespace Go.Proofs.YtmbglkebgeomcaaDoor
open Go.RowKit
set_option linter.unusedVariables false
set_option linter.unusedSimpArgs false

theorem take_eq_succD {α : Type} {l m : List α} {k : Nat} (h1 : k < l.length) (h2 : k < m.length) (h : l.take k = m.take k) (he : l[k] = m[k]) : l.take (k + 1) = m.take (k + 1) := by
  rw [List.take_succ_eq_append_getElem h1, List.take_succ_eq_append_getElem h2, h, he]

set_option maxRecDepth 100000 in
set_option maxHeartbeats 1600000 in
theorem iequal_any (l m : List Int) (A D : Option Addr) (c d : Nat) (w : World) (h1 : IntRow w A l) (h2 : IntRow w D m) (hl : l.length ≤ 100000000) (hm : m.length ≤ 100000000) :
    Calls Tryd.prog 26 #[.slice A l.length c, .slice D m.length d] w fun e w' => e = .returned (.bool (decide (l = m))) ∧ Below w.heap.size w w' := by
  by_cases hlen : l.length = m.length
  · obtain ⟨n, hn⟩ : ∃ n, l.length = n := ⟨_, rfl⟩
    have hn2 : m.length = n := by omega
    obtain ⟨r, hr0⟩ : ∃ r, decide (l = m) = r := ⟨_, rfl⟩
    rw [hr0, hn2, hn]
    have HR := Lib.hid hr0
    have HN := Lib.hid (And.intro hn hn2)
    have H1 := Lib.hid h1
    have H2 := Lib.hid h2
    clear hlen hn hn2 hr0 h1 h2
    go_enter Tryd.func26, Tryd.ntmps26
    go_wp2
    go_loopw [13] (fun i wr => ∃ k q : Nat, k ≤ n ∧ i = .int .i64 k ∧ Hid (l.take k = m.take k) ∧ wr = w.drewN q) (fun i _ => n - (intOf i).toNat)
    case atStart => exact ⟨0, 0, Nat.zero_le _, rfl, Lib.hid rfl, (World.drewN_zero w).symm⟩
    case round =>
      obtain ⟨k, q, hk, rfl, ht, rfl⟩ := hrel
      by_cases hlt : k < n
      · have hk1 : k < l.length := by rw [HN.out.1]; exact hlt
        have hk2 : k < m.length := by rw [HN.out.2]; exact hlt
        obtain ⟨ad, rfl, hblt, d0, hwf⟩ := (H1.out) k hk1
        obtain ⟨ae, rfl, hblt2, e0, hwf2⟩ := (H2.out) k hk2
        have hst := take_eq_succD hk1 hk2 ht.out
        obtain ⟨s, hs⟩ : ∃ s, l[k] = s := ⟨_, rfl⟩
        obtain ⟨t, ht2⟩ : ∃ t, m[k] = t := ⟨_, rfl⟩
        have hno : s ≠ t → l ≠ m := fun h e => by subst e; rw [hs] at ht2; exact h ht2
        rw [hs] at d0 hst
        rw [ht2] at e0 hst
        have k0 : (0 : Int) ≤ (k : Int) := by omega
        have k1 : (k : Int) < (n : Int) := by omega
        by_cases hst2 : s = t
        · have HS := Lib.hid (hst hst2)
          subst hst2
          clear hst hno hs ht2 hwf hwf2
          go_wp2
          go_region
          all_goals
            go_wp2
            go_roundw
          case rel => exact ⟨k + 1, q + 1, by omega, by go_num, Lib.hid HS.out, rfl⟩
          case measure => simp [intOf]; omega
        · have HV := Lib.hid (show false = r from by rw [← HR.out]; exact (decide_eq_false (hno hst2)).symm)
          clear hst hno hs ht2 hwf hwf2
          go_wp2
          go_region
          all_goals
            go_wp2
            go_ret
            exact ⟨congrArg (fun r => Ending.returned (.bool r)) HV.out, Go.Proofs.YtmbglkebgeomcaaDoor.Below.drewN (Below.refl _ _) (q + 1)⟩
      · obtain rfl : k = n := by omega
        have HV := Lib.hid (show true = r from by
          have e := ht.out
          rw [List.take_of_length_le (by rw [HN.out.1]; exact Nat.le_refl _), List.take_of_length_le (by rw [HN.out.2]; exact Nat.le_refl _)] at e
          rw [← HR.out]
          exact (decide_eq_true e).symm)
        go_wp2
        go_ret
        exact ⟨congrArg (fun r => Ending.returned (.bool r)) HV.out, Go.Proofs.YtmbglkebgeomcaaDoor.Below.drewN (Below.refl _ _) _⟩
  · have hne : decide (l = m) = false := decide_eq_false (fun e => hlen (by rw [e]))
    rw [hne]
    have hb : ((l.length : Int) == (m.length : Int)) = false := by simp; omega
    clear hne h1 h2
    generalize l.length = a at *
    generalize m.length = b at *
    go_enter Tryd.func26, Tryd.ntmps26
    go_wp2
    go_ret
    exact ⟨rfl, Below.refl _ _⟩

set_option maxRecDepth 100000 in
set_option maxHeartbeats 1600000 in
theorem texts_any (l m : List ByteArray) (A D : Option Addr) (c d : Nat) (w : World) (h1 : StrRow w A l) (h2 : StrRow w D m) (hl : l.length ≤ 100000000) (hm : m.length ≤ 100000000) :
    Calls Tryd.prog 14 #[.slice A l.length c, .slice D m.length d] w fun e w' => e = .returned (.bool (decide (l = m))) ∧ Below w.heap.size w w' := by
  by_cases hlen : l.length = m.length
  · obtain ⟨n, hn⟩ : ∃ n, l.length = n := ⟨_, rfl⟩
    have hn2 : m.length = n := by omega
    obtain ⟨r, hr0⟩ : ∃ r, decide (l = m) = r := ⟨_, rfl⟩
    rw [hr0, hn2, hn]
    have HR := Lib.hid hr0
    have HN := Lib.hid (And.intro hn hn2)
    have H1 := Lib.hid h1
    have H2 := Lib.hid h2
    clear hlen hn hn2 hr0 h1 h2
    go_enter Tryd.func14, Tryd.ntmps14
    go_wp2
    go_loopw [5] (fun i wr => ∃ k q : Nat, k ≤ n ∧ i = .int .i64 k ∧ Hid (l.take k = m.take k) ∧ wr = w.drewN q) (fun i _ => n - (intOf i).toNat)
    case atStart => exact ⟨0, 0, Nat.zero_le _, rfl, Lib.hid rfl, (World.drewN_zero w).symm⟩
    case round =>
      obtain ⟨k, q, hk, rfl, ht, rfl⟩ := hrel
      by_cases hlt : k < n
      · have hk1 : k < l.length := by rw [HN.out.1]; exact hlt
        have hk2 : k < m.length := by rw [HN.out.2]; exact hlt
        obtain ⟨ad, rfl, hblt, d0, hwf⟩ := (H1.out) k hk1
        obtain ⟨ae, rfl, hblt2, e0, hwf2⟩ := (H2.out) k hk2
        have hst := take_eq_succD hk1 hk2 ht.out
        obtain ⟨s, hs⟩ : ∃ s, l[k] = s := ⟨_, rfl⟩
        obtain ⟨t, ht2⟩ : ∃ t, m[k] = t := ⟨_, rfl⟩
        have hno : s ≠ t → l ≠ m := fun h e => by subst e; rw [hs] at ht2; exact h ht2
        rw [hs] at d0 hst
        rw [ht2] at e0 hst
        have k0 : (0 : Int) ≤ (k : Int) := by omega
        have k1 : (k : Int) < (n : Int) := by omega
        by_cases hst2 : s = t
        · have HS := Lib.hid (hst hst2)
          subst hst2
          clear hst hno hs ht2 hwf hwf2
          go_wp2
          go_region
          all_goals
            go_wp2
            go_roundw
          case rel => exact ⟨k + 1, q + 1, by omega, by go_num, Lib.hid HS.out, rfl⟩
          case measure => simp [intOf]; omega
        · have HV := Lib.hid (show false = r from by rw [← HR.out]; exact (decide_eq_false (hno hst2)).symm)
          have hsb : (s.toList == t.toList) = false := beq_eq_false_iff_ne.2 (fun e => hst2 (by
            rw [← mkb_of s, ← mkb_of t]
            rw [Lib.toList_data, Lib.toList_data] at e
            rw [e]))
          clear hst hno hs ht2 hwf hwf2
          go_wp2
          go_region
          all_goals
            go_wp2
            go_ret
            exact ⟨congrArg (fun r => Ending.returned (.bool r)) HV.out, Go.Proofs.YtmbglkebgeomcaaDoor.Below.drewN (Below.refl _ _) (q + 1)⟩
      · obtain rfl : k = n := by omega
        have HV := Lib.hid (show true = r from by
          have e := ht.out
          rw [List.take_of_length_le (by rw [HN.out.1]; exact Nat.le_refl _), List.take_of_length_le (by rw [HN.out.2]; exact Nat.le_refl _)] at e
          rw [← HR.out]
          exact (decide_eq_true e).symm)
        go_wp2
        go_ret
        exact ⟨congrArg (fun r => Ending.returned (.bool r)) HV.out, Go.Proofs.YtmbglkebgeomcaaDoor.Below.drewN (Below.refl _ _) _⟩
  · have hne : decide (l = m) = false := decide_eq_false (fun e => hlen (by rw [e]))
    rw [hne]
    have hb : ((l.length : Int) == (m.length : Int)) = false := by simp; omega
    clear hne h1 h2
    generalize l.length = a at *
    generalize m.length = b at *
    go_enter Tryd.func14, Tryd.ntmps14
    go_wp2
    go_ret
    exact ⟨rfl, Below.refl _ _⟩

/-- Are two tables the same? -/
def sameN (a b : Dyn) (k : Nat) : Prop := ∀ q, q < k → a.f (fixL.getD q 0) = b.f (fixL.getD q 0)
instance (a b : Dyn) (k : Nat) : Decidable (sameN a b k) := by unfold sameN; exact inferInstance
def sameD (a b : Dyn) : Bool := decide (sameN a b 8) && decide (a.needed = b.needed)

set_option maxRecDepth 100000 in
set_option maxHeartbeats 1600000 in
theorem dsame_any (a b : Dyn) (A D : Option Addr) (c d : Nat) (w : World) (hT : Dyt w) (h1 : IntRow w A a.needed) (h2 : IntRow w D b.needed) (hl : a.needed.length ≤ 100000000) (hm : b.needed.length ≤ 100000000) :
    Calls Tryd.prog 11 #[.agg (a.cs (.slice A a.needed.length c)), .agg (b.cs (.slice D b.needed.length d))] w fun e w' => e = .returned (.bool (sameD a b)) ∧ Below w.heap.size w w' := by
  obtain ⟨n, hn⟩ : ∃ n, a.needed.length = n := ⟨_, rfl⟩
  obtain ⟨m, hm2⟩ : ∃ m, b.needed.length = m := ⟨_, rfl⟩
  obtain ⟨r, hr⟩ : ∃ r, sameD a b = r := ⟨_, rfl⟩
  have hEQ := fun v (h1 : IntRow v A a.needed) (h2 : IntRow v D b.needed) => iequal_any a.needed b.needed A D c d v h1 h2 hl hm
  rw [hn, hm2] at hEQ
  rw [hr, hn, hm2]
  obtain ⟨R, hR⟩ : ∃ R, w.heap.size = R := ⟨_, rfl⟩
  have HS := Lib.hid (fun (W0 : World) (hW0 : (w.alloc (.cells (a.cs (.slice A n c)) 26)).alloc (.cells (b.cs (.slice D m d)) 26) = W0) =>
    show Blk W0 R 26 (a.cs (.slice A n c)) ∧ Blk W0 (R + 1) 26 (b.cs (.slice D m d)) ∧ Below R w W0 from by
    subst hW0
    subst hR
    refine ⟨(Blk.new w _ _).alloc _, ?_, ((Below.refl _ _).alloc (Nat.le_refl _) _).alloc (by simp) _⟩
    have := Blk.new (w.alloc (.cells (a.cs (.slice A n c)) 26)) 26 (b.cs (.slice D m d))
    simpa using this)
  have HT := Lib.hid (fun v (hv : Below R w v) => show Dyt v ∧ IntRow v A a.needed ∧ IntRow v D b.needed from ⟨hT.on (by rw [hR]; exact hv), intRow_below h1 hR.symm hv, intRow_below h2 hR.symm hv⟩)
  have HEQ := Lib.hid hEQ
  have HV := Lib.hid (show r = (decide (sameN a b 8) && decide (a.needed = b.needed)) from by rw [← hr]; rfl)
  have HC := Lib.hid (fun v q (hq : q < 8) (h1 : Blk v R 26 (a.cs (.slice A n c))) (h2 : Blk v (R + 1) 26 (b.cs (.slice D m d))) =>
    show v.cell? ⟨R, fixL.getD q 0, none⟩ = some (.int .i64 (a.f (fixL.getD q 0))) ∧ v.cell? ⟨R + 1, fixL.getD q 0, none⟩ = some (.int .i64 (b.f (fixL.getD q 0))) from
    ⟨(h1.cell _).trans (a.at_ _ (fixL_in hq).1 (fixL_in hq).2), (h2.cell _).trans (b.at_ _ (fixL_in hq).1 (fixL_in hq).2)⟩)
  have HC0 := Lib.hid (fun v (h1 : Blk v R 26 (a.cs (.slice A n c))) (h2 : Blk v (R + 1) 26 (b.cs (.slice D m d))) =>
    show v.cell? ⟨R, 0, none⟩ = some (.slice A n c) ∧ v.cell? ⟨R + 1, 0, none⟩ = some (.slice D m d) from ⟨h1.cell 0, h2.cell 0⟩)
  have HRR := Lib.hid hR
  clear hEQ hT h1 h2 hr hn hm2 hl hm
  unfold Dyn.cs at HS HC HC0 ⊢
  have hTw := (HT.out w (Below.refl _ _)).1
  have hpos := hTw.pos
  go_enter Tryd.func11, Tryd.ntmps11
  go_upto_region 1 with fail
  generalize hW : (w.alloc (.cells #[.slice A n c, .int .i64 (a.f 1), .int .i64 (a.f 2), .int .i64 (a.f 3), .int .i64 (a.f 4), .int .i64 (a.f 5), .int .i64 (a.f 6), .int .i64 (a.f 7), .int .i64 (a.f 8)] 26)).alloc (.cells #[.slice D m d, .int .i64 (b.f 1), .int .i64 (b.f 2), .int .i64 (b.f 3), .int .i64 (b.f 4), .int .i64 (b.f 5), .int .i64 (b.f 6), .int .i64 (b.f 7), .int .i64 (b.f 8)] 26) = W0
  obtain ⟨hA, hB, hBW⟩ := HS.out W0 hW
  have hT0 := (HT.out W0 hBW).1
  have o0 := hT0.ord 0 (by omega)
  have o1 := hT0.ord 1 (by omega)
  have o2 := hT0.ord 2 (by omega)
  have o3 := hT0.ord 3 (by omega)
  have o4 := hT0.ord 4 (by omega)
  have o5 := hT0.ord 5 (by omega)
  have o6 := hT0.ord 6 (by omega)
  have o7 := hT0.ord 7 (by omega)
  simp only [ordL, List.getD_cons_zero, List.getD_cons_succ] at o0 o1 o2 o3 o4 o5 o6 o7
  have HCQ := Lib.hid (fun q (hq : q < 8) v (hv : Drawn W0 v) => show v.cell? ⟨R, fixL.getD q 0, none⟩ = some (.int .i64 (a.f (fixL.getD q 0))) ∧ v.cell? ⟨R + 1, fixL.getD q 0, none⟩ = some (.int .i64 (b.f (fixL.getD q 0))) from by
    obtain ⟨n, rfl⟩ := hv
    exact HC.out _ q hq (hA.drewN n) (hB.drewN n))
  have HCN := Lib.hid (fun v (hv : Drawn W0 v) => show v.cell? ⟨R, 0, none⟩ = some (.slice A n c) ∧ v.cell? ⟨R + 1, 0, none⟩ = some (.slice D m d) from by
    obtain ⟨n, rfl⟩ := hv
    exact HC0.out _ (hA.drewN n) (hB.drewN n))
  have HTD := Lib.hid (fun v (hv : Drawn W0 v) => show (IntRow v A a.needed ∧ IntRow v D b.needed) ∧ Below R w v from by
    obtain ⟨n, rfl⟩ := hv
    exact ⟨(HT.out _ (Below.drewN hBW n)).2, Below.drewN hBW n⟩)
  clear hW HS hA hB hBW hT0 hTw HC HC0 HT
  go_wp2_with fail
  clear o0 o1 o2 o3 o4 o5 o6 o7
  go_loopw [8] (fun i wr => ∃ k : Nat, k ≤ 8 ∧ i = .int .i64 k ∧ Hid (sameN a b k) ∧ Hid (Drawn W0 wr)) (fun i _ => 8 - (intOf i).toNat)
  case atStart => exact ⟨0, by omega, rfl, Lib.hid (fun q hq => by omega), Lib.hid (Drawn.refl _)⟩
  case round =>
    obtain ⟨k, hk, rfl, hs, HDR⟩ := hrel
    by_cases hlt : k < 8
    · have hix := run_index8u ordA k _ hlt (ordA_at hlt)
      unfold ordA at hix
      have hn1 := fun v => number_ord R k hlt v
      have hn2 := fun v => number_ord (R + 1) k hlt v
      obtain ⟨c1, c2⟩ := HCQ.out k hlt wr HDR.out
      have hsn : a.f (fixL.getD k 0) = b.f (fixL.getD k 0) → sameN a b (k + 1) := fun e j hj => by
        rcases Nat.lt_or_ge j k with h | h
        · exact hs.out j h
        · obtain rfl : j = k := by omega
          exact e
      have hno : a.f (fixL.getD k 0) ≠ b.f (fixL.getD k 0) → false = r := fun e => by
        rw [HV.out, decide_eq_false (p := sameN a b 8) (fun h => e (h k hlt)), Bool.false_and]
      generalize ordL.getD k 0 = tg at *
      generalize fixL.getD k 0 = fx at *
      have HQ1 := Lib.hid (show ∀ v, Calls Tryd.prog 24 #[.pointer (some ⟨R, 0, none⟩), .int .u64 tg] v fun e w' => e = .returned (.pointer (some ⟨R, fx, none⟩)) ∧ w' = v from fun v => (hn1 v).mono fun _ _ ⟨x, y⟩ => ⟨x, y.symm⟩)
      have HQ2 := Lib.hid (show ∀ v, Calls Tryd.prog 24 #[.pointer (some ⟨R + 1, 0, none⟩), .int .u64 tg] v fun e w' => e = .returned (.pointer (some ⟨R + 1, fx, none⟩)) ∧ w' = v from fun v => (hn2 v).mono fun _ _ ⟨x, y⟩ => ⟨x, y.symm⟩)
      clear hn1 hn2
      obtain ⟨y, hy⟩ : ∃ y, a.f fx = y := ⟨_, rfl⟩
      obtain ⟨z, hz⟩ : ∃ z, b.f fx = z := ⟨_, rfl⟩
      rw [hy, hz] at hsn hno
      rw [hy] at c1
      rw [hz] at c2
      clear hy hz
      by_cases hyz : y = z
      · subst hyz
        have HSN := Lib.hid (hsn rfl)
        clear hsn hno
        go_wp2_with fail
        go_quiet ((first
          | (go_at_call 24; with_reducible exact Calls.quiet_of_same (HQ1.out _))
          | (go_at_call 24; with_reducible exact Calls.quiet_of_same (HQ2.out _))))
        go_wp2_with fail
        go_roundw
        case rel => exact ⟨k + 1, by omega, by go_num, HSN, Lib.hid (by obtain ⟨q, rfl⟩ := HDR.out; exact ⟨q + nq, by simp⟩)⟩
        case measure => simp [intOf]; omega
      · have hyb : (y == z) = false := by simpa using hyz
        have HNO := Lib.hid (hno hyz)
        clear hsn hno
        go_wp2_with fail
        go_quiet ((first
          | (go_at_call 24; with_reducible exact Calls.quiet_of_same (HQ1.out _))
          | (go_at_call 24; with_reducible exact Calls.quiet_of_same (HQ2.out _))))
        go_wp2_with fail
        go_ret
        exact ⟨congrArg (fun r => Ending.returned (.bool r)) HNO.out, by rw [hR]; exact Below.drewN (HTD.out _ HDR.out).2 _⟩
    · obtain rfl : k = 8 := by omega
      obtain ⟨q1, q2⟩ := HCN.out wr HDR.out
      have hT := (HTD.out wr HDR.out).1
      have HE := Lib.hid (HEQ.out wr hT.1 hT.2)
      have HR1 := Lib.hid (show decide (a.needed = b.needed) = r from by rw [HV.out, decide_eq_true (p := sameN a b 8) hs.out, Bool.true_and])
      have HB2 := Lib.hid ((HTD.out wr HDR.out).2)
      clear hT
      go_wp2_with (go_at_call 26; refine HE.out.mono ?_; rintro e v1 ⟨rfl, hb⟩)
      go_ret
      exact ⟨congrArg (fun r => Ending.returned (.bool r)) HR1.out, by rw [hR]; exact HB2.out.trans (hb.mono (by rw [← hR]; exact HB2.out.size))⟩
end Go.Proofs.YtmbglkebgeomcaaDoor
