/- The reference of layer 13: Free. -/
import Derived.Test.YtfoapghjloblnaaIr
namespace Go.Proofs.Ytfoapghjloblnaa
open Go.RowKit Go.ChangeShapes Go.WideShapes Go.Deep
set_option linter.unusedVariables false
set_option linter.unusedSimpArgs false

/-- The tried places. -/
def candI (low : Int) (P : List (Int × Int)) : List Int := low :: P.map fun x => x.1 + x.2
theorem candI_len (low : Int) (P : List (Int × Int)) : (candI low P).length = P.length + 1 := by simp [candI]
theorem foldl_takeI {α β : Type} (f : β → α → β) (a : β) {l : List α} {k : Nat} (hk : k < l.length) : (l.take (k + 1)).foldl f a = f ((l.take k).foldl f a) l[k] := by
  rw [List.take_succ_eq_append_getElem hk, List.foldl_append]
  rfl
set_option maxRecDepth 100000 in
set_option maxHeartbeats 6400000 in
theorem rfreeI (l P : List (Int × Int)) (A At : Option Addr) (c ca : Nat) (low high s : Int) (w : World) (hr : WRow w A l) (ha : IntRow w At (P.map Prod.fst)) (hs : StandI l P) (hl : l.length ≤ 1000) (hb : BndI low high) (hrm : roomP low high = true) (hs1 : 1 ≤ s) (hs2 : s ≤ 1099511627776) :
    Calls Try.prog 19 #[.slice A l.length c, .slice At P.length ca, .int .i64 low, .int .i64 high, .int .i64 s] w fun e w' => e = .returned (.tuple #[.int .i64 ((freeP P low high (rndP s)).getD 0), .bool (freeP P low high (rndP s)).isSome]) ∧ ∃ q, w' = w.drewN q := by
  have hb' := hb
  obtain ⟨b1, b2, b3, b4, b5⟩ := hb
  have hrn := rndP_pos hs1 hs2
  have HRM := Lib.hid (fun v => rroomI low high v (wf_I (by omega) (by omega)) (wf_I (by omega) (by omega)))
  rw [hrm] at HRM
  have hro := fun v => rroundI s v (wf_I (by omega) (by omega))
  obtain ⟨n, hn⟩ : ∃ n, rndP s = n := ⟨_, rfl⟩
  rw [hn] at hro hrn
  have HRO := Lib.hid hro
  have HFI := Lib.hid (fun p wr (hq : ∃ q, wr = w.drewN q) (hp : 0 ≤ p ∧ p ≤ 4398046511104) => show Calls Try.prog 17 #[.slice A l.length c, .slice At P.length ca, .int .i64 low, .int .i64 high, .int .i64 p, .int .i64 n] wr fun e w' => e = .returned (.bool (fitP P low high p n)) ∧ ∃ q, w' = wr.drewN q from by
    obtain ⟨q, rfl⟩ := hq
    exact rfitsI l P A At c ca low high p n (w.drewN q) hr ha hs hl hb' hp ⟨hrn.2.1, hrn.2.2.1⟩)
  have hfo : freeP P low high n = (candI low P).foldl (bestP P low high n) none := rfl
  rw [hn]
  obtain ⟨nl, hnl⟩ : ∃ k, l.length = k := ⟨_, rfl⟩
  obtain ⟨np, hnp⟩ : ∃ k, P.length = k := ⟨_, rfl⟩
  have hle := hs.len
  rw [hnl, hnp] at hle
  rw [hnl] at hl
  have HR := Lib.hid hr
  have HA := Lib.hid ha
  have HS := Lib.hid hs
  have HN := Lib.hid (And.intro hnl hnp)
  have HFO := Lib.hid hfo
  rw [hnl, hnp] at HFI
  rw [hnl, hnp]
  have hs9 : ¬ s < 1 := by omega
  have HB := Lib.hid hb'
  clear hr ha hs hnl hnp hb' hrm hro hn hrn hfo b4 b5
  obtain ⟨fr, hfr⟩ : ∃ fr, freeP P low high n = fr := ⟨_, rfl⟩
  rw [hfr] at HFO ⊢
  clear hfr
  go_enter Try.func19, Try.ntmps19
  go_wp2_with (first
    | (go_at_call 16; refine (HRM.out _).mono ?_; rintro e v ⟨rfl, hv⟩; rw [hv]; clear hv v)
    | (go_at_call 18; refine (HRO.out _).mono ?_; rintro e v ⟨rfl, hv⟩; rw [hv]; clear hv v))
  go_loopw [14, 15, 16] (fun f b z wr => ∃ k : Nat, k ≤ np + 1 ∧ z = .int .i64 ((k : Int) - 1) ∧ f = .bool (((candI low P).take k).foldl (bestP P low high n) none).isSome ∧ b = .int .i64 ((((candI low P).take k).foldl (bestP P low high n) none).getD 0) ∧ ∃ q, wr = w.drewN q) (fun _ _ z _ => (np - (intOf z)).toNat)
  case atStart => exact ⟨0, by omega, rfl, rfl, rfl, 0, (World.drewN_zero w).symm⟩
  case round =>
    obtain ⟨k, hk, rfl, rfl, rfl, HQ0⟩ := hrel
    have HQ := Lib.hid HQ0
    clear HQ0
    by_cases hlt : k < np + 1
    · have hk1 : k < (candI low P).length := by rw [candI_len, HN.out.2]; exact hlt
      have hnx := foldl_takeI (bestP P low high n) none hk1
      obtain ⟨acc, hacc⟩ : ∃ acc, ((candI low P).take k).foldl (bestP P low high n) none = acc := ⟨_, rfl⟩
      rw [hacc] at hnx ⊢
      obtain ⟨pk, hpk⟩ : ∃ z, (candI low P)[k] = z := ⟨_, rfl⟩
      rw [hpk] at hnx
      have hcand : (k = 0 ∧ pk = low) ∨ ∃ j, k = j + 1 ∧ ∃ hj : j < P.length, pk = P[j].1 + P[j].2 := by
        cases k with
        | zero => exact .inl ⟨rfl, hpk.symm⟩
        | succ j =>
          have hj : j < P.length := by rw [candI_len] at hk1; omega
          refine .inr ⟨j, rfl, hj, ?_⟩
          rw [← hpk]
          simp [candI]
      have hpb : 0 ≤ pk ∧ pk ≤ 4398046511104 := by
        rcases hcand with ⟨-, rfl⟩ | ⟨j, -, hj, rfl⟩
        · omega
        · have := HS.out.ok j hj; omega
      have HC := Lib.hid hcand
      have HNX := Lib.hid hnx
      have HAC := Lib.hid hacc
      have HFK := Lib.hid (fun wr hq => HFI.out pk wr hq hpb)
      have e64 : Int.tmod pk 64 = pk % 64 := Int.tmod_eq_emod_of_nonneg hpb.1
      have hkr : ((k : Int) - 1 < (np : Int)) := by omega
      have hkr2 : ((k : Int) - 1 < (nl : Int)) := by omega
      have HKB := Lib.hid (show (-1 : Int) ≤ (k : Int) - 1 ∧ (k : Int) ≤ 1001 ∧ k < np + 1 by omega)
      obtain ⟨kz, hkz⟩ : ∃ z, (k : Int) - 1 = z := ⟨_, rfl⟩
      rw [hkz] at hkr hkr2 ⊢
      have HKZ := Lib.hid hkz
      clear hk1 hnx hacc hpk hcand hpb hkz hk hlt
      go_upto_if 44 with fail
      go_cut [17] from 45 to 55 (fun b wx => b = .int .i64 pk ∧ ∃ q', wx = w.drewN q')
      case first =>
        rcases HC.out with ⟨rfl, rfl⟩ | ⟨j, rfl, hj, hpk⟩
        · have hkz : kz < 0 := by rw [← HKZ.out]; decide
          go_wp2_with fail
          go_meet
          exact ⟨rfl, HQ.out⟩
        · have hj2 : j < l.length := by rw [HN.out.1]; have := HN.out.2; omega
          have hkz : kz = (j : Int) := by rw [← HKZ.out]; omega
          subst hkz
          obtain ⟨ad, rfl, -, wf0, -, x0, -⟩ := HR.out.at_ hj2
          obtain ⟨bd, rfl, -, d0, -⟩ := HA.out j (by rw [List.length_map]; exact hj)
          have hsz := HS.out.size j hj hj2
          have hok := HS.out.ok j hj
          have e1 : (P.map Prod.fst)[j]'(by rw [List.length_map]; exact hj) = P[j].1 := by simp
          rw [e1] at d0
          have x0' : wr.cell? (ad.add (j * 2)) = some (.int .i64 l[j].1) := by obtain ⟨q, e⟩ := HQ.out; rw [e]; exact x0
          have d0' : wr.cell? (bd.add j) = some (.int .i64 P[j].1) := by obtain ⟨q, e⟩ := HQ.out; rw [e]; exact d0
          clear x0 d0
          generalize l[j] = x at x0' wf0 hsz
          generalize P[j] = y at d0' hsz hok hpk
          obtain ⟨x1, x2⟩ := x
          obtain ⟨y1, y2⟩ := y
          replace hsz : y2 = rndP x1 := hsz
          have HR2 := Lib.hid (fun v => rroundI x1 v wf0)
          rw [← hsz] at HR2
          have hk0 : (0 : Int) ≤ (j : Int) := by omega
          have hw : IntKind.i64.wrap (y1 + y2) = pk := by
            rw [hpk]
            refine IntWalk.i64_in _ ?_
            have h1 := hok.1
            have h2 := hok.2.1
            have h3 := hok.2.2.1
            have h4 := hok.2.2.2
            simp only at h1 h2 h3 h4
            omega
          clear hok hsz e1 hpk hj hj2 wf0
          go_wp2_with fail
          go_quiet ((go_at_call 18; exact Calls.quiet_of_same (HR2.out _)))
          go_wp2_with fail
          go_meet
          exact ⟨rfl, drewTo HQ.out _⟩
      case rest =>
        obtain ⟨hc1, hc2⟩ := hcut
        subst hc1
        have HQC := Lib.hid hc2
        have HFW := Lib.hid (HFK.out wc hc2)
        clear hc2
        have hfw := HFW.out
        obtain ⟨ft, hft⟩ : ∃ b, fitP P low high pk n = b := ⟨_, rfl⟩
        rw [hft] at hfw
        have HFW2 := Lib.hid hfw
        have hnew : bestP P low high n acc pk = if pk % 64 = 0 ∧ ft = true ∧ (∀ b, acc = some b → pk < b) then some pk else acc := by unfold bestP; rw [hft]
        have HNW := Lib.hid hnew
        have HW3 := Lib.hid (show IntKind.i64.wrap (kz + 1) = (((k + 1 : Nat) : Int) - 1) ∧ wrap64 (kz + 1) = (((k + 1 : Nat) : Int) - 1) ∧ kz + 1 = (((k + 1 : Nat) : Int) - 1) from by
          have h1 := HKB.out
          have h2 := HKZ.out
          have e : kz + 1 = (((k + 1 : Nat) : Int) - 1) := by omega
          rw [e]
          have h3 : (0 : Int) ≤ ((k + 1 : Nat) : Int) - 1 ∧ ((k + 1 : Nat) : Int) - 1 ≤ 4611686018427387904 := by omega
          obtain ⟨h4, h5⟩ := wrapsI h3.1 h3.2
          exact ⟨h5, h4, rfl⟩)
        have HM := Lib.hid (show ((np : Int) - (k : Int)).toNat < ((np : Int) - kz).toNat from by
          have h1 := HKB.out
          have h2 := HKZ.out
          omega)
        clear hnew hft hfw HFW
        go_upto_region 14 with (go_at_call 17; refine HFW2.out.mono ?_; rintro e v6 ⟨rfl, q6, rfl⟩)
        obtain ⟨w1, w2, w3⟩ := HW3.out
        have HQ6 := Lib.hid (drewTo HQC.out q6)
        generalize wc.drewN q6 = V6 at HQ6 ⊢
        have HKE := Lib.hid (show ((k + 1 : Nat) : Int) - 1 = (k : Int) from by omega)
        have HDN := Lib.hid (fun acc' (h : bestP P low high n acc pk = acc') => show ((candI low P).take (k + 1)).foldl (bestP P low high n) none = acc' from by rw [HNX.out, h])
        by_cases m0 : pk % 64 = 0
        · have m1 : (pk % 64 == 0) = true := by simpa using m0
          cases ft with
          | false =>
            have HD := Lib.hid (HDN.out acc (by rw [HNW.out, if_neg (by simp)]))
            clear w1 w2 w3
            obtain ⟨w1, w2, w3⟩ := HW3.out
            go_wp2_with fail
            go_roundw
            case rel => exact ⟨k + 1, HKB.out.2.2, by rw [HKE.out], by rw [HD.out], by rw [HD.out], HQ6.out⟩
            case measure => exact HM.out
          | true =>
            cases acc with
            | none =>
              have HD := Lib.hid (HDN.out (some pk) (by rw [HNW.out, if_pos ⟨m0, rfl, fun b h => by cases h⟩]))
              go_wp2_with fail
              go_roundw
              case rel => exact ⟨k + 1, HKB.out.2.2, by rw [HKE.out], by rw [HD.out]; rfl, by rw [HD.out]; rfl, HQ6.out⟩
              case measure => exact HM.out
            | some b =>
              by_cases hlt2 : pk < b
              · have HD := Lib.hid (HDN.out (some pk) (by rw [HNW.out, if_pos ⟨m0, rfl, fun b' h => by cases h; exact hlt2⟩]))
                go_wp2_with fail
                go_roundw
                case rel => exact ⟨k + 1, HKB.out.2.2, by rw [HKE.out], by rw [HD.out]; rfl, by rw [HD.out]; rfl, HQ6.out⟩
                case measure => exact HM.out
              · have HD := Lib.hid (HDN.out (some b) (by rw [HNW.out, if_neg (fun hh => hlt2 (hh.2.2 b rfl))]))
                go_wp2_with fail
                go_roundw
                case rel => exact ⟨k + 1, HKB.out.2.2, by rw [HKE.out], by rw [HD.out], by rw [HD.out], HQ6.out⟩
                case measure => exact HM.out
        · have m1 : (pk % 64 == 0) = false := by simpa using m0
          have HD := Lib.hid (HDN.out acc (by rw [HNW.out, if_neg (fun hh => m0 hh.1)]))
          obtain ⟨y, hy⟩ : ∃ y, pk % 64 = y := ⟨_, rfl⟩
          rw [hy] at e64 m1
          clear m0 hy
          go_wp2_with fail
          go_roundw
          case rel => exact ⟨k + 1, HKB.out.2.2, by rw [HKE.out], by rw [HD.out], by rw [HD.out], HQ6.out⟩
          case measure => exact HM.out
    · have hkn : k = np + 1 := by omega
      have hfu : ((candI low P).take k).foldl (bestP P low high n) none = fr := by
        rw [hkn, List.take_of_length_le (by rw [candI_len, HN.out.2]; exact Nat.le_refl _), HFO.out]
      rw [hfu]
      have hkz : (k : Int) - 1 = (np : Int) := by omega
      rw [hkz]
      have hnn : ¬ ((np : Int) < (np : Int)) := by omega
      clear hfu hkz hkn hk hlt HFI HR HA HS HFO
      go_wp2_with fail
      go_ret2
      exact ⟨rfl, HQ.out⟩
end Go.Proofs.Ytfoapghjloblnaa
