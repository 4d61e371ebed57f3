/- RadixFrom: for any pages and any number: the first page from one on is the least that is not below it; going on, all are met. -/
import Derived.Test.YtbidlabhekiijaaDoorQH
namespace Go.Proofs.YtbidlabhekiijaaDoor.lawFrom
open Go.ChangeShapes Go.WideShapes Go.ChangeAt Go.RowKit
set_option linter.unusedVariables false
set_option linter.unusedSimpArgs false

set_option maxRecDepth 100000 in
set_option maxHeartbeats 1000000 in
theorem walk (A : Option Addr) (l : List Int) (c : Nat) (a : Int) (w : World) (hm : l.length ≤ maxLen) (hz : IntRow w A l) (wa : (Lit.int .i64 a).wf = true) (hT : Tab w) :
    Calls Tryd.prog 9 #[.slice A l.length c, .int .i64 a] w fun e w' => e = .returned (.bool true) ∧ Below w.heap.size w w' := by
  unfold maxLen at hm
  obtain ⟨K, hK, hK4, hKx⟩ := and_page a
  clear hKx
  have HA := Lib.hid (fun w hT => awake7_any w hT)
  have HN := Lib.hid (fun v (hb : Below w.heap.size w v) (hT' : Tab v) => show Calls Tryd.prog 16 #[.int .i64 200] v _ from pw_new hb hT' hT.pos 200 (by omega) (by omega))
  have HM := Lib.hid (fun (v : World) p h g (s : Pw w v p h g (newP 200)) => tw_new (N := 200) (by omega) s)
  unfold PwMade at HN
  unfold TwMade at HM
  have HZ := Lib.hid hz
  have HB := Lib.hid (Below.refl w.heap.size w)
  clear hz
  go_enter Tryd.func9, Tryd.ntmps9
  go_wp2_with (first
    | (go_at_call 10; refine (HA.out _ hT).mono ?_; rintro e v0 ⟨rfl, hb⟩; have hB := HB.out.trans hb; replace hT := hT.below hb hT.pos; clear hb)
    | (go_at_call 16; refine (HN.out _ hB hT).mono ?_; rintro e v1 ⟨p, h, g, rfl, hS⟩; clear hB)
    | (go_at_call 17; refine (HM.out _ _ _ _ hS).mono ?_; rintro e v2 ⟨t, rfl, hS2⟩; clear hS))
  have HS := Lib.hid hS2
  clear hS2 hT HN HM HA HB
  go_loopw [8] (fun i wr => ∃ (k : Nat) (M : Nat → Sl), k ≤ l.length ∧ k ≤ 20 ∧ i = .int .i64 k ∧ Tw w wr t p h g 200 M ∧ cnt7 M ≤ 1 + 3 * k) (fun i _ => l.length - (intOf i).toNat)
  case atStart => exact ⟨0, _, Nat.zero_le _, by omega, rfl, HS.out, by rw [cnt7_zero]; omega⟩
  case round =>
    clear HS
    obtain ⟨k, M, hk, hk20, rfl, hS, hcn⟩ := hrel
    by_cases hlt : k < l.length ∧ k < 20
    · obtain ⟨hk1, hk2⟩ := hlt
      have d20 : decide ((k : Int) < 20) = true := decide_eq_true (by omega)
      obtain ⟨ad, rfl, hab, hc0, _⟩ := HZ.out k hk1
      obtain ⟨P, hP, hP4, hPx⟩ := and_page l[k]
      clear hPx
      replace hc0 := (hS.bel.cell (p := ad.add k) (by rw [show (ad.add k).block = ad.block by unfold Addr.add; split <;> rfl]; exact hab)).trans hc0
      generalize l[k] = x at *
      have HST := Lib.hid (tw_put hS (k := k) hP4 (out_may (n := k) (by omega)) hcn (by omega))
      unfold Sl.v at HST
      simp only at HST
      clear hS hcn
      go_wp2_with (go_at_call 24; refine HST.out.mono ?_; rintro e v5 ⟨rfl, hS5, hc5, _⟩)
      go_roundw
      case rel => exact ⟨k + 1, _, by omega, by omega, by go_num, hS5, hc5⟩
      case measure => simp [intOf]; omega
    · have HALL := Lib.hid ((tw_all hS).mono fun e v' hh => hh.row)
      have HS0 := Lib.hid hS
      have hlen := spotsF_length M
      have hsl := spotsF_len M
      have hsrt := Lib.hid (pagesF_sorted M 0)
      rw [hlen] at hsl
      clear hS hcn
      go_upto_region 10 with fail
      all_goals
        go_wp2_with (go_at_call 28; refine HALL.out.mono ?_; rintro e v3 ⟨v, rfl, hr, hb⟩; obtain ⟨A3, c3, rfl⟩ := hr.len; have HS3 := Lib.hid (HS0.out.on hb); have hR3 := Lib.hid hr; clear hr hb)
        rw [hlen] at *
        have hle3 : w.heap.size ≤ wr.heap.size := HS0.out.bel.size
        generalize wr.heap.size = BB at *
        clear HALL HS0
        go_loopw [10, 11] (fun at_ i wx => ∃ (k at' : Nat), k ≤ (pagesF M 0).length ∧ i = .int .i64 k ∧ at_ = .int .i64 at' ∧ at' ≤ 4096 ∧ (∀ j (hj : j < (pagesF M 0).length), j < k → (pagesF M 0)[j] < at') ∧ (∀ hk : k < (pagesF M 0).length, at' ≤ (pagesF M 0)[k]) ∧ Tw w wx t p h g 200 M ∧ SRow wx BB (.slice A3 (pagesF M 0).length c3) (spotsF M)) (fun _ i _ => (pagesF M 0).length - (intOf i).toNat)
        case atStart => exact ⟨0, 0, Nat.zero_le _, rfl, rfl, by omega, fun j hj h => by omega, fun h => by omega, HS3.out, hR3.out⟩
        case round =>
          clear HS3 hR3
          obtain ⟨q, at', hq, rfl, rfl, hat, hlo, hhi, hSx, hRx⟩ := hrel
          by_cases hqlt : q < (pagesF M 0).length
          · have hfa := fr_at (M := M) (i := q) (low := (at' : Nat)) (by omega) hqlt (fun j hj => by have := hlo j (by omega) hj; omega) (by have := hhi hqlt; omega)
            obtain ⟨g3, o3, R, rfl, hBg, hglt, hR, x0, x1, x2, x3, x4, x5⟩ := hRx.at_ (i := q) (by rw [spotsF_length]; exact hqlt)
            rw [spotsF_at] at x0 x1 x2 x3 x4 x5
            simp only at x0 x1 x2 x3 x4 x5
            have hpg := pagesF_lt hqlt
            have hnext : ∀ j (hj : j < (pagesF M 0).length), j < q + 1 → (pagesF M 0)[j] < (pagesF M 0)[q] + 1 := fun j hj h => by
              rcases Nat.lt_or_ge j q with h1 | h1
              · have := sorted_at hsrt.out h1 hqlt; omega
              · obtain rfl : j = q := by omega
                omega
            have hnext2 : ∀ hk : q + 1 < (pagesF M 0).length, (pagesF M 0)[q] + 1 ≤ (pagesF M 0)[q + 1] := fun hk => by
              have := sorted_at hsrt.out (show q < q + 1 by omega) hk
              omega
            have hge : ¬ (((pagesF M 0)[q] : Nat) : Int) < (at' : Int) := by have := hhi hqlt; omega
            have hge2 : decide ((((pagesF M 0)[q] : Nat) : Int) < (at' : Int)) = false := decide_eq_false hge
            have hge3 : ¬ (pagesF M 0)[q] < at' := by omega
            have hge4 : decide ((pagesF M 0)[q] < at') = false := decide_eq_false hge3
            have hfr := tw_from hSx (at' : Nat) (by omega)
            rw [hfa.1, hfa.2] at hfr
            unfold spotP at hfr
            have HN1 := Lib.hid (And.intro hnext (And.intro hnext2 hpg))
            have HSX := Lib.hid (And.intro hSx (And.intro hRx (And.intro hglt (And.intro hBg hat))))
            clear hSx hRx hlo hhi hnext hnext2 hfa hge hglt hBg
            have hpg' := hpg
            generalize hpk : (pagesF M 0)[q] = pk at *
            generalize M pk = z at *
            obtain ⟨za, zb, zc, zd, zn⟩ := z
            simp only [List.toArray] at hfr x0 x1 x2 x3 x4 x5
            have HFR := Lib.hid hfr
            have he := eq_sp pk za zb zc zd zn
            have hq8 : (q : Int) < ((pagesF M 0).length : Int) := by omega
            clear hfr hpk
            go_upto_region 16 with (go_at_call 23; refine HFR.out.mono ?_; rintro e v4 ⟨rfl, hb4⟩; have HB4 := Lib.hid hb4; clear hb4)
            have hbV := HB4.out.alloc HB4.out.size (.cells #[.int .i64 (pk : Nat), .bool za, .bool zb, .bool zc, .bool zd, .int .i64 zn] 47)
            have kV := Blk.new v4 47 #[.int .i64 (pk : Nat), .bool za, .bool zb, .bool zc, .bool zd, .int .i64 zn]
            replace x0 := (hbV.cell (p := ⟨g3, R, none⟩) HSX.out.2.2.1).trans x0
            replace x1 := (hbV.cell (p := ⟨g3, R + 1, none⟩) HSX.out.2.2.1).trans x1
            replace x2 := (hbV.cell (p := ⟨g3, R + 2, none⟩) HSX.out.2.2.1).trans x2
            replace x3 := (hbV.cell (p := ⟨g3, R + 3, none⟩) HSX.out.2.2.1).trans x3
            replace x4 := (hbV.cell (p := ⟨g3, R + 4, none⟩) HSX.out.2.2.1).trans x4
            replace x5 := (hbV.cell (p := ⟨g3, R + 5, none⟩) HSX.out.2.2.1).trans x5
            have HV := Lib.hid (And.intro (HSX.out.1.on hbV) (HSX.out.2.1.below hbV))
            obtain ⟨V4, hV4⟩ : ∃ V4, v4.alloc (.cells #[.int .i64 (pk : Nat), .bool za, .bool zb, .bool zc, .bool zd, .int .i64 zn] 47) = V4 := ⟨_, rfl⟩
            obtain ⟨bb, hbb⟩ : ∃ bb, v4.heap.size = bb := ⟨_, rfl⟩
            rw [hV4] at kV x0 x1 x2 x3 x4 x5 HV ⊢
            rw [hbb] at kV ⊢
            have z0 : V4.cell? ⟨bb, 0, none⟩ = some (.int .i64 (pk : Nat)) := kV.at_ 0 _ rfl
            have z1 : V4.cell? ⟨bb, 1, none⟩ = some (.bool za) := kV.at_ 1 _ rfl
            have z2 : V4.cell? ⟨bb, 2, none⟩ = some (.bool zb) := kV.at_ 2 _ rfl
            have z3 : V4.cell? ⟨bb, 3, none⟩ = some (.bool zc) := kV.at_ 3 _ rfl
            have z4 : V4.cell? ⟨bb, 4, none⟩ = some (.bool zd) := kV.at_ 4 _ rfl
            have z5 : V4.cell? ⟨bb, 5, none⟩ = some (.int .i64 zn) := kV.at_ 5 _ rfl
            clear kV hbV HB4 hV4 hbb HSX
            go_quiet (fail)
            go_wp2
            go_roundw
            case rel => exact ⟨q + 1, pk + 1, by omega, by go_num, by go_num, by have := HN1.out.2.2; omega, HN1.out.1, HN1.out.2.1, HV.out.1.drewN _, HV.out.2⟩
            case measure => simp [intOf]; omega
          · obtain rfl : q = (pagesF M 0).length := by omega
            have hfe := fr_end (M := M) (low := (at' : Nat)) (by omega) (fun j hj => by have := hlo j hj hj; omega)
            have hf1 := tw_from hSx (at' : Nat) (by omega)
            rw [hfe.1, hfe.2] at hf1
            unfold zspot at hf1
            have HF1 := Lib.hid hf1
            have HSX := Lib.hid (And.intro hSx hRx)
            have hsl8 := hsl
            clear hf1 hfe hSx hRx hlo hhi hat
            rcases first_or K (pagesF M 0) with hall | ⟨i0, hi0, hge0, hlt0⟩
            · have hfk := fr_end (M := M) (low := (K : Nat)) (by omega) (fun j hj => by have := hall j hj; omega)
              have HF2 := Lib.hid (fun v (s : Tw w v t p h g 200 M) => (tw_from s (K : Nat) (by omega)).mono (R' := fun e v' => e = .returned (.tuple #[.agg #[.int .i64 0, .bool false, .bool false, .bool false, .bool false, .int .i64 0], .bool false]) ∧ Below v.heap.size v v') fun e v' ⟨he, hb⟩ => ⟨by rw [he, hfk.1, hfk.2]; rfl, hb⟩)
              have HALLK := Lib.hid hall
              clear hfk hall
              go_wp2_with (first
                | (go_at_call 23; refine HF1.out.mono ?_; rintro e v4 ⟨rfl, hb4⟩; clear HF1
                   have hb5 := hb4.alloc hb4.size (.cells #[.int .i64 0, .bool false, .bool false, .bool false, .bool false, .int .i64 0] 47)
                   have hS5 := HSX.out.1.on hb5
                   have HR5 := Lib.hid (HSX.out.2.below hb5)
                   clear hb4 hb5)
                | (go_at_call 23; refine (HF2.out _ hS5).mono ?_; rintro e v6 ⟨rfl, hb6⟩
                   have hb7 := hb6.alloc hb6.size (.cells #[.int .i64 0, .bool false, .bool false, .bool false, .bool false, .int .i64 0] 47)
                   have HV := Lib.hid (And.intro (hS5.on hb7).bel (And.intro (HR5.out.below hb7) (Blk.new v6 47 #[.int .i64 0, .bool false, .bool false, .bool false, .bool false, .int .i64 0])))
                   clear hb6 hb7 hS5))
              obtain ⟨bb, hbb⟩ : ∃ bb, v6.heap.size = bb := ⟨_, rfl⟩
              obtain ⟨V, hV⟩ : ∃ V, v6.alloc (.cells #[.int .i64 0, .bool false, .bool false, .bool false, .bool false, .int .i64 0] 47) = V := ⟨_, rfl⟩
              rw [hV] at HV ⊢
              rw [hbb] at HV ⊢
              clear hV hbb HSX HF2
              go_loopw [18] (fun i wx => ∃ k : Nat, k ≤ (pagesF M 0).length ∧ i = .int .i64 k ∧ wx = V) (fun i _ => (pagesF M 0).length - (intOf i).toNat)
              case atStart => exact ⟨0, Nat.zero_le _, rfl, rfl⟩
              case round =>
                obtain ⟨q, hq, rfl, rfl⟩ := hrel
                by_cases hqlt : q < (pagesF M 0).length
                · obtain ⟨g3, o3, R, rfl, hBg, hglt, hR, x0, x1, x2, x3, x4, x5⟩ := HV.out.2.1.at_ (i := q) (by rw [spotsF_length]; exact hqlt)
                  rw [spotsF_at] at x0
                  simp only at x0
                  have hlt3 : ¬ K ≤ (pagesF M 0)[q] := by have := HALLK.out q hqlt; omega
                  have hq8 : (q : Int) < ((pagesF M 0).length : Int) := by omega
                  generalize (pagesF M 0)[q] = pk at *
                  have hlt4 : decide (K ≤ pk) = false := decide_eq_false hlt3
                  have hlt5 : ¬ ((K : Int) ≤ (pk : Int)) := by omega
                  have hlt6 : decide ((K : Int) ≤ (pk : Int)) = false := decide_eq_false hlt5
                  clear x1 x2 x3 x4 x5 hBg
                  go_wp2
                  go_roundw
                  case rel => exact ⟨q + 1, by omega, by go_num, by first | trivial | rfl⟩
                  case measure => simp [intOf]; omega
                · obtain rfl : q = (pagesF M 0).length := by omega
                  go_wp2
                  go_ret
                  exact ⟨rfl, HV.out.1⟩
            · have hfk := fr_at (M := M) (i := i0) (low := (K : Nat)) (by omega) hi0 (fun j hj => by have := hlt0 j hj; omega) (by omega)
              obtain ⟨pk, hpk⟩ : ∃ pk, (pagesF M 0)[i0] = pk := ⟨_, rfl⟩
              rw [hpk] at hfk hge0
              unfold spotP at hfk
              obtain ⟨z, hz⟩ : ∃ z, M pk = z := ⟨_, rfl⟩
              rw [hz] at hfk
              obtain ⟨za, zb, zc, zd, zn⟩ := z
              simp only [List.toArray] at hfk
              have HF2 := Lib.hid (fun v (s : Tw w v t p h g 200 M) => (tw_from s (K : Nat) (by omega)).mono (R' := fun e v' => e = .returned (.tuple #[.agg #[.int .i64 (pk : Nat), .bool za, .bool zb, .bool zc, .bool zd, .int .i64 zn], .bool true]) ∧ Below v.heap.size v v') fun e v' ⟨he, hb⟩ => ⟨by rw [he, hfk.1, hfk.2], hb⟩)
              have HL := Lib.hid (And.intro hlt0 (And.intro hpk hz))
              clear hfk hlt0 hpk hz
              go_wp2_with (first
                | (go_at_call 23; refine HF1.out.mono ?_; rintro e v4 ⟨rfl, hb4⟩; clear HF1
                   have hb5 := hb4.alloc hb4.size (.cells #[.int .i64 0, .bool false, .bool false, .bool false, .bool false, .int .i64 0] 47)
                   have hS5 := HSX.out.1.on hb5
                   have HR5 := Lib.hid (HSX.out.2.below hb5)
                   clear hb4 hb5)
                | (go_at_call 23; refine (HF2.out _ hS5).mono ?_; rintro e v6 ⟨rfl, hb6⟩
                   have hb7 := hb6.alloc hb6.size (.cells #[.int .i64 (pk : Nat), .bool za, .bool zb, .bool zc, .bool zd, .int .i64 zn] 47)
                   have HV := Lib.hid (And.intro (hS5.on hb7).bel (And.intro (HR5.out.below hb7) (Blk.new v6 47 #[.int .i64 (pk : Nat), .bool za, .bool zb, .bool zc, .bool zd, .int .i64 zn])))
                   clear hb6 hb7 hS5))
              obtain ⟨bb, hbb⟩ : ∃ bb, v6.heap.size = bb := ⟨_, rfl⟩
              obtain ⟨V, hV⟩ : ∃ V, v6.alloc (.cells #[.int .i64 (pk : Nat), .bool za, .bool zb, .bool zc, .bool zd, .int .i64 zn] 47) = V := ⟨_, rfl⟩
              rw [hV] at HV ⊢
              rw [hbb] at HV ⊢
              clear hV hbb HSX HF2
              go_loopw [18] (fun i wx => ∃ k : Nat, k ≤ i0 ∧ i = .int .i64 k ∧ wx = V) (fun i _ => (pagesF M 0).length - (intOf i).toNat)
              case atStart => exact ⟨0, Nat.zero_le _, rfl, rfl⟩
              case round =>
                obtain ⟨q, hq, rfl, rfl⟩ := hrel
                have hqlt : q < (pagesF M 0).length := by omega
                have hq8 : (q : Int) < ((pagesF M 0).length : Int) := by omega
                obtain ⟨g3, o3, R, rfl, hBg, hglt, hR, x0, x1, x2, x3, x4, x5⟩ := HV.out.2.1.at_ (i := q) (by rw [spotsF_length]; exact hqlt)
                rw [spotsF_at] at x0 x1 x2 x3 x4 x5
                simp only at x0 x1 x2 x3 x4 x5
                by_cases hqi : q < i0
                · have hlt3 : ¬ K ≤ (pagesF M 0)[q] := by have := HL.out.1 q hqi; omega
                  generalize (pagesF M 0)[q] = pq at *
                  have hlt4 : decide (K ≤ pq) = false := decide_eq_false hlt3
                  have hlt5 : ¬ ((K : Int) ≤ (pq : Int)) := by omega
                  have hlt6 : decide ((K : Int) ≤ (pq : Int)) = false := decide_eq_false hlt5
                  clear x1 x2 x3 x4 x5 hBg
                  go_wp2
                  go_roundw
                  case rel => exact ⟨q + 1, by omega, by go_num, by first | trivial | rfl⟩
                  case measure => simp [intOf]; omega
                · obtain rfl : q = i0 := by omega
                  rw [HL.out.2.1] at x0 x1 x2 x3 x4 x5
                  rw [HL.out.2.2] at x1 x2 x3 x4 x5
                  simp only at x1 x2 x3 x4 x5
                  have z0 : wr.cell? ⟨bb, 0, none⟩ = some (.int .i64 (pk : Nat)) := HV.out.2.2.at_ 0 _ rfl
                  have z1 : wr.cell? ⟨bb, 1, none⟩ = some (.bool za) := HV.out.2.2.at_ 1 _ rfl
                  have z2 : wr.cell? ⟨bb, 2, none⟩ = some (.bool zb) := HV.out.2.2.at_ 2 _ rfl
                  have z3 : wr.cell? ⟨bb, 3, none⟩ = some (.bool zc) := HV.out.2.2.at_ 3 _ rfl
                  have z4 : wr.cell? ⟨bb, 4, none⟩ = some (.bool zd) := HV.out.2.2.at_ 4 _ rfl
                  have z5 : wr.cell? ⟨bb, 5, none⟩ = some (.int .i64 zn) := HV.out.2.2.at_ 5 _ rfl
                  have hge4 : decide (K ≤ pk) = true := decide_eq_true hge0
                  have hge5 : (K : Int) ≤ (pk : Int) := by omega
                  have he := eq_sp pk za zb zc zd zn
                  have HW := Lib.hid HV.out.1
                  clear HV HL hBg
                  go_upto_region 25 with fail
                  go_quiet (fail)
                  go_wp2
                  go_ret
                  exact ⟨rfl, Below.drewN HW.out _⟩

set_option maxRecDepth 100000 in
theorem lifted (os : Os) (started : os.Started) (H : Type) (enc : TypeId × Value → H) :
    ReturnsInHanded {} Tryd.checked os 9 .any (fun w args => (Rows.radixFromSpec.pre enc Tryd.prog Tryd.f9 Rows.radixFromRow.domain false w args ∧ laidMet Tryd.prog Rows.radixFromRow.laid w) ∧ sizedMet enc Tryd.prog Tryd.f9 (OpenSpec.ofChange Rows.radixFromSpec) false w args) (Rows.radixFromSpec.post enc Tryd.prog Tryd.f9 false true false false) := by
  refine returnsInHanded_of_change_and (C := Tryd.checked) (X := fun w _ => laidMet Tryd.prog Rows.radixFromRow.laid w) (fun _ _ _ hh h => h.of_heap hh) own started (by kernel_rfl) Tryd.func9
    (ChangeSpec.witness_at (enc := enc) (C := Tryd.checked) (os := os) (X := fun w _ => laidMet Tryd.prog Rows.radixFromRow.laid w) false (laidWorld os) #[.slice none 0 0, .int .i64 0] 8 rfl (by kernel_rfl) (by kernel_rfl) (by kernel_rfl) (by kernel_rfl) (by kernel_rfl) (laid_met os _)) ?_
  intro W base args ds gs before hval0 hW hcnd _ hL _
  have hval : ∀ (j : Nat) t v, Tryd.f9.params[j]? = some t → args[j]? = some v → Value.okWide Tryd.prog W .any base t v := hval0
  have hW' := hW
  obtain ⟨p, q, hA0, hV, rfl, hfz, hnd⟩ := hW
  have hA : DataW.TrodAll enc Tryd.prog W 0 (fun _ => true) true Tryd.f9.params.toList args.toList ds p := hA0
  rw [Tryd.params9] at hA hval
  obtain ⟨v0, vs0, d0, ds0, p0, q0, hargs, rfl, rfl, h0, r0⟩ := trodAll_cons hA
  obtain ⟨v1, vs1, d1, ds1, p1, q1, rfl, rfl, rfl, h1, r1⟩ := trodAll_cons r0
  obtain ⟨rfl, rfl, rfl⟩ := trodAll_nil r1
  obtain rfl : args = #[v0, v1] := by cases args; simp_all
  obtain ⟨rfl, rfl⟩ := trodVars_none hV
  have k0 := h0
  have lt0 : ∀ x ∈ p0, x.block < W.heap.size := by obtain ⟨m, hm⟩ := k0; exact DataW.trod_lt m _ _ _ hm
  obtain ⟨LA0, Ll0, Lc0, rfl, Lm0, Lr0⟩ := openInts7 (hval 0 58 v0 rfl rfl) h0
  have k1 := h1
  have lt1 : ∀ x ∈ p1, x.block < W.heap.size := by obtain ⟨m, hm⟩ := k1; exact DataW.trod_lt m _ _ _ hm
  obtain ⟨a1, rfl, _, _, w1⟩ := open_int Tryd.underlying3 (hval 1 3 v1 rfl rfl) h1
  clear hA0 hval0
  refine (walk LA0 Ll0 Lc0 a1 W Lm0 Lr0 w1 (tab_of_laid hL)).mono fun e W' ⟨he, bel⟩ => ?_
  subst he
  exact ⟨_, rfl, _, _, _, [], _, [], hW', trodAll_mk1 (shut_bool Tryd.underlying4 _), (trodAll_cons_mk (Below.trod laidOut (by kernel_rfl) (of_decide_eq_true (by kernel_rfl)) k0 bel lt0) (trodAll_cons_mk (Below.trod laidOut (by kernel_rfl) (of_decide_eq_true (by kernel_rfl)) k1 bel lt1) trodAll_mk0)), rfl, bel.frame _, fun h => by cases h⟩
theorem over : Rows.radixFromRow.holds Tryd.pinned (OpenSpec.ofChange Rows.radixFromSpec) :=
  OpenClaim.holds_of_wide 9 Tryd.f9 rfl rfl rfl rfl rfl rfl rfl ⟨rfl, rfl, rfl, rfl, rfl⟩ rfl rfl rfl rfl rfl (by kernel_rfl) Tryd.func9 (by kernel_rfl)
    (of_decide_eq_true (by kernel_rfl)) (by unfold Func.isWrapper; first | (rw [if_pos (by decide +kernel)]; kernel_rfl) | (rw [if_neg (by decide +kernel)]; exact ⟨rfl, rfl⟩))
    (fun os started H enc _ => lifted os started H enc)
set_option maxRecDepth 100000 in
/-- The statement. -/
theorem proved : Rows.RadixFromCardSaid :=
  Claim7.holds_tied_plain_at .later [] [.data] true _ false over (fun _ h => by cases h) (by kernel_rfl) (fun _ h => by cases h) radixFrom_row_tie rfl ⟨rfl, rfl⟩ (by kernel_rfl) rfl
    (fun f fn hf hfn => by
      obtain rfl : f = 9 := Option.some.inj (hf.symm.trans (by kernel_rfl))
      obtain rfl : fn = Tryd.f9 := Option.some.inj (hfn.symm.trans Tryd.func9)
      refine ⟨by kernel_rfl, fun j t ht => ?_⟩
      rw [Tryd.params9] at ht
      match j, ht with
      | 0, ht =>
        obtain rfl : t = 58 := by simpa using ht.symm
        exact (by kernel_rfl : Tryd.pinned.checked.prog.wantsStandIn 58 = false)
      | 1, ht =>
        obtain rfl : t = 3 := by simpa using ht.symm
        exact (by kernel_rfl : Tryd.pinned.checked.prog.wantsStandIn 3 = false)
      | j + 2, ht => simp at ht)
    (by kernel_rfl)
end Go.Proofs.YtbidlabhekiijaaDoor.lawFrom
