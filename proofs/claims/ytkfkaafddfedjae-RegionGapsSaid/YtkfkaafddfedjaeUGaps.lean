/- RegionGaps: for any changes, to 10, of an empty row, and any place from, to and number of pages by their rests: what Gap tells is a gap that is none's, and no page below it begins one; where it tells none, no page does. -/
import Derived.Test.YtkfkaafddfedjaeVH
namespace Go.Proofs.Ytkfkaafddfedjae.lawGaps
open Go.ChangeShapes Go.WideShapes Go.ChangeAt Go.RowKit Go.Deep
set_option linter.unusedVariables false
set_option linter.unusedSimpArgs false

/-- Are j pages from p on none's? -/
def frB (L : List Rg) (p j : Nat) : Bool := (List.range j).all fun i => (atL L ((p + i : Nat) : Int)).isNone
theorem frB_zero (L : List Rg) (p : Nat) : frB L p 0 = true := rfl
theorem frB_succ (L : List Rg) (p j : Nat) : frB L p (j + 1) = (frB L p j && (atL L ((p + j : Nat) : Int)).isNone) := by
  unfold frB
  rw [List.range_succ, List.all_append]
  simp
theorem frB_true {L : List Rg} {p N : Nat} : frB L p N = true ↔ ∀ x : Int, (p : Int) ≤ x → x < (p : Int) + N → atL L x = none := by
  unfold frB
  rw [List.all_eq_true]
  refine ⟨fun h x h1 h2 => ?_, fun h i hi => ?_⟩
  · have := h (x - p).toNat (List.mem_range.2 (by omega))
    rw [show (((p + (x - p).toNat : Nat)) : Int) = x by omega] at this
    simpa using this
  · have := h ((p + i : Nat) : Int) (by omega) (by have := List.mem_range.1 hi; omega)
    simpa using this
/-- What a gap is, where pages are told one by one. -/
theorem gap_math {L : List Rg} (h : Asc L) {lo hi N : Nat} (hl : lo ≤ 63) (hh : hi ≤ 127) (hN : 1 ≤ N ∧ N ≤ 16) :
    (gapO L lo hi N = none ∧ ∀ p : Nat, lo ≤ p → p + N ≤ hi → frB L p N = false) ∨
    (∃ g : Nat, gapO L lo hi N = some (g : Int) ∧ lo ≤ g ∧ g + N ≤ hi ∧ frB L g N = true ∧ ∀ p : Nat, lo ≤ p → p < g → frB L p N = false) := by
  have e1 : max (lo : Int) 0 = lo := by omega
  have e2 : min (hi : Int) 4096 = hi := by omega
  obtain ⟨h1, h2, h3⟩ := gapA_ok (l := L) h (a := (lo : Int)) (n := (N : Int)) (by omega)
  have hno : ∀ p : Nat, lo ≤ p → (p : Int) < gapA L lo N → frB L p N = false := fun p p1 p2 => by
    obtain ⟨x, x1, x2, x3⟩ := h3 p (by omega) p2
    cases hf : frB L p N with
    | false => rfl
    | true =>
      have := frB_true.1 hf x x1 x2
      rw [this] at x3
      cases x3
  unfold gapO
  rw [e1, e2]
  by_cases c : (N : Int) < 1 ∨ (hi : Int) ≤ gapA L lo N ∨ (hi : Int) - gapA L lo N < N
  · left
    rw [if_pos c]
    exact ⟨rfl, fun p p1 p2 => hno p p1 (by omega)⟩
  · right
    rw [if_neg c]
    refine ⟨(gapA L lo N).toNat, by rw [show (((gapA L lo N).toNat : Nat) : Int) = gapA L lo N by omega], by omega, by omega, ?_, fun p p1 p2 => hno p p1 (by omega)⟩
    refine frB_true.2 fun x x1 x2 => h2 x (by omega) (by omega)
theorem find_there (L : List Rg) (x : Int) : (findR L x).isSome = (atL L x).isSome := by rw [← findR_at]; simp

set_option maxRecDepth 100000 in
set_option maxHeartbeats 12800000 in
theorem walk (A : Option Addr) (ops : List OpU) (c : Nat) (q0 q1 q2 : Int) (w : World) (hmax : ops.length ≤ maxLen) (hrow : OpRow w A ops) (w0 : (Lit.int .i64 q0).wf = true) (w1 : (Lit.int .i64 q1).wf = true) (w2 : (Lit.int .i64 q2).wf = true) :
    Calls Try.prog 3 #[.slice A ops.length c, .agg #[.int .i64 q0, .int .i64 q1, .int .i64 q2]] w fun e w' => e = .returned (.bool true) ∧ Below w.heap.size w w' := by
  have HAW := Lib.hid (fun v => awake_anyU v)
  obtain ⟨n, hn⟩ : ∃ n, ops.length = n := ⟨_, rfl⟩
  have hn2 : n ≤ 9223372036854775807 := by unfold maxLen at hmax; omega
  have HN := Lib.hid hn
  rw [hn]
  obtain ⟨W, hW⟩ : ∃ W, w.alloc (.cells #[.int .i64 q0, .int .i64 q1, .int .i64 q2] 23) = W := ⟨_, rfl⟩
  have b0 : Blk W w.heap.size 23 #[.int .i64 q0, .int .i64 q1, .int .i64 q2] := by rw [← hW]; exact Blk.new _ _ _
  have hbw : Below w.heap.size w W := by rw [← hW]; exact (Below.refl _ _).alloc (Nat.le_refl _) _
  have HQ := Lib.hid (fun (x : World) (hx : Below W.heap.size W x) => show x.cell? ⟨w.heap.size, 0, none⟩ = some (.int .i64 q0) ∧ x.cell? ⟨w.heap.size, 1, none⟩ = some (.int .i64 q1) ∧ x.cell? ⟨w.heap.size, 2, none⟩ = some (.int .i64 q2) ∧ Hid (Below w.heap.size w x) from ⟨(b0.below hx b0.lt).at_ 0 _ rfl, (b0.below hx b0.lt).at_ 1 _ rfl, (b0.below hx b0.lt).at_ 2 _ rfl, Lib.hid (hbw.trans (hx.mono hbw.size))⟩)
  have HOP := Lib.hid (fun (x : World) (hx : Below W.heap.size W x) => hrow.below rfl (hbw.trans (hx.mono hbw.size)))
  have HW := Lib.hid hW
  have e0 := i64_and63U q0
  have e1 := i64_and127U q1
  have e2 := i64_and15U q2
  obtain ⟨lo, hlo⟩ : ∃ x : Nat, q0 % 64 = (x : Int) := ⟨(q0 % 64).toNat, by omega⟩
  obtain ⟨hi, hhi⟩ : ∃ x : Nat, q1 % 128 = (x : Int) := ⟨(q1 % 128).toNat, by omega⟩
  obtain ⟨N, hN⟩ : ∃ x : Nat, 1 + q2 % 16 = (x : Int) := ⟨(1 + q2 % 16).toNat, by omega⟩
  have hbd : lo ≤ 63 ∧ hi ≤ 127 ∧ 1 ≤ N ∧ N ≤ 16 := by omega
  rw [hlo] at e0
  rw [hhi] at e1
  have v1 : wrap64 (1 + q2 % 16) = (N : Int) := by rw [IntWalk.wrap64_in _ (by omega)]; exact hN
  have v2 : IntKind.i64.wrap (1 + q2 % 16) = (N : Int) := by rw [IntWalk.i64_in _ (by omega)]; exact hN
  have HV := Lib.hid (And.intro e0 (And.intro e1 (And.intro e2 (And.intro v1 v2))))
  have hwl : (Lit.int .i64 (lo : Int)).wf = true := wf64 (by omega) (by omega)
  have hwh : (Lit.int .i64 (hi : Int)).wf = true := wf64 (by omega) (by omega)
  have hwn : (Lit.int .i64 (N : Int)).wf = true := wf64 (by omega) (by omega)
  have HGP := Lib.hid (fun (v : World) (L : List Rg) (A' : Option Addr) (m c' : Nat) (h : RS v A' m c' L) (ha : Asc L) => gap_any L (lo : Int) (hi : Int) (N : Int) A' m c' v h ha hwl hwh hwn)
  clear e0 e1 e2 v1 v2 hlo hhi hN w0 w1 w2 hwl hwh hwn
  clear hmax hrow hn hW b0 hbw
  go_enter Try.func3, Try.ntmps3
  go_upto_region 1 with fail
  rw [HW.out]
  go_upto_region 2 with (go_at_call 4; refine (HAW.out _).mono ?_; rintro e v1 ⟨rfl, hb1⟩)
  have HB1 := Lib.hid hb1
  clear hb1
  go_wp2
  go_loopw [6, 7] (fun lv iv wr => ∃ (i : Nat) (A' : Option Addr) (m c' : Nat), i ≤ 10 ∧ i ≤ n ∧ iv = .int .i64 i ∧ lv = .slice A' m c' ∧ Hid (∃ L, RS wr A' m c' L ∧ RowP L ∧ Below W.heap.size W wr)) (fun _ iv _ => n - (intOf iv).toNat)
  case atStart => exact ⟨0, none, 0, 0, by omega, Nat.zero_le _, rfl, rfl, Lib.hid ⟨[], RS.nil _, RowP.nil, HB1.out⟩⟩
  case round =>
    clear HB1
    obtain ⟨i, A', m, c', hi10, hin, rfl, rfl, HI⟩ := hrel
    by_cases hlt : i < n ∧ i < 10
    · obtain ⟨h1, h2⟩ := hlt
      obtain ⟨L, hrs, hrow, hbl⟩ := HI.out
      have hil : i < ops.length := by rw [HN.out]; exact h1
      obtain ⟨ad, rfl, hwf, x0, x1, x2, x3, x4, x5, x6, x7, x8, x9, x10⟩ := (HOP.out wr hbl).at_ hil
      obtain ⟨o, ho⟩ : ∃ o, ops[i] = o := ⟨_, rfl⟩
      rw [ho] at hwf x0 x1 x2 x3 x4 x5 x6 x7 x8 x9 x10
      have hsm := fun v => small_any o v
      have HOF := Lib.hid (fun (v : World) (hv : Below wr.heap.size wr v) => of_any o.small L A' m c' v (hrs.below hv) hrow.asc hwf.small)
      have HST := Lib.hid (And.intro hrs (And.intro hrow hbl))
      obtain ⟨kd, f, t, p, inn, ⟨rf, rt, rp, rk, rfl', rpg⟩⟩ := o
      unfold OpU.cs at hsm
      simp only at x0 x1 x2 x3 x4 x5 x6 x7 x8 x9 x10 hsm
      have hof := HOF.out
      unfold OpU.cs at hof
      have HSM := Lib.hid hsm
      have HOG := Lib.hid hof
      have i0 : (0 : Int) ≤ (i : Int) := by omega
      have i1 : (i : Int) < (n : Int) := by omega
      have i2 : (i : Int) < 10 := by omega
      have i3 : decide ((i : Int) < (n : Int)) = true := decide_eq_true i1
      have i4 : decide ((i : Int) < 10) = true := decide_eq_true i2
      clear hsm hof HOF hrs hrow hbl hil ho hwf
      go_upto_region 7 with (first
        | (go_at_call 5; refine (HSM.out _).mono ?_; rintro e u1 ⟨rfl, hu1⟩)
        | (go_at_call 6; refine (HOG.out _ hu1).mono ?_; rintro e u2 ⟨A2, n2, c2, en, rfl, hen, hu2⟩))
      have hbu := hu1.trans (hu2.mono hu1.size)
      have HEN := Lib.hid hen
      have HBU := Lib.hid hbu
      clear x0 x1 x2 x3 x4 x5 x6 x7 x8 x9 x10 hu1 hu2 hen hbu
      by_cases hz : en = 0
      · subst hz
        go_wp2
        go_roundw
        case rel =>
          obtain ⟨L2, h3, h4⟩ := HEN.out rfl
          obtain ⟨hrs, hrow, hbl⟩ := HST.out
          exact ⟨i + 1, A2, n2, c2, by omega, by omega, by go_num, rfl, Lib.hid ⟨L2, h3, h4, hbl.trans (HBU.out.mono hbl.size)⟩⟩
        case measure => simp [intOf]; omega
      · have hz2 : (en == 0) = false := by simpa using hz
        go_wp2
        go_roundw
        case rel =>
          obtain ⟨hrs, hrow, hbl⟩ := HST.out
          exact ⟨i + 1, A', m, c', by omega, by omega, by go_num, rfl, Lib.hid ⟨L, hrs.below HBU.out, hrow, hbl.trans (HBU.out.mono hbl.size)⟩⟩
        case measure => simp [intOf]; omega
    · have hnn : ((i : Int) < (n : Int) → ¬ (i : Int) < 10) := fun h1 h2 => hlt ⟨by omega, by omega⟩
      obtain ⟨L, hrs, hrow, hbl⟩ := HI.out
      have HST := Lib.hid (And.intro hrs (And.intro hrow hbl))
      have hdd : (((i : Int) < (n : Int) ∧ i < n) ∧ (¬ (i : Int) < 10 ∧ ¬ i < 10)) ∨ (¬ (i : Int) < (n : Int) ∧ ¬ i < n) := by
        by_cases h1 : (i : Int) < (n : Int)
        · have := hnn h1; exact .inl ⟨⟨h1, by omega⟩, this, by omega⟩
        · exact .inr ⟨h1, by omega⟩
      clear hrs hrow hbl hnn hlt
      rcases hdd with hdd | hdd
      · obtain ⟨⟨ha1, ha2⟩, ha3, ha4⟩ := hdd
        have ha5 : decide ((i : Int) < (n : Int)) = true := decide_eq_true ha1
        have ha6 : decide (i < n) = true := decide_eq_true ha2
        have ha7 : decide ((i : Int) < 10) = false := decide_eq_false ha3
        have ha8 : decide (i < 10) = false := decide_eq_false ha4
        obtain ⟨HS1, HS2, HS3⟩ := HST.out
        obtain ⟨y0, y1, y2, HB2⟩ := HQ.out wr HS3
        have HGC := Lib.hid (HGP.out wr L A' m c' HS1 HS2.asc)
        have hmath := gap_math HS2.asc (lo := lo) (hi := hi) (N := N) (by omega) (by omega) (by omega)
        obtain ⟨e0, e1, e2, v1, v2⟩ := HV.out
        rcases hmath with ⟨hg0, hgap⟩ | ⟨g, hg0, hlg, hgh, hgf, hgap0⟩
        · rw [hg0] at HGC
          have HHG := Lib.hid hgap
          clear hgap hg0 HS1 HS2 HS3
          go_upto_region 13 with (go_at_call 7; refine HGC.out.mono ?_; rintro e X ⟨rfl, hX⟩)
          clear y0 y1 y2 e0 e1 e2 v1 v2
          have hst := HST.out
          have HFI := Lib.hid (fun (v : World) (hv : Below X.heap.size X v) (x : Int) => find_any L x A' m c' v ((hst.1.below hX).below hv))
          have HBX := Lib.hid (hst.2.2.trans (hX.mono hst.2.2.size))
          have HX0 := Lib.hid (Below.refl X.heap.size X)
          have hgap := HHG.out
          clear hst hX HGC
          go_wp2
          go_loopw [15] (fun pv wr => ∃ p : Nat, lo ≤ p ∧ p ≤ 128 ∧ pv = .int .i64 p ∧ Hid (Below X.heap.size X wr)) (fun pv _ => 300 - (intOf pv).toNat)
          case atStart => exact ⟨lo, Nat.le_refl _, by omega, rfl, HX0⟩
          case round =>
            obtain ⟨p, hp0, hp1, rfl, HP⟩ := hrel
            have hbp : -9223372036854775808 ≤ (p : Int) + (N : Int) ∧ (p : Int) + (N : Int) ≤ 9223372036854775807 := by omega
            by_cases hgo : p + N ≤ hi
            · have hpn : decide ((p : Int) + (N : Int) ≤ (hi : Int)) = true := decide_eq_true (by omega)
              skip
              have hfr := hgap p hp0 hgo
              have HFR := Lib.hid hfr
              clear hfr
              have q1 : wrap64 ((p : Int) + (N : Int)) = (p : Int) + N := IntWalk.wrap64_in _ hbp
              have q2 : IntKind.i64.wrap ((p : Int) + (N : Int)) = (p : Int) + N := IntWalk.i64_in _ hbp
              have HW2 := Lib.hid (And.intro q1 q2)
              go_wp2
              clear q1 q2
              go_loopw [16, 17] (fun fv kv wq => ∃ j : Nat, j ≤ N ∧ kv = .int .i64 ((p : Int) + j) ∧ fv = .bool (frB L p j) ∧ Hid (Below X.heap.size X wq)) (fun _ kv _ => p + N - (intOf kv).toNat)
              case atStart => exact ⟨0, Nat.zero_le _, by simp, rfl, HP⟩
              case round =>
                obtain ⟨j, hj, rfl, rfl, HJ⟩ := hrel
                obtain ⟨q1, q2⟩ := HW2.out
                by_cases hjl : j < N
                · have hfi := HFI.out _ HJ.out ((p : Int) + j)
                  have hfs := frB_succ L p j
                  rw [show (((p + j : Nat)) : Int) = (p : Int) + j by omega] at hfs
                  obtain ⟨fo, hfo⟩ : ∃ fo, findR L ((p : Int) + j) = fo := ⟨_, rfl⟩
                  have hth := find_there L ((p : Int) + j)
                  rw [hfo] at hfi hth
                  obtain ⟨sm, hsm⟩ : ∃ s, fo.isSome = s := ⟨_, rfl⟩
                  rw [hsm] at hfi hth
                  have hnn : (atL L ((p : Int) + j)).isNone = !sm := by rw [hth]; simp
                  rw [hnn] at hfs
                  have HFS := Lib.hid hfs
                  have HFJ := Lib.hid hfi
                  obtain ⟨⟨zf, zt, zp, zk, zfl, zpg⟩, hz⟩ : ∃ z, fo.getD zeroR = z := ⟨_, rfl⟩
                  have hfj := HFJ.out
                  rw [hz] at hfj
                  unfold Rg.cs at hfj
                  simp only at hfj
                  have HFK := Lib.hid hfj
                  have k1 : (p : Int) + (j : Int) < (p : Int) + (N : Int) := by omega
                  have k2 : decide ((p : Int) + (j : Int) < (p : Int) + (N : Int)) = true := decide_eq_true k1
                  have hbj : -9223372036854775808 ≤ (p : Int) + (j : Int) + 1 ∧ (p : Int) + (j : Int) + 1 ≤ 9223372036854775807 := by clear q1 q2; omega
                  have k3 : wrap64 ((p : Int) + (j : Int) + 1) = (p : Int) + j + 1 := IntWalk.wrap64_in _ hbj
                  have k4 : IntKind.i64.wrap ((p : Int) + (j : Int) + 1) = (p : Int) + j + 1 := IntWalk.i64_in _ hbj
                  obtain ⟨fr, hfr⟩ : ∃ b, frB L p j = b := ⟨_, rfl⟩
                  rw [hfr] at HFS ⊢
                  clear hfi hfs hth hfo hsm hnn HFJ hz hfj hbj hfr
                  cases fr <;> cases sm
                  all_goals
                    go_wp2_with (go_at_call 8; refine HFK.out.mono ?_; rintro e w2 ⟨rfl, hw2⟩)
                    clear q1 q2 k1 k2 k3 k4
                    go_roundw
                    case rel => exact ⟨j + 1, by omega, by rw [show ((j + 1 : Nat) : Int) = (j : Int) + 1 from rfl, ← Int.add_assoc], by rw [HFS.out]; rfl, Lib.hid ((HJ.out.trans (hw2.mono HJ.out.size)).alloc (Nat.le_trans HJ.out.size hw2.size) _)⟩
                    case measure => simp [intOf]; omega
                · obtain rfl : j = N := by clear q1 q2; omega
                  have k2 : decide ((p : Int) + (j : Int) < (p : Int) + (j : Int)) = false := decide_eq_false (by clear q1 q2; omega)
                  rw [HFR.out]
                  skip
                  skip
                  all_goals
                    go_wp2
                    clear q1 q2 k2
                    go_roundw
                    case rel => exact ⟨p + 1, by omega, by omega, by go_num, HJ⟩
                    case measure => simp [intOf]; omega
            · obtain ⟨-, -, -, HBF⟩ := HQ.out wr (HBX.out.trans (HP.out.mono HBX.out.size))
              clear HFI
              have q1 : wrap64 ((p : Int) + (N : Int)) = (p : Int) + N := IntWalk.wrap64_in _ hbp
              have q2 : IntKind.i64.wrap ((p : Int) + (N : Int)) = (p : Int) + N := IntWalk.i64_in _ hbp
              have d1' : decide ((p : Int) + (N : Int) ≤ (hi : Int)) = false := decide_eq_false (by clear q1 q2; omega)
              go_wp2
              go_ret
              exact ⟨rfl, HBF.out⟩
        · have hgap : ∀ p : Nat, lo ≤ p → p ≤ g → frB L p N = decide (p = g) := fun p p1 p2 => by
            by_cases e : p = g
            · rw [e, hgf]; simp
            · rw [hgap0 p p1 (by omega)]; simp [e]
          rw [hg0] at HGC
          have HHG := Lib.hid hgap
          clear hgap hg0 HS1 HS2 HS3 hgf hgap0
          go_upto_region 13 with (go_at_call 7; refine HGC.out.mono ?_; rintro e X ⟨rfl, hX⟩)
          clear y0 y1 y2 e0 e1 e2 v1 v2
          have hst := HST.out
          have HFI := Lib.hid (fun (v : World) (hv : Below X.heap.size X v) (x : Int) => find_any L x A' m c' v ((hst.1.below hX).below hv))
          have HBX := Lib.hid (hst.2.2.trans (hX.mono hst.2.2.size))
          have HX0 := Lib.hid (Below.refl X.heap.size X)
          have hgap := HHG.out
          clear hst hX HGC
          go_wp2
          go_loopw [15] (fun pv wr => ∃ p : Nat, lo ≤ p ∧ p ≤ 128 ∧ pv = .int .i64 p ∧ Hid (Below X.heap.size X wr)) (fun pv _ => 300 - (intOf pv).toNat)
          case atStart => exact ⟨lo, Nat.le_refl _, by omega, rfl, HX0⟩
          case round =>
            obtain ⟨p, hp0, hp1, rfl, HP⟩ := hrel
            have hbp : -9223372036854775808 ≤ (p : Int) + (N : Int) ∧ (p : Int) + (N : Int) ≤ 9223372036854775807 := by omega
            by_cases hgo : p + N ≤ hi ∧ p ≤ g
            · have hpn : decide ((p : Int) + (N : Int) ≤ (hi : Int)) = true := decide_eq_true (by omega)
              have hpg : decide ((p : Int) ≤ (g : Int)) = true := decide_eq_true (by omega)
              have hfr := hgap p hp0 hgo.2
              have HFR := Lib.hid hfr
              clear hfr
              have q1 : wrap64 ((p : Int) + (N : Int)) = (p : Int) + N := IntWalk.wrap64_in _ hbp
              have q2 : IntKind.i64.wrap ((p : Int) + (N : Int)) = (p : Int) + N := IntWalk.i64_in _ hbp
              have HW2 := Lib.hid (And.intro q1 q2)
              go_wp2
              clear q1 q2
              go_loopw [16, 17] (fun fv kv wq => ∃ j : Nat, j ≤ N ∧ kv = .int .i64 ((p : Int) + j) ∧ fv = .bool (frB L p j) ∧ Hid (Below X.heap.size X wq)) (fun _ kv _ => p + N - (intOf kv).toNat)
              case atStart => exact ⟨0, Nat.zero_le _, by simp, rfl, HP⟩
              case round =>
                obtain ⟨j, hj, rfl, rfl, HJ⟩ := hrel
                obtain ⟨q1, q2⟩ := HW2.out
                by_cases hjl : j < N
                · have hfi := HFI.out _ HJ.out ((p : Int) + j)
                  have hfs := frB_succ L p j
                  rw [show (((p + j : Nat)) : Int) = (p : Int) + j by omega] at hfs
                  obtain ⟨fo, hfo⟩ : ∃ fo, findR L ((p : Int) + j) = fo := ⟨_, rfl⟩
                  have hth := find_there L ((p : Int) + j)
                  rw [hfo] at hfi hth
                  obtain ⟨sm, hsm⟩ : ∃ s, fo.isSome = s := ⟨_, rfl⟩
                  rw [hsm] at hfi hth
                  have hnn : (atL L ((p : Int) + j)).isNone = !sm := by rw [hth]; simp
                  rw [hnn] at hfs
                  have HFS := Lib.hid hfs
                  have HFJ := Lib.hid hfi
                  obtain ⟨⟨zf, zt, zp, zk, zfl, zpg⟩, hz⟩ : ∃ z, fo.getD zeroR = z := ⟨_, rfl⟩
                  have hfj := HFJ.out
                  rw [hz] at hfj
                  unfold Rg.cs at hfj
                  simp only at hfj
                  have HFK := Lib.hid hfj
                  have k1 : (p : Int) + (j : Int) < (p : Int) + (N : Int) := by omega
                  have k2 : decide ((p : Int) + (j : Int) < (p : Int) + (N : Int)) = true := decide_eq_true k1
                  have hbj : -9223372036854775808 ≤ (p : Int) + (j : Int) + 1 ∧ (p : Int) + (j : Int) + 1 ≤ 9223372036854775807 := by clear q1 q2; omega
                  have k3 : wrap64 ((p : Int) + (j : Int) + 1) = (p : Int) + j + 1 := IntWalk.wrap64_in _ hbj
                  have k4 : IntKind.i64.wrap ((p : Int) + (j : Int) + 1) = (p : Int) + j + 1 := IntWalk.i64_in _ hbj
                  obtain ⟨fr, hfr⟩ : ∃ b, frB L p j = b := ⟨_, rfl⟩
                  rw [hfr] at HFS ⊢
                  clear hfi hfs hth hfo hsm hnn HFJ hz hfj hbj hfr
                  cases fr <;> cases sm
                  all_goals
                    go_wp2_with (go_at_call 8; refine HFK.out.mono ?_; rintro e w2 ⟨rfl, hw2⟩)
                    clear q1 q2 k1 k2 k3 k4
                    go_roundw
                    case rel => exact ⟨j + 1, by omega, by rw [show ((j + 1 : Nat) : Int) = (j : Int) + 1 from rfl, ← Int.add_assoc], by rw [HFS.out]; rfl, Lib.hid ((HJ.out.trans (hw2.mono HJ.out.size)).alloc (Nat.le_trans HJ.out.size hw2.size) _)⟩
                    case measure => simp [intOf]; omega
                · obtain rfl : j = N := by clear q1 q2; omega
                  have k2 : decide ((p : Int) + (j : Int) < (p : Int) + (j : Int)) = false := decide_eq_false (by clear q1 q2; omega)
                  rw [HFR.out]
                  obtain ⟨eb, hA, hB, hC, hD⟩ : ∃ eb : Bool, decide (p = g) = eb ∧ (p == g) = eb ∧ ((p : Int) == (g : Int)) = eb ∧ decide ((p : Int) = (g : Int)) = eb := by
                    by_cases e : p = g
                    · subst e; exact ⟨true, by simp, by simp, by simp, by simp⟩
                    · have e2 : ¬ (p : Int) = (g : Int) := by clear q1 q2; omega
                      exact ⟨false, decide_eq_false e, by simpa using e, by simpa using e2, decide_eq_false e2⟩
                  rw [hA]
                  cases eb
                  all_goals
                    go_wp2
                    clear q1 q2 k2
                    go_roundw
                    case rel => exact ⟨p + 1, by omega, by omega, by go_num, HJ⟩
                    case measure => simp [intOf]; omega
            · obtain ⟨-, -, -, HBF⟩ := HQ.out wr (HBX.out.trans (HP.out.mono HBX.out.size))
              clear HFI
              have q1 : wrap64 ((p : Int) + (N : Int)) = (p : Int) + N := IntWalk.wrap64_in _ hbp
              have q2 : IntKind.i64.wrap ((p : Int) + (N : Int)) = (p : Int) + N := IntWalk.i64_in _ hbp
              have hbg : -9223372036854775808 ≤ (g : Int) + (N : Int) ∧ (g : Int) + (N : Int) ≤ 9223372036854775807 := by clear q1 q2; omega
              have q3 : wrap64 ((g : Int) + (N : Int)) = (g : Int) + N := IntWalk.wrap64_in _ hbg
              have q4 : IntKind.i64.wrap ((g : Int) + (N : Int)) = (g : Int) + N := IntWalk.i64_in _ hbg
              have j1 : decide ((lo : Int) ≤ (g : Int)) = true := decide_eq_true (by clear q1 q2 q3 q4; omega)
              have j2 : decide ((g : Int) + (N : Int) ≤ (hi : Int)) = true := decide_eq_true (by clear q1 q2 q3 q4; omega)
              have j3 : (lo : Int) ≤ (g : Int) := by clear q1 q2 q3 q4; omega
              have j4 : (g : Int) + (N : Int) ≤ (hi : Int) := by clear q1 q2 q3 q4; omega
              by_cases d1 : p + N ≤ hi
              · have d1' : decide ((p : Int) + (N : Int) ≤ (hi : Int)) = true := decide_eq_true (by clear q1 q2 q3 q4; omega)
                have d2' : decide ((p : Int) ≤ (g : Int)) = false := decide_eq_false (by clear q1 q2 q3 q4; omega)
                go_wp2
                go_ret
                exact ⟨rfl, HBF.out⟩
              · have d1' : decide ((p : Int) + (N : Int) ≤ (hi : Int)) = false := decide_eq_false (by clear q1 q2 q3 q4; omega)
                go_wp2
                go_ret
                exact ⟨rfl, HBF.out⟩
      · obtain ⟨ha1, ha2⟩ := hdd
        have ha5 : decide ((i : Int) < (n : Int)) = false := decide_eq_false ha1
        have ha6 : decide (i < n) = false := decide_eq_false ha2
        obtain ⟨HS1, HS2, HS3⟩ := HST.out
        obtain ⟨y0, y1, y2, HB2⟩ := HQ.out wr HS3
        have HGC := Lib.hid (HGP.out wr L A' m c' HS1 HS2.asc)
        have hmath := gap_math HS2.asc (lo := lo) (hi := hi) (N := N) (by omega) (by omega) (by omega)
        obtain ⟨e0, e1, e2, v1, v2⟩ := HV.out
        rcases hmath with ⟨hg0, hgap⟩ | ⟨g, hg0, hlg, hgh, hgf, hgap0⟩
        · rw [hg0] at HGC
          have HHG := Lib.hid hgap
          clear hgap hg0 HS1 HS2 HS3
          go_upto_region 13 with (go_at_call 7; refine HGC.out.mono ?_; rintro e X ⟨rfl, hX⟩)
          clear y0 y1 y2 e0 e1 e2 v1 v2
          have hst := HST.out
          have HFI := Lib.hid (fun (v : World) (hv : Below X.heap.size X v) (x : Int) => find_any L x A' m c' v ((hst.1.below hX).below hv))
          have HBX := Lib.hid (hst.2.2.trans (hX.mono hst.2.2.size))
          have HX0 := Lib.hid (Below.refl X.heap.size X)
          have hgap := HHG.out
          clear hst hX HGC
          go_wp2
          go_loopw [15] (fun pv wr => ∃ p : Nat, lo ≤ p ∧ p ≤ 128 ∧ pv = .int .i64 p ∧ Hid (Below X.heap.size X wr)) (fun pv _ => 300 - (intOf pv).toNat)
          case atStart => exact ⟨lo, Nat.le_refl _, by omega, rfl, HX0⟩
          case round =>
            obtain ⟨p, hp0, hp1, rfl, HP⟩ := hrel
            have hbp : -9223372036854775808 ≤ (p : Int) + (N : Int) ∧ (p : Int) + (N : Int) ≤ 9223372036854775807 := by omega
            by_cases hgo : p + N ≤ hi
            · have hpn : decide ((p : Int) + (N : Int) ≤ (hi : Int)) = true := decide_eq_true (by omega)
              skip
              have hfr := hgap p hp0 hgo
              have HFR := Lib.hid hfr
              clear hfr
              have q1 : wrap64 ((p : Int) + (N : Int)) = (p : Int) + N := IntWalk.wrap64_in _ hbp
              have q2 : IntKind.i64.wrap ((p : Int) + (N : Int)) = (p : Int) + N := IntWalk.i64_in _ hbp
              have HW2 := Lib.hid (And.intro q1 q2)
              go_wp2
              clear q1 q2
              go_loopw [16, 17] (fun fv kv wq => ∃ j : Nat, j ≤ N ∧ kv = .int .i64 ((p : Int) + j) ∧ fv = .bool (frB L p j) ∧ Hid (Below X.heap.size X wq)) (fun _ kv _ => p + N - (intOf kv).toNat)
              case atStart => exact ⟨0, Nat.zero_le _, by simp, rfl, HP⟩
              case round =>
                obtain ⟨j, hj, rfl, rfl, HJ⟩ := hrel
                obtain ⟨q1, q2⟩ := HW2.out
                by_cases hjl : j < N
                · have hfi := HFI.out _ HJ.out ((p : Int) + j)
                  have hfs := frB_succ L p j
                  rw [show (((p + j : Nat)) : Int) = (p : Int) + j by omega] at hfs
                  obtain ⟨fo, hfo⟩ : ∃ fo, findR L ((p : Int) + j) = fo := ⟨_, rfl⟩
                  have hth := find_there L ((p : Int) + j)
                  rw [hfo] at hfi hth
                  obtain ⟨sm, hsm⟩ : ∃ s, fo.isSome = s := ⟨_, rfl⟩
                  rw [hsm] at hfi hth
                  have hnn : (atL L ((p : Int) + j)).isNone = !sm := by rw [hth]; simp
                  rw [hnn] at hfs
                  have HFS := Lib.hid hfs
                  have HFJ := Lib.hid hfi
                  obtain ⟨⟨zf, zt, zp, zk, zfl, zpg⟩, hz⟩ : ∃ z, fo.getD zeroR = z := ⟨_, rfl⟩
                  have hfj := HFJ.out
                  rw [hz] at hfj
                  unfold Rg.cs at hfj
                  simp only at hfj
                  have HFK := Lib.hid hfj
                  have k1 : (p : Int) + (j : Int) < (p : Int) + (N : Int) := by omega
                  have k2 : decide ((p : Int) + (j : Int) < (p : Int) + (N : Int)) = true := decide_eq_true k1
                  have hbj : -9223372036854775808 ≤ (p : Int) + (j : Int) + 1 ∧ (p : Int) + (j : Int) + 1 ≤ 9223372036854775807 := by clear q1 q2; omega
                  have k3 : wrap64 ((p : Int) + (j : Int) + 1) = (p : Int) + j + 1 := IntWalk.wrap64_in _ hbj
                  have k4 : IntKind.i64.wrap ((p : Int) + (j : Int) + 1) = (p : Int) + j + 1 := IntWalk.i64_in _ hbj
                  obtain ⟨fr, hfr⟩ : ∃ b, frB L p j = b := ⟨_, rfl⟩
                  rw [hfr] at HFS ⊢
                  clear hfi hfs hth hfo hsm hnn HFJ hz hfj hbj hfr
                  cases fr <;> cases sm
                  all_goals
                    go_wp2_with (go_at_call 8; refine HFK.out.mono ?_; rintro e w2 ⟨rfl, hw2⟩)
                    clear q1 q2 k1 k2 k3 k4
                    go_roundw
                    case rel => exact ⟨j + 1, by omega, by rw [show ((j + 1 : Nat) : Int) = (j : Int) + 1 from rfl, ← Int.add_assoc], by rw [HFS.out]; rfl, Lib.hid ((HJ.out.trans (hw2.mono HJ.out.size)).alloc (Nat.le_trans HJ.out.size hw2.size) _)⟩
                    case measure => simp [intOf]; omega
                · obtain rfl : j = N := by clear q1 q2; omega
                  have k2 : decide ((p : Int) + (j : Int) < (p : Int) + (j : Int)) = false := decide_eq_false (by clear q1 q2; omega)
                  rw [HFR.out]
                  skip
                  skip
                  all_goals
                    go_wp2
                    clear q1 q2 k2
                    go_roundw
                    case rel => exact ⟨p + 1, by omega, by omega, by go_num, HJ⟩
                    case measure => simp [intOf]; omega
            · obtain ⟨-, -, -, HBF⟩ := HQ.out wr (HBX.out.trans (HP.out.mono HBX.out.size))
              clear HFI
              have q1 : wrap64 ((p : Int) + (N : Int)) = (p : Int) + N := IntWalk.wrap64_in _ hbp
              have q2 : IntKind.i64.wrap ((p : Int) + (N : Int)) = (p : Int) + N := IntWalk.i64_in _ hbp
              have d1' : decide ((p : Int) + (N : Int) ≤ (hi : Int)) = false := decide_eq_false (by clear q1 q2; omega)
              go_wp2
              go_ret
              exact ⟨rfl, HBF.out⟩
        · have hgap : ∀ p : Nat, lo ≤ p → p ≤ g → frB L p N = decide (p = g) := fun p p1 p2 => by
            by_cases e : p = g
            · rw [e, hgf]; simp
            · rw [hgap0 p p1 (by omega)]; simp [e]
          rw [hg0] at HGC
          have HHG := Lib.hid hgap
          clear hgap hg0 HS1 HS2 HS3 hgf hgap0
          go_upto_region 13 with (go_at_call 7; refine HGC.out.mono ?_; rintro e X ⟨rfl, hX⟩)
          clear y0 y1 y2 e0 e1 e2 v1 v2
          have hst := HST.out
          have HFI := Lib.hid (fun (v : World) (hv : Below X.heap.size X v) (x : Int) => find_any L x A' m c' v ((hst.1.below hX).below hv))
          have HBX := Lib.hid (hst.2.2.trans (hX.mono hst.2.2.size))
          have HX0 := Lib.hid (Below.refl X.heap.size X)
          have hgap := HHG.out
          clear hst hX HGC
          go_wp2
          go_loopw [15] (fun pv wr => ∃ p : Nat, lo ≤ p ∧ p ≤ 128 ∧ pv = .int .i64 p ∧ Hid (Below X.heap.size X wr)) (fun pv _ => 300 - (intOf pv).toNat)
          case atStart => exact ⟨lo, Nat.le_refl _, by omega, rfl, HX0⟩
          case round =>
            obtain ⟨p, hp0, hp1, rfl, HP⟩ := hrel
            have hbp : -9223372036854775808 ≤ (p : Int) + (N : Int) ∧ (p : Int) + (N : Int) ≤ 9223372036854775807 := by omega
            by_cases hgo : p + N ≤ hi ∧ p ≤ g
            · have hpn : decide ((p : Int) + (N : Int) ≤ (hi : Int)) = true := decide_eq_true (by omega)
              have hpg : decide ((p : Int) ≤ (g : Int)) = true := decide_eq_true (by omega)
              have hfr := hgap p hp0 hgo.2
              have HFR := Lib.hid hfr
              clear hfr
              have q1 : wrap64 ((p : Int) + (N : Int)) = (p : Int) + N := IntWalk.wrap64_in _ hbp
              have q2 : IntKind.i64.wrap ((p : Int) + (N : Int)) = (p : Int) + N := IntWalk.i64_in _ hbp
              have HW2 := Lib.hid (And.intro q1 q2)
              go_wp2
              clear q1 q2
              go_loopw [16, 17] (fun fv kv wq => ∃ j : Nat, j ≤ N ∧ kv = .int .i64 ((p : Int) + j) ∧ fv = .bool (frB L p j) ∧ Hid (Below X.heap.size X wq)) (fun _ kv _ => p + N - (intOf kv).toNat)
              case atStart => exact ⟨0, Nat.zero_le _, by simp, rfl, HP⟩
              case round =>
                obtain ⟨j, hj, rfl, rfl, HJ⟩ := hrel
                obtain ⟨q1, q2⟩ := HW2.out
                by_cases hjl : j < N
                · have hfi := HFI.out _ HJ.out ((p : Int) + j)
                  have hfs := frB_succ L p j
                  rw [show (((p + j : Nat)) : Int) = (p : Int) + j by omega] at hfs
                  obtain ⟨fo, hfo⟩ : ∃ fo, findR L ((p : Int) + j) = fo := ⟨_, rfl⟩
                  have hth := find_there L ((p : Int) + j)
                  rw [hfo] at hfi hth
                  obtain ⟨sm, hsm⟩ : ∃ s, fo.isSome = s := ⟨_, rfl⟩
                  rw [hsm] at hfi hth
                  have hnn : (atL L ((p : Int) + j)).isNone = !sm := by rw [hth]; simp
                  rw [hnn] at hfs
                  have HFS := Lib.hid hfs
                  have HFJ := Lib.hid hfi
                  obtain ⟨⟨zf, zt, zp, zk, zfl, zpg⟩, hz⟩ : ∃ z, fo.getD zeroR = z := ⟨_, rfl⟩
                  have hfj := HFJ.out
                  rw [hz] at hfj
                  unfold Rg.cs at hfj
                  simp only at hfj
                  have HFK := Lib.hid hfj
                  have k1 : (p : Int) + (j : Int) < (p : Int) + (N : Int) := by omega
                  have k2 : decide ((p : Int) + (j : Int) < (p : Int) + (N : Int)) = true := decide_eq_true k1
                  have hbj : -9223372036854775808 ≤ (p : Int) + (j : Int) + 1 ∧ (p : Int) + (j : Int) + 1 ≤ 9223372036854775807 := by clear q1 q2; omega
                  have k3 : wrap64 ((p : Int) + (j : Int) + 1) = (p : Int) + j + 1 := IntWalk.wrap64_in _ hbj
                  have k4 : IntKind.i64.wrap ((p : Int) + (j : Int) + 1) = (p : Int) + j + 1 := IntWalk.i64_in _ hbj
                  obtain ⟨fr, hfr⟩ : ∃ b, frB L p j = b := ⟨_, rfl⟩
                  rw [hfr] at HFS ⊢
                  clear hfi hfs hth hfo hsm hnn HFJ hz hfj hbj hfr
                  cases fr <;> cases sm
                  all_goals
                    go_wp2_with (go_at_call 8; refine HFK.out.mono ?_; rintro e w2 ⟨rfl, hw2⟩)
                    clear q1 q2 k1 k2 k3 k4
                    go_roundw
                    case rel => exact ⟨j + 1, by omega, by rw [show ((j + 1 : Nat) : Int) = (j : Int) + 1 from rfl, ← Int.add_assoc], by rw [HFS.out]; rfl, Lib.hid ((HJ.out.trans (hw2.mono HJ.out.size)).alloc (Nat.le_trans HJ.out.size hw2.size) _)⟩
                    case measure => simp [intOf]; omega
                · obtain rfl : j = N := by clear q1 q2; omega
                  have k2 : decide ((p : Int) + (j : Int) < (p : Int) + (j : Int)) = false := decide_eq_false (by clear q1 q2; omega)
                  rw [HFR.out]
                  obtain ⟨eb, hA, hB, hC, hD⟩ : ∃ eb : Bool, decide (p = g) = eb ∧ (p == g) = eb ∧ ((p : Int) == (g : Int)) = eb ∧ decide ((p : Int) = (g : Int)) = eb := by
                    by_cases e : p = g
                    · subst e; exact ⟨true, by simp, by simp, by simp, by simp⟩
                    · have e2 : ¬ (p : Int) = (g : Int) := by clear q1 q2; omega
                      exact ⟨false, decide_eq_false e, by simpa using e, by simpa using e2, decide_eq_false e2⟩
                  rw [hA]
                  cases eb
                  all_goals
                    go_wp2
                    clear q1 q2 k2
                    go_roundw
                    case rel => exact ⟨p + 1, by omega, by omega, by go_num, HJ⟩
                    case measure => simp [intOf]; omega
            · obtain ⟨-, -, -, HBF⟩ := HQ.out wr (HBX.out.trans (HP.out.mono HBX.out.size))
              clear HFI
              have q1 : wrap64 ((p : Int) + (N : Int)) = (p : Int) + N := IntWalk.wrap64_in _ hbp
              have q2 : IntKind.i64.wrap ((p : Int) + (N : Int)) = (p : Int) + N := IntWalk.i64_in _ hbp
              have hbg : -9223372036854775808 ≤ (g : Int) + (N : Int) ∧ (g : Int) + (N : Int) ≤ 9223372036854775807 := by clear q1 q2; omega
              have q3 : wrap64 ((g : Int) + (N : Int)) = (g : Int) + N := IntWalk.wrap64_in _ hbg
              have q4 : IntKind.i64.wrap ((g : Int) + (N : Int)) = (g : Int) + N := IntWalk.i64_in _ hbg
              have j1 : decide ((lo : Int) ≤ (g : Int)) = true := decide_eq_true (by clear q1 q2 q3 q4; omega)
              have j2 : decide ((g : Int) + (N : Int) ≤ (hi : Int)) = true := decide_eq_true (by clear q1 q2 q3 q4; omega)
              have j3 : (lo : Int) ≤ (g : Int) := by clear q1 q2 q3 q4; omega
              have j4 : (g : Int) + (N : Int) ≤ (hi : Int) := by clear q1 q2 q3 q4; omega
              by_cases d1 : p + N ≤ hi
              · have d1' : decide ((p : Int) + (N : Int) ≤ (hi : Int)) = true := decide_eq_true (by clear q1 q2 q3 q4; omega)
                have d2' : decide ((p : Int) ≤ (g : Int)) = false := decide_eq_false (by clear q1 q2 q3 q4; omega)
                go_wp2
                go_ret
                exact ⟨rfl, HBF.out⟩
              · have d1' : decide ((p : Int) + (N : Int) ≤ (hi : Int)) = false := decide_eq_false (by clear q1 q2 q3 q4; omega)
                go_wp2
                go_ret
                exact ⟨rfl, HBF.out⟩

set_option maxRecDepth 100000 in
theorem lifted (os : Os) (started : os.Started) (H : Type) (enc : TypeId × Value → H) :
    ReturnsInHanded {} Try.checked os 3 .any (Rows.regionGapsSpec.pre6 enc Try.prog Try.f3 Rows.regionGapsRow.domain false) (Rows.regionGapsSpec.post enc Try.prog Try.f3 false true false false) := by
  refine returnsInHanded_of_change (C := Try.checked) own started (by kernel_rfl) Try.func3
    (ChangeSpec.witness6 (enc := enc) (C := Try.checked) false ⟨#[], #[.slice none 0 0, .agg #[.int .i64 0, .int .i64 0, .int .i64 0]], []⟩ 8 (by kernel_rfl) (by kernel_rfl) (by kernel_rfl) (by kernel_rfl)) ?_
  intro W base args ds gs before hval0 hW hcnd _
  have hval : ∀ (j : Nat) t v, Try.f3.params[j]? = some t → args[j]? = some v → Value.okWide Try.prog W .any base t v := hval0
  have hW' := hW
  obtain ⟨p, q, hA0, hV, rfl, hfz, hnd⟩ := hW
  have hA : DataW.TrodAll enc Try.prog W 0 (fun _ => true) true Try.f3.params.toList args.toList ds p := hA0
  rw [Try.params3] at hA hval
  obtain ⟨v0, vs0, d0, ds0, p0, q0, hargs, rfl, rfl, h0, r0⟩ := trodAll_cons hA
  obtain ⟨v1, vs1, d1, ds1, p1, q1, rfl, rfl, rfl, h1, r1⟩ := trodAll_cons r0
  obtain ⟨rfl, rfl, rfl⟩ := trodAll_nil r1
  obtain rfl : args = #[v0, v1] := by cases args; simp_all
  obtain ⟨rfl, rfl⟩ := trodVars_none hV
  have k0 := h0
  have lt0 : ∀ x ∈ p0, x.block < W.heap.size := by obtain ⟨m, hm⟩ := k0; exact DataW.trod_lt m _ _ _ hm
  obtain ⟨LA0, Ll0, Lc0, rfl, Lm0, Lr0⟩ := open_opsU (hval 0 22 v0 rfl rfl) h0
  have k1 := h1
  have lt1 : ∀ x ∈ p1, x.block < W.heap.size := by obtain ⟨m, hm⟩ := k1; exact DataW.trod_lt m _ _ _ hm
  obtain ⟨z1, e1, hl1, hw1⟩ := open_ints_array Try.underlying23 Try.underlying3 (by kernel_rfl) (by kernel_rfl) (hval 1 23 v1 rfl rfl) h1
  obtain ⟨a1_0, a1_1, a1_2, rfl⟩ : ∃ a1_0 a1_1 a1_2, z1 = [a1_0, a1_1, a1_2] := by
    match z1, hl1 with
    | [a1_0, a1_1, a1_2], _ => exact ⟨_, _, _, rfl⟩
  obtain rfl : v1 = .agg #[.int .i64 a1_0, .int .i64 a1_1, .int .i64 a1_2] := e1
  clear hA0 hval0
  refine (walk LA0 Ll0 Lc0 a1_0 a1_1 a1_2 W Lm0 Lr0 (hw1 a1_0 (by simp)) (hw1 a1_1 (by simp)) (hw1 a1_2 (by simp))).mono fun e W' ⟨he, bel⟩ => ?_
  subst he
  exact ⟨_, rfl, _, _, _, [], _, [], hW', trodAll_mk1 (shut_bool Try.underlying4 _), (trodAll_cons_mk (Below.trod laidOut (by kernel_rfl) (of_decide_eq_true (by kernel_rfl)) k0 bel lt0) (trodAll_cons_mk (Below.trod laidOut (by kernel_rfl) (of_decide_eq_true (by kernel_rfl)) k1 bel lt1) trodAll_mk0)), rfl, bel.frame _, fun h => by cases h⟩
theorem over : Rows.regionGapsRow.holds Try.pinned (OpenSpec.ofChange Rows.regionGapsSpec) :=
  OpenClaim.holds_of_wide 3 Try.f3 rfl rfl rfl rfl rfl rfl rfl ⟨rfl, rfl, rfl, rfl, rfl⟩ rfl rfl rfl rfl rfl (by kernel_rfl) Try.func3 (by kernel_rfl)
    (of_decide_eq_true (by kernel_rfl)) (by unfold Func.isWrapper; first | (rw [if_pos (by decide +kernel)]; kernel_rfl) | (rw [if_neg (by decide +kernel)]; exact ⟨rfl, rfl⟩))
    (fun os started H enc _ => lifted os started H enc)
/-- The statement. -/
theorem proved : Rows.RegionGapsSaid := over
end Go.Proofs.Ytkfkaafddfedjae.lawGaps
