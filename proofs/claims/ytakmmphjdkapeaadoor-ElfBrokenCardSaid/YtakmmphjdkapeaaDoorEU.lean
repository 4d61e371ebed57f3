/- The reference of layer 8: Same. -/
import Derived.Test.YtakmmphjdkapeaaDoorEK
namespace Go.Proofs.YtakmmphjdkapeaaDoor
open Go.RowKit
set_option linter.unusedVariables false
set_option linter.unusedSimpArgs false

set_option maxRecDepth 100000 in
set_option maxHeartbeats 3200000 in
theorem rsame_img (x y : Img) (A D : Option Addr) (c d : Nat) (w : World) (h1 : SegRow w A x.segs) (h2 : SegRow w D y.segs) (hl : x.segs.length ≤ 100000000) (hm : y.segs.length ≤ 100000000) :
    Calls Tryd.prog 17 #[x.v A c, y.v D d] w fun e w' => e = .returned (.bool (x.same y)) ∧ Below w.heap.size w w' := by
  obtain ⟨r, hr0⟩ : ∃ r, x.same y = r := ⟨_, rfl⟩
  have hrr := hr0
  rw [Img.same_eq] at hrr
  unfold Img.same at hr0
  rw [show x.same y = r from by unfold Img.same; exact hr0]
  obtain ⟨k1, e1, l⟩ := x
  obtain ⟨k2, e2, m⟩ := y
  unfold Img.v
  simp only at *
  by_cases hlen : l.length = m.length
  · obtain ⟨n, hn⟩ : ∃ n, l.length = n := ⟨_, rfl⟩
    have hn2 : m.length = n := by omega
    rw [hn, hn2]
    obtain ⟨W, hW⟩ : ∃ W, (w.alloc (.cells #[.int .i64 k1, .int .i64 e1, .slice A n c] 24)).alloc (.cells #[.int .i64 k2, .int .i64 e2, .slice D n d] 24) = W := ⟨_, rfl⟩
    have hB : Below w.heap.size w W := by rw [← hW]; exact ((Below.refl _ _).alloc (Nat.le_refl _) _).alloc (by simp) _
    have hK1 : Blk W w.heap.size 24 #[.int .i64 k1, .int .i64 e1, .slice A n c] := by rw [← hW]; exact (Blk.new w _ _).alloc _
    have hK2 : Blk W (w.heap.size + 1) 24 #[.int .i64 k2, .int .i64 e2, .slice D n d] := by rw [← hW]; simpa using Blk.new (w.alloc (.cells #[.int .i64 k1, .int .i64 e1, .slice A n c] 24)) 24 #[.int .i64 k2, .int .i64 e2, .slice D n d]
    have HR := Lib.hid hr0
    have HD := Lib.hid hrr
    have HN := Lib.hid (And.intro hn hn2)
    have H1 := Lib.hid (h1.below hB)
    have H2 := Lib.hid (h2.below hB)
    have x0 : W.cell? ⟨w.heap.size, 0, none⟩ = some (.int .i64 k1) := hK1.at_ 0 _ rfl
    have x1 : W.cell? ⟨w.heap.size, 1, none⟩ = some (.int .i64 e1) := hK1.at_ 1 _ rfl
    have x2 : W.cell? ⟨w.heap.size, 2, none⟩ = some (.slice A n c) := hK1.at_ 2 _ rfl
    have y0 : W.cell? ⟨w.heap.size + 1, 0, none⟩ = some (.int .i64 k2) := hK2.at_ 0 _ rfl
    have y1 : W.cell? ⟨w.heap.size + 1, 1, none⟩ = some (.int .i64 e2) := hK2.at_ 1 _ rfl
    have y2 : W.cell? ⟨w.heap.size + 1, 2, none⟩ = some (.slice D n d) := hK2.at_ 2 _ rfl
    have HB := Lib.hid hB
    clear hlen hn hn2 hr0 hrr h1 h2 hK1 hK2 hB
    go_enter Tryd.func17, Tryd.ntmps17
    go_wp2
    clear hW
    go_loopw [5] (fun i wr => ∃ k q : Nat, k ≤ n ∧ i = .int .i64 k ∧ Hid (l.take k = m.take k) ∧ wr = W.drewN q) (fun i _ => n - (intOf i).toNat)
    case atStart => exact ⟨0, 0, Nat.zero_le _, rfl, Lib.hid rfl, (World.drewN_zero W).symm⟩
    case round =>
      obtain ⟨k, q, hk, rfl, ht, rfl⟩ := hrel
      by_cases hlt : k < n
      · have hk1 : k < l.length := by rw [HN.out.1]; exact hlt
        have hk2 : k < m.length := by rw [HN.out.2]; exact hlt
        obtain ⟨ad, rfl, hblt, hwf, d0, d1, d2, d3, d4, d5, d6⟩ := (H1.out).at_ hk1
        obtain ⟨ae, rfl, hblt2, hwf2, z0, z1, z2, z3, z4, z5, z6⟩ := (H2.out).at_ hk2
        have hst := take_eq_succ hk1 hk2 ht.out
        obtain ⟨s, hs⟩ : ∃ s, l[k] = s := ⟨_, rfl⟩
        obtain ⟨t, ht2⟩ : ∃ t, m[k] = t := ⟨_, rfl⟩
        have hno : s ≠ t → l ≠ m := fun h e => by subst e; rw [hs] at ht2; exact h ht2
        rw [hs] at d0 d1 d2 d3 d4 d5 d6 hst
        rw [ht2] at z0 z1 z2 z3 z4 z5 z6 hst
        have k0 : (0 : Int) ≤ (k : Int) := by omega
        have k3 : (k : Int) < (n : Int) := by omega
        by_cases hst2 : s = t
        · have HS := Lib.hid (hst hst2)
          subst hst2
          obtain ⟨a1, a2, a3, a4, a5, a6, a7⟩ := s
          simp only at *
          clear hst hno hs ht2 hwf hwf2
          go_wp2
          go_region
          all_goals
            go_wp2
            go_roundw
            case rel => exact ⟨k + 1, q + 1, by omega, by go_num, Lib.hid HS.out, rfl⟩
            case measure => simp [intOf]; omega
        · have HV := Lib.hid (show false = r from by rw [← HD.out]; exact (decide_eq_false (fun h => hno hst2 (by injection h))).symm)
          obtain ⟨a1, a2, a3, a4, a5, a6, a7⟩ := s
          obtain ⟨b1, b2, b3, b4, b5, b6, b7⟩ := t
          simp only at *
          clear hst hno hs ht2 hwf hwf2
          by_cases g1 : a1 = b1
          case neg =>
            go_wp2
            go_region
            all_goals
              go_wp2
              go_ret
              exact ⟨congrArg (fun r => Ending.returned (.bool r)) HV.out, Go.Proofs.YtakmmphjdkapeaaDoor.Below.drewN HB.out (q + 1)⟩
          subst g1
          by_cases g2 : a2 = b2
          case neg =>
            go_wp2
            go_region
            all_goals
              go_wp2
              go_ret
              exact ⟨congrArg (fun r => Ending.returned (.bool r)) HV.out, Go.Proofs.YtakmmphjdkapeaaDoor.Below.drewN HB.out (q + 1)⟩
          subst g2
          by_cases g3 : a3 = b3
          case neg =>
            go_wp2
            go_region
            all_goals
              go_wp2
              go_ret
              exact ⟨congrArg (fun r => Ending.returned (.bool r)) HV.out, Go.Proofs.YtakmmphjdkapeaaDoor.Below.drewN HB.out (q + 1)⟩
          subst g3
          by_cases g4 : a4 = b4
          case neg =>
            go_wp2
            go_region
            all_goals
              go_wp2
              go_ret
              exact ⟨congrArg (fun r => Ending.returned (.bool r)) HV.out, Go.Proofs.YtakmmphjdkapeaaDoor.Below.drewN HB.out (q + 1)⟩
          subst g4
          by_cases g5 : a5 = b5
          case neg =>
            go_wp2
            go_region
            all_goals
              go_wp2
              go_ret
              exact ⟨congrArg (fun r => Ending.returned (.bool r)) HV.out, Go.Proofs.YtakmmphjdkapeaaDoor.Below.drewN HB.out (q + 1)⟩
          subst g5
          by_cases g6 : a6 = b6
          case neg =>
            go_wp2
            go_region
            all_goals
              go_wp2
              go_ret
              exact ⟨congrArg (fun r => Ending.returned (.bool r)) HV.out, Go.Proofs.YtakmmphjdkapeaaDoor.Below.drewN HB.out (q + 1)⟩
          subst g6
          by_cases g7 : a7 = b7
          case pos => subst g7; exact absurd rfl hst2
          go_wp2
          go_region
          all_goals
            go_wp2
            go_ret
            exact ⟨congrArg (fun r => Ending.returned (.bool r)) HV.out, Go.Proofs.YtakmmphjdkapeaaDoor.Below.drewN HB.out (q + 1)⟩
      · obtain rfl : k = n := by omega
        have e := ht.out
        rw [List.take_of_length_le (by rw [HN.out.1]; exact Nat.le_refl _), List.take_of_length_le (by rw [HN.out.2]; exact Nat.le_refl _)] at e
        subst e
        by_cases hkk : k1 = k2
        · subst hkk
          by_cases he : e1 = e2
          · subst he
            have HV := Lib.hid (show true = r from by rw [← HD.out]; simp)
            go_wp2
            go_ret
            exact ⟨congrArg (fun r => Ending.returned (.bool r)) HV.out, Go.Proofs.YtakmmphjdkapeaaDoor.Below.drewN HB.out _⟩
          · have he0 : (e1 == e2) = false := by simpa using he
            have HV := Lib.hid (show false = r from by rw [← HD.out]; simp [he])
            go_wp2
            go_ret
            exact ⟨congrArg (fun r => Ending.returned (.bool r)) HV.out, Go.Proofs.YtakmmphjdkapeaaDoor.Below.drewN HB.out _⟩
        · have hk0 : (k1 == k2) = false := by simpa using hkk
          have HV := Lib.hid (show false = r from by rw [← HD.out]; simp [hkk])
          go_wp2
          go_ret
          exact ⟨congrArg (fun r => Ending.returned (.bool r)) HV.out, Go.Proofs.YtakmmphjdkapeaaDoor.Below.drewN HB.out _⟩
  · have hne : false = r := by rw [← hrr]; exact (decide_eq_false (fun e => hlen (by injection e with _ _ e; rw [e]))).symm
    have HV := Lib.hid hne
    have hb : ((l.length : Int) == (m.length : Int)) = false := by simp; omega
    have HB := Lib.hid (((Below.refl w.heap.size w).alloc (Nat.le_refl _) (.cells #[.int .i64 k1, .int .i64 e1, .slice A l.length c] 24)).alloc (by simp) (.cells #[.int .i64 k2, .int .i64 e2, .slice D m.length d] 24))
    clear hne h1 h2 hr0 hrr
    generalize l.length = a at *
    generalize m.length = b at *
    go_enter Tryd.func17, Tryd.ntmps17
    go_wp2
    go_ret
    exact ⟨congrArg (fun r => Ending.returned (.bool r)) HV.out, HB.out⟩
end Go.Proofs.YtakmmphjdkapeaaDoor
