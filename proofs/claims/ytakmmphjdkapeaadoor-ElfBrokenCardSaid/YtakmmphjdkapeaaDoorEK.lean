/- Package elf: Same. -/
import Derived.Test.YtakmmphjdkapeaaDoorEI
import Derived.Laws.StructEq
import Derived.Laws.Build
namespace Go.Proofs.YtakmmphjdkapeaaDoor
open Go.RowKit
set_option linter.unusedVariables false
set_option linter.unusedSimpArgs false

theorem take_eq_succ {l m : List Seg} {k : Nat} (h1 : k < l.length) (h2 : k < m.length) (h : l.take k = m.take k) (he : l[k] = m[k]) : l.take (k + 1) = m.take (k + 1) := by
  rw [List.take_succ_eq_append_getElem h1, List.take_succ_eq_append_getElem h2, h, he]

set_option maxRecDepth 100000 in
set_option maxHeartbeats 1600000 in
theorem sequal_any (l m : List Seg) (A D : Option Addr) (c d : Nat) (w : World) (h1 : SegRow w A l) (h2 : SegRow w D m) (hl : l.length ≤ 100000000) (hm : m.length ≤ 100000000) :
    Calls Tryd.prog 40 #[.slice A l.length c, .slice D m.length d] w fun e w' => e = .returned (.bool (decide (l = m))) ∧ Below w.heap.size w w' := by
  by_cases hlen : l.length = m.length
  · obtain ⟨n, hn⟩ : ∃ n, l.length = n := ⟨_, rfl⟩
    have hn2 : m.length = n := by omega
    obtain ⟨r, hr0⟩ : ∃ r, decide (l = m) = r := ⟨_, rfl⟩
    rw [hr0, hn2, hn]
    have HR := Lib.hid hr0
    have HN := Lib.hid (And.intro hn hn2)
    have H1 := Lib.hid h1
    have H2 := Lib.hid h2
    clear hlen hn hn2 hr0 h1 h2
    go_enter Tryd.func40, Tryd.ntmps40
    go_wp2
    go_loopw [13] (fun i wr => ∃ k q : Nat, k ≤ n ∧ i = .int .i64 k ∧ Hid (l.take k = m.take k) ∧ wr = w.drewN q) (fun i _ => n - (intOf i).toNat)
    case atStart => exact ⟨0, 0, Nat.zero_le _, rfl, Lib.hid rfl, (World.drewN_zero w).symm⟩
    case round =>
      obtain ⟨k, q, hk, rfl, ht, rfl⟩ := hrel
      by_cases hlt : k < n
      · have hk1 : k < l.length := by rw [HN.out.1]; exact hlt
        have hk2 : k < m.length := by rw [HN.out.2]; exact hlt
        obtain ⟨ad, rfl, hblt, hwf, d0, d1, d2, d3, d4, d5, d6⟩ := (H1.out).at_ hk1
        obtain ⟨ae, rfl, hblt2, hwf2, e0, e1, e2, e3, e4, e5, e6⟩ := (H2.out).at_ hk2
        have hst := take_eq_succ hk1 hk2 ht.out
        obtain ⟨s, hs⟩ : ∃ s, l[k] = s := ⟨_, rfl⟩
        obtain ⟨t, ht2⟩ : ∃ t, m[k] = t := ⟨_, rfl⟩
        have hno : s ≠ t → l ≠ m := fun h e => by subst e; rw [hs] at ht2; exact h ht2
        rw [hs] at d0 d1 d2 d3 d4 d5 d6 hst
        rw [ht2] at e0 e1 e2 e3 e4 e5 e6 hst
        have k0 : (0 : Int) ≤ (k : Int) := by omega
        have k1 : (k : Int) < (n : Int) := by omega
        by_cases hst2 : s = t
        · have HS := Lib.hid (hst hst2)
          subst hst2
          obtain ⟨a1, a2, a3, a4, a5, a6, a7⟩ := s
          simp only at *
          clear hst hno hs ht2 hwf hwf2
          go_wp2
          go_region
          all_goals
            go_wp2
            go_roundw
          case rel => exact ⟨k + 1, q + 1, by omega, by go_num, Lib.hid HS.out, rfl⟩
          case measure => simp [intOf]; omega
        · have HV := Lib.hid (show false = r from by rw [← HR.out]; exact (decide_eq_false (hno hst2)).symm)
          obtain ⟨a1, a2, a3, a4, a5, a6, a7⟩ := s
          obtain ⟨b1, b2, b3, b4, b5, b6, b7⟩ := t
          simp only at *
          clear hst hno hs ht2 hwf hwf2
          by_cases g1 : a1 = b1
          case neg =>
            go_wp2
            go_region
            all_goals
              go_wp2
              go_ret
              exact ⟨congrArg (fun r => Ending.returned (.bool r)) HV.out, Go.Proofs.YtakmmphjdkapeaaDoor.Below.drewN (Below.refl _ _) (q + 1)⟩
          subst g1
          by_cases g2 : a2 = b2
          case neg =>
            go_wp2
            go_region
            all_goals
              go_wp2
              go_ret
              exact ⟨congrArg (fun r => Ending.returned (.bool r)) HV.out, Go.Proofs.YtakmmphjdkapeaaDoor.Below.drewN (Below.refl _ _) (q + 1)⟩
          subst g2
          by_cases g3 : a3 = b3
          case neg =>
            go_wp2
            go_region
            all_goals
              go_wp2
              go_ret
              exact ⟨congrArg (fun r => Ending.returned (.bool r)) HV.out, Go.Proofs.YtakmmphjdkapeaaDoor.Below.drewN (Below.refl _ _) (q + 1)⟩
          subst g3
          by_cases g4 : a4 = b4
          case neg =>
            go_wp2
            go_region
            all_goals
              go_wp2
              go_ret
              exact ⟨congrArg (fun r => Ending.returned (.bool r)) HV.out, Go.Proofs.YtakmmphjdkapeaaDoor.Below.drewN (Below.refl _ _) (q + 1)⟩
          subst g4
          by_cases g5 : a5 = b5
          case neg =>
            go_wp2
            go_region
            all_goals
              go_wp2
              go_ret
              exact ⟨congrArg (fun r => Ending.returned (.bool r)) HV.out, Go.Proofs.YtakmmphjdkapeaaDoor.Below.drewN (Below.refl _ _) (q + 1)⟩
          subst g5
          by_cases g6 : a6 = b6
          case neg =>
            go_wp2
            go_region
            all_goals
              go_wp2
              go_ret
              exact ⟨congrArg (fun r => Ending.returned (.bool r)) HV.out, Go.Proofs.YtakmmphjdkapeaaDoor.Below.drewN (Below.refl _ _) (q + 1)⟩
          subst g6
          by_cases g7 : a7 = b7
          case pos => subst g7; exact absurd rfl hst2
          go_wp2
          go_region
          all_goals
            go_wp2
            go_ret
            exact ⟨congrArg (fun r => Ending.returned (.bool r)) HV.out, Go.Proofs.YtakmmphjdkapeaaDoor.Below.drewN (Below.refl _ _) (q + 1)⟩
      · obtain rfl : k = n := by omega
        have HV := Lib.hid (show true = r from by
          have e := ht.out
          rw [List.take_of_length_le (by rw [HN.out.1]; exact Nat.le_refl _), List.take_of_length_le (by rw [HN.out.2]; exact Nat.le_refl _)] at e
          rw [← HR.out]
          exact (decide_eq_true e).symm)
        go_wp2
        go_ret
        exact ⟨congrArg (fun r => Ending.returned (.bool r)) HV.out, Go.Proofs.YtakmmphjdkapeaaDoor.Below.drewN (Below.refl _ _) _⟩
  · have hne : decide (l = m) = false := decide_eq_false (fun e => hlen (by rw [e]))
    rw [hne]
    have hb : ((l.length : Int) == (m.length : Int)) = false := by simp; omega
    clear hne h1 h2
    generalize l.length = a at *
    generalize m.length = b at *
    go_enter Tryd.func40, Tryd.ntmps40
    go_wp2
    go_ret
    exact ⟨rfl, Below.refl _ _⟩

/-- Are two images the same? -/
def Img.same (x y : Img) : Bool := x.kind == y.kind && x.entry == y.entry && decide (x.segs = y.segs)
theorem Img.same_eq (x y : Img) : x.same y = decide (x = y) := by
  obtain ⟨a, b, c⟩ := x
  obtain ⟨d, e, f⟩ := y
  rw [Bool.eq_iff_iff]
  simp [Img.same, and_assoc]

set_option maxHeartbeats 1600000 in
theorem same_img (x y : Img) (A D : Option Addr) (c d : Nat) (w : World) (h1 : SegRow w A x.segs) (h2 : SegRow w D y.segs) (hl : x.segs.length ≤ 100000000) (hm : y.segs.length ≤ 100000000) :
    Calls Tryd.prog 16 #[x.v A c, y.v D d] w fun e w' => e = .returned (.bool (x.same y)) ∧ Below w.heap.size w w' := by
  obtain ⟨W, hW⟩ : ∃ W, (w.alloc (.cells (x.cs A c) 24)).alloc (.cells (y.cs D d) 24) = W := ⟨_, rfl⟩
  have hB : Below w.heap.size w W := by rw [← hW]; exact ((Below.refl _ _).alloc (Nat.le_refl _) _).alloc (by simp) _
  have hK1 : Blk W w.heap.size 24 (x.cs A c) := by rw [← hW]; exact (Blk.new w _ _).alloc _
  have hK2 : Blk W (w.heap.size + 1) 24 (y.cs D d) := by rw [← hW]; simpa using Blk.new (w.alloc (.cells (x.cs A c) 24)) 24 (y.cs D d)
  have hse := sequal_any x.segs y.segs A D c d W (h1.below hB) (h2.below hB) hl hm
  obtain ⟨x0, x1, x2⟩ := img_cells hK1
  obtain ⟨y0, y1, y2⟩ := img_cells hK2
  have HB := Lib.hid hB
  obtain ⟨q, hq⟩ : ∃ q, decide (x.segs = y.segs) = q := ⟨_, rfl⟩
  unfold Img.same
  rw [hq] at hse ⊢
  obtain ⟨k1, e1, s1⟩ := x
  obtain ⟨k2, e2, s2⟩ := y
  unfold Img.v
  unfold Img.cs at *
  simp only at *
  have HS := Lib.hid hse
  clear hB hK1 hK2 hse hq h1 h2 hl hm
  subst hW
  by_cases hk : k1 = k2
  · subst hk
    by_cases he : e1 = e2
    · subst he
      go_enter Tryd.func16, Tryd.ntmps16
      go_wp2_with (go_at_call 40; refine HS.out.mono ?_; rintro e v1 ⟨rfl, hb⟩)
      go_ret
      exact ⟨by simp, HB.out.trans (hb.mono HB.out.size)⟩
    · have he0 : (e1 == e2) = false := by simpa using he
      go_enter Tryd.func16, Tryd.ntmps16
      go_wp2_with fail
      go_ret
      exact ⟨by simp [he0], HB.out⟩
  · have hk0 : (k1 == k2) = false := by simpa using hk
    go_enter Tryd.func16, Tryd.ntmps16
    go_wp2_with fail
    go_ret
    exact ⟨by simp [hk0], HB.out⟩
end Go.Proofs.YtakmmphjdkapeaaDoor
