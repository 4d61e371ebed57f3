/- Package elf: stand. -/
import Derived.Test.YtakmmphjdkapeaaDoorEF
namespace Go.Proofs.YtakmmphjdkapeaaDoor
open Go.RowKit
set_option linter.unusedVariables false
set_option linter.unusedSimpArgs false

theorem rises_may {size : Int} : ∀ {l : List Seg} {e : Int}, rises size e l = true → ∀ s, s ∈ l → s.May size
  | s :: l, e, h, t, ht => by
    unfold rises at h
    rw [Bool.and_eq_true] at h
    rcases List.mem_cons.1 ht with rfl | ht
    · exact Seg.may_iff.1 h.1
    · have h2 := h.2
      split at h2
      · rw [Bool.and_eq_true] at h2
        exact rises_may h2.2 t ht
      · exact rises_may h2 t ht
theorem stand_may {l : List Seg} {size : Int} (h : standS l size = true) : ∀ s, s ∈ l → s.May size := by
  unfold standS at h
  simp only [Bool.and_eq_true] at h
  exact rises_may h.1.1
theorem loads_take {l : List Seg} {k : Nat} (h : k < l.length) : loadsN (l.take (k + 1)) = loadsN (l.take k) + if l[k].ty = 1 then 1 else 0 := by
  unfold loadsN
  rw [List.take_succ_eq_append_getElem h, List.countP_append]
  simp
theorem dyns_take {l : List Seg} {k : Nat} (h : k < l.length) : dynsN (l.take (k + 1)) = dynsN (l.take k) + if l[k].ty = 2 then 1 else 0 := by
  unfold dynsN
  rw [List.take_succ_eq_append_getElem h, List.countP_append]
  simp
theorem loads_le (l : List Seg) (k : Nat) : loadsN (l.take k) ≤ k := Nat.le_trans List.countP_le_length (by rw [List.length_take]; omega)
theorem dyns_le (l : List Seg) (k : Nat) : dynsN (l.take k) ≤ k := Nat.le_trans List.countP_le_length (by rw [List.length_take]; omega)
theorem rises_drop {l : List Seg} {k : Nat} (h : k < l.length) (size e : Int) : rises size e (l.drop k) = (l[k].may size && (if l[k].ty = 1 then !decide (l[k].from_ < e) && rises size l[k].to_ (l.drop (k + 1)) else rises size e (l.drop (k + 1)))) := by
  rw [List.drop_eq_getElem_cons h, rises]

/-- The cells of a segment's block. -/
theorem seg_cells {v : World} {g : Nat} {s : Seg} (h : Blk v g 47 s.cs) : v.cell? ⟨g, 0, none⟩ = some (.int .i64 s.ty) ∧ v.cell? ⟨g, 1, none⟩ = some (.int .i64 s.fl) ∧ v.cell? ⟨g, 2, none⟩ = some (.int .i64 s.off) ∧ v.cell? ⟨g, 3, none⟩ = some (.int .i64 s.ad) ∧ v.cell? ⟨g, 4, none⟩ = some (.int .i64 s.sz) ∧ v.cell? ⟨g, 5, none⟩ = some (.int .i64 s.mem) ∧ v.cell? ⟨g, 6, none⟩ = some (.int .i64 s.al) :=
  ⟨h.at_ 0 _ rfl, h.at_ 1 _ rfl, h.at_ 2 _ rfl, h.at_ 3 _ rfl, h.at_ 4 _ rfl, h.at_ 5 _ rfl, h.at_ 6 _ rfl⟩

set_option maxRecDepth 100000 in
set_option maxHeartbeats 3200000 in
theorem stand_any (segs : List Seg) (A : Option Addr) (c : Nat) (size : Int) (w : World) (hT : ETab w) (hr : SegRow w A segs) (hl : segs.length ≤ 1000) (hz : (Lit.int .i64 size).wf = true) :
    Calls Tryd.prog 26 #[.slice A segs.length c, .int .i64 size] w fun e w' => e = .returned (.bool (standS segs size)) ∧ Below w.heap.size w w' := by
  obtain ⟨n, hn⟩ : ∃ n, segs.length = n := ⟨_, rfl⟩
  obtain ⟨r, hr0⟩ : ∃ r, standS segs size = r := ⟨_, rfl⟩
  have HR := Lib.hid hr0
  rw [hr0, hn]
  have HN := Lib.hid hn
  have HTR := Lib.hid (fun v (hv : Below w.heap.size w v) => show ETab v ∧ SegRow v A segs from ⟨hT.on hv, hr.below hv⟩)
  clear hr0 hT hr hn
  go_enter Tryd.func26, Tryd.ntmps26
  go_wp2_with fail
  go_step3
  go_wp2
  go_step3
  go_wp2
  go_loopw [5, 6, 7, 8, 15] (fun ok ld dy en i wr => ∃ (k : Nat) (e : Int), k ≤ n ∧ i = .int .i64 k ∧ ok = .bool true ∧ ld = .int .i64 (loadsN (segs.take k) : Nat) ∧ dy = .int .i64 (dynsN (segs.take k) : Nat) ∧ en = .int .i64 e ∧ Hid (rises size 0 segs = rises size e (segs.drop k)) ∧ Below w.heap.size w wr) (fun _ _ _ _ i _ => n - (intOf i).toNat)
  case atStart => exact ⟨0, 0, Nat.zero_le _, rfl, rfl, rfl, rfl, rfl, Lib.hid rfl, Below.refl _ _⟩
  case round =>
    obtain ⟨k, e, hk, rfl, rfl, rfl, rfl, rfl, hrs, hbe⟩ := hrel
    obtain ⟨L, hL⟩ : ∃ L, loadsN (segs.take k) = L := ⟨_, rfl⟩
    obtain ⟨D, hD⟩ : ∃ D, dynsN (segs.take k) = D := ⟨_, rfl⟩
    have hLk : L ≤ k := by rw [← hL]; exact loads_le _ _
    have hDk : D ≤ k := by rw [← hD]; exact dyns_le _ _
    rw [hL, hD]
    by_cases hlt : k < n
    · obtain ⟨hT, hr⟩ := HTR.out _ hbe
      have hkl : k < segs.length := by rw [HN.out]; exact hlt
      obtain ⟨ad, rfl, hblt, hwf, d0, d1, d2, d3, d4, d5, d6⟩ := hr.at_ hkl
      have hld := loads_take hkl
      have hdy := dyns_take hkl
      have hri := rises_drop hkl size e
      rw [hL] at hld
      rw [hD] at hdy
      obtain ⟨s, hs⟩ : ∃ s, segs[k] = s := ⟨_, rfl⟩
      rw [hs] at hwf d0 d1 d2 d3 d4 d5 d6 hld hdy hri
      have hPG := fun w => epages_any s w hwf
      have hMY := fun w hT => emay_any s size w hT hwf hz
      obtain ⟨m, hm⟩ : ∃ m, s.may size = m := ⟨_, rfl⟩
      obtain ⟨fr, hfr⟩ : ∃ fr, s.from_ = fr := ⟨_, rfl⟩
      obtain ⟨to_, hto⟩ : ∃ to_, s.to_ = to_ := ⟨_, rfl⟩
      rw [hm] at hMY hri
      rw [hfr] at hPG hri
      rw [hto] at hPG hri
      have HNX := Lib.hid (And.intro hld (And.intro hdy hri))
      have HB1 := Lib.hid (And.intro (Blk.new wr 47 s.cs) (hbe.alloc hbe.size (.cells s.cs 47)))
      obtain ⟨ty, fl, off, ad', sz, mem, al⟩ := s
      unfold Seg.v Seg.cs at hPG hMY
      unfold Seg.cs at HB1
      simp only at *
      have HPG := Lib.hid hPG
      have HMY := Lib.hid hMY
      clear hld hdy hri hm hfr hto hPG hMY hwf hs hT hr hL hD
      have HSC := Lib.hid (fun v (h : Blk v wr.heap.size 47 #[.int .i64 ty, .int .i64 fl, .int .i64 off, .int .i64 ad', .int .i64 sz, .int .i64 mem, .int .i64 al]) => seg_cells (s := ⟨ty, fl, off, ad', sz, mem, al⟩) h)
      go_wp2_with fail
      have hB := HB1.out.2
      have hK := HB1.out.1
      have hw0 : w.heap.size ≤ wr.heap.size := hbe.size
      generalize wr.alloc (.cells #[.int .i64 ty, .int .i64 fl, .int .i64 off, .int .i64 ad', .int .i64 sz, .int .i64 mem, .int .i64 al] 47) = W1 at *
      obtain ⟨x0, x1, x2, x3, x4, x5, x6⟩ := HSC.out _ hK
      clear d0 d1 d2 d3 d4 d5 d6
      obtain ⟨hld, hdy, hri⟩ := HNX.out
      cases m
      case false =>
        have HV := Lib.hid (show false = r from by rw [← HR.out]; unfold standS; rw [hrs.out, hri]; simp)
        clear hld hdy hri
        go_wp2_with (first
          | (go_at_call 23; with_reducible refine (HPG.out _).mono ?_; rintro e v2 ⟨rfl, hb2⟩; replace hB := hB.trans (hb2.mono hB.size); replace hK := hK.below hb2 hK.lt; clear hb2 x0 x1 x2 x3 x4 x5 x6; obtain ⟨x0, x1, x2, x3, x4, x5, x6⟩ := HSC.out _ hK)
          | (go_at_call 45; with_reducible refine (HMY.out _ (HTR.out _ hB).1).mono ?_; rintro e v3 ⟨rfl, hb3⟩; replace hB := hB.trans (hb3.mono hB.size); replace hK := hK.below hb3 hK.lt; clear hb3 x0 x1 x2 x3 x4 x5 x6; obtain ⟨x0, x1, x2, x3, x4, x5, x6⟩ := HSC.out _ hK))
        try rw [Exit.noGoto_ret]
        go_ret
        exact ⟨congrArg (fun r => Ending.returned (.bool r)) HV.out, hB⟩
      by_cases h1 : ty = 1
      · subst h1
        simp only [if_true, Bool.true_and] at hld hri
        by_cases hlo : fr < e
        · have HV := Lib.hid (show false = r from by rw [← HR.out]; unfold standS; rw [hrs.out, hri]; simp [hlo])
          clear hld hdy hri
          go_wp2_with (first
          | (go_at_call 23; with_reducible refine (HPG.out _).mono ?_; rintro e v2 ⟨rfl, hb2⟩; replace hB := hB.trans (hb2.mono hB.size); replace hK := hK.below hb2 hK.lt; clear hb2 x0 x1 x2 x3 x4 x5 x6; obtain ⟨x0, x1, x2, x3, x4, x5, x6⟩ := HSC.out _ hK)
          | (go_at_call 45; with_reducible refine (HMY.out _ (HTR.out _ hB).1).mono ?_; rintro e v3 ⟨rfl, hb3⟩; replace hB := hB.trans (hb3.mono hB.size); replace hK := hK.below hb3 hK.lt; clear hb3 x0 x1 x2 x3 x4 x5 x6; obtain ⟨x0, x1, x2, x3, x4, x5, x6⟩ := HSC.out _ hK))
          try rw [Exit.noGoto_ret]
          go_ret
          exact ⟨congrArg (fun r => Ending.returned (.bool r)) HV.out, hB⟩
        · have HL := Lib.hid (show ((loadsN (segs.take (k + 1)) : Nat) : Int) = (L : Int) + 1 from by rw [hld]; rfl)
          have HD := Lib.hid (show dynsN (segs.take (k + 1)) = D from by rw [hdy]; simp)
          have HV := Lib.hid (show rises size 0 segs = rises size to_ (segs.drop (k + 1)) from by rw [hrs.out, hri]; simp [hlo])
          clear hld hdy hri
          go_wp2_with (first
          | (go_at_call 23; with_reducible refine (HPG.out _).mono ?_; rintro e v2 ⟨rfl, hb2⟩; replace hB := hB.trans (hb2.mono hB.size); replace hK := hK.below hb2 hK.lt; clear hb2 x0 x1 x2 x3 x4 x5 x6; obtain ⟨x0, x1, x2, x3, x4, x5, x6⟩ := HSC.out _ hK)
          | (go_at_call 45; with_reducible refine (HMY.out _ (HTR.out _ hB).1).mono ?_; rintro e v3 ⟨rfl, hb3⟩; replace hB := hB.trans (hb3.mono hB.size); replace hK := hK.below hb3 hK.lt; clear hb3 x0 x1 x2 x3 x4 x5 x6; obtain ⟨x0, x1, x2, x3, x4, x5, x6⟩ := HSC.out _ hK))
          go_roundw
          case rel => exact ⟨k + 1, to_, by omega, by go_num, rfl, by rw [HL.out], by rw [HD.out], rfl, Lib.hid HV.out, hB⟩
          case measure => simp [intOf]; omega
      · have h10 : (ty == 1) = false := by simpa using h1
        rw [if_neg h1] at hld hri
        simp only [Bool.true_and, Nat.add_zero] at hri hld
        by_cases h2 : ty = 2
        · subst h2
          have HL := Lib.hid hld
          have HD := Lib.hid (show ((dynsN (segs.take (k + 1)) : Nat) : Int) = (D : Int) + 1 from by rw [hdy]; rfl)
          have HV := Lib.hid (hrs.out.trans hri)
          clear hld hdy hri
          go_wp2_with (first
          | (go_at_call 23; with_reducible refine (HPG.out _).mono ?_; rintro e v2 ⟨rfl, hb2⟩; replace hB := hB.trans (hb2.mono hB.size); replace hK := hK.below hb2 hK.lt; clear hb2 x0 x1 x2 x3 x4 x5 x6; obtain ⟨x0, x1, x2, x3, x4, x5, x6⟩ := HSC.out _ hK)
          | (go_at_call 45; with_reducible refine (HMY.out _ (HTR.out _ hB).1).mono ?_; rintro e v3 ⟨rfl, hb3⟩; replace hB := hB.trans (hb3.mono hB.size); replace hK := hK.below hb3 hK.lt; clear hb3 x0 x1 x2 x3 x4 x5 x6; obtain ⟨x0, x1, x2, x3, x4, x5, x6⟩ := HSC.out _ hK))
          go_roundw
          case rel => exact ⟨k + 1, e, by omega, by go_num, rfl, by rw [HL.out], by rw [HD.out], rfl, Lib.hid HV.out, hB⟩
          case measure => simp [intOf]; omega
        · have h20 : (ty == 2) = false := by simpa using h2
          rw [if_neg h2] at hdy
          replace hdy := hdy.trans (Nat.add_zero D)
          have HL := Lib.hid hld
          have HD := Lib.hid hdy
          have HV := Lib.hid (hrs.out.trans hri)
          clear hld hdy hri
          go_wp2_with (first
          | (go_at_call 23; with_reducible refine (HPG.out _).mono ?_; rintro e v2 ⟨rfl, hb2⟩; replace hB := hB.trans (hb2.mono hB.size); replace hK := hK.below hb2 hK.lt; clear hb2 x0 x1 x2 x3 x4 x5 x6; obtain ⟨x0, x1, x2, x3, x4, x5, x6⟩ := HSC.out _ hK)
          | (go_at_call 45; with_reducible refine (HMY.out _ (HTR.out _ hB).1).mono ?_; rintro e v3 ⟨rfl, hb3⟩; replace hB := hB.trans (hb3.mono hB.size); replace hK := hK.below hb3 hK.lt; clear hb3 x0 x1 x2 x3 x4 x5 x6; obtain ⟨x0, x1, x2, x3, x4, x5, x6⟩ := HSC.out _ hK))
          go_roundw
          case rel => exact ⟨k + 1, e, by omega, by go_num, rfl, by rw [HL.out], by rw [HD.out], rfl, Lib.hid HV.out, hB⟩
          case measure => simp [intOf]; omega
    · obtain rfl : k = n := by omega
      have e1 : segs.take k = segs := List.take_of_length_le (by rw [HN.out]; exact Nat.le_refl _)
      have e2 : rises size 0 segs = true := by
        rw [hrs.out, List.drop_of_length_le (by rw [HN.out]; exact Nat.le_refl _)]
        rfl
      have HV := Lib.hid (show (decide (0 < L) && decide (D ≤ 1)) = r from by
        rw [← HR.out]
        unfold standS
        rw [e2, ← e1, hL, hD]
        rfl)
      clear e1 e2 hL hD
      by_cases p1 : 0 < L <;> by_cases p2 : D ≤ 1
      all_goals
        have hv := HV.out
        simp only [p1, p2, decide_true, decide_false, Bool.and_self, Bool.and_true, Bool.and_false] at hv
        have HV2 := Lib.hid hv
        clear hv
        have hd : decide ((D : Int) ≤ 1) = decide (D ≤ 1) := decide_eq_decide.2 (by omega)
        rw [show decide (D ≤ 1) = _ from by first | exact decide_eq_true p2 | exact decide_eq_false p2] at hd
        go_wp2_with fail
        try rw [Exit.noGoto_ret]
        go_ret
        exact ⟨congrArg (fun r => Ending.returned (.bool r)) HV2.out, hbe⟩
end Go.Proofs.YtakmmphjdkapeaaDoor
