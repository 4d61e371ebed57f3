/- The reference of layer 8: Check. -/
import Derived.Test.YtakmmphjdkapeaaDoorES
import Derived.Test.YtakmmphjdkapeaaDoorEI
namespace Go.Proofs.YtakmmphjdkapeaaDoor
open Go.RowKit
set_option linter.unusedVariables false
set_option linter.unusedSimpArgs false

/-- Is one within another? As the reference reckons, whatever the other one is. -/
def Seg.wth (s t : Seg) : Bool := decide (t.ad ≤ s.ad) && decide (s.ad + s.mem ≤ wrap64 (t.ad + t.mem)) && (wrap64 (s.off - t.off) == wrap64 (s.ad - t.ad))
theorem Seg.wth_eq {s t : Seg} {z : Int} (hs : s.May z) (ht : t.May z) : s.wth t = s.within t := by
  have h1 := hs.ad
  have h2 := hs.mem
  have h3 := hs.off
  have h4 := ht.ad
  have h5 := ht.mem
  have h6 := ht.off
  unfold Seg.wth Seg.within
  rw [IntWalk.wrap64_in _ (by omega), IntWalk.wrap64_in _ (by omega), IntWalk.wrap64_in _ (by omega)]
  rw [Bool.eq_iff_iff]
  simp only [Bool.and_eq_true, decide_eq_true_eq, inn_iff, beq_iff_eq]
  omega
theorem all_take {l : List Seg} {k : Nat} (h : k < l.length) (p : Seg → Bool) : (l.take (k + 1)).all p = ((l.take k).all p && p l[k]) := by
  rw [List.take_succ_eq_append_getElem h, List.all_append]
  simp
theorem any_take {l : List Seg} {k : Nat} (h : k < l.length) (p : Seg → Bool) : (l.take (k + 1)).any p = ((l.take k).any p || p l[k]) := by
  rw [List.take_succ_eq_append_getElem h, List.any_append]
  simp
theorem any_congr_may {l : List Seg} {s : Seg} {z : Int} (hs : s.May z) (hl : ∀ t, t ∈ l → t.May z) : (l.any fun t => t.ty == 1 && s.wth t) = l.any fun t => t.ty == 1 && s.within t := by
  have h : ∀ (m : List Seg), (∀ t, t ∈ m → t.May z) → (m.any fun t => t.ty == 1 && s.wth t) = m.any fun t => t.ty == 1 && s.within t := by
    intro m
    induction m with
    | nil => intro _; rfl
    | cons t m ih =>
      intro hm
      simp only [List.any_cons]
      rw [Seg.wth_eq hs (hm t (by simp)), ih (fun u hu => hm u (by simp [hu]))]
  exact h l hl
theorem rises_all {size : Int} {l : List Seg} {e : Int} (h : ¬ ∀ s, s ∈ l → s.May size) : rises size e l = false := by
  cases hr : rises size e l
  · rfl
  · exact absurd (rises_may hr) h
theorem chk_entry {x : Img} {size : Int} (h : x.chk size = true) : 0 ≤ x.entry ∧ x.entry ≤ 1099511627776 := by
  unfold Img.chk at h
  simp only [Bool.and_eq_true] at h
  obtain ⟨⟨⟨-, hs⟩, -⟩, hb⟩ := h
  have hm := stand_may hs
  unfold beginsS at hb
  rw [Bool.or_eq_true, Bool.and_eq_true, List.any_eq_true] at hb
  rcases hb with ⟨-, h0⟩ | ⟨t, ht, h1⟩
  · have := beq_iff_eq.1 h0
    omega
  · rw [Bool.and_eq_true] at h1
    have h2 := h1.2
    unfold Seg.has at h2
    simp only [Bool.and_eq_true, decide_eq_true_eq] at h2
    have h3 := (hm t ht).ad
    have h4 := (hm t ht).mem
    have h5 := (hm t ht).both (.inl (beq_iff_eq.1 h1.1))
    omega
/-- Why an image may not be. -/
theorem err_no {x : Img} {size : Int} (h : x.chk size = false) : x.err size = 16 := by unfold Img.err; rw [h]; rfl
theorem chk_rises {x : Img} {size : Int} (h : rises size 0 x.segs = false) : x.chk size = false := by
  unfold Img.chk standS
  rw [h]
  simp
theorem chk_carried {x : Img} {size : Int} (h : carriedS x.segs = false) : x.chk size = false := by
  unfold Img.chk
  rw [h]
  simp

set_option maxRecDepth 100000 in
set_option maxHeartbeats 12800000 in
theorem rcheck_any (x : Img) (A : Option Addr) (c : Nat) (size : Int) (w : World) (hr : SegRow w A x.segs) (hl : x.segs.length ≤ 1000) (hz : (Lit.int .i64 size).wf = true) :
    Calls Tryd.prog 13 #[x.v A c, .int .i64 size] w fun e w' => e = .returned (.int .i64 (x.err size)) ∧ Below w.heap.size w w' := by
  have hno := fun (h : x.chk size = false) => err_no h
  have hent := fun (h : x.chk size = true) => chk_entry h
  have hris := fun (h : rises size 0 x.segs = false) => chk_rises (x := x) (size := size) h
  have hcar := fun (h : carriedS x.segs = false) => chk_carried (x := x) (size := size) h
  have hchk : x.chk size = ((x.kind == 2 || x.kind == 3) && decide (1 ≤ x.segs.length) && decide (x.segs.length ≤ 16) && decide (64 + x.segs.length * 56 ≤ size) && standS x.segs size && carriedS x.segs && beginsS x) := rfl
  have hyes : x.err size = if x.chk size then 0 else 16 := rfl
  obtain ⟨r, hr0⟩ : ∃ r, x.err size = r := ⟨_, rfl⟩
  rw [hr0] at hno hyes ⊢
  obtain ⟨kind, entry, segs⟩ := x
  unfold Img.v
  simp only at *
  obtain ⟨n, hn⟩ : ∃ n, segs.length = n := ⟨_, rfl⟩
  rw [hn] at hl hchk ⊢
  obtain ⟨ck, hck⟩ : ∃ ck, Img.chk ⟨kind, entry, segs⟩ size = ck := ⟨_, rfl⟩
  rw [hck] at hno hent hris hcar hchk hyes
  have HIN := Lib.hid (fun n w => rin_any n w)
  have HSG := Lib.hid (fun (s : Seg) (hs : s.wf) w => rsegment_any s size w hs hz)
  have HFI := Lib.hid (fun (s : Seg) (hs : s.wf) w => rfirst_any s w hs)
  have HLA := Lib.hid (fun (s : Seg) (hs : s.May size) w => rlast_any s size w hs)
  obtain ⟨W, hW⟩ : ∃ W, w.alloc (.cells #[.int .i64 kind, .int .i64 entry, .slice A n c] 24) = W := ⟨_, rfl⟩
  have hB : Below w.heap.size w W := by rw [← hW]; exact (Below.refl _ _).alloc (Nat.le_refl _) _
  have hK : Blk W w.heap.size 24 #[.int .i64 kind, .int .i64 entry, .slice A n c] := by rw [← hW]; exact Blk.new w _ _
  have HTR := Lib.hid (fun v (hv : Below W.heap.size W v) => show SegRow v A segs ∧ Below w.heap.size w v ∧ v.cell? ⟨w.heap.size, 0, none⟩ = some (.int .i64 kind) ∧ v.cell? ⟨w.heap.size, 1, none⟩ = some (.int .i64 entry) ∧ v.cell? ⟨w.heap.size, 2, none⟩ = some (.slice A n c) from
    ⟨(hr.below hB).below hv, hB.trans (hv.mono hB.size), (hK.below hv hK.lt).at_ 0 _ rfl, (hK.below hv hK.lt).at_ 1 _ rfl, (hK.below hv hK.lt).at_ 2 _ rfl⟩)
  have hb0 := Below.refl W.heap.size W
  obtain ⟨-, hbw, x0, x1, x2⟩ := HTR.out _ hb0
  have HNO := Lib.hid hno
  have HN := Lib.hid hn
  have HYES := Lib.hid hyes
  clear hK hB hr hz hr0 hno hn hyes
  by_cases hkd : kind = 2 ∨ kind = 3
  case neg =>
    have k2 : ¬ kind = 2 := fun h => hkd (.inl h)
    have k3 : ¬ kind = 3 := fun h => hkd (.inr h)
    have k20 : (kind == 2) = false := by simpa using k2
    have k30 : (kind == 3) = false := by simpa using k3
    have k21 : (kind != 2) = true := by simpa using k2
    have k31 : (kind != 3) = true := by simpa using k3
    have HV := Lib.hid (show (16 : Int) = r from (HNO.out (by rw [hchk, k20, k30]; rfl)).symm)
    clear hchk hris hcar hck hent
    go_enter Tryd.func13, Tryd.ntmps13
    go_wp2_with (go_at_call 29; refine (HIN.out _ _).mono ?_; rintro e w' ⟨rfl, rfl⟩)
    go_ret
    exact ⟨congrArg (fun r => Ending.returned (.int .i64 r)) HV.out, hbw⟩
  case pos =>
    obtain ⟨en0, hen0⟩ : ∃ en0, (kind == 3 && entry == 0) = en0 := ⟨_, rfl⟩
    obtain ⟨EE, hEE⟩ : ∃ EE, beginsS ⟨kind, entry, segs⟩ = EE := ⟨_, rfl⟩
    have hbg : (en0 || segs.any fun t => t.ty == 1 && t.has entry) = EE := by rw [← hEE, ← hen0]; rfl
    rw [hEE] at hchk
    clear hEE
    rcases hkd with rfl | rfl
    all_goals
      simp only [show ((2 : Int) == 3) = false from rfl, show ((3 : Int) == 3) = true from rfl, Bool.false_and, Bool.true_and] at hen0
      have HCHK := Lib.hid hchk
      have HRIS := Lib.hid hris
      have HCAR := Lib.hid hcar
      have HENT := Lib.hid hent
      clear hchk hris hcar hck hent
      subst hen0
      have HEE := Lib.hid hbg
      clear hbg
      by_cases n1 : 1 ≤ n
      case neg =>
        have HV := Lib.hid (show (16 : Int) = r from (HNO.out (by rw [HCHK.out, decide_eq_false n1]; simp)).symm)
        have n10 : (n : Int) < 1 := by omega
        go_enter Tryd.func13, Tryd.ntmps13
        go_wp2_with (go_at_call 29; refine (HIN.out _ _).mono ?_; rintro e w' ⟨rfl, rfl⟩)
        go_ret
        exact ⟨congrArg (fun r => Ending.returned (.int .i64 r)) HV.out, hbw⟩
      by_cases n2 : n ≤ 16
      case neg =>
        have HV := Lib.hid (show (16 : Int) = r from (HNO.out (by rw [HCHK.out, decide_eq_false n2]; simp)).symm)
        have n20 : (16 : Int) < n := by omega
        go_enter Tryd.func13, Tryd.ntmps13
        go_wp2_with (go_at_call 29; refine (HIN.out _ _).mono ?_; rintro e w' ⟨rfl, rfl⟩)
        go_ret
        exact ⟨congrArg (fun r => Ending.returned (.int .i64 r)) HV.out, hbw⟩
      by_cases n3 : (64 : Int) + 56 * n ≤ size
      case neg =>
        have HV := Lib.hid (show (16 : Int) = r from (HNO.out (by rw [HCHK.out, decide_eq_false (show ¬ 64 + (n : Int) * 56 ≤ size by omega)]; simp)).symm)
        go_enter Tryd.func13, Tryd.ntmps13
        go_wp2_with (go_at_call 29; refine (HIN.out _ _).mono ?_; rintro e w' ⟨rfl, rfl⟩)
        go_ret
        exact ⟨congrArg (fun r => Ending.returned (.int .i64 r)) HV.out, hbw⟩
      by_cases n4 : 0 ≤ entry ∧ entry ≤ 1099511627776
      case neg =>
        have hu : upto 1099511627776 entry = false := by unfold upto; simp; omega
        have hcf : ck = false := by
          cases ck
          · rfl
          · exact absurd (HENT.out rfl) n4
        have HV := Lib.hid (show (16 : Int) = r from (HNO.out hcf).symm)
        clear hcf
        go_enter Tryd.func13, Tryd.ntmps13
        go_wp2_with (go_at_call 29; refine (HIN.out _ _).mono ?_; rintro e w' ⟨rfl, rfl⟩)
        go_ret
        exact ⟨congrArg (fun r => Ending.returned (.int .i64 r)) HV.out, hbw⟩
      have hu : upto 1099511627776 entry = true := upto_iff.2 n4
      go_enter Tryd.func13, Tryd.ntmps13
      go_wp2_with (go_at_call 29; refine (HIN.out _ _).mono ?_; rintro e w' ⟨rfl, rfl⟩)
      clear hW
      go_loopw [6, 7, 8, 9, 10] (fun ld dy en et i wr => ∃ (k : Nat) (e : Int) (E : Bool), k ≤ n ∧ i = .int .i64 k ∧ ld = .int .i64 (loadsN (segs.take k) : Nat) ∧ dy = .int .i64 (dynsN (segs.take k) : Nat) ∧ en = .int .i64 e ∧ et = .bool E ∧ Below W.heap.size W wr ∧
          Hid ((E || (segs.drop k).any fun t => t.ty == 1 && t.has entry) = EE) ∧ Hid (rises size 0 segs = rises size e (segs.drop k)) ∧ Hid (loadsN (segs.take k) = 0 → e = 0) ∧ Hid (∀ t, t ∈ segs.take k → t.May size) ∧
          Hid ((∀ t, t ∈ segs → t.May size) → ((segs.take k).all fun s => !(s.ty == 2) || segs.any fun t => t.ty == 1 && s.within t) = true)) (fun _ _ _ _ i _ => n - (intOf i).toNat)
      case atStart => exact ⟨0, 0, _, Nat.zero_le _, rfl, rfl, rfl, rfl, rfl, hb0, Lib.hid HEE.out, Lib.hid rfl, Lib.hid (fun _ => rfl), Lib.hid (fun t ht => by simp at ht), Lib.hid (fun _ => by simp)⟩
      case round =>
        clear hb0 x0 x1 x2 hbw
        obtain ⟨k, e, E, hk, rfl, rfl, rfl, rfl, rfl, hbe, hE, hrs, hz0, hmy, hca⟩ := hrel
        obtain ⟨hr, hbw, x0, x1, x2⟩ := HTR.out _ hbe
        obtain ⟨L, hL⟩ : ∃ L, loadsN (segs.take k) = L := ⟨_, rfl⟩
        obtain ⟨D, hD⟩ : ∃ D, dynsN (segs.take k) = D := ⟨_, rfl⟩
        have hLk : L ≤ k := by rw [← hL]; exact loads_le _ _
        have hDk : D ≤ k := by rw [← hD]; exact dyns_le _ _
        rw [hL, hD]
        rw [hL] at hz0
        by_cases hlt : k < n
        · have hkl : k < segs.length := by rw [HN.out]; exact hlt
          obtain ⟨ad, rfl, hblt, hwf, d0, d1, d2, d3, d4, d5, d6⟩ := hr.at_ hkl
          have hld := loads_take hkl
          have hdy := dyns_take hkl
          have hri := rises_drop hkl size e
          have hat : ((segs.drop k).any fun t => t.ty == 1 && t.has entry) = ((segs[k].ty == 1 && segs[k].has entry) || (segs.drop (k + 1)).any fun t => t.ty == 1 && t.has entry) := by rw [List.drop_eq_getElem_cons hkl, List.any_cons]
          have hal := all_take hkl (fun s => !(s.ty == 2) || segs.any fun t => t.ty == 1 && s.within t)
          rw [hL] at hld
          rw [hD] at hdy
          have hmem := List.getElem_mem hkl
          obtain ⟨s, hs⟩ : ∃ s, segs[k] = s := ⟨_, rfl⟩
          have htk : segs.take (k + 1) = segs.take k ++ [s] := by rw [List.take_succ_eq_append_getElem hkl, hs]
          rw [hs] at hwf d0 d1 d2 d3 d4 d5 d6 hld hdy hri hat hal hmem
          have hsg := fun w => HSG.out s hwf w
          have hmi := Seg.may_iff (s := s) (size := size)
          obtain ⟨m, hm⟩ : ∃ m, s.may size = m := ⟨_, rfl⟩
          rw [hm] at hsg hri hmi
          have HB1 := Lib.hid (show Below W.heap.size W (wr.alloc (.cells s.cs 47)) from hbe.alloc hbe.size _)
          have HK1 := Lib.hid (Blk.new wr 47 s.cs)
          cases m
          case false =>
            have hcf := HRIS.out (by rw [hrs.out, hri]; simp)
            have HV := Lib.hid (HNO.out hcf).symm
            clear hcf
            obtain ⟨ty, fl, off, ad', sz, mem, al⟩ := s
            unfold Seg.v Seg.cs at hsg
            unfold Seg.cs at HB1
            simp only at *
            have HSS := Lib.hid hsg
            clear hld hdy hri hat hal hmem htk hsg hmi hm hs hr hwf
            go_wp2_with (go_at_call 30; refine (HSS.out _).mono ?_; rintro e v2 ⟨rfl, hb2⟩)

            go_ret
            exact ⟨congrArg (fun r => Ending.returned (.int .i64 r)) HV.out, (HTR.out _ (HB1.out.trans (hb2.mono HB1.out.size))).2.1⟩
          have hM := hmi.1 rfl
          have hfi := fun w => HFI.out s hwf w
          have hla := fun w => HLA.out s hM w
          have hf0 : 0 ≤ s.from_ := by rw [Seg.from_eq hM.ad.1]; have := hM.ad.1; omega
          have hmy2 : ∀ t, t ∈ segs.take (k + 1) → t.May size := fun t ht => by
            rw [htk] at ht
            rcases List.mem_append.1 ht with h | h
            · exact hmy.out t h
            · rw [List.mem_singleton.1 h]; exact hM
          obtain ⟨fr, hfr⟩ : ∃ fr, s.from_ = fr := ⟨_, rfl⟩
          obtain ⟨to_, hto⟩ : ∃ to_, s.to_ = to_ := ⟨_, rfl⟩
          rw [hfr] at hri hfi hf0
          rw [hto] at hri hla
          have HMY := Lib.hid hmy2
          have HSC := Lib.hid (fun v (hv : Below (wr.alloc (.cells s.cs 47)).heap.size (wr.alloc (.cells s.cs 47)) v) => seg_cells (HK1.out.below hv HK1.out.lt))
          have hn1 := hM.ad
          have hn2 := hM.mem
          have hn3 := hM.fl
          have hn4 := hM.off
          have hWT := fun (h : ∀ t, t ∈ segs → t.May size) => any_congr_may hM h
          have hhas : s.has entry = (s.fl % 2 == 1 && decide (s.ad ≤ entry) && decide (entry < s.ad + s.mem)) := rfl
          obtain ⟨ty, fl, off, ad', sz, mem, al⟩ := s
          unfold Seg.v Seg.cs at hsg hfi hla
          unfold Seg.cs at HB1 HSC HK1
          simp only at *
          have HSS := Lib.hid hsg
          have HFF := Lib.hid hfi
          have HLL := Lib.hid hla
          have HST := Lib.hid (And.intro hld (And.intro hdy (And.intro hri (And.intro hat hal))))
          have HM := Lib.hid (And.intro hM hmem)
          have HWT := Lib.hid hWT
          clear hld hdy hri hat hal hmem htk hsg hfi hla hmi hm hs hr hwf hfr hto hmy2 hM hmy hWT
          have hw0 : W.heap.size ≤ wr.heap.size := hbe.size
          by_cases t1 : ty = 1
          · as_aux_lemma =>
              subst t1
              have hE2 : (((({ ty := 1, fl := fl, off := off, ad := ad', sz := sz, mem := mem, al := al } : Seg).has entry) || E) || (segs.drop (k + 1)).any fun t => t.ty == 1 && t.has entry) = EE := by
                rw [← hE.out, HST.out.2.2.2.1]
                simp only [beq_self_eq_true, Bool.true_and]
                cases E <;> simp
              rw [hhas] at hE2
              have hLn : loadsN (segs.take (k + 1)) = L + 1 := by rw [HST.out.1]; rfl
              have hDn : dynsN (segs.take (k + 1)) = D := by rw [HST.out.2.1]; rfl
              have hRn : rises size 0 segs = (!decide (fr < e) && rises size to_ (segs.drop (k + 1))) := by rw [hrs.out, HST.out.2.2.1]; rfl
              have hCn : (∀ t, t ∈ segs → t.May size) → ((segs.take (k + 1)).all fun s => !(s.ty == 2) || segs.any fun t => t.ty == 1 && s.within t) = true := fun h => by rw [HST.out.2.2.2.2, hca.out h]; rfl
              have HCN := Lib.hid hCn
              have HLN := Lib.hid (And.intro hLn hDn)
              have HRN := Lib.hid hRn
              have HEN := Lib.hid hE2
              clear hE2 hLn hDn hRn hhas hCn hrs hE hca hL hD
              by_cases l1 : 0 < L
              · by_cases l2 : fr < e
                case pos =>
                  have HV := Lib.hid (show (16 : Int) = r from (HNO.out (HRIS.out (by rw [HRN.out]; simp [l2]))).symm)
                  go_wp2_with (first
                      | (go_at_call 30; refine (HSS.out _).mono ?_; rintro e v2 ⟨rfl, hb2⟩; clear x0 x1 x2 hbw; obtain ⟨y0, y1, y2, y3, y4, y5, y6⟩ := HSC.out _ hb2; obtain ⟨-, hbw, x0, x1, x2⟩ := HTR.out _ (HB1.out.trans (hb2.mono HB1.out.size)))
                      | (go_at_call 31; refine (HFF.out _).mono ?_; rintro e v3 ⟨rfl, hb3⟩; replace hb2 := hb2.trans (hb3.mono hb2.size); clear y0 y1 y2 y3 y4 y5 y6 x0 x1 x2 hbw hb3; obtain ⟨y0, y1, y2, y3, y4, y5, y6⟩ := HSC.out _ hb2; obtain ⟨-, hbw, x0, x1, x2⟩ := HTR.out _ (HB1.out.trans (hb2.mono HB1.out.size)))
                      | (go_at_call 32; refine (HLL.out _).mono ?_; rintro e v3 ⟨rfl, hb3⟩; replace hb2 := hb2.trans (hb3.mono hb2.size); clear y0 y1 y2 y3 y4 y5 y6 x0 x1 x2 hbw hb3; obtain ⟨y0, y1, y2, y3, y4, y5, y6⟩ := HSC.out _ hb2; obtain ⟨-, hbw, x0, x1, x2⟩ := HTR.out _ (HB1.out.trans (hb2.mono HB1.out.size))))
                  go_ret
                  exact ⟨congrArg (fun r => Ending.returned (.int .i64 r)) HV.out, hbw⟩
                case neg =>
                  have HR2 := Lib.hid (show rises size 0 segs = rises size to_ (segs.drop (k + 1)) from by rw [HRN.out]; simp [l2])
                  by_cases f1 : fl % 2 = 1
                  case neg =>
                    have HX := Lib.hid (show (E || (segs.drop (k + 1)).any fun t => t.ty == 1 && t.has entry) = EE from by rw [← HEN.out]; rw [show (fl % 2 == 1) = false from by simpa using f1]; simp)
                    go_wp2_with (first
                        | (go_at_call 30; refine (HSS.out _).mono ?_; rintro e v2 ⟨rfl, hb2⟩; clear x0 x1 x2 hbw; obtain ⟨y0, y1, y2, y3, y4, y5, y6⟩ := HSC.out _ hb2; obtain ⟨-, hbw, x0, x1, x2⟩ := HTR.out _ (HB1.out.trans (hb2.mono HB1.out.size)))
                        | (go_at_call 31; refine (HFF.out _).mono ?_; rintro e v3 ⟨rfl, hb3⟩; replace hb2 := hb2.trans (hb3.mono hb2.size); clear y0 y1 y2 y3 y4 y5 y6 x0 x1 x2 hbw hb3; obtain ⟨y0, y1, y2, y3, y4, y5, y6⟩ := HSC.out _ hb2; obtain ⟨-, hbw, x0, x1, x2⟩ := HTR.out _ (HB1.out.trans (hb2.mono HB1.out.size)))
                        | (go_at_call 32; refine (HLL.out _).mono ?_; rintro e v3 ⟨rfl, hb3⟩; replace hb2 := hb2.trans (hb3.mono hb2.size); clear y0 y1 y2 y3 y4 y5 y6 x0 x1 x2 hbw hb3; obtain ⟨y0, y1, y2, y3, y4, y5, y6⟩ := HSC.out _ hb2; obtain ⟨-, hbw, x0, x1, x2⟩ := HTR.out _ (HB1.out.trans (hb2.mono HB1.out.size))))
                    go_roundw
                    case rel => exact ⟨k + 1, to_, E, by omega, by go_num, by rw [HLN.out.1]; go_num, by rw [HLN.out.2], rfl, rfl, HB1.out.trans (hb2.mono HB1.out.size), Lib.hid HX.out, Lib.hid HR2.out, Lib.hid (fun h => absurd (HLN.out.1 ▸ h) (by omega)), Lib.hid HMY.out, Lib.hid HCN.out⟩
                    case measure => simp [intOf]; omega
                  by_cases f2 : ad' ≤ entry
                  case neg =>
                    have HX := Lib.hid (show (E || (segs.drop (k + 1)).any fun t => t.ty == 1 && t.has entry) = EE from by rw [← HEN.out]; rw [show decide (ad' ≤ entry) = false from decide_eq_false f2]; simp)
                    go_wp2_with (first
                        | (go_at_call 30; refine (HSS.out _).mono ?_; rintro e v2 ⟨rfl, hb2⟩; clear x0 x1 x2 hbw; obtain ⟨y0, y1, y2, y3, y4, y5, y6⟩ := HSC.out _ hb2; obtain ⟨-, hbw, x0, x1, x2⟩ := HTR.out _ (HB1.out.trans (hb2.mono HB1.out.size)))
                        | (go_at_call 31; refine (HFF.out _).mono ?_; rintro e v3 ⟨rfl, hb3⟩; replace hb2 := hb2.trans (hb3.mono hb2.size); clear y0 y1 y2 y3 y4 y5 y6 x0 x1 x2 hbw hb3; obtain ⟨y0, y1, y2, y3, y4, y5, y6⟩ := HSC.out _ hb2; obtain ⟨-, hbw, x0, x1, x2⟩ := HTR.out _ (HB1.out.trans (hb2.mono HB1.out.size)))
                        | (go_at_call 32; refine (HLL.out _).mono ?_; rintro e v3 ⟨rfl, hb3⟩; replace hb2 := hb2.trans (hb3.mono hb2.size); clear y0 y1 y2 y3 y4 y5 y6 x0 x1 x2 hbw hb3; obtain ⟨y0, y1, y2, y3, y4, y5, y6⟩ := HSC.out _ hb2; obtain ⟨-, hbw, x0, x1, x2⟩ := HTR.out _ (HB1.out.trans (hb2.mono HB1.out.size))))
                    go_roundw
                    case rel => exact ⟨k + 1, to_, E, by omega, by go_num, by rw [HLN.out.1]; go_num, by rw [HLN.out.2], rfl, rfl, HB1.out.trans (hb2.mono HB1.out.size), Lib.hid HX.out, Lib.hid HR2.out, Lib.hid (fun h => absurd (HLN.out.1 ▸ h) (by omega)), Lib.hid HMY.out, Lib.hid HCN.out⟩
                    case measure => simp [intOf]; omega
                  by_cases f3 : entry < ad' + mem
                  case neg =>
                    have HX := Lib.hid (show (E || (segs.drop (k + 1)).any fun t => t.ty == 1 && t.has entry) = EE from by rw [← HEN.out]; rw [show decide (entry < ad' + mem) = false from decide_eq_false f3]; simp)
                    go_wp2_with (first
                        | (go_at_call 30; refine (HSS.out _).mono ?_; rintro e v2 ⟨rfl, hb2⟩; clear x0 x1 x2 hbw; obtain ⟨y0, y1, y2, y3, y4, y5, y6⟩ := HSC.out _ hb2; obtain ⟨-, hbw, x0, x1, x2⟩ := HTR.out _ (HB1.out.trans (hb2.mono HB1.out.size)))
                        | (go_at_call 31; refine (HFF.out _).mono ?_; rintro e v3 ⟨rfl, hb3⟩; replace hb2 := hb2.trans (hb3.mono hb2.size); clear y0 y1 y2 y3 y4 y5 y6 x0 x1 x2 hbw hb3; obtain ⟨y0, y1, y2, y3, y4, y5, y6⟩ := HSC.out _ hb2; obtain ⟨-, hbw, x0, x1, x2⟩ := HTR.out _ (HB1.out.trans (hb2.mono HB1.out.size)))
                        | (go_at_call 32; refine (HLL.out _).mono ?_; rintro e v3 ⟨rfl, hb3⟩; replace hb2 := hb2.trans (hb3.mono hb2.size); clear y0 y1 y2 y3 y4 y5 y6 x0 x1 x2 hbw hb3; obtain ⟨y0, y1, y2, y3, y4, y5, y6⟩ := HSC.out _ hb2; obtain ⟨-, hbw, x0, x1, x2⟩ := HTR.out _ (HB1.out.trans (hb2.mono HB1.out.size))))
                    go_roundw
                    case rel => exact ⟨k + 1, to_, E, by omega, by go_num, by rw [HLN.out.1]; go_num, by rw [HLN.out.2], rfl, rfl, HB1.out.trans (hb2.mono HB1.out.size), Lib.hid HX.out, Lib.hid HR2.out, Lib.hid (fun h => absurd (HLN.out.1 ▸ h) (by omega)), Lib.hid HMY.out, Lib.hid HCN.out⟩
                    case measure => simp [intOf]; omega
                  have HX := Lib.hid (show (true || (segs.drop (k + 1)).any fun t => t.ty == 1 && t.has entry) = EE from by rw [← HEN.out]; rw [show (fl % 2 == 1) = true from by simpa using f1, show decide (ad' ≤ entry) = true from decide_eq_true f2, show decide (entry < ad' + mem) = true from decide_eq_true f3]; simp)
                  go_wp2_with (first
                      | (go_at_call 30; refine (HSS.out _).mono ?_; rintro e v2 ⟨rfl, hb2⟩; clear x0 x1 x2 hbw; obtain ⟨y0, y1, y2, y3, y4, y5, y6⟩ := HSC.out _ hb2; obtain ⟨-, hbw, x0, x1, x2⟩ := HTR.out _ (HB1.out.trans (hb2.mono HB1.out.size)))
                      | (go_at_call 31; refine (HFF.out _).mono ?_; rintro e v3 ⟨rfl, hb3⟩; replace hb2 := hb2.trans (hb3.mono hb2.size); clear y0 y1 y2 y3 y4 y5 y6 x0 x1 x2 hbw hb3; obtain ⟨y0, y1, y2, y3, y4, y5, y6⟩ := HSC.out _ hb2; obtain ⟨-, hbw, x0, x1, x2⟩ := HTR.out _ (HB1.out.trans (hb2.mono HB1.out.size)))
                      | (go_at_call 32; refine (HLL.out _).mono ?_; rintro e v3 ⟨rfl, hb3⟩; replace hb2 := hb2.trans (hb3.mono hb2.size); clear y0 y1 y2 y3 y4 y5 y6 x0 x1 x2 hbw hb3; obtain ⟨y0, y1, y2, y3, y4, y5, y6⟩ := HSC.out _ hb2; obtain ⟨-, hbw, x0, x1, x2⟩ := HTR.out _ (HB1.out.trans (hb2.mono HB1.out.size))))
                  go_roundw
                  case rel => exact ⟨k + 1, to_, true, by omega, by go_num, by rw [HLN.out.1]; go_num, by rw [HLN.out.2], rfl, rfl, HB1.out.trans (hb2.mono HB1.out.size), Lib.hid HX.out, Lib.hid HR2.out, Lib.hid (fun h => absurd (HLN.out.1 ▸ h) (by omega)), Lib.hid HMY.out, Lib.hid HCN.out⟩
                  case measure => simp [intOf]; omega
              · obtain rfl : L = 0 := by omega
                have he0 := hz0.out rfl
                have HR2 := Lib.hid (show rises size 0 segs = rises size to_ (segs.drop (k + 1)) from by rw [HRN.out, he0]; simp; intro h; omega)
                clear he0
                by_cases f1 : fl % 2 = 1
                case neg =>
                  have HX := Lib.hid (show (E || (segs.drop (k + 1)).any fun t => t.ty == 1 && t.has entry) = EE from by rw [← HEN.out]; rw [show (fl % 2 == 1) = false from by simpa using f1]; simp)
                  go_wp2_with (first
                      | (go_at_call 30; refine (HSS.out _).mono ?_; rintro e v2 ⟨rfl, hb2⟩; clear x0 x1 x2 hbw; obtain ⟨y0, y1, y2, y3, y4, y5, y6⟩ := HSC.out _ hb2; obtain ⟨-, hbw, x0, x1, x2⟩ := HTR.out _ (HB1.out.trans (hb2.mono HB1.out.size)))
                      | (go_at_call 31; refine (HFF.out _).mono ?_; rintro e v3 ⟨rfl, hb3⟩; replace hb2 := hb2.trans (hb3.mono hb2.size); clear y0 y1 y2 y3 y4 y5 y6 x0 x1 x2 hbw hb3; obtain ⟨y0, y1, y2, y3, y4, y5, y6⟩ := HSC.out _ hb2; obtain ⟨-, hbw, x0, x1, x2⟩ := HTR.out _ (HB1.out.trans (hb2.mono HB1.out.size)))
                      | (go_at_call 32; refine (HLL.out _).mono ?_; rintro e v3 ⟨rfl, hb3⟩; replace hb2 := hb2.trans (hb3.mono hb2.size); clear y0 y1 y2 y3 y4 y5 y6 x0 x1 x2 hbw hb3; obtain ⟨y0, y1, y2, y3, y4, y5, y6⟩ := HSC.out _ hb2; obtain ⟨-, hbw, x0, x1, x2⟩ := HTR.out _ (HB1.out.trans (hb2.mono HB1.out.size))))
                  go_roundw
                  case rel => exact ⟨k + 1, to_, E, by omega, by go_num, by rw [HLN.out.1]; go_num, by rw [HLN.out.2], rfl, rfl, HB1.out.trans (hb2.mono HB1.out.size), Lib.hid HX.out, Lib.hid HR2.out, Lib.hid (fun h => absurd (HLN.out.1 ▸ h) (by omega)), Lib.hid HMY.out, Lib.hid HCN.out⟩
                  case measure => simp [intOf]; omega
                by_cases f2 : ad' ≤ entry
                case neg =>
                  have HX := Lib.hid (show (E || (segs.drop (k + 1)).any fun t => t.ty == 1 && t.has entry) = EE from by rw [← HEN.out]; rw [show decide (ad' ≤ entry) = false from decide_eq_false f2]; simp)
                  go_wp2_with (first
                      | (go_at_call 30; refine (HSS.out _).mono ?_; rintro e v2 ⟨rfl, hb2⟩; clear x0 x1 x2 hbw; obtain ⟨y0, y1, y2, y3, y4, y5, y6⟩ := HSC.out _ hb2; obtain ⟨-, hbw, x0, x1, x2⟩ := HTR.out _ (HB1.out.trans (hb2.mono HB1.out.size)))
                      | (go_at_call 31; refine (HFF.out _).mono ?_; rintro e v3 ⟨rfl, hb3⟩; replace hb2 := hb2.trans (hb3.mono hb2.size); clear y0 y1 y2 y3 y4 y5 y6 x0 x1 x2 hbw hb3; obtain ⟨y0, y1, y2, y3, y4, y5, y6⟩ := HSC.out _ hb2; obtain ⟨-, hbw, x0, x1, x2⟩ := HTR.out _ (HB1.out.trans (hb2.mono HB1.out.size)))
                      | (go_at_call 32; refine (HLL.out _).mono ?_; rintro e v3 ⟨rfl, hb3⟩; replace hb2 := hb2.trans (hb3.mono hb2.size); clear y0 y1 y2 y3 y4 y5 y6 x0 x1 x2 hbw hb3; obtain ⟨y0, y1, y2, y3, y4, y5, y6⟩ := HSC.out _ hb2; obtain ⟨-, hbw, x0, x1, x2⟩ := HTR.out _ (HB1.out.trans (hb2.mono HB1.out.size))))
                  go_roundw
                  case rel => exact ⟨k + 1, to_, E, by omega, by go_num, by rw [HLN.out.1]; go_num, by rw [HLN.out.2], rfl, rfl, HB1.out.trans (hb2.mono HB1.out.size), Lib.hid HX.out, Lib.hid HR2.out, Lib.hid (fun h => absurd (HLN.out.1 ▸ h) (by omega)), Lib.hid HMY.out, Lib.hid HCN.out⟩
                  case measure => simp [intOf]; omega
                by_cases f3 : entry < ad' + mem
                case neg =>
                  have HX := Lib.hid (show (E || (segs.drop (k + 1)).any fun t => t.ty == 1 && t.has entry) = EE from by rw [← HEN.out]; rw [show decide (entry < ad' + mem) = false from decide_eq_false f3]; simp)
                  go_wp2_with (first
                      | (go_at_call 30; refine (HSS.out _).mono ?_; rintro e v2 ⟨rfl, hb2⟩; clear x0 x1 x2 hbw; obtain ⟨y0, y1, y2, y3, y4, y5, y6⟩ := HSC.out _ hb2; obtain ⟨-, hbw, x0, x1, x2⟩ := HTR.out _ (HB1.out.trans (hb2.mono HB1.out.size)))
                      | (go_at_call 31; refine (HFF.out _).mono ?_; rintro e v3 ⟨rfl, hb3⟩; replace hb2 := hb2.trans (hb3.mono hb2.size); clear y0 y1 y2 y3 y4 y5 y6 x0 x1 x2 hbw hb3; obtain ⟨y0, y1, y2, y3, y4, y5, y6⟩ := HSC.out _ hb2; obtain ⟨-, hbw, x0, x1, x2⟩ := HTR.out _ (HB1.out.trans (hb2.mono HB1.out.size)))
                      | (go_at_call 32; refine (HLL.out _).mono ?_; rintro e v3 ⟨rfl, hb3⟩; replace hb2 := hb2.trans (hb3.mono hb2.size); clear y0 y1 y2 y3 y4 y5 y6 x0 x1 x2 hbw hb3; obtain ⟨y0, y1, y2, y3, y4, y5, y6⟩ := HSC.out _ hb2; obtain ⟨-, hbw, x0, x1, x2⟩ := HTR.out _ (HB1.out.trans (hb2.mono HB1.out.size))))
                  go_roundw
                  case rel => exact ⟨k + 1, to_, E, by omega, by go_num, by rw [HLN.out.1]; go_num, by rw [HLN.out.2], rfl, rfl, HB1.out.trans (hb2.mono HB1.out.size), Lib.hid HX.out, Lib.hid HR2.out, Lib.hid (fun h => absurd (HLN.out.1 ▸ h) (by omega)), Lib.hid HMY.out, Lib.hid HCN.out⟩
                  case measure => simp [intOf]; omega
                have HX := Lib.hid (show (true || (segs.drop (k + 1)).any fun t => t.ty == 1 && t.has entry) = EE from by rw [← HEN.out]; rw [show (fl % 2 == 1) = true from by simpa using f1, show decide (ad' ≤ entry) = true from decide_eq_true f2, show decide (entry < ad' + mem) = true from decide_eq_true f3]; simp)
                go_wp2_with (first
                    | (go_at_call 30; refine (HSS.out _).mono ?_; rintro e v2 ⟨rfl, hb2⟩; clear x0 x1 x2 hbw; obtain ⟨y0, y1, y2, y3, y4, y5, y6⟩ := HSC.out _ hb2; obtain ⟨-, hbw, x0, x1, x2⟩ := HTR.out _ (HB1.out.trans (hb2.mono HB1.out.size)))
                    | (go_at_call 31; refine (HFF.out _).mono ?_; rintro e v3 ⟨rfl, hb3⟩; replace hb2 := hb2.trans (hb3.mono hb2.size); clear y0 y1 y2 y3 y4 y5 y6 x0 x1 x2 hbw hb3; obtain ⟨y0, y1, y2, y3, y4, y5, y6⟩ := HSC.out _ hb2; obtain ⟨-, hbw, x0, x1, x2⟩ := HTR.out _ (HB1.out.trans (hb2.mono HB1.out.size)))
                    | (go_at_call 32; refine (HLL.out _).mono ?_; rintro e v3 ⟨rfl, hb3⟩; replace hb2 := hb2.trans (hb3.mono hb2.size); clear y0 y1 y2 y3 y4 y5 y6 x0 x1 x2 hbw hb3; obtain ⟨y0, y1, y2, y3, y4, y5, y6⟩ := HSC.out _ hb2; obtain ⟨-, hbw, x0, x1, x2⟩ := HTR.out _ (HB1.out.trans (hb2.mono HB1.out.size))))
                go_roundw
                case rel => exact ⟨k + 1, to_, true, by omega, by go_num, by rw [HLN.out.1]; go_num, by rw [HLN.out.2], rfl, rfl, HB1.out.trans (hb2.mono HB1.out.size), Lib.hid HX.out, Lib.hid HR2.out, Lib.hid (fun h => absurd (HLN.out.1 ▸ h) (by omega)), Lib.hid HMY.out, Lib.hid HCN.out⟩
                case measure => simp [intOf]; omega
          · as_aux_lemma =>
              have n10 : (ty == 1) = false := by simpa using t1
              have hE2 : (E || (segs.drop (k + 1)).any fun t => t.ty == 1 && t.has entry) = EE := by
                rw [← hE.out, HST.out.2.2.2.1, n10, Bool.false_and, Bool.false_or]
              have hLn : loadsN (segs.take (k + 1)) = L := by rw [HST.out.1, if_neg t1, Nat.add_zero]
              have hRn : rises size 0 segs = rises size e (segs.drop (k + 1)) := by rw [hrs.out, HST.out.2.2.1, if_neg t1, Bool.true_and]
              have HLN := Lib.hid hLn
              have HRN := Lib.hid hRn
              have HEN := Lib.hid hE2
              have HZ0 := Lib.hid (fun h => hz0.out (hLn ▸ h))
              clear hE2 hLn hRn hhas hrs hE hL hz0 HFF HLL
              by_cases t2 : ty = 2
              case neg =>
                have n20 : (ty == 2) = false := by simpa using t2
                have hDn : dynsN (segs.take (k + 1)) = D := by rw [HST.out.2.1, if_neg t2, Nat.add_zero]
                have hCn : (∀ t, t ∈ segs → t.May size) → ((segs.take (k + 1)).all fun s => !(s.ty == 2) || segs.any fun t => t.ty == 1 && s.within t) = true := fun h => by rw [HST.out.2.2.2.2, hca.out h, n20]; rfl
                have HCN := Lib.hid hCn
                have HDN := Lib.hid hDn
                clear hCn hDn hca hD
                go_wp2_with (go_at_call 30; refine (HSS.out _).mono ?_; rintro e v2 ⟨rfl, hb2⟩; clear x0 x1 x2 hbw; obtain ⟨y0, y1, y2, y3, y4, y5, y6⟩ := HSC.out _ hb2; obtain ⟨-, hbw, x0, x1, x2⟩ := HTR.out _ (HB1.out.trans (hb2.mono HB1.out.size)))
                go_roundw
                case rel => exact ⟨k + 1, e, E, by omega, by go_num, by rw [HLN.out], by rw [HDN.out], rfl, rfl, HB1.out.trans (hb2.mono HB1.out.size), Lib.hid HEN.out, Lib.hid HRN.out, Lib.hid HZ0.out, Lib.hid HMY.out, Lib.hid HCN.out⟩
                case measure => simp [intOf]; omega
              case pos =>
                subst t2
                have hDn : dynsN (segs.take (k + 1)) = D + 1 := by rw [HST.out.2.1]; rfl
                have hCn : (∀ t, t ∈ segs → t.May size) → ((segs.take (k + 1)).all fun s => !(s.ty == 2) || segs.any fun t => t.ty == 1 && s.within t) = segs.any fun t => t.ty == 1 && (Seg.mk 2 fl off ad' sz mem al).wth t := fun h => by rw [HST.out.2.2.2.2, hca.out h, HWT.out h]; rfl
                have HCN := Lib.hid hCn
                have HDN := Lib.hid hDn
                have hwo : IntKind.i64.wrap (ad' + mem) = ad' + mem := IntWalk.i64_in _ (by omega)
                clear hCn hDn hca hD HWT HST
                go_wp2_with (go_at_call 30; refine (HSS.out _).mono ?_; rintro e v2 ⟨rfl, hb2⟩; clear x0 x1 x2 hbw; obtain ⟨y0, y1, y2, y3, y4, y5, y6⟩ := HSC.out _ hb2; obtain ⟨-, hbw, x0, x1, x2⟩ := HTR.out _ (HB1.out.trans (hb2.mono HB1.out.size)))
                have hkq := HK1.out.below hb2 HK1.out.lt
                have hbq := HB1.out.trans (hb2.mono HB1.out.size)
                clear HK1 HB1 hb2 HSC HSS y0 y1 y2 y3 y4 y5 y6 x0 x1 x2 hbw
                generalize v2 = V at *
                obtain ⟨g, hg⟩ : ∃ g, wr.heap.size = g := ⟨_, rfl⟩
                rw [hg] at hkq ⊢
                clear hbe hg
                go_loopw [13, 14] (fun wi i wq => ∃ (j : Nat), j ≤ n ∧ i = .int .i64 j ∧ wi = .bool ((segs.take j).any fun t => t.ty == 1 && (Seg.mk 2 fl off ad' sz mem al).wth t) ∧ Below W.heap.size W wq ∧ Hid (Blk wq g 47 #[.int .i64 2, .int .i64 fl, .int .i64 off, .int .i64 ad', .int .i64 sz, .int .i64 mem, .int .i64 al])) (fun _ i _ => n - (intOf i).toNat)
                case atStart => exact ⟨0, Nat.zero_le _, rfl, rfl, hbq, Lib.hid hkq⟩
                case round =>
                  clear hbq hkq
                  obtain ⟨j, hj, rfl, rfl, hbq, hkq⟩ := hrel
                  obtain ⟨hr, hbw, x0, x1, x2⟩ := HTR.out _ hbq
                  by_cases hjn : j < n
                  · have hjl : j < segs.length := by rw [HN.out]; exact hjn
                    obtain ⟨ad2, he2, hblt2, hwf2, d0, d1, d2, d3, d4, d5, d6⟩ := hr.at_ hjl
                    obtain rfl := Option.some.inj he2
                    have hany := any_take hjl (fun t => t.ty == 1 && (Seg.mk 2 fl off ad' sz mem al).wth t)
                    obtain ⟨t, ht⟩ : ∃ t, segs[j] = t := ⟨_, rfl⟩
                    rw [ht] at hany hwf2 d0 d1 d2 d3 d4 d5 d6
                    obtain ⟨wi, hwi⟩ : ∃ wi, ((segs.take j).any fun t => t.ty == 1 && (Seg.mk 2 fl off ad' sz mem al).wth t) = wi := ⟨_, rfl⟩
                    rw [hwi] at hany ⊢
                    have HBQ := Lib.hid (show Below W.heap.size W (wr.alloc (.cells t.cs 47)) from hbq.alloc hbq.size _)
                    have HKQ := Lib.hid (hkq.out.alloc (.cells t.cs 47))
                    have hkc := seg_cells (s := Seg.mk 2 fl off ad' sz mem al) HKQ.out
                    have htc := seg_cells (Blk.new wr 47 t.cs)
                    have hglt := hkq.out.lt
                    have hx1 := hwf2.ad
                    obtain ⟨ty', fl', off', ad2', sz', mem', al'⟩ := t
                    unfold Seg.cs at HBQ HKQ hkc htc
                    unfold Seg.wth at hany
                    simp only at *
                    obtain ⟨-, -, y2, y3, -, y5, -⟩ := hkc
                    obtain ⟨z0, -, z2, z3, -, z5, -⟩ := htc
                    obtain ⟨q, hq⟩ : ∃ q, wrap64 (ad2' + mem') = q := ⟨_, rfl⟩
                    obtain ⟨p1, hp1⟩ : ∃ q, wrap64 (off - off') = q := ⟨_, rfl⟩
                    obtain ⟨p2, hp2⟩ : ∃ q, wrap64 (ad' - ad2') = q := ⟨_, rfl⟩
                    rw [hq, hp1, hp2] at hany
                    have hq2 : IntKind.i64.wrap (ad2' + mem') = q := (IntWalk.i64_left _).trans hq
                    have hp12 : IntKind.i64.wrap (off - off') = p1 := (IntWalk.i64_left _).trans hp1
                    have hp22 : IntKind.i64.wrap (ad' - ad2') = p2 := (IntWalk.i64_left _).trans hp2
                    have HANY := Lib.hid hany
                    clear hany ht hwi hwf2 hkq hbq hr hq hp1 hp2
                    cases wi
                    case true =>
                      have HA2 := Lib.hid (show ((segs.take (j + 1)).any fun t => t.ty == 1 && (Seg.mk 2 fl off ad' sz mem al).wth t) = true from by unfold Seg.wth; rw [HANY.out]; rfl)
                      go_wp2_with fail
                      go_roundw
                      case rel => exact ⟨j + 1, by omega, by go_num, by rw [HA2.out], HBQ.out, Lib.hid HKQ.out⟩
                      case measure => simp [intOf]; omega
                    case false =>
                      by_cases u1 : ty' = 1
                      case neg =>
                        have u10 : (ty' == 1) = false := by simpa using u1
                        have HA2 := Lib.hid (show ((segs.take (j + 1)).any fun t => t.ty == 1 && (Seg.mk 2 fl off ad' sz mem al).wth t) = false from by unfold Seg.wth; rw [HANY.out, u10]; rfl)
                        go_wp2_with fail
                        go_roundw
                        case rel => exact ⟨j + 1, by omega, by go_num, by rw [HA2.out], HBQ.out, Lib.hid HKQ.out⟩
                        case measure => simp [intOf]; omega
                      subst u1
                      by_cases u2 : ad2' ≤ ad'
                      case neg =>
                        have HA2 := Lib.hid (show ((segs.take (j + 1)).any fun t => t.ty == 1 && (Seg.mk 2 fl off ad' sz mem al).wth t) = false from by unfold Seg.wth; rw [HANY.out, decide_eq_false u2]; rfl)
                        go_wp2_with fail
                        go_roundw
                        case rel => exact ⟨j + 1, by omega, by go_num, by rw [HA2.out], HBQ.out, Lib.hid HKQ.out⟩
                        case measure => simp [intOf]; omega
                      by_cases u3 : ad' + mem ≤ q
                      case neg =>
                        have HA2 := Lib.hid (show ((segs.take (j + 1)).any fun t => t.ty == 1 && (Seg.mk 2 fl off ad' sz mem al).wth t) = false from by unfold Seg.wth; rw [HANY.out, decide_eq_false u3, Bool.and_false, Bool.false_and]; rfl)
                        go_wp2_with fail
                        go_roundw
                        case rel => exact ⟨j + 1, by omega, by go_num, by rw [HA2.out], HBQ.out, Lib.hid HKQ.out⟩
                        case measure => simp [intOf]; omega
                      have HA2 := Lib.hid (show ((segs.take (j + 1)).any fun t => t.ty == 1 && (Seg.mk 2 fl off ad' sz mem al).wth t) = (p1 == p2) from by unfold Seg.wth; rw [HANY.out, decide_eq_true u3, decide_eq_true u2]; simp)
                      go_wp2_with fail
                      go_roundw
                      case rel => exact ⟨j + 1, by omega, by go_num, by rw [HA2.out], HBQ.out, Lib.hid HKQ.out⟩
                      case measure => simp [intOf]; omega
                  · obtain rfl : j = n := by omega
                    have htk : segs.take j = segs := List.take_of_length_le (by rw [HN.out]; exact Nat.le_refl _)
                    rw [htk]
                    obtain ⟨wi, hwi⟩ : ∃ wi, (segs.any fun t => t.ty == 1 && (Seg.mk 2 fl off ad' sz mem al).wth t) = wi := ⟨_, rfl⟩
                    have hcn := HCN.out
                    rw [hwi] at hcn ⊢
                    clear htk hwi
                    cases wi
                    case false =>
                      have hcf : ck = false := by
                        by_cases hall : ∀ t, t ∈ segs → t.May size
                        · refine HCAR.out ?_
                          have h1 := hcn hall
                          unfold carriedS
                          cases hc : segs.all fun s => !(s.ty == 2) || segs.any fun t => t.ty == 1 && s.within t
                          · rfl
                          · exfalso
                            rw [List.all_eq_true] at hc
                            have h2 : ((segs.take (k + 1)).all fun s => !(s.ty == 2) || segs.any fun t => t.ty == 1 && s.within t) = true := List.all_eq_true.2 fun x hx => hc x (List.mem_of_mem_take hx)
                            rw [h2] at h1
                            exact absurd h1 (by simp)
                        · exact HRIS.out (rises_all hall)
                      have HV := Lib.hid (show (16 : Int) = r from (HNO.out hcf).symm)
                      clear hcf hcn
                      go_wp2_with fail
                      go_ret
                      exact ⟨congrArg (fun r => Ending.returned (.int .i64 r)) HV.out, hbw⟩
                    case true =>
                      have HC2 := Lib.hid hcn
                      clear hcn
                      go_wp2_with fail
                      go_roundw
                      case rel => exact ⟨k + 1, e, E, by omega, by go_num, by rw [HLN.out], by rw [HDN.out]; go_num, rfl, rfl, hbq, Lib.hid HEN.out, Lib.hid HRN.out, Lib.hid HZ0.out, Lib.hid HMY.out, Lib.hid HC2.out⟩
                      case measure => simp [intOf]; omega
        · as_aux_lemma =>
            obtain rfl : k = n := by omega
            have hdr : segs.drop k = [] := List.drop_of_length_le (by rw [HN.out]; exact Nat.le_refl _)
            have htk : segs.take k = segs := List.take_of_length_le (by rw [HN.out]; exact Nat.le_refl _)
            have h1 : rises size 0 segs = true := by rw [hrs.out, hdr]; rfl
            have h2 : carriedS segs = true := by
              have h := hca.out (fun t ht => hmy.out t (by rw [htk]; exact ht))
              rw [htk] at h
              exact h
            have h3 : E = EE := by have h := hE.out; rw [hdr] at h; simpa using h
            have hcf : ck = (decide (0 < L) && decide (D ≤ 1) && E) := by
              rw [HCHK.out, ← h3, h2]
              unfold standS
              rw [h1, ← hL, ← hD, htk, show decide (64 + (k : Int) * 56 ≤ size) = true from decide_eq_true (by omega)]
              simp [n1, n2]
            have HCF := Lib.hid hcf
            clear hcf h1 h2 h3 hdr htk hL hD hr
            by_cases l1 : 0 < L
            case neg =>
              obtain rfl : L = 0 := by omega
              have HV := Lib.hid (show (16 : Int) = r from (HNO.out (by rw [HCF.out]; rfl)).symm)
              go_wp2_with fail
              go_ret
              exact ⟨congrArg (fun r => Ending.returned (.int .i64 r)) HV.out, hbw⟩
            by_cases l2 : D ≤ 1
            case neg =>
              have HV := Lib.hid (show (16 : Int) = r from (HNO.out (by rw [HCF.out]; simp [l2])).symm)
              go_wp2_with fail
              go_ret
              exact ⟨congrArg (fun r => Ending.returned (.int .i64 r)) HV.out, hbw⟩
            cases E
            case false =>
              have HV := Lib.hid (show (16 : Int) = r from (HNO.out (by rw [HCF.out]; simp)).symm)
              go_wp2_with fail
              go_ret
              exact ⟨congrArg (fun r => Ending.returned (.int .i64 r)) HV.out, hbw⟩
            case true =>
              have HV := Lib.hid (show (0 : Int) = r from by rw [HYES.out, HCF.out]; simp [l1, l2])
              have l10 : ¬ (L : Int) = 0 := by omega
              have l11 : ¬ (1 : Int) < D := by omega
              go_wp2_with fail
              go_ret
              exact ⟨congrArg (fun r => Ending.returned (.int .i64 r)) HV.out, hbw⟩
end Go.Proofs.YtakmmphjdkapeaaDoor
