/- Package elf: carried, begins, Check. -/
import Derived.Test.YtakmmphjdkapeaaDoorEH
namespace Go.Proofs.YtakmmphjdkapeaaDoor
open Go.RowKit
set_option linter.unusedVariables false
set_option linter.unusedSimpArgs false

set_option maxRecDepth 100000 in
set_option maxHeartbeats 1600000 in
theorem carried_any (segs : List Seg) (A : Option Addr) (c : Nat) (z : Int) (w : World) (hr : SegRow w A segs) (hl : segs.length ≤ 1000) (hm : ∀ s, s ∈ segs → s.May z) :
    Calls Tryd.prog 27 #[.slice A segs.length c] w fun e w' => e = .returned (.bool (carriedS segs)) ∧ Below w.heap.size w w' := by
  have hmf : ∀ (fn : Fn) (first cap : Array Value) (w : World), (Instr.makeFunc fn first cap).run Tryd.prog w = .ok (.func fn first cap) w := fun _ _ _ _ => rfl
  obtain ⟨n, hn⟩ : ∃ n, segs.length = n := ⟨_, rfl⟩
  obtain ⟨r, hr0⟩ : ∃ r, carriedS segs = r := ⟨_, rfl⟩
  have HR := Lib.hid hr0
  rw [hr0]
  have HTR := Lib.hid (fun v (hv : Below w.heap.size w v) => show SegRow v A segs from hr.below hv)
  have HSM := Lib.hid (fun (v : World) (b : Nat) (s : Seg) (hs : s ∈ segs) (hv : Below w.heap.size w v) (hk : Blk v b 47 s.cs) =>
    show Calls Tryd.prog 48 #[.slice A n c, .func (.func 46) #[] #[.pointer (some ⟨b, 0, none⟩)]] v fun e w' => e = .returned (.bool (segs.any fun t => t.ty == 1 && s.within t)) ∧ Below v.heap.size v w' from by
    rw [← hn]
    exact some_within segs A c b (s.within) v (hr.below hv) hl fun v2 t ht hv2 => within_clo s t b z z v2 (hm s hs) (hm t ht) (hk.below hv2 hk.lt))
  rw [hn]
  have HN := Lib.hid hn
  clear hr0 hr hn hm
  go_enter Tryd.func27, Tryd.ntmps27
  go_wp2
  go_loopw [8] (fun i wr => ∃ k : Nat, k ≤ n ∧ i = .int .i64 k ∧ Hid (r = (segs.drop k).all fun s => !(s.ty == 2) || segs.any fun t => t.ty == 1 && s.within t) ∧ Below w.heap.size w wr) (fun i _ => n - (intOf i).toNat)
  case atStart => exact ⟨0, Nat.zero_le _, rfl, Lib.hid HR.out.symm, Below.refl _ _⟩
  case round =>
    obtain ⟨k, hk, rfl, hrs, hbe⟩ := hrel
    by_cases hlt : k < n
    · have hr := HTR.out _ hbe
      have hkl : k < segs.length := by rw [HN.out]; exact hlt
      obtain ⟨ad, rfl, hblt, hwf, d0, d1, d2, d3, d4, d5, d6⟩ := hr.at_ hkl
      have hst := hrs.out
      rw [List.drop_eq_getElem_cons hkl, List.all_cons] at hst
      have hmem := List.getElem_mem hkl
      obtain ⟨s, hs⟩ : ∃ s, segs[k] = s := ⟨_, rfl⟩
      rw [hs] at hwf d0 d1 d2 d3 d4 d5 d6 hst hmem
      have HB1 := Lib.hid (And.intro (Blk.new wr 47 s.cs) (hbe.alloc hbe.size (.cells s.cs 47)))
      have hsm := HSM.out _ wr.heap.size s hmem HB1.out.2 HB1.out.1
      obtain ⟨fs, hfs⟩ : ∃ fs, (segs.any fun t => t.ty == 1 && s.within t) = fs := ⟨_, rfl⟩
      rw [hfs] at hst hsm
      obtain ⟨ty, fl, off, ad', sz, mem, al⟩ := s
      unfold Seg.cs at hsm
      unfold Seg.cs at HB1
      simp only at *
      have HS := Lib.hid hsm
      clear hsm hwf hs hr hfs hmem
      obtain ⟨x0, x1, x2, x3, x4, x5, x6⟩ := seg_cells (s := ⟨ty, fl, off, ad', sz, mem, al⟩) HB1.out.1
      simp only at x0 x1 x2 x3 x4 x5 x6
      have hw0 : w.heap.size ≤ wr.heap.size := hbe.size
      by_cases h1 : ty = 2
      · subst h1
        cases fs
        case true =>
          have HV := Lib.hid (show r = (segs.drop (k + 1)).all fun s => !(s.ty == 2) || segs.any fun t => t.ty == 1 && s.within t from by rw [hst]; simp)
          clear hst
          go_wp2_with (go_at_call 48; with_reducible refine HS.out.mono ?_; rintro e v2 ⟨rfl, hb2⟩)
          go_roundw
          case rel => exact ⟨k + 1, by omega, by go_num, Lib.hid HV.out, HB1.out.2.trans (hb2.mono HB1.out.2.size)⟩
          case measure => simp [intOf]; omega
        case false =>
          have HV := Lib.hid (show false = r from by rw [hst]; simp)
          clear hst
          go_wp2_with (go_at_call 48; with_reducible refine HS.out.mono ?_; rintro e v2 ⟨rfl, hb2⟩)
          go_ret
          exact ⟨congrArg (fun r => Ending.returned (.bool r)) HV.out, HB1.out.2.trans (hb2.mono HB1.out.2.size)⟩
      · have h10 : (ty == 2) = false := by simpa using h1
        have HV := Lib.hid (show r = (segs.drop (k + 1)).all fun s => !(s.ty == 2) || segs.any fun t => t.ty == 1 && s.within t from by rw [hst, h10]; simp)
        clear hst
        go_wp2_with fail
        go_roundw
        case rel => exact ⟨k + 1, by omega, by go_num, Lib.hid HV.out, HB1.out.2⟩
        case measure => simp [intOf]; omega
    · obtain rfl : k = n := by omega
      have HV := Lib.hid (show true = r from by rw [hrs.out, List.drop_of_length_le (by rw [HN.out]; exact Nat.le_refl _)]; rfl)
      go_wp2_with fail
      go_ret
      exact ⟨congrArg (fun r => Ending.returned (.bool r)) HV.out, hbe⟩

/-- An image, as a value. -/
def Img.v (x : Img) (A : Option Addr) (c : Nat) : Value := .agg #[.int .i64 x.kind, .int .i64 x.entry, .slice A x.segs.length c]
def Img.cs (x : Img) (A : Option Addr) (c : Nat) : Array Value := #[.int .i64 x.kind, .int .i64 x.entry, .slice A x.segs.length c]
theorem img_cells {v : World} {g : Nat} {x : Img} {A : Option Addr} {c : Nat} (h : Blk v g 24 (x.cs A c)) : v.cell? ⟨g, 0, none⟩ = some (.int .i64 x.kind) ∧ v.cell? ⟨g, 1, none⟩ = some (.int .i64 x.entry) ∧ v.cell? ⟨g, 2, none⟩ = some (.slice A x.segs.length c) :=
  ⟨h.at_ 0 _ rfl, h.at_ 1 _ rfl, h.at_ 2 _ rfl⟩

set_option maxHeartbeats 800000 in
theorem begins_any (x : Img) (A : Option Addr) (c : Nat) (z : Int) (w : World) (hr : SegRow w A x.segs) (hl : x.segs.length ≤ 1000) (hm : ∀ s, s ∈ x.segs → s.May z) :
    Calls Tryd.prog 28 #[x.v A c] w fun e w' => e = .returned (.bool (beginsS x)) ∧ Below w.heap.size w w' := by
  have hmf : ∀ (fn : Fn) (first cap : Array Value) (w : World), (Instr.makeFunc fn first cap).run Tryd.prog w = .ok (.func fn first cap) w := fun _ _ _ _ => rfl
  have hB := (Below.refl w.heap.size w).alloc (Nat.le_refl _) (.cells (x.cs A c) 24)
  have hK := Blk.new w 24 (x.cs A c)
  have hsm := some_has x.segs A c w.heap.size (fun t => t.has x.entry) (w.alloc (.cells (x.cs A c) 24)) (hr.below hB) hl
    fun v t ht hv => has_clo t w.heap.size z x.entry v (hm t ht) (Nat.lt_of_lt_of_le (by simp) hv.size) ((hv.cell (by simp)).trans (hK.at_ 1 _ rfl))
  obtain ⟨x0, x1, x2⟩ := img_cells hK
  have HB := Lib.hid hB
  unfold beginsS
  obtain ⟨q, hq⟩ : ∃ q, (x.segs.any fun t => t.ty == 1 && t.has x.entry) = q := ⟨_, rfl⟩
  rw [hq] at hsm ⊢
  obtain ⟨kind, entry, segs⟩ := x
  unfold Img.v
  unfold Img.cs at *
  simp only at *
  have HS := Lib.hid hsm
  clear hK hB hsm hm hr hl hq
  by_cases h1 : kind = 3
  · subst h1
    by_cases h2 : entry = 0
    · subst h2
      go_enter Tryd.func28, Tryd.ntmps28
      go_wp2_with fail
      go_ret
      exact ⟨rfl, HB.out⟩
    · have h20 : (entry == 0) = false := by simpa using h2
      rw [h20]
      go_enter Tryd.func28, Tryd.ntmps28
      go_wp2_with (go_at_call 48; with_reducible refine HS.out.mono ?_; rintro e v2 ⟨rfl, hb2⟩)
      go_ret
      exact ⟨rfl, HB.out.trans (hb2.mono HB.out.size)⟩
  · have h10 : (kind == 3) = false := by simpa using h1
    rw [h10]
    go_enter Tryd.func28, Tryd.ntmps28
    go_wp2_with (go_at_call 48; with_reducible refine HS.out.mono ?_; rintro e v2 ⟨rfl, hb2⟩)
    go_ret
    exact ⟨rfl, HB.out.trans (hb2.mono HB.out.size)⟩

set_option maxHeartbeats 1600000 in
theorem echeck_any (x : Img) (A : Option Addr) (c : Nat) (size : Int) (w : World) (hT : ETab w) (hr : SegRow w A x.segs) (hl : x.segs.length ≤ 1000) (hz : (Lit.int .i64 size).wf = true) :
    Calls Tryd.prog 12 #[x.v A c, .int .i64 size] w fun e w' => e = .returned (.int .i64 (x.err size)) ∧ Below w.heap.size w w' := by
  have hB := (Below.refl w.heap.size w).alloc (Nat.le_refl _) (.cells (x.cs A c) 24)
  have hK := Blk.new w 24 (x.cs A c)
  have HK := Lib.hid (fun v (hv : Below (w.alloc (.cells (x.cs A c) 24)).heap.size (w.alloc (.cells (x.cs A c) 24)) v) => img_cells (hK.below hv (by simp)))
  have hST := fun v (hv : Below w.heap.size w v) => stand_any x.segs A c size v (hT.on hv) (hr.below hv) hl hz
  have hCA := fun v (hv : Below w.heap.size w v) (hm : ∀ s, s ∈ x.segs → s.May size) => carried_any x.segs A c size v (hr.below hv) hl hm
  have hBE := fun v (hv : Below w.heap.size w v) (hm : ∀ s, s ∈ x.segs → s.May size) => begins_any x A c size v (hr.below hv) hl hm
  have hSM := fun (h : standS x.segs size = true) => stand_may h
  obtain ⟨r, hr0⟩ : ∃ r, x.err size = r := ⟨_, rfl⟩
  have hrr := hr0
  unfold Img.err Img.chk at hr0
  rw [hrr]
  obtain ⟨x0, x1, x2⟩ := img_cells hK
  obtain ⟨q1, h1⟩ : ∃ q, standS x.segs size = q := ⟨_, rfl⟩
  obtain ⟨q2, h2⟩ : ∃ q, carriedS x.segs = q := ⟨_, rfl⟩
  obtain ⟨q3, h3⟩ : ∃ q, beginsS x = q := ⟨_, rfl⟩
  rw [h1] at hST hSM hr0
  rw [h2] at hCA hr0
  rw [h3] at hBE hr0
  obtain ⟨kind, entry, segs⟩ := x
  unfold Img.v at *
  unfold Img.cs at *
  simp only at *
  obtain ⟨n, hn⟩ : ∃ n, segs.length = n := ⟨_, rfl⟩
  simp only [hn] at hr0 hB HK x0 x1 x2 hST hCA hBE hl ⊢
  have HST := Lib.hid hST
  have HCA := Lib.hid hCA
  have HBE := Lib.hid hBE
  have HR0 := Lib.hid hr0
  have HB := Lib.hid hB
  clear hr hB hK hrr hST hCA hBE h1 h2 h3 hr0 hT hz hn
  by_cases k2 : kind = 2
  · subst k2
    by_cases n1 : 1 ≤ n
    case neg =>
      have HV := Lib.hid (show (16 : Int) = r from by rw [← HR0.out]; simp [*])
      go_enter Tryd.func12, Tryd.ntmps12
      go_wp2_with fail
      go_ret
      exact ⟨congrArg (fun r => Ending.returned (.int .i64 r)) HV.out, HB.out⟩
    by_cases n2 : n ≤ 16
    case neg =>
      have HV := Lib.hid (show (16 : Int) = r from by rw [← HR0.out]; simp [*])
      go_enter Tryd.func12, Tryd.ntmps12
      go_wp2_with fail
      go_ret
      exact ⟨congrArg (fun r => Ending.returned (.int .i64 r)) HV.out, HB.out⟩
    by_cases n3 : (64 : Int) + n * 56 ≤ size
    case neg =>
      have HV := Lib.hid (show (16 : Int) = r from by rw [← HR0.out]; simp [*])
      go_enter Tryd.func12, Tryd.ntmps12
      go_wp2_with fail
      go_ret
      exact ⟨congrArg (fun r => Ending.returned (.int .i64 r)) HV.out, HB.out⟩
    cases q1
    case false =>
      have HV := Lib.hid (show (16 : Int) = r from by rw [← HR0.out]; simp [*])
      go_enter Tryd.func12, Tryd.ntmps12
      go_wp2_with (first
      | (go_at_call 26; with_reducible refine (HST.out _ HB.out).mono ?_; rintro e v2 ⟨rfl, hb2⟩; clear x0 x1 x2; obtain ⟨x0, x1, x2⟩ := HK.out _ hb2; have hB2 := HB.out.trans (hb2.mono HB.out.size))
      | (go_at_call 27; with_reducible refine (HCA.out _ hB2 hmy).mono ?_; rintro e v3 ⟨rfl, hb3⟩; replace hb2 := hb2.trans (hb3.mono hb2.size); replace hB2 := hB2.trans (hb3.mono hB2.size); clear x0 x1 x2; obtain ⟨x0, x1, x2⟩ := HK.out _ hb2)
      | (go_at_call 28; with_reducible refine (HBE.out _ hB2 hmy).mono ?_; rintro e v4 ⟨rfl, hb4⟩; replace hB2 := hB2.trans (hb4.mono hB2.size)))
      go_ret
      exact ⟨congrArg (fun r => Ending.returned (.int .i64 r)) HV.out, hB2⟩
    have hmy := hSM rfl
    clear hSM
    cases q2
    case false =>
      have HV := Lib.hid (show (16 : Int) = r from by rw [← HR0.out]; simp [*])
      go_enter Tryd.func12, Tryd.ntmps12
      go_wp2_with (first
      | (go_at_call 26; with_reducible refine (HST.out _ HB.out).mono ?_; rintro e v2 ⟨rfl, hb2⟩; clear x0 x1 x2; obtain ⟨x0, x1, x2⟩ := HK.out _ hb2; have hB2 := HB.out.trans (hb2.mono HB.out.size))
      | (go_at_call 27; with_reducible refine (HCA.out _ hB2 hmy).mono ?_; rintro e v3 ⟨rfl, hb3⟩; replace hb2 := hb2.trans (hb3.mono hb2.size); replace hB2 := hB2.trans (hb3.mono hB2.size); clear x0 x1 x2; obtain ⟨x0, x1, x2⟩ := HK.out _ hb2)
      | (go_at_call 28; with_reducible refine (HBE.out _ hB2 hmy).mono ?_; rintro e v4 ⟨rfl, hb4⟩; replace hB2 := hB2.trans (hb4.mono hB2.size)))
      go_ret
      exact ⟨congrArg (fun r => Ending.returned (.int .i64 r)) HV.out, hB2⟩
    cases q3
    case false =>
      have HV := Lib.hid (show (16 : Int) = r from by rw [← HR0.out]; simp [*])
      go_enter Tryd.func12, Tryd.ntmps12
      go_wp2_with (first
      | (go_at_call 26; with_reducible refine (HST.out _ HB.out).mono ?_; rintro e v2 ⟨rfl, hb2⟩; clear x0 x1 x2; obtain ⟨x0, x1, x2⟩ := HK.out _ hb2; have hB2 := HB.out.trans (hb2.mono HB.out.size))
      | (go_at_call 27; with_reducible refine (HCA.out _ hB2 hmy).mono ?_; rintro e v3 ⟨rfl, hb3⟩; replace hb2 := hb2.trans (hb3.mono hb2.size); replace hB2 := hB2.trans (hb3.mono hB2.size); clear x0 x1 x2; obtain ⟨x0, x1, x2⟩ := HK.out _ hb2)
      | (go_at_call 28; with_reducible refine (HBE.out _ hB2 hmy).mono ?_; rintro e v4 ⟨rfl, hb4⟩; replace hB2 := hB2.trans (hb4.mono hB2.size)))
      go_ret
      exact ⟨congrArg (fun r => Ending.returned (.int .i64 r)) HV.out, hB2⟩
    have HV := Lib.hid (show (0 : Int) = r from by rw [← HR0.out]; simp [*])
    go_enter Tryd.func12, Tryd.ntmps12
    go_wp2_with (first
      | (go_at_call 26; with_reducible refine (HST.out _ HB.out).mono ?_; rintro e v2 ⟨rfl, hb2⟩; clear x0 x1 x2; obtain ⟨x0, x1, x2⟩ := HK.out _ hb2; have hB2 := HB.out.trans (hb2.mono HB.out.size))
      | (go_at_call 27; with_reducible refine (HCA.out _ hB2 hmy).mono ?_; rintro e v3 ⟨rfl, hb3⟩; replace hb2 := hb2.trans (hb3.mono hb2.size); replace hB2 := hB2.trans (hb3.mono hB2.size); clear x0 x1 x2; obtain ⟨x0, x1, x2⟩ := HK.out _ hb2)
      | (go_at_call 28; with_reducible refine (HBE.out _ hB2 hmy).mono ?_; rintro e v4 ⟨rfl, hb4⟩; replace hB2 := hB2.trans (hb4.mono hB2.size)))
    go_ret
    exact ⟨congrArg (fun r => Ending.returned (.int .i64 r)) HV.out, hB2⟩
  by_cases k3 : kind = 3
  · subst k3
    by_cases n1 : 1 ≤ n
    case neg =>
      have HV := Lib.hid (show (16 : Int) = r from by rw [← HR0.out]; simp [*])
      go_enter Tryd.func12, Tryd.ntmps12
      go_wp2_with fail
      go_ret
      exact ⟨congrArg (fun r => Ending.returned (.int .i64 r)) HV.out, HB.out⟩
    by_cases n2 : n ≤ 16
    case neg =>
      have HV := Lib.hid (show (16 : Int) = r from by rw [← HR0.out]; simp [*])
      go_enter Tryd.func12, Tryd.ntmps12
      go_wp2_with fail
      go_ret
      exact ⟨congrArg (fun r => Ending.returned (.int .i64 r)) HV.out, HB.out⟩
    by_cases n3 : (64 : Int) + n * 56 ≤ size
    case neg =>
      have HV := Lib.hid (show (16 : Int) = r from by rw [← HR0.out]; simp [*])
      go_enter Tryd.func12, Tryd.ntmps12
      go_wp2_with fail
      go_ret
      exact ⟨congrArg (fun r => Ending.returned (.int .i64 r)) HV.out, HB.out⟩
    cases q1
    case false =>
      have HV := Lib.hid (show (16 : Int) = r from by rw [← HR0.out]; simp [*])
      go_enter Tryd.func12, Tryd.ntmps12
      go_wp2_with (first
      | (go_at_call 26; with_reducible refine (HST.out _ HB.out).mono ?_; rintro e v2 ⟨rfl, hb2⟩; clear x0 x1 x2; obtain ⟨x0, x1, x2⟩ := HK.out _ hb2; have hB2 := HB.out.trans (hb2.mono HB.out.size))
      | (go_at_call 27; with_reducible refine (HCA.out _ hB2 hmy).mono ?_; rintro e v3 ⟨rfl, hb3⟩; replace hb2 := hb2.trans (hb3.mono hb2.size); replace hB2 := hB2.trans (hb3.mono hB2.size); clear x0 x1 x2; obtain ⟨x0, x1, x2⟩ := HK.out _ hb2)
      | (go_at_call 28; with_reducible refine (HBE.out _ hB2 hmy).mono ?_; rintro e v4 ⟨rfl, hb4⟩; replace hB2 := hB2.trans (hb4.mono hB2.size)))
      go_ret
      exact ⟨congrArg (fun r => Ending.returned (.int .i64 r)) HV.out, hB2⟩
    have hmy := hSM rfl
    clear hSM
    cases q2
    case false =>
      have HV := Lib.hid (show (16 : Int) = r from by rw [← HR0.out]; simp [*])
      go_enter Tryd.func12, Tryd.ntmps12
      go_wp2_with (first
      | (go_at_call 26; with_reducible refine (HST.out _ HB.out).mono ?_; rintro e v2 ⟨rfl, hb2⟩; clear x0 x1 x2; obtain ⟨x0, x1, x2⟩ := HK.out _ hb2; have hB2 := HB.out.trans (hb2.mono HB.out.size))
      | (go_at_call 27; with_reducible refine (HCA.out _ hB2 hmy).mono ?_; rintro e v3 ⟨rfl, hb3⟩; replace hb2 := hb2.trans (hb3.mono hb2.size); replace hB2 := hB2.trans (hb3.mono hB2.size); clear x0 x1 x2; obtain ⟨x0, x1, x2⟩ := HK.out _ hb2)
      | (go_at_call 28; with_reducible refine (HBE.out _ hB2 hmy).mono ?_; rintro e v4 ⟨rfl, hb4⟩; replace hB2 := hB2.trans (hb4.mono hB2.size)))
      go_ret
      exact ⟨congrArg (fun r => Ending.returned (.int .i64 r)) HV.out, hB2⟩
    cases q3
    case false =>
      have HV := Lib.hid (show (16 : Int) = r from by rw [← HR0.out]; simp [*])
      go_enter Tryd.func12, Tryd.ntmps12
      go_wp2_with (first
      | (go_at_call 26; with_reducible refine (HST.out _ HB.out).mono ?_; rintro e v2 ⟨rfl, hb2⟩; clear x0 x1 x2; obtain ⟨x0, x1, x2⟩ := HK.out _ hb2; have hB2 := HB.out.trans (hb2.mono HB.out.size))
      | (go_at_call 27; with_reducible refine (HCA.out _ hB2 hmy).mono ?_; rintro e v3 ⟨rfl, hb3⟩; replace hb2 := hb2.trans (hb3.mono hb2.size); replace hB2 := hB2.trans (hb3.mono hB2.size); clear x0 x1 x2; obtain ⟨x0, x1, x2⟩ := HK.out _ hb2)
      | (go_at_call 28; with_reducible refine (HBE.out _ hB2 hmy).mono ?_; rintro e v4 ⟨rfl, hb4⟩; replace hB2 := hB2.trans (hb4.mono hB2.size)))
      go_ret
      exact ⟨congrArg (fun r => Ending.returned (.int .i64 r)) HV.out, hB2⟩
    have HV := Lib.hid (show (0 : Int) = r from by rw [← HR0.out]; simp [*])
    go_enter Tryd.func12, Tryd.ntmps12
    go_wp2_with (first
      | (go_at_call 26; with_reducible refine (HST.out _ HB.out).mono ?_; rintro e v2 ⟨rfl, hb2⟩; clear x0 x1 x2; obtain ⟨x0, x1, x2⟩ := HK.out _ hb2; have hB2 := HB.out.trans (hb2.mono HB.out.size))
      | (go_at_call 27; with_reducible refine (HCA.out _ hB2 hmy).mono ?_; rintro e v3 ⟨rfl, hb3⟩; replace hb2 := hb2.trans (hb3.mono hb2.size); replace hB2 := hB2.trans (hb3.mono hB2.size); clear x0 x1 x2; obtain ⟨x0, x1, x2⟩ := HK.out _ hb2)
      | (go_at_call 28; with_reducible refine (HBE.out _ hB2 hmy).mono ?_; rintro e v4 ⟨rfl, hb4⟩; replace hB2 := hB2.trans (hb4.mono hB2.size)))
    go_ret
    exact ⟨congrArg (fun r => Ending.returned (.int .i64 r)) HV.out, hB2⟩
  have k20 : (kind == 2) = false := by simpa using k2
  have k30 : (kind == 3) = false := by simpa using k3
  have k21 : (kind != 2) = true := by simpa using k2
  have k31 : (kind != 3) = true := by simpa using k3
  have HV := Lib.hid (show (16 : Int) = r from by rw [← HR0.out]; simp [*])
  go_enter Tryd.func12, Tryd.ntmps12
  go_wp2_with fail
  all_goals
    go_ret
    exact ⟨congrArg (fun r => Ending.returned (.int .i64 r)) HV.out, HB.out⟩
end Go.Proofs.YtakmmphjdkapeaaDoor
