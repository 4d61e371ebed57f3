/- The reference of layer 10: Table. -/
import Derived.Test.YtkembimfkoganaaYG
import Derived.Test.YtkembimfkoganaaYC
namespace Go.Proofs.Ytkembimfkoganaa
open Go.RowKit
set_option linter.unusedVariables false
set_option linter.unusedSimpArgs false

theorem Ys.start0 (w : World) (F N : List Nat) : Ys w w.heap.size w.heap.size (w.heap.size + 1) F N ((w.alloc (.cells (ncells F) 3)).alloc (.cells (ncells N) 3)) :=
  ⟨(Blk.new w _ _).alloc _, by have := Blk.new (w.alloc (.cells (ncells F) 3)) 3 (ncells N); simpa using this, by omega, Nat.le_refl _, by omega, ((Below.refl _ _).alloc (Nat.le_refl _) _).alloc (by simp) _⟩
theorem stT_one (ns : List ByteArray) : stT ns 1 = stT ns 0 := by
  show (if putIn ns 0 = true then _ else stT ns 0) = _
  rw [if_neg (by unfold putIn; simp)]

set_option maxRecDepth 100000 in
set_option maxHeartbeats 1600000 in
theorem rtable_any (A : Option Addr) (ns : List ByteArray) (c : Nat) (w : World) (hr : StrRow w A ns) (hl : ns.length ≤ 12) (hz : ∀ s ∈ ns, s.size ≤ 100) :
    Calls Try.prog 10 #[.slice A ns.length c] w fun e w' => e = .returned (.tuple #[.string (mkb (tabY ns)), .int .i64 0]) ∧ Below w.heap.size w w' := by
  obtain ⟨R, hR⟩ : ∃ R, w.heap.size = R := ⟨_, rfl⟩
  obtain ⟨n, hn⟩ : ∃ n, ns.length = n := ⟨_, rfl⟩
  obtain ⟨b, hb⟩ : ∃ b, bN n = b := ⟨_, rfl⟩
  have hb12 : 1 ≤ b ∧ b ≤ 12 := by rw [← hb]; unfold bN; omega
  have hbn : n < 1 ∧ b = 1 ∨ ¬ n < 1 ∧ b = n := by rw [← hb]; unfold bN; omega
  obtain ⟨i0, hi, hz0, hz1, hz2⟩ := info_parts infoInt
  have hm1 := run_make_ints (P := Try.prog) 34 3 i0 Try.underlying34 hi hz0 hz1 hz2 b (by omega)
  have hm2 := run_make_ints (P := Try.prog) 34 3 i0 Try.underlying34 hi hz0 hz1 hz2 n (by omega)
  rw [hn]
  rw [hn] at hl
  have hst0 : stT ns 1 = (List.replicate b 0, List.replicate n 0) := by rw [stT_one]; unfold stT; rw [hn, hb]
  have hic : ∀ k, icells (List.replicate k 0) = ncells (List.replicate k 0) := fun k => by unfold ncells; rw [List.map_replicate]; rfl
  have HY0 := Lib.hid (Ys.start0 w (List.replicate b 0) (List.replicate n 0))
  rw [hR] at HY0
  have HIC := Lib.hid hic
  obtain ⟨TB, hTB⟩ : ∃ TB, mkb (tabY ns) = TB := ⟨_, rfl⟩
  rw [hTB]
  have HTB := Lib.hid hTB
  have HNS := Lib.hid (And.intro hn (And.intro hb hst0))
  have HV := Lib.hid (fun v (hv : Below R w v) => strRow_belowY hr hR.symm hv)
  have HZ := Lib.hid hz
  clear hr hn hb hst0 hic hz hTB
  have hcut : Calls Try.prog 10 #[.slice A n c] w fun e w' => e = .returned (.tuple #[.string TB, .int .i64 0]) ∧ Below w.heap.size w w' := by
    go_enter Try.func10, Try.ntmps10
    go_upto_if 19 with fail
    go_cut [5] from 18 to 19 (fun x wx => x = .int .i64 b ∧ w = wx)
    case first =>
      rcases hbn with ⟨h1, h2⟩ | ⟨h1, h2⟩
      · subst h2
        go_wp2
        go_meet
        exact ⟨rfl, rfl⟩
      · have g : ¬ ((n : Int) < 1) := by omega
        go_wp2
        go_meet
        exact ⟨by rw [h2], rfl⟩
    case rest =>
      obtain ⟨rfl, rfl⟩ := hcut
      clear hbn
      have HRW := Lib.hid (fun v (hv : Below R w v) => show R ≤ v.heap.size from by rw [← hR]; exact hv.size)
      go_upto_region 9 with fail
      rw [HIC.out, HIC.out]
      generalize (w.alloc (.cells (ncells (List.replicate b 0)) 3)).alloc (.cells (ncells (List.replicate n 0)) 3) = W0 at *
      obtain ⟨g2, hg2⟩ : ∃ g2, R + 1 = g2 := ⟨_, rfl⟩
      rw [hg2] at HY0 ⊢
      clear HIC hm1 hm2 hg2
      go_wp2_with fail
      go_loopw [8, 9] (fun i _ wr => ∃ k : Nat, 1 ≤ k ∧ (k ≤ n ∨ k = 1) ∧ i = .int .i64 k ∧ Hid (Ys w R R g2 (stT ns k).1 (stT ns k).2 wr)) (fun i _ _ => n - (intOf i).toNat)
      case atStart => exact ⟨1, Nat.le_refl _, .inr rfl, rfl, by rw [HNS.out.2.2]; exact HY0⟩
      case round =>
        clear HY0
        obtain ⟨k, hk1, hk, rfl, HY⟩ := hrel
        by_cases hlt : k < n
        · have hkl : k < ns.length := by rw [HNS.out.1]; exact hlt
          obtain ⟨ad, rfl, hblt, c0, hwf⟩ := HV.out wr HY.out.bel k hkl
          have hnm : nmT ns k = ns[k] := by unfold nmT; rw [List.getD_eq_getElem?_getD, List.getElem?_eq_getElem hkl]; rfl
          rw [← hnm] at c0 hwf
          have hst : stT ns (k + 1) = if putIn ns k then ((stT ns k).1.set (hN ns k) k, (stT ns k).2.set k ((stT ns k).1.getD (hN ns k) 0)) else stT ns k := rfl
          have hl1 := stT_l1 ns k
          have hl2 := stT_l2 ns k
          rw [HNS.out.1] at hl1 hl2
          rw [HNS.out.2.1] at hl1
          have hsz : (nmT ns k).size ≤ 100 := by rw [hnm]; exact HZ.out _ (List.getElem_mem hkl)
          have hh : hN ns k = hashL (nmT ns k).data.toList % b := by unfold hN; rw [HNS.out.1, HNS.out.2.1]
          have hp : putIn ns k = (decide (0 < k) && decide ((nmT ns k).size ≠ 0)) := rfl
          have hhl := hashL_lt (nmT ns k).data.toList
          have HH := Lib.hid (fun u => rhash_any (nmT ns k) u (by omega))
          generalize nmT ns k = S at *
          generalize hashL S.data.toList = H at *
          obtain ⟨F, N, hFN⟩ : ∃ F N, stT ns k = (F, N) := ⟨_, _, rfl⟩
          rw [hFN] at hst hl1 hl2 HY
          simp only at hst hl1 hl2 HY
          clear hFN
          generalize hN ns k = h at *
          have hhb : h < b := by rw [hh]; exact Nat.mod_lt _ (by omega)
          have hH1 : IntKind.i64.wrap (H : Int) = (H : Int) := IntWalk.i64_in _ (by omega)
          have hH2 : (H : Int).tmod (b : Int) = (h : Int) := by rw [hh, Int.tmod_eq_emod_of_nonneg (by omega)]; exact (Int.natCast_emod _ _).symm
          obtain ⟨st1, hst1⟩ : ∃ x, stT ns (k + 1) = x := ⟨_, rfl⟩
          rw [hst1] at hst
          have HST1 := Lib.hid hst1
          have HL := Lib.hid (And.intro hl1 hl2)
          clear hst1 hh hhl hnm hwf hl1 hl2
          have wk : (k : Int) < (n : Int) := by omega
          have wk0 : (0 : Int) ≤ (k : Int) := by omega
          by_cases hS0 : S.size = 0
          · rw [hp, decide_eq_true (by omega : 0 < k), decide_eq_false (by omega : ¬ S.size ≠ 0), Bool.and_false, if_neg (by simp)] at hst
            obtain rfl : S = ⟨#[]⟩ := by
              cases S with
              | mk a => have : a.size = 0 := hS0; rw [Array.eq_empty_of_size_eq_zero this]
            have HST := Lib.hid hst
            clear hst hp hS0
            go_wp2_with fail
            go_roundw
            case rel => exact ⟨k + 1, by omega, by omega, by go_num, by rw [HST1.out, HST.out]; exact HY⟩
            case measure => simp [intOf]; omega
          · rw [hp, decide_eq_true (by omega : 0 < k), decide_eq_true (by omega : S.size ≠ 0), Bool.and_true, if_pos (by simp)] at hst
            have hne : S.toList.isEmpty = false := by
              rw [Lib.toList_data, List.isEmpty_eq_false_iff]
              intro e
              exact hS0 (by rw [← len_data, e]; rfl)
            have HST := Lib.hid hst
            clear hst hp hS0
            have hY := HY.out
            have hFh : F.getD h 0 = F[h]'(by rw [HL.out.1]; exact hhb) := by rw [List.getD_eq_getElem?_getD, List.getElem?_eq_getElem (by rw [HL.out.1]; exact hhb)]; rfl
            have x1 : wr.cell? ⟨R, h, none⟩ = some (.int .i64 (F.getD h 0 : Nat)) := by rw [hFh]; exact hY.f.at_ h _ (ncells_at _)
            generalize F.getD h 0 = x at *
            have x2 : wr.cell? ⟨g2, k, none⟩ = some (.int .i64 (N[k]'(by rw [HL.out.2]; exact hlt) : Nat)) := hY.n.at_ k _ (ncells_at _)
            have x3 := hY.n.frozen k
            have hY2 := hY.set2 k x
            have x4 : (wr.setCell ⟨g2, k, none⟩ (.int .i64 (x : Int))).cell? ⟨R, h, none⟩ = some (.int .i64 (F[h]'(by rw [HL.out.1]; exact hhb) : Nat)) := hY2.f.at_ h _ (ncells_at _)
            have x5 := hY2.f.frozen h
            have HY3 := Lib.hid (hY2.set1 h k)
            clear hY hY2 hFh HY
            go_wp2_with (go_at_call 12; refine (HH.out _).mono ?_; rintro e v1 ⟨rfl, rfl⟩)
            go_roundw
            case rel => exact ⟨k + 1, by omega, by omega, by go_num, by rw [HST1.out, HST.out]; exact HY3⟩
            case measure => simp [intOf]; omega
        · obtain ⟨F, N, hFN⟩ : ∃ F N, stT ns n = (F, N) := ⟨_, _, rfl⟩
          have hkn : stT ns k = stT ns n := by
            by_cases h : k = n
            · rw [h]
            · obtain rfl : k = 1 := by omega
              obtain rfl : n = 0 := by omega
              exact stT_one ns
          have hl1 := stT_l1 ns n
          have hl2 := stT_l2 ns n
          have hle := stT_le ns n
          have hT : tabY ns = nbytes [b, n] ++ nbytes F ++ nbytes N := by unfold tabY; rw [HNS.out.1, HNS.out.2.1, hFN]
          rw [HNS.out.1] at hl1 hl2
          rw [HNS.out.2.1] at hl1
          rw [hkn, hFN] at HY
          rw [hFN] at hl1 hl2 hle
          simp only at HY hl1 hl2 hle
          have hTB := HTB.out
          rw [hT] at hTB
          have hcat0 : mkb (putL b 4) ++ mkb (putL n 4) = mkb (nbytes [b, n]) := by rw [mkb_append]; rfl
          have hP1 := fun u => rputY_any (b : Int) 4 u (WalkArith.wf_i64 (by omega)) (by omega)
          have hP2 := fun u => rputY_any (n : Int) 4 u (WalkArith.wf_i64 (by omega)) (by omega)
          rw [Int.toNat_natCast, show ((4 : Nat) : Int) = 4 from rfl] at hP1 hP2
          have s1 := sz_put b 4
          have s2 := sz_put n 4
          have HCAT := Lib.hid hcat0
          generalize mkb (putL b 4) = P1 at *
          generalize mkb (putL n 4) = P2 at *
          have s1' : P1.size ≤ 10 := by omega
          have s2' : P2.size ≤ 10 := by omega
          have HP1 := Lib.hid hP1
          have HP2 := Lib.hid hP2
          have HHL := Lib.hid (And.intro hl1 (And.intro hl2 hle))
          have HTB := Lib.hid hTB
          clear hP1 hP2 hcat0 hTB hT hle hl1 hl2 s1 s2 hkn hFN HNS HV HZ hk1 hk
          go_upto_region 17 with (first
            | (go_at_call 24; with_reducible refine (HP1.out _).mono ?_; rintro e v1 ⟨rfl, hb1⟩)
            | (go_at_call 24; with_reducible refine (HP2.out _).mono ?_; rintro e v2 ⟨rfl, hb2⟩))
          rw [HCAT.out]
          have hR1 := HRW.out _ HY.out.bel
          have hY1 := HY.out.below hR1 hb1
          have hY2 := hY1.below (HRW.out _ hY1.bel) hb2
          have HY2 := Lib.hid hY2
          clear HY hY1 hY2 hb1 hb2 hR1 HCAT HP1 HP2 s1' s2'
          go_wp2_with fail
          go_loopw [10, 11] (fun sv i wr => ∃ k : Nat, k ≤ b ∧ i = .int .i64 k ∧ sv = .string (mkb (nbytes [b, n] ++ nbytes (F.take k))) ∧ Hid (Ys w R R g2 F N wr)) (fun _ i _ => b - (intOf i).toNat)
          case atStart => exact ⟨0, Nat.zero_le _, rfl, by simp [nbytes], HY2⟩
          case round =>
            clear HY2
            obtain ⟨k, hk, rfl, rfl, HY⟩ := hrel
            by_cases hlt : k < b
            · have hkl : k < F.length := by rw [HHL.out.1]; exact hlt
              have hc := HY.out.f.at_ k _ (ncells_at hkl)
              have hsn := nbytes_snoc (F.take k) F[k]
              rw [← List.take_succ_eq_append_getElem hkl] at hsn
              have hbd := HHL.out.2.2.1 F[k] (List.getElem_mem hkl)
              generalize F[k] = z at *
              have hP := fun u => rputY_any (z : Int) 4 u (WalkArith.wf_i64 (by omega)) (by omega)
              rw [Int.toNat_natCast, show ((4 : Nat) : Int) = 4 from rfl] at hP
              have hcat : mkb (nbytes [b, n] ++ nbytes (F.take k)) ++ mkb (putL z 4) = mkb (nbytes [b, n] ++ nbytes (F.take (k + 1))) := by rw [mkb_append, List.append_assoc, ← hsn]
              have z1 : (mkb (nbytes [b, n] ++ nbytes (F.take k))).size ≤ 100 := by rw [mkb_size, List.length_append, nbytes_length, nbytes_length, List.length_take]; simp; omega
              have z2 : (mkb (putL z 4)).size ≤ 100 := by rw [sz_put]; omega
              have HC := Lib.hid hcat
              have HP := Lib.hid hP
              generalize mkb (nbytes [b, n] ++ nbytes (F.take k)) = S at *
              generalize mkb (putL z 4) = P at *
              clear hcat hP hsn
              go_wp2_with (go_at_call 24; with_reducible refine (HP.out _).mono ?_; rintro e v1 ⟨rfl, hb1⟩)
              go_roundw
              case rel => exact ⟨k + 1, by omega, by go_num, by rw [HC.out], Lib.hid (HY.out.below (HRW.out _ HY.out.bel) hb1)⟩
              case measure => simp [intOf]; omega
            · obtain rfl : k = b := by omega
              have hF : F.take k = F := by rw [← HHL.out.1, List.take_length]
              rw [hF]
              go_upto_region 21 with fail
              go_wp2_with fail
              go_loopw [10, 12] (fun sv i wr => ∃ m : Nat, m ≤ n ∧ i = .int .i64 m ∧ sv = .string (mkb (nbytes [k, n] ++ nbytes F ++ nbytes (N.take m))) ∧ Hid (Ys w R R g2 F N wr)) (fun _ i _ => n - (intOf i).toNat)
              case atStart => exact ⟨0, Nat.zero_le _, rfl, by simp [nbytes], HY⟩
              case round =>
                clear HY
                obtain ⟨m, hm, rfl, rfl, HY⟩ := hrel
                by_cases hmt : m < n
                · have hkl : m < N.length := by rw [HHL.out.2.1]; exact hmt
                  have hc := HY.out.n.at_ m _ (ncells_at hkl)
                  have hsn := nbytes_snoc (N.take m) N[m]
                  rw [← List.take_succ_eq_append_getElem hkl] at hsn
                  have hbd := HHL.out.2.2.2 N[m] (List.getElem_mem hkl)
                  generalize N[m] = z at *
                  have hP := fun u => rputY_any (z : Int) 4 u (WalkArith.wf_i64 (by omega)) (by omega)
                  rw [Int.toNat_natCast, show ((4 : Nat) : Int) = 4 from rfl] at hP
                  have hcat : mkb (nbytes [k, n] ++ nbytes F ++ nbytes (N.take m)) ++ mkb (putL z 4) = mkb (nbytes [k, n] ++ nbytes F ++ nbytes (N.take (m + 1))) := by rw [mkb_append, List.append_assoc, ← hsn]
                  have z1 : (mkb (nbytes [k, n] ++ nbytes F ++ nbytes (N.take m))).size ≤ 200 := by rw [mkb_size, List.length_append, List.length_append, nbytes_length, nbytes_length, nbytes_length, List.length_take, HHL.out.1]; simp; omega
                  have z2 : (mkb (putL z 4)).size ≤ 100 := by rw [sz_put]; omega
                  have HC := Lib.hid hcat
                  have HP := Lib.hid hP
                  generalize mkb (nbytes [k, n] ++ nbytes F ++ nbytes (N.take m)) = S at *
                  generalize mkb (putL z 4) = P at *
                  clear hcat hP hsn
                  go_wp2_with (go_at_call 24; with_reducible refine (HP.out _).mono ?_; rintro e v1 ⟨rfl, hb1⟩)
                  go_roundw
                  case rel => exact ⟨m + 1, by omega, by go_num, by rw [HC.out], Lib.hid (HY.out.below (HRW.out _ HY.out.bel) hb1)⟩
                  case measure => simp [intOf]; omega
                · obtain rfl : m = n := by omega
                  have hN : N.take m = N := by rw [← HHL.out.2.1, List.take_length]
                  rw [hN, HTB.out]
                  have HE := Lib.hid HY.out.bel
                  go_wp2_with fail
                  go_ret2
                  exact ⟨rfl, by rw [hR]; exact HE.out⟩
  exact hcut
end Go.Proofs.Ytkembimfkoganaa
