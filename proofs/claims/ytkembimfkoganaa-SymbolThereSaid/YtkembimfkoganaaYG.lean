/- Package symbol: Table. -/
import Derived.Test.YtkembimfkoganaaYT
import Derived.BigRegion
import Derived.Deep.CutRange
import Derived.Deep.CutBlock
import Derived.RegionTactic
namespace Go.Proofs.Ytkembimfkoganaa
open Go.RowKit
set_option linter.unusedVariables false
set_option linter.unusedSimpArgs false

theorem strRow_belowY {w w' : World} {A : Option Addr} {ss : List ByteArray} (h : StrRow w A ss) {n : Nat} (hn : n = w.heap.size) (hb : Below n w w') : StrRow w' A ss := fun i hi => by
  obtain ⟨ad, h1, h2, h3, h4⟩ := h i hi
  refine ⟨ad, h1, Nat.lt_of_lt_of_le h2 hb.size, (hb.cell ?_).trans h3, h4⟩
  have : (ad.add i).block = ad.block := by unfold Addr.add; split <;> rfl
  omega

set_option maxRecDepth 100000 in
set_option maxHeartbeats 1600000 in
theorem table_any (A : Option Addr) (ns : List ByteArray) (c : Nat) (w : World) (hr : StrRow w A ns) (hl : ns.length ≤ 12) (hz : ∀ s ∈ ns, s.size ≤ 100) :
    Calls Try.prog 9 #[.slice A ns.length c] w fun e w' => e = .returned (.tuple #[.string (mkb (tabY ns)), .int .i64 0]) ∧ Below w.heap.size w w' := by
  obtain ⟨R, hR⟩ : ∃ R, w.heap.size = R := ⟨_, rfl⟩
  obtain ⟨n, hn⟩ : ∃ n, ns.length = n := ⟨_, rfl⟩
  obtain ⟨b, hb⟩ : ∃ b, bN n = b := ⟨_, rfl⟩
  have hbm : max (n : Int) 1 = (b : Int) := by rw [← hb]; unfold bN; omega
  have hb12 : 1 ≤ b ∧ b ≤ 12 := by rw [← hb]; unfold bN; omega
  obtain ⟨i0, hi, hz0, hz1, hz2⟩ := info_parts infoInt
  have hm1 := run_make_ints (P := Try.prog) 34 3 i0 Try.underlying34 hi hz0 hz1 hz2 b (by omega)
  have hm2 := run_make_ints (P := Try.prog) 34 3 i0 Try.underlying34 hi hz0 hz1 hz2 n (by omega)
  rw [hn]
  rw [hn] at hl
  have hst0 : stT ns 0 = (List.replicate b 0, List.replicate n 0) := by unfold stT; rw [hn, hb]
  have hic : ∀ k, icells (List.replicate k 0) = ncells (List.replicate k 0) := fun k => by unfold ncells; rw [List.map_replicate]; rfl
  have HNS := Lib.hid (And.intro hn (And.intro hb hst0))
  have HIC := Lib.hid hic
  have HV := Lib.hid (fun v (hv : Below R w v) => strRow_belowY hr hR.symm hv)
  have HZ := Lib.hid hz
  clear hr hn hb hst0 hic hz
  obtain ⟨TB, hTB⟩ : ∃ TB, mkb (tabY ns) = TB := ⟨_, rfl⟩
  rw [hTB]
  have HTB := Lib.hid hTB
  clear hTB
  go_enter Try.func9, Try.ntmps9
  go_upto_region 3 with fail
  go_cut [4, 5] from 14 to 20 (fun x y wx => ∃ g1 g2, x = .slice (some ⟨g1, 0, none⟩) b b ∧ y = .slice (some ⟨g2, 0, none⟩) n n ∧ Hid (Ys w R g1 g2 (List.replicate b 0) (List.replicate n 0) wx))
  case first =>
    go_region
    all_goals
      go_wp2
      go_meet
    case rel => exact ⟨_, _, rfl, rfl, Lib.hid (by rw [HIC.out, HIC.out, ← hR]; exact Ys.start1 _ _ _)⟩
    case rel => exact ⟨_, _, rfl, rfl, Lib.hid (by rw [HIC.out, HIC.out, ← hR]; exact Ys.start2 _ _ _)⟩
  case rest =>
    obtain ⟨g1, g2, rfl, rfl, HY⟩ := hcut
    clear HIC hm1 hm2 hbm
    have HRW := Lib.hid (fun v (hv : Below R w v) => show R ≤ v.heap.size from by rw [← hR]; exact hv.size)
    go_wp2_with fail
    go_loopw [23] (fun i wr => ∃ k : Nat, k ≤ n ∧ i = .int .i64 k ∧ Hid (Ys w R g1 g2 (stT ns k).1 (stT ns k).2 wr)) (fun i _ => n - (intOf i).toNat)
    case atStart => exact ⟨0, Nat.zero_le _, rfl, by rw [HNS.out.2.2]; exact HY⟩
    case round =>
      clear HY
      obtain ⟨k, hk, rfl, HY⟩ := hrel
      by_cases hlt : k < n
      · have hkl : k < ns.length := by rw [HNS.out.1]; exact hlt
        obtain ⟨ad, rfl, hblt, c0, hwf⟩ := HV.out wr HY.out.bel k hkl
        have hnm : nmT ns k = ns[k] := by unfold nmT; rw [List.getD_eq_getElem?_getD, List.getElem?_eq_getElem hkl]; rfl
        rw [← hnm] at c0 hwf
        have hst : stT ns (k + 1) = if putIn ns k then ((stT ns k).1.set (hN ns k) k, (stT ns k).2.set k ((stT ns k).1.getD (hN ns k) 0)) else stT ns k := rfl
        have hl1 := stT_l1 ns k
        have hl2 := stT_l2 ns k
        rw [HNS.out.1] at hl1 hl2
        rw [HNS.out.2.1] at hl1
        have hsz : (nmT ns k).size ≤ 100 := by rw [hnm]; exact HZ.out _ (List.getElem_mem hkl)
        have hh : hN ns k = hashL (nmT ns k).data.toList % b := by unfold hN; rw [HNS.out.1, HNS.out.2.1]
        have hp : putIn ns k = (decide (0 < k) && decide ((nmT ns k).size ≠ 0)) := rfl
        have hhl := hashL_lt (nmT ns k).data.toList
        have HH := Lib.hid (fun u => hash_any (nmT ns k) u (by omega))
        generalize nmT ns k = S at *
        generalize hashL S.data.toList = H at *
        obtain ⟨F, N, hFN⟩ : ∃ F N, stT ns k = (F, N) := ⟨_, _, rfl⟩
        rw [hFN] at hst hl1 hl2 HY
        simp only at hst hl1 hl2 HY
        clear hFN
        generalize hN ns k = h at *
        have hhb : h < b := by rw [hh]; exact Nat.mod_lt _ (by omega)
        have hH1 : IntKind.i64.wrap (H : Int) = (H : Int) := IntWalk.i64_in _ (by omega)
        have hH2 : (H : Int).tmod (b : Int) = (h : Int) := by rw [hh, Int.tmod_eq_emod_of_nonneg (by omega)]; exact (Int.natCast_emod _ _).symm
        obtain ⟨st1, hst1⟩ : ∃ x, stT ns (k + 1) = x := ⟨_, rfl⟩
        rw [hst1] at hst
        have HST1 := Lib.hid hst1
        have HL := Lib.hid (And.intro hl1 hl2)
        have HBH := Lib.hid hh
        clear hst1 hh hhl hnm hwf hl1 hl2
        have wk : (k : Int) < (n : Int) := by omega
        by_cases hk0 : k = 0
        · rw [hp, decide_eq_false (by omega : ¬ 0 < k), Bool.false_and, if_neg (by simp)] at hst
          have g0 : ¬ (0 < (k : Int)) := by omega
          have HST := Lib.hid hst
          clear hst hp hk0
          go_wp2_with fail
          go_roundw
          case rel => exact ⟨k + 1, by omega, by go_num, by rw [HST1.out, HST.out]; exact HY⟩
          case measure => simp [intOf]; omega
        · have g0 : 0 < (k : Int) := by omega
          by_cases hS0 : S.size = 0
          · rw [hp, decide_eq_true (by omega : 0 < k), decide_eq_false (by omega : ¬ S.size ≠ 0), Bool.and_false, if_neg (by simp)] at hst
            obtain rfl : S = ⟨#[]⟩ := by
              cases S with
              | mk a => have : a.size = 0 := hS0; rw [Array.eq_empty_of_size_eq_zero this]
            have HST := Lib.hid hst
            clear hst hp hk0 hS0
            go_wp2_with fail
            go_roundw
            case rel => exact ⟨k + 1, by omega, by go_num, by rw [HST1.out, HST.out]; exact HY⟩
            case measure => simp [intOf]; omega
          · rw [hp, decide_eq_true (by omega : 0 < k), decide_eq_true (by omega : S.size ≠ 0), Bool.and_true, if_pos (by simp)] at hst
            have hne : S.toList.isEmpty = false := by
              rw [Lib.toList_data, List.isEmpty_eq_false_iff]
              intro e
              exact hS0 (by rw [← len_data, e]; rfl)
            have HST := Lib.hid hst
            clear hst hp hk0 hS0
            go_upto_region 9 with (go_at_call 11; refine (HH.out _).mono ?_; rintro e v1 ⟨rfl, hb1⟩)
            have hY := HY.out.below (HRW.out _ HY.out.bel) hb1
            have hFh : F.getD h 0 = F[h]'(by rw [HL.out.1]; exact hhb) := by rw [List.getD_eq_getElem?_getD, List.getElem?_eq_getElem (by rw [HL.out.1]; exact hhb)]; rfl
            have x1 : v1.cell? ⟨g1, h, none⟩ = some (.int .i64 (F.getD h 0 : Nat)) := by rw [hFh]; exact hY.f.at_ h _ (ncells_at _)
            generalize F.getD h 0 = x at *
            have x2 : v1.cell? ⟨g2, k, none⟩ = some (.int .i64 (N[k]'(by rw [HL.out.2]; exact hlt) : Nat)) := hY.n.at_ k _ (ncells_at _)
            have x3 := hY.n.frozen k
            have hY2 := hY.set2 k x
            have x4 : (v1.setCell ⟨g2, k, none⟩ (.int .i64 (x : Int))).cell? ⟨g1, h, none⟩ = some (.int .i64 (F[h]'(by rw [HL.out.1]; exact hhb) : Nat)) := hY2.f.at_ h _ (ncells_at _)
            have x5 := hY2.f.frozen h
            have HY3 := Lib.hid (hY2.set1 h k)
            clear hY hY2 hFh HY
            go_wp2_with fail
            go_roundw
            case rel => exact ⟨k + 1, by omega, by go_num, by rw [HST1.out, HST.out]; exact HY3⟩
            case measure => simp [intOf]; omega
      · obtain rfl : k = n := by omega
        obtain ⟨F, N, hFN⟩ : ∃ F N, stT ns k = (F, N) := ⟨_, _, rfl⟩
        have hl1 := stT_l1 ns k
        have hl2 := stT_l2 ns k
        have hle := stT_le ns k
        have hT : tabY ns = nbytes [b, k] ++ nbytes F ++ nbytes N := by unfold tabY; rw [HNS.out.1, HNS.out.2.1, hFN]
        rw [HNS.out.1] at hl1 hl2
        rw [HNS.out.2.1] at hl1
        rw [hFN] at HY hl1 hl2 hle
        simp only at HY hl1 hl2 hle
        have hnl1 : (nbytes [b, k]).length = 8 := rfl
        have hnl2 : (nbytes [b, k] ++ nbytes F).length ≤ 100 := by rw [List.length_append, hnl1, nbytes_length, hl1]; omega
        have hne : nbytes [b, k] ++ nbytes F ++ nbytes N ≠ [] := by
          intro e
          have := congrArg List.length e
          rw [List.length_append, List.length_append, hnl1] at this
          simp at this
        have hP1 := fun B X u h hx => tput_any B B [] X [b, k] 2 2 rfl u h hx (by simp) (by omega) (by simp; omega)
        have hP2 := fun B u h hx => tput_any B B (nbytes [b, k]) g1 F b b hl1 u h hx (by rw [hnl1]; omega) (by omega) (fun x hx => by have := hle.1 x hx; omega)
        have hP3 := fun B u h hx => tput_any B B (nbytes [b, k] ++ nbytes F) g2 N k k hl2 u h hx (by omega) (by omega) (fun x hx => by have := hle.2 x hx; omega)
        have hPS := fun B u h => bd_string B B (nbytes [b, k] ++ nbytes F ++ nbytes N) u h hne
        rw [List.nil_append] at hP1
        have hnc : ncells [b, k] = #[.int .i64 (b : Int), .int .i64 (k : Int)] := rfl
        simp only [hnc] at hP1
        have hTB := HTB.out
        rw [hT] at hTB
        clear HTB
        have HTB := Lib.hid hTB
        clear hTB
        have hmf : ∀ (fn : Fn) (first cap : Array Value) (w : World), (Instr.makeFunc fn first cap).run Try.prog w = .ok (.func fn first cap) w := fun _ _ _ _ => rfl
        have HP1 := Lib.hid hP1
        have HP2 := Lib.hid hP2
        have HP3 := Lib.hid hP3
        have HPS := Lib.hid hPS
        clear hP1 hP2 hP3 hPS hne hT hl1 hl2 hle hFN hnl1 hnl2 HNS HZ HV
        obtain ⟨G, hG⟩ : ∃ G, wr.heap.size = G := ⟨_, rfl⟩
        have hRG : R ≤ G := by rw [← hG]; exact HRW.out _ HY.out.bel
        have hW0 : Bd G G [] (wr.alloc (.cells #[.pointer none, .slice none 0 0] 53)) ∧ Blk (wr.alloc (.cells #[.pointer none, .slice none 0 0] 53)) g1 3 (ncells F) ∧ Blk (wr.alloc (.cells #[.pointer none, .slice none 0 0] 53)) g2 3 (ncells N) ∧ Below R w (wr.alloc (.cells #[.pointer none, .slice none 0 0] 53)) :=
          ⟨by rw [← hG]; exact Bd.new wr, HY.out.f.alloc _, HY.out.n.alloc _, HY.out.bel.alloc (by rw [hG]; exact hRG) _⟩
        have HW0 := Lib.hid hW0
        clear hW0 HY HRW
        go_upto_region 13 with fail
        generalize wr.alloc (.cells #[.pointer none, .slice none 0 0] 53) = W0 at *
        obtain ⟨hbd0, hf0, hn0, hB0⟩ := HW0.out
        have hsz0 := hbd0.le
        have hX := Blk.new W0 3 (ncells [b, k])
        have hbd1 := hbd0.below ((Below.refl _ _).alloc (Nat.le_refl _) (.cells (ncells [b, k]) 3))
        have hB1 := hB0.alloc (Nat.le_trans hRG hsz0) (.cells (ncells [b, k]) 3)
        have hf1 := hf0.alloc (.cells (ncells [b, k]) 3)
        have hn1 := hn0.alloc (.cells (ncells [b, k]) 3)
        clear HW0 hbd0 hf0 hn0 hB0
        rw [hnc] at hX hbd1 hB1 hf1 hn1
        clear hnc
        go_upto_region 14 with (go_at_call 20; with_reducible refine (HP1.out G _ _ hbd1 hX).mono ?_; rintro e v1 ⟨rfl, hbd2, hb2, hk2⟩)
        have hsz1 := hbd2.le
        have hB2 := hB1.trans (hb2.mono hRG)
        have hf2 := hk2.row _ _ hf1
        have hn2 := hk2.row _ _ hn1
        clear hbd1 hX hb2 hk2 hB1 hf1 hn1 HP1
        go_upto_region 15 with (go_at_call 20; with_reducible refine (HP2.out G _ hbd2 hf2).mono ?_; rintro e v2 ⟨rfl, hbd3, hb3, hk3⟩)
        have hB3 := hB2.trans (hb3.mono hRG)
        have hn3 := hk3.row _ _ hn2
        clear hbd2 hb3 hk3 hB2 hf2 hn2 HP2
        go_upto_region 16 with (go_at_call 20; with_reducible refine (HP3.out G _ hbd3 hn3).mono ?_; rintro e v3 ⟨rfl, hbd4, hb4, hk4⟩)
        have hB4 := hB3.trans (hb4.mono hRG)
        clear hbd3 hb4 hk4 hB3 hn3 HP3
        go_wp2_with (go_at_call 23; with_reducible refine (HPS.out G _ hbd4).mono ?_; rintro e v4 ⟨rfl, hb5⟩)
        have hB5 := hB4.trans (hb5.mono hRG)
        go_ret2
        exact ⟨by rw [← HTB.out, List.append_assoc]; rfl, by rw [hR]; exact hB5⟩
end Go.Proofs.Ytkembimfkoganaa
