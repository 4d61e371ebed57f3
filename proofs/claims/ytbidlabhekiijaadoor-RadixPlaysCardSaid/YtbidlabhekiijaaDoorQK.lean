/- The reference of layer 7: Nodes: changes of the prefixes of a row of pages that rise. -/
import Derived.Test.YtbidlabhekiijaaDoorQH
import Derived.Test.YtbidlabhekiijaaDoorQI
namespace Go.Proofs.YtbidlabhekiijaaDoor
open Go.RowKit
set_option linter.unusedVariables false
set_option linter.unusedSimpArgs false

/-- How often the prefix changes among the first ones. -/
def chg (P : List Nat) (D : Nat) : Nat → Nat
  | 0 => 0
  | i + 1 => chg P D i + if i = 0 ∨ (P.getD i 0) / D ≠ (P.getD (i - 1) 0) / D then 1 else 0
open Classical in
theorem chg_count {P : List Nat} (hP : P.Pairwise (· < ·)) (D n : Nat) (hn : ∀ k (hk : k < P.length), P[k] / D < n) : ∀ i, i ≤ P.length → chg P D i = ((List.range' 0 n).filter fun q => decide (∃ k, ∃ hk : k < P.length, k < i ∧ P[k] / D = q)).length
  | 0, _ => by
    rw [List.filter_eq_nil_iff.2]
    · rfl
    · intro q _
      simp
  | i + 1, hi => by
    have ih := chg_count hP D n hn i (by omega)
    have hil : i < P.length := by omega
    unfold chg
    rw [ih, filter_one (p' := fun q => decide (∃ k, ∃ hk : k < P.length, k < i + 1 ∧ P[k] / D = q)) (p := fun q => decide (∃ k, ∃ hk : k < P.length, k < i ∧ P[k] / D = q)) (x := P[i] / D) (fun r hr => by
      refine decide_eq_decide.2 ⟨?_, ?_⟩
      · rintro ⟨k, hk, h1, h2⟩
        rcases Nat.lt_or_ge k i with h3 | h3
        · exact ⟨k, hk, h3, h2⟩
        · obtain rfl : k = i := by omega
          exact absurd h2.symm hr
      · rintro ⟨k, hk, h1, h2⟩
        exact ⟨k, hk, by omega, h2⟩) (decide_eq_true ⟨i, hil, by omega, rfl⟩)]
    congr 1
    have hx := hn i hil
    have e1 : P.getD i 0 = P[i] := by simp [List.getD, hil]
    by_cases h0 : i = 0
    · rw [if_pos (.inl h0), if_pos ⟨Nat.zero_le _, by omega, by subst h0; simp⟩]
    · have hil1 : i - 1 < P.length := by omega
      have e2 : P.getD (i - 1) 0 = P[i - 1] := by simp [List.getD, hil1]
      rw [e1, e2]
      by_cases hd : P[i] / D = P[i - 1] / D
      · rw [if_neg (by
          rintro (h | h)
          · exact h0 h
          · exact h hd), if_neg]
        rintro ⟨_, _, h⟩
        rw [decide_eq_false_iff_not] at h
        exact h ⟨i - 1, hil1, by omega, hd.symm⟩
      · rw [if_pos (.inr hd), if_pos]
        refine ⟨Nat.zero_le _, by omega, ?_⟩
        rw [decide_eq_false_iff_not]
        rintro ⟨k, hk, h1, h2⟩
        have l1 : P[k] / D ≤ P[i - 1] / D := by
          rcases Nat.lt_or_ge k (i - 1) with h3 | h3
          · exact Nat.div_le_div_right (Nat.le_of_lt (sorted_at hP h3 hil1))
          · obtain rfl : k = i - 1 := by omega
            exact Nat.le_refl _
        have l2 : P[i - 1] / D ≤ P[i] / D := Nat.div_le_div_right (Nat.le_of_lt (sorted_at hP (show i - 1 < i by omega) hil))
        omega
theorem lvN_chg (M : Nat → Sl) (j : Nat) (hj : j ≤ 4) (hM : Ents M) : lvN M j = chg (pagesF M 0) (8 ^ (4 - j)) (pagesF M 0).length := by
  have hpos : 0 < 8 ^ (4 - j) := Nat.pow_pos (by omega)
  rw [chg_count (pagesF_sorted M 0) (8 ^ (4 - j)) (8 ^ j) (fun k hk => by
    rw [Nat.div_lt_iff_lt_mul hpos, ← Nat.pow_add, show j + (4 - j) = 4 by omega]
    exact pagesF_lt hk) _ (Nat.le_refl _)]
  unfold lvN lvl
  congr 1
  refine List.filter_congr fun r _ => ?_
  refine decide_eq_decide.2 ⟨?_, ?_⟩
  · rintro ⟨⟨p, e, hp⟩, _⟩
    have hm : p ∈ pagesF M 0 := mem_pagesF.2 ⟨Nat.lt_of_not_le fun h => hp (hM.far p h), hp, by omega⟩
    obtain ⟨k, hk, e2⟩ := List.mem_iff_getElem.1 hm
    exact ⟨k, hk, hk, by rw [e2]; exact e⟩
  · rintro ⟨k, hk, _, e⟩
    refine ⟨⟨_, e, page_ne hk⟩, ?_⟩
    have := Nat.mul_pos (show 0 < r + 1 by omega) hpos
    omega
/-- The reference's count is the count of tables. -/
theorem cnt7_chg {M : Nat → Sl} (hM : Ents M) : cnt7 M = 1 + chg (pagesF M 0) 512 (pagesF M 0).length + chg (pagesF M 0) 64 (pagesF M 0).length + chg (pagesF M 0) 8 (pagesF M 0).length := by
  unfold cnt7
  rw [lvN_chg M 1 (by omega) hM, lvN_chg M 2 (by omega) hM, lvN_chg M 3 (by omega) hM]
theorem chg_le (P : List Nat) (D : Nat) : ∀ i, chg P D i ≤ i
  | 0 => Nat.le_refl _
  | i + 1 => by
    have := chg_le P D i
    unfold chg
    split <;> omega
end Go.Proofs.YtbidlabhekiijaaDoor

/- The reference of layer 7: Nodes. -/
namespace Go.Proofs.YtbidlabhekiijaaDoor
open Go.RowKit
set_option linter.unusedVariables false
set_option linter.unusedSimpArgs false

theorem chg_zero (P : List Nat) (D : Nat) : chg P D 0 = 0 := rfl
theorem chg_first (P : List Nat) (D : Nat) : chg P D 1 = 1 := rfl
theorem chg_same {P : List Nat} {D i : Nat} (h : i + 1 < P.length) (e : P[i + 1] / D = P[i] / D) : chg P D (i + 1 + 1) = chg P D (i + 1) := by
  rw [show chg P D (i + 1 + 1) = chg P D (i + 1) + if i + 1 = 0 ∨ (P.getD (i + 1) 0) / D ≠ (P.getD i 0) / D then 1 else 0 from rfl]
  have e1 : P.getD (i + 1) 0 = P[i + 1] := by simp [List.getD, h]
  have e2 : P.getD i 0 = P[i] := by simp [List.getD, show i < P.length by omega]
  rw [e1, e2, if_neg]
  · rfl
  · rintro (h0 | h0)
    · omega
    · exact h0 e
theorem chg_other {P : List Nat} {D i : Nat} (h : i + 1 < P.length) (e : P[i + 1] / D ≠ P[i] / D) : chg P D (i + 1 + 1) = chg P D (i + 1) + 1 := by
  rw [show chg P D (i + 1 + 1) = chg P D (i + 1) + if i + 1 = 0 ∨ (P.getD (i + 1) 0) / D ≠ (P.getD i 0) / D then 1 else 0 from rfl]
  have e1 : P.getD (i + 1) 0 = P[i + 1] := by simp [List.getD, h]
  have e2 : P.getD i 0 = P[i] := by simp [List.getD, show i < P.length by omega]
  rw [e1, e2, if_pos (.inr e)]

set_option maxRecDepth 100000 in
set_option maxHeartbeats 800000 in
theorem rnodes_any {w : World} {B : Nat} {v : Value} {M : Nat → Sl} (hM : Ents M) (h : SRow w B v (spotsF M)) : Calls Tryd.prog 26 #[v] w fun e w' => e = .returned (.int .i64 (cnt7 M : Nat)) ∧ Below w.heap.size w w' := by
  obtain ⟨A, c, rfl⟩ := h.len
  have hct := cnt7_chg hM
  have hlen := spotsF_length M
  rw [hlen]
  have hsl := spotsF_len M
  rw [hlen] at hsl
  have hr := h.alloc (.cells #[.int .i64 512, .int .i64 64, .int .i64 8] 90)
  rw [hlen] at hr
  have hk := Blk.new w 90 #[.int .i64 512, .int .i64 64, .int .i64 8]
  have hB := (Below.refl w.heap.size w).alloc (Nat.le_refl _) (.cells #[.int .i64 512, .int .i64 64, .int .i64 8] 90)
  have h1 := chg_le (pagesF M 0) 512 (pagesF M 0).length
  have h2 := chg_le (pagesF M 0) 64 (pagesF M 0).length
  have h3 := chg_le (pagesF M 0) 8 (pagesF M 0).length
  obtain ⟨W1, hW1⟩ : ∃ W1, w.alloc (.cells #[.int .i64 512, .int .i64 64, .int .i64 8] 90) = W1 := ⟨_, rfl⟩
  rw [hW1] at hr hk hB
  have HR := Lib.hid hr
  have HB := Lib.hid hB
  have y0 : W1.cell? ⟨w.heap.size, 0, none⟩ = some (.int .i64 512) := hk.at_ 0 _ rfl
  have y1 : W1.cell? ⟨w.heap.size, 1, none⟩ = some (.int .i64 64) := hk.at_ 1 _ rfl
  have y2 : W1.cell? ⟨w.heap.size, 2, none⟩ = some (.int .i64 8) := hk.at_ 2 _ rfl
  obtain ⟨LN, hLN⟩ : ∃ LN, (pagesF M 0).length = LN := ⟨_, rfl⟩
  have HCT := Lib.hid hct
  have hpl : ∀ i (hi : i < (pagesF M 0).length), (pagesF M 0)[i] < 4096 := fun i hi => pagesF_lt hi
  have HPL := Lib.hid hpl
  obtain ⟨c5, hc5⟩ : ∃ c5, chg (pagesF M 0) 512 (pagesF M 0).length = c5 := ⟨_, rfl⟩
  obtain ⟨c6, hc6⟩ : ∃ c6, chg (pagesF M 0) 64 (pagesF M 0).length = c6 := ⟨_, rfl⟩
  obtain ⟨c8, hc8⟩ : ∃ c8, chg (pagesF M 0) 8 (pagesF M 0).length = c8 := ⟨_, rfl⟩
  rw [hc5] at h1
  rw [hc6] at h2
  rw [hc8] at h3
  rw [hLN] at h1 h2 h3 hsl HR ⊢
  have HC := Lib.hid (And.intro hc5 (And.intro hc6 (And.intro hc8 (And.intro hLN hlen))))
  clear hct hlen h hr hk hB hpl hc5 hc6 hc8 hLN
  go_enter Tryd.func26, Tryd.ntmps26
  go_wp2
  go_loopw [3, 5] (fun nn kk wx => ((kk = .int .i64 0 ∧ nn = .int .i64 1) ∨ (kk = .int .i64 1 ∧ nn = .int .i64 (1 + c5 : Nat)) ∨ (kk = .int .i64 2 ∧ nn = .int .i64 (1 + c5 + c6 : Nat)) ∨ (kk = .int .i64 3 ∧ nn = .int .i64 (1 + c5 + c6 + c8 : Nat))) ∧ ∃ q, wx = W1.drewN q) (fun _ kk _ => 3 - (intOf kk).toNat)
  case atStart => exact ⟨.inl ⟨rfl, rfl⟩, 0, rfl⟩
  case round =>
    obtain ⟨hc, q, rfl⟩ := hrel
    rcases hc with ⟨rfl, rfl⟩ | ⟨rfl, rfl⟩ | ⟨rfl, rfl⟩ | ⟨rfl, rfl⟩
    · obtain ⟨N0, hN0⟩ : ∃ N0 : Nat, N0 = 1 := ⟨_, rfl⟩
      have hN0b : N0 ≤ 20001 := by omega
      go_upto_region 7 with fail
      go_loopw [3, 6] (fun nn ii wx => ∃ (i q : Nat), i ≤ LN ∧ ii = .int .i64 i ∧ nn = .int .i64 (N0 + chg (pagesF M 0) 512 i : Nat) ∧ wx = W1.drewN q) (fun _ ii _ => LN - (intOf ii).toNat)
      case atStart => exact ⟨0, q, Nat.zero_le _, rfl, by rw [chg_zero, hN0]; rfl, rfl⟩
      case round =>
        obtain ⟨i, q, hi, rfl, rfl, rfl⟩ := hrel
        by_cases hil : i < LN
        · have hi8 : (i : Int) < (LN : Int) := by omega
          have hcb := chg_le (pagesF M 0) 512 i
          cases i with
          | zero =>
            have hi0 : ((0 : Nat) : Int) = 0 := rfl
            have hz : N0 + chg (pagesF M 0) 512 0 = N0 := rfl
            rw [hz]
            simp only [hi0]
            clear hcb hz
            go_upto_region 9 with fail
            go_quiet (fail)
            go_wp2
            go_roundw
            case rel => exact ⟨1, _, by omega, by go_num, by rw [chg_first]; go_num, rfl⟩
            case measure => simp [intOf]; omega
          | succ i =>
            obtain ⟨g, o, R, rfl, _, _, hR, x0, x1, x2, x3, x4, x5⟩ := HR.out.at_ (i := i + 1) (by rw [HC.out.2.2.2.2, HC.out.2.2.2.1]; exact hil)
            clear x1 x2 x3 x4 x5
            obtain ⟨g', o', R', e', _, _, hR', z0, z1, z2, z3, z4, z5⟩ := HR.out.at_ (i := i) (by rw [HC.out.2.2.2.2, HC.out.2.2.2.1]; omega)
            clear z1 z2 z3 z4 z5
            have e1 := Option.some.inj e'
            obtain rfl : g = g' := congrArg Addr.block e1
            obtain rfl : o = o' := congrArg Addr.off e1
            rw [spotsF_at] at x0 z0
            simp only at x0 z0
            have hl1 : i + 1 < (pagesF M 0).length := by rw [HC.out.2.2.2.1]; exact hil
            have p1 := HPL.out (i + 1) hl1
            have p2 := HPL.out i (by omega)
            have hs1 := fun e => chg_same (D := 512) hl1 e
            have hs2 := fun e => chg_other (D := 512) hl1 e
            have HS := Lib.hid (And.intro hs1 hs2)
            clear hs1 hs2 e1 e'
            obtain ⟨a, ha⟩ : ∃ a, (pagesF M 0)[i + 1]'(by rw [HC.out.2.2.2.1]; exact hil) / 512 = a := ⟨_, rfl⟩
            obtain ⟨b, hb⟩ : ∃ b, (pagesF M 0)[i]'(by rw [HC.out.2.2.2.1]; omega) / 512 = b := ⟨_, rfl⟩
            have ta := quo_nat ((pagesF M 0)[i + 1]'(by rw [HC.out.2.2.2.1]; exact hil)) 512
            have tb := quo_nat ((pagesF M 0)[i]'(by rw [HC.out.2.2.2.1]; omega)) 512
            rw [ha] at ta HS
            rw [hb] at tb HS
            have ab : a ≤ 4095 := by rw [← ha]; exact Nat.le_trans (Nat.div_le_self _ _) (by omega)
            have bb : b ≤ 4095 := by rw [← hb]; exact Nat.le_trans (Nat.div_le_self _ _) (by omega)
            simp only [show ((512 : Nat) : Int) = 512 from rfl] at ta tb
            clear ha hb
            generalize (pagesF M 0)[i + 1]'(by rw [HC.out.2.2.2.1]; exact hil) = P1 at *
            generalize (pagesF M 0)[i]'(by rw [HC.out.2.2.2.1]; omega) = P0 at *
            obtain ⟨S0, hS0⟩ : ∃ S0 : Nat, N0 + chg (pagesF M 0) 512 (i + 1) = S0 := ⟨_, rfl⟩
            rw [hS0]
            have hS0b : S0 ≤ 40000 := by omega
            have HS0 := Lib.hid hS0
            obtain ⟨I, hI⟩ : ∃ I, i + 1 = I := ⟨_, rfl⟩
            rw [hI] at hi8 hR HS HS0 ⊢
            have hsub : (I : Int) - 1 = (i : Int) := by omega
            have hI0 : ((I : Int) == 0) = false := by simpa using (by omega : (I : Int) ≠ 0)
            have hil2 : (i : Int) < (LN : Int) := by omega
            have HI := Lib.hid (And.intro hI hil)
            clear hcb hS0 hI hil
            by_cases hab : a = b
            · have HE := Lib.hid (HS.out.1 hab)
              subst hab
              go_upto_region 9 with fail
              go_quiet (fail)
              go_wp2
              go_roundw
              case rel => exact ⟨I + 1, _, by have := HI.out; omega, by go_num, by have h9 := HE.out; rw [h9, HS0.out], rfl⟩
              case measure => have := HI.out; simp [intOf]; omega
            · have HE := Lib.hid (HS.out.2 hab)
              have hne : ((a : Int) == (b : Int)) = false := by simpa using (by omega : (a : Int) ≠ (b : Int))
              have hne2 : (a == b) = false := by simpa using hab
              go_upto_region 9 with fail
              go_quiet (fail)
              go_wp2
              go_roundw
              case rel => exact ⟨I + 1, _, by have := HI.out; omega, by go_num, by have h9 := HE.out; rw [h9, ← Nat.add_assoc, HS0.out]; go_num, rfl⟩
              case measure => have := HI.out; simp [intOf]; omega
        · obtain rfl : i = LN := by omega
          have hce : chg (pagesF M 0) 512 i = c5 := by
            have h9 := HC.out.1
            rw [HC.out.2.2.2.1] at h9
            exact h9
          rw [hce]
          clear hce
          go_wp2
          go_roundw
          case rel => exact ⟨.inr (.inl ⟨by go_num, by rw [hN0]⟩), _, rfl⟩
          case measure => simp [intOf]
    · obtain ⟨N0, hN0⟩ : ∃ N0 : Nat, N0 = 1 + c5 := ⟨_, rfl⟩
      have hN0b : N0 ≤ 20001 := by omega
      go_upto_region 7 with fail
      go_loopw [3, 6] (fun nn ii wx => ∃ (i q : Nat), i ≤ LN ∧ ii = .int .i64 i ∧ nn = .int .i64 (N0 + chg (pagesF M 0) 64 i : Nat) ∧ wx = W1.drewN q) (fun _ ii _ => LN - (intOf ii).toNat)
      case atStart => exact ⟨0, q, Nat.zero_le _, rfl, by rw [chg_zero, hN0]; rfl, rfl⟩
      case round =>
        obtain ⟨i, q, hi, rfl, rfl, rfl⟩ := hrel
        by_cases hil : i < LN
        · have hi8 : (i : Int) < (LN : Int) := by omega
          have hcb := chg_le (pagesF M 0) 64 i
          cases i with
          | zero =>
            have hi0 : ((0 : Nat) : Int) = 0 := rfl
            have hz : N0 + chg (pagesF M 0) 64 0 = N0 := rfl
            rw [hz]
            simp only [hi0]
            clear hcb hz
            go_upto_region 9 with fail
            go_quiet (fail)
            go_wp2
            go_roundw
            case rel => exact ⟨1, _, by omega, by go_num, by rw [chg_first]; go_num, rfl⟩
            case measure => simp [intOf]; omega
          | succ i =>
            obtain ⟨g, o, R, rfl, _, _, hR, x0, x1, x2, x3, x4, x5⟩ := HR.out.at_ (i := i + 1) (by rw [HC.out.2.2.2.2, HC.out.2.2.2.1]; exact hil)
            clear x1 x2 x3 x4 x5
            obtain ⟨g', o', R', e', _, _, hR', z0, z1, z2, z3, z4, z5⟩ := HR.out.at_ (i := i) (by rw [HC.out.2.2.2.2, HC.out.2.2.2.1]; omega)
            clear z1 z2 z3 z4 z5
            have e1 := Option.some.inj e'
            obtain rfl : g = g' := congrArg Addr.block e1
            obtain rfl : o = o' := congrArg Addr.off e1
            rw [spotsF_at] at x0 z0
            simp only at x0 z0
            have hl1 : i + 1 < (pagesF M 0).length := by rw [HC.out.2.2.2.1]; exact hil
            have p1 := HPL.out (i + 1) hl1
            have p2 := HPL.out i (by omega)
            have hs1 := fun e => chg_same (D := 64) hl1 e
            have hs2 := fun e => chg_other (D := 64) hl1 e
            have HS := Lib.hid (And.intro hs1 hs2)
            clear hs1 hs2 e1 e'
            obtain ⟨a, ha⟩ : ∃ a, (pagesF M 0)[i + 1]'(by rw [HC.out.2.2.2.1]; exact hil) / 64 = a := ⟨_, rfl⟩
            obtain ⟨b, hb⟩ : ∃ b, (pagesF M 0)[i]'(by rw [HC.out.2.2.2.1]; omega) / 64 = b := ⟨_, rfl⟩
            have ta := quo_nat ((pagesF M 0)[i + 1]'(by rw [HC.out.2.2.2.1]; exact hil)) 64
            have tb := quo_nat ((pagesF M 0)[i]'(by rw [HC.out.2.2.2.1]; omega)) 64
            rw [ha] at ta HS
            rw [hb] at tb HS
            have ab : a ≤ 4095 := by rw [← ha]; exact Nat.le_trans (Nat.div_le_self _ _) (by omega)
            have bb : b ≤ 4095 := by rw [← hb]; exact Nat.le_trans (Nat.div_le_self _ _) (by omega)
            simp only [show ((64 : Nat) : Int) = 64 from rfl] at ta tb
            clear ha hb
            generalize (pagesF M 0)[i + 1]'(by rw [HC.out.2.2.2.1]; exact hil) = P1 at *
            generalize (pagesF M 0)[i]'(by rw [HC.out.2.2.2.1]; omega) = P0 at *
            obtain ⟨S0, hS0⟩ : ∃ S0 : Nat, N0 + chg (pagesF M 0) 64 (i + 1) = S0 := ⟨_, rfl⟩
            rw [hS0]
            have hS0b : S0 ≤ 40000 := by omega
            have HS0 := Lib.hid hS0
            obtain ⟨I, hI⟩ : ∃ I, i + 1 = I := ⟨_, rfl⟩
            rw [hI] at hi8 hR HS HS0 ⊢
            have hsub : (I : Int) - 1 = (i : Int) := by omega
            have hI0 : ((I : Int) == 0) = false := by simpa using (by omega : (I : Int) ≠ 0)
            have hil2 : (i : Int) < (LN : Int) := by omega
            have HI := Lib.hid (And.intro hI hil)
            clear hcb hS0 hI hil
            by_cases hab : a = b
            · have HE := Lib.hid (HS.out.1 hab)
              subst hab
              go_upto_region 9 with fail
              go_quiet (fail)
              go_wp2
              go_roundw
              case rel => exact ⟨I + 1, _, by have := HI.out; omega, by go_num, by have h9 := HE.out; rw [h9, HS0.out], rfl⟩
              case measure => have := HI.out; simp [intOf]; omega
            · have HE := Lib.hid (HS.out.2 hab)
              have hne : ((a : Int) == (b : Int)) = false := by simpa using (by omega : (a : Int) ≠ (b : Int))
              have hne2 : (a == b) = false := by simpa using hab
              go_upto_region 9 with fail
              go_quiet (fail)
              go_wp2
              go_roundw
              case rel => exact ⟨I + 1, _, by have := HI.out; omega, by go_num, by have h9 := HE.out; rw [h9, ← Nat.add_assoc, HS0.out]; go_num, rfl⟩
              case measure => have := HI.out; simp [intOf]; omega
        · obtain rfl : i = LN := by omega
          have hce : chg (pagesF M 0) 64 i = c6 := by
            have h9 := HC.out.2.1
            rw [HC.out.2.2.2.1] at h9
            exact h9
          rw [hce]
          clear hce
          go_wp2
          go_roundw
          case rel => exact ⟨.inr (.inr (.inl ⟨by go_num, by rw [hN0]⟩)), _, rfl⟩
          case measure => simp [intOf]
    · obtain ⟨N0, hN0⟩ : ∃ N0 : Nat, N0 = 1 + c5 + c6 := ⟨_, rfl⟩
      have hN0b : N0 ≤ 20001 := by omega
      go_upto_region 7 with fail
      go_loopw [3, 6] (fun nn ii wx => ∃ (i q : Nat), i ≤ LN ∧ ii = .int .i64 i ∧ nn = .int .i64 (N0 + chg (pagesF M 0) 8 i : Nat) ∧ wx = W1.drewN q) (fun _ ii _ => LN - (intOf ii).toNat)
      case atStart => exact ⟨0, q, Nat.zero_le _, rfl, by rw [chg_zero, hN0]; rfl, rfl⟩
      case round =>
        obtain ⟨i, q, hi, rfl, rfl, rfl⟩ := hrel
        by_cases hil : i < LN
        · have hi8 : (i : Int) < (LN : Int) := by omega
          have hcb := chg_le (pagesF M 0) 8 i
          cases i with
          | zero =>
            have hi0 : ((0 : Nat) : Int) = 0 := rfl
            have hz : N0 + chg (pagesF M 0) 8 0 = N0 := rfl
            rw [hz]
            simp only [hi0]
            clear hcb hz
            go_upto_region 9 with fail
            go_quiet (fail)
            go_wp2
            go_roundw
            case rel => exact ⟨1, _, by omega, by go_num, by rw [chg_first]; go_num, rfl⟩
            case measure => simp [intOf]; omega
          | succ i =>
            obtain ⟨g, o, R, rfl, _, _, hR, x0, x1, x2, x3, x4, x5⟩ := HR.out.at_ (i := i + 1) (by rw [HC.out.2.2.2.2, HC.out.2.2.2.1]; exact hil)
            clear x1 x2 x3 x4 x5
            obtain ⟨g', o', R', e', _, _, hR', z0, z1, z2, z3, z4, z5⟩ := HR.out.at_ (i := i) (by rw [HC.out.2.2.2.2, HC.out.2.2.2.1]; omega)
            clear z1 z2 z3 z4 z5
            have e1 := Option.some.inj e'
            obtain rfl : g = g' := congrArg Addr.block e1
            obtain rfl : o = o' := congrArg Addr.off e1
            rw [spotsF_at] at x0 z0
            simp only at x0 z0
            have hl1 : i + 1 < (pagesF M 0).length := by rw [HC.out.2.2.2.1]; exact hil
            have p1 := HPL.out (i + 1) hl1
            have p2 := HPL.out i (by omega)
            have hs1 := fun e => chg_same (D := 8) hl1 e
            have hs2 := fun e => chg_other (D := 8) hl1 e
            have HS := Lib.hid (And.intro hs1 hs2)
            clear hs1 hs2 e1 e'
            obtain ⟨a, ha⟩ : ∃ a, (pagesF M 0)[i + 1]'(by rw [HC.out.2.2.2.1]; exact hil) / 8 = a := ⟨_, rfl⟩
            obtain ⟨b, hb⟩ : ∃ b, (pagesF M 0)[i]'(by rw [HC.out.2.2.2.1]; omega) / 8 = b := ⟨_, rfl⟩
            have ta := quo_nat ((pagesF M 0)[i + 1]'(by rw [HC.out.2.2.2.1]; exact hil)) 8
            have tb := quo_nat ((pagesF M 0)[i]'(by rw [HC.out.2.2.2.1]; omega)) 8
            rw [ha] at ta HS
            rw [hb] at tb HS
            have ab : a ≤ 4095 := by rw [← ha]; exact Nat.le_trans (Nat.div_le_self _ _) (by omega)
            have bb : b ≤ 4095 := by rw [← hb]; exact Nat.le_trans (Nat.div_le_self _ _) (by omega)
            simp only [show ((8 : Nat) : Int) = 8 from rfl] at ta tb
            clear ha hb
            generalize (pagesF M 0)[i + 1]'(by rw [HC.out.2.2.2.1]; exact hil) = P1 at *
            generalize (pagesF M 0)[i]'(by rw [HC.out.2.2.2.1]; omega) = P0 at *
            obtain ⟨S0, hS0⟩ : ∃ S0 : Nat, N0 + chg (pagesF M 0) 8 (i + 1) = S0 := ⟨_, rfl⟩
            rw [hS0]
            have hS0b : S0 ≤ 40000 := by omega
            have HS0 := Lib.hid hS0
            obtain ⟨I, hI⟩ : ∃ I, i + 1 = I := ⟨_, rfl⟩
            rw [hI] at hi8 hR HS HS0 ⊢
            have hsub : (I : Int) - 1 = (i : Int) := by omega
            have hI0 : ((I : Int) == 0) = false := by simpa using (by omega : (I : Int) ≠ 0)
            have hil2 : (i : Int) < (LN : Int) := by omega
            have HI := Lib.hid (And.intro hI hil)
            clear hcb hS0 hI hil
            by_cases hab : a = b
            · have HE := Lib.hid (HS.out.1 hab)
              subst hab
              go_upto_region 9 with fail
              go_quiet (fail)
              go_wp2
              go_roundw
              case rel => exact ⟨I + 1, _, by have := HI.out; omega, by go_num, by have h9 := HE.out; rw [h9, HS0.out], rfl⟩
              case measure => have := HI.out; simp [intOf]; omega
            · have HE := Lib.hid (HS.out.2 hab)
              have hne : ((a : Int) == (b : Int)) = false := by simpa using (by omega : (a : Int) ≠ (b : Int))
              have hne2 : (a == b) = false := by simpa using hab
              go_upto_region 9 with fail
              go_quiet (fail)
              go_wp2
              go_roundw
              case rel => exact ⟨I + 1, _, by have := HI.out; omega, by go_num, by have h9 := HE.out; rw [h9, ← Nat.add_assoc, HS0.out]; go_num, rfl⟩
              case measure => have := HI.out; simp [intOf]; omega
        · obtain rfl : i = LN := by omega
          have hce : chg (pagesF M 0) 8 i = c8 := by
            have h9 := HC.out.2.2.1
            rw [HC.out.2.2.2.1] at h9
            exact h9
          rw [hce]
          clear hce
          go_wp2
          go_roundw
          case rel => exact ⟨.inr (.inr (.inr ⟨by go_num, by rw [hN0]⟩)), _, rfl⟩
          case measure => simp [intOf]
    · have hfin : cnt7 M = 1 + c5 + c6 + c8 := by rw [HCT.out, HC.out.1, HC.out.2.1, HC.out.2.2.1]
      have HFIN := Lib.hid hfin
      clear hfin
      go_wp2
      go_ret
      exact ⟨by rw [HFIN.out]; rfl, Below.drewN HB.out q⟩
end Go.Proofs.YtbidlabhekiijaaDoor

/- The reference of layer 7: Without. -/
namespace Go.Proofs.YtbidlabhekiijaaDoor
open Go.RowKit
set_option linter.unusedVariables false
set_option linter.unusedSimpArgs false

/-- The pages but one. -/
def woL (L : List (Nat × Sl)) (k : Int) : List (Nat × Sl) := L.filter fun x => decide ((x.1 : Int) ≠ k)
theorem woL_take {L : List (Nat × Sl)} {i : Nat} (hi : i < L.length) (k : Int) : woL (L.take (i + 1)) k = woL (L.take i) k ++ if ((L[i].1 : Nat) : Int) ≠ k then [L[i]] else [] := by
  unfold woL
  rw [List.take_succ_eq_append_getElem hi, List.filter_append]
  congr 1
  by_cases h : ((L[i].1 : Nat) : Int) = k
  · simp [h]
  · simp [h]
theorem woL_len (L : List (Nat × Sl)) (i : Nat) (k : Int) : (woL (L.take i) k).length ≤ i := by
  refine Nat.le_trans (List.length_filter_le _ _) ?_
  rw [List.length_take]
  omega

set_option maxRecDepth 100000 in
set_option maxHeartbeats 800000 in
theorem rwithout_any {w : World} {r B : Nat} {v : Value} {L : List (Nat × Sl)} (hr : Blk w r 40 #[v]) (h : SRow w B v L) (hL : L.length ≤ 10000) (k : Int) :
    Calls Tryd.prog 38 #[.pointer (some ⟨r, 0, none⟩), .int .i64 k] w fun e w' => ∃ v', e = .returned v' ∧ w'.ownsRow w.heap.size 47 6 v' (woL L k).length ((woL L k).flatMap spC) ∧ Below w.heap.size w w' := by
  obtain ⟨A, c, rfl⟩ := h.len
  obtain ⟨i0, hi, hz0, hz1, hz2⟩ := info_parts infoSpot7
  have HR := Lib.hid hr
  have HS := Lib.hid h
  clear hr h
  go_enter Tryd.func38, Tryd.ntmps38
  go_wp2
  go_loopw [5, 6] (fun out ii wx => ∃ i : Nat, i ≤ L.length ∧ ii = .int .i64 i ∧ wx.ownsRow w.heap.size 47 6 out (woL (L.take i) k).length ((woL (L.take i) k).flatMap spC) ∧ Below w.heap.size w wx) (fun _ ii _ => L.length - (intOf ii).toNat)
  case atStart => exact ⟨0, Nat.zero_le _, rfl, World.ownsRow_nil _ _ _ _, Below.refl _ _⟩
  case round =>
    obtain ⟨i, hil, rfl, hO, hB⟩ := hrel
    have hrr := HR.out.below hB HR.out.lt
    have q0 : wr.cell? ⟨r, 0, none⟩ = some (.slice A L.length c) := hrr.at_ 0 _ rfl
    have hsz := hB.size
    by_cases hlt : i < L.length
    · obtain ⟨g, o, R, rfl, _, hg, hR, x0, x1, x2, x3, x4, x5⟩ := (HS.out.below hB).at_ (i := i) hlt
      have ht := woL_take hlt k
      have hle := woL_len L i k
      generalize L[i] = z at *
      obtain ⟨pg, za, zb, zc, zd, zn⟩ := z
      simp only at x0 x1 x2 x3 x4 x5 ht
      have hi8 : (i : Int) < (L.length : Int) := by omega
      by_cases hk : ((pg : Nat) : Int) = k
      · rw [if_neg (by simpa using hk), List.append_nil] at ht
        have HX := Lib.hid (show wr.ownsRow w.heap.size 47 6 u5 (woL (L.take (i + 1)) k).length ((woL (L.take (i + 1)) k).flatMap spC) ∧ Below w.heap.size w wr from ⟨by rw [ht]; exact hO, hB⟩)
        have hk2 : ((pg : Int) == k) = true := by simpa using hk
        subst hk
        clear ht hO hB hrr x1 x2 x3 x4 x5
        go_wp2
        go_roundw
        case rel => exact ⟨i + 1, by omega, by go_num, HX.out⟩
        case measure => simp [intOf]; omega
      · rw [if_pos (by simpa using hk)] at ht
        have hk2 : ((pg : Int) == k) = false := by simpa using hk
        have HT := Lib.hid ht
        have HOWN := Lib.hid (own_below hO ((Below.refl _ _).alloc (Nat.le_refl _) (.cells #[.int .i64 (pg : Nat), .bool za, .bool zb, .bool zc, .bool zd, .int .i64 zn] 47)))
        have HB := Lib.hid hB
        have hXL : Hid (hO.2 = hO.2) := rfl
        clear hXL ht hB hrr
        obtain ⟨Au, cu, rfl⟩ := own_sl7 hO
        clear hO
        go_wp2_with (at_builtin; refine Hid.out ?_)
        refine Lib.hid ?_
        refine wpList_append_own _ rfl _ _ 38 rfl w.heap.size 47 i0 _ 6 24 Tryd.underlying38 hi hz0 hz1 hz2 rfl (by decide) (.slice Au (woL (L.take i) k).length cu) (woL (L.take i) k).length _ rfl HOWN.out ⟨wr.heap.size, 0, none⟩ 1 1 [.int .i64 (pg : Nat), .bool za, .bool zb, .bool zc, .bool zd, .int .i64 zn] rfl (by rfl)
          (fun j u hj => by rw [show (⟨wr.heap.size, 0, none⟩ : Addr).add j = ⟨wr.heap.size, j, none⟩ by unfold Addr.add; split <;> simp_all]; exact (Blk.new wr 47 #[.int .i64 (pg : Nat), .bool za, .bool zb, .bool zc, .bool zd, .int .i64 zn]).at_ j u (by simpa using hj))
          (fun u hu => by simp at hu; rcases hu with rfl | rfl | rfl | rfl | rfl | rfl <;> rfl) (by unfold maxLen; omega) (by omega) (by simp; omega) ?_
        intro v' w1 hown1 hgrow1 _
        have hb1 := ((HB.out.alloc HB.out.size (.cells #[.int .i64 (pg : Nat), .bool za, .bool zb, .bool zc, .bool zd, .int .i64 zn] 47)).grown hgrow1 (by have := HB.out.size; simp; omega) (fun k e => own_ge HOWN.out e))
        obtain ⟨A1, c1, rfl⟩ := own_sl7 hown1
        have HX := Lib.hid (And.intro hown1 hb1)
        clear hown1 hgrow1 hb1
        go_wp2
        go_roundw
        case rel =>
          refine ⟨i + 1, by omega, by go_num, ?_, HX.out.2⟩
          rw [HT.out, List.length_append, List.flatMap_append]
          exact HX.out.1
        case measure => simp [intOf]; omega
    · obtain rfl : i = L.length := by omega
      rw [List.take_length] at hO
      have HX := Lib.hid (And.intro hO hB)
      clear hO hB hrr
      go_wp2
      go_ret
      exact ⟨_, rfl, HX.out⟩
end Go.Proofs.YtbidlabhekiijaaDoor

/- Rows of spots: one page less, one page more. -/
namespace Go.Proofs.YtbidlabhekiijaaDoor
open Go.RowKit
set_option linter.unusedVariables false
set_option linter.unusedSimpArgs false

theorem spotsF_mem {M : Nat → Sl} {x : Nat × Sl} (h : x ∈ spotsF M) : x.1 < 4096 ∧ x.2 = M x.1 ∧ x.2 ≠ Sl.zero := by
  unfold spotsF at h
  obtain ⟨p, hp, rfl⟩ := List.mem_map.1 h
  have := mem_pagesF.1 hp
  exact ⟨this.1, rfl, this.2.1⟩
/-- Of pages but one it does not matter what that one has. -/
theorem woL_set (M : Nat → Sl) (P : Nat) (s : Sl) : woL (spotsF (setM M P s)) (P : Nat) = woL (spotsF M) (P : Nat) := by
  unfold woL spotsF
  rw [List.filter_map, List.filter_map]
  have e : (pagesF (setM M P s) 0).filter ((fun x : Nat × Sl => decide ((x.1 : Int) ≠ (P : Nat))) ∘ fun p => (p, setM M P s p)) = (pagesF M 0).filter ((fun x : Nat × Sl => decide ((x.1 : Int) ≠ (P : Nat))) ∘ fun p => (p, M p)) := by
    unfold pagesF lvl
    rw [List.filter_filter, List.filter_filter]
    refine List.filter_congr fun r _ => ?_
    by_cases hr : r = P
    · subst hr
      simp
    · have : live (setM M P s) 4 r ↔ live M 4 r := by rw [live_four, live_four, setM_other hr]
      simp only [Function.comp]
      congr 1
      exact decide_eq_decide.2 ⟨fun h => ⟨this.1 h.1, h.2⟩, fun h => ⟨this.2 h.1, h.2⟩⟩
  rw [e]
  refine List.map_congr_left fun p hp => ?_
  have h := (List.mem_filter.1 hp).2
  have hne : p ≠ P := by
    intro e
    subst e
    simp at h
  show (p, setM M P s p) = (p, M p)
  rw [setM_other hne]
theorem woL_none {M : Nat → Sl} {P : Nat} (h : M P = Sl.zero) : woL (spotsF M) (P : Nat) = spotsF M := by
  unfold woL
  rw [List.filter_eq_self]
  intro x hx
  have := spotsF_mem hx
  refine decide_eq_true fun e => this.2.2 ?_
  rw [this.2.1, show x.1 = P by omega, h]
/-- A page is dropped. -/
theorem woL_drop (M : Nat → Sl) (P : Nat) : woL (spotsF M) (P : Nat) = spotsF (setM M P Sl.zero) := by
  rw [← woL_set M P Sl.zero, woL_none (setM_same M P Sl.zero)]
/-- A page is set: where it comes in. -/
theorem spotsF_set {M : Nat → Sl} {P : Nat} {s : Sl} (hP : P < 4096) (hs : s ≠ Sl.zero) : ∃ i, i ≤ (woL (spotsF M) (P : Nat)).length ∧ (∀ j (hj : j < (woL (spotsF M) (P : Nat)).length), (woL (spotsF M) (P : Nat))[j].1 < P ↔ j < i) ∧
    spotsF (setM M P s) = (woL (spotsF M) (P : Nat)).take i ++ (P, s) :: (woL (spotsF M) (P : Nat)).drop i := by
  have hm : P ∈ pagesF (setM M P s) 0 := mem_pagesF.2 ⟨hP, by rw [setM_same]; exact hs, by omega⟩
  obtain ⟨i, hi, he⟩ := List.mem_iff_getElem.1 hm
  have hsrt := pagesF_sorted (setM M P s) 0
  have hQ : (spotsF (setM M P s)).length = (pagesF (setM M P s) 0).length := spotsF_length _
  have hat : ∀ j (hj : j < (spotsF (setM M P s)).length), (spotsF (setM M P s))[j].1 = (pagesF (setM M P s) 0)[j]'(by rw [← hQ]; exact hj) := fun j hj => by rw [spotsF_at]
  have hlow : ∀ j (hj : j < (spotsF (setM M P s)).length), j < i → (spotsF (setM M P s))[j].1 < P := fun j hj h => by
    have h2 := sorted_at hsrt h hi
    have h3 := hat j hj
    omega
  have hhigh : ∀ j (hj : j < (spotsF (setM M P s)).length), i < j → P < (spotsF (setM M P s))[j].1 := fun j hj h => by
    have h2 := sorted_at hsrt h (by omega)
    have h3 := hat j hj
    omega
  have hil0 : i < (spotsF (setM M P s)).length := by omega
  have hiq : (spotsF (setM M P s))[i]'hil0 = (P, s) := by
    rw [spotsF_at]
    exact Prod.ext he ((congrArg (setM M P s) he).trans (setM_same M P s))
  rw [← woL_set M P s]
  clear hat he hi hm hsrt hQ
  generalize spotsF (setM M P s) = Q at *
  have hil : i < Q.length := hil0
  have hsplit : Q = Q.take i ++ (P, s) :: Q.drop (i + 1) := by
    rw [← hiq, ← List.drop_eq_getElem_cons hil, List.take_append_drop]
  have hw : woL Q (P : Nat) = Q.take i ++ Q.drop (i + 1) := by
    unfold woL
    rw (occs := .pos [1]) [hsplit]
    rw [List.filter_append, List.filter_cons, if_neg (by simp), List.filter_eq_self.2, List.filter_eq_self.2]
    · intro x hx
      obtain ⟨k, hk, rfl⟩ := List.mem_iff_getElem.1 hx
      rw [List.getElem_drop]
      have := hhigh (i + 1 + k) (by rw [List.length_drop] at hk; omega) (by omega)
      exact decide_eq_true (by omega)
    · intro x hx
      obtain ⟨k, hk, rfl⟩ := List.mem_iff_getElem.1 hx
      rw [List.length_take] at hk
      rw [List.getElem_take]
      have := hlow k (by omega) (by omega)
      exact decide_eq_true (by omega)
  have htl : (Q.take i).length = i := by rw [List.length_take]; omega
  rw [hw]
  refine ⟨i, by rw [List.length_append, htl]; omega, fun j hj => ?_, ?_⟩
  · rcases Nat.lt_or_ge j i with h | h
    · rw [List.getElem_append_left (by omega), List.getElem_take]
      have := hlow j (by omega) h
      exact ⟨fun _ => h, fun _ => this⟩
    · rw [List.getElem_append_right (by omega), List.getElem_drop]
      rw [List.length_append, htl, List.length_drop] at hj
      have := hhigh (i + 1 + (j - (Q.take i).length)) (by rw [htl]; omega) (by omega)
      constructor
      · intro h2; omega
      · intro h2; omega
  · rw [List.take_append_of_le_length (by omega), List.take_of_length_le (by omega), List.drop_append_of_le_length (by omega), List.drop_eq_nil_of_le (by omega), List.nil_append]
    exact hsplit
end Go.Proofs.YtbidlabhekiijaaDoor
