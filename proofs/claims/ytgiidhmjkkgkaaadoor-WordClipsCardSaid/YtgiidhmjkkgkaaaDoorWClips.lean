/- WordClips: what is clipped stays so; it has the same lowest bytes; a number's sign is that of its greatest bit. -/
import Derived.Test.YtgiidhmjkkgkaaaDoorWO
namespace Go.Proofs.YtgiidhmjkkgkaaaDoor.lawClips
open Go.ChangeShapes Go.WideShapes Go.ChangeAt Go.RowKit
set_option linter.unusedVariables false
set_option linter.unusedSimpArgs false

/-- Words that have the same lowest bytes are put the same. -/
theorem putL_mod : ∀ (k a b : Nat), a % 256 ^ k = b % 256 ^ k → putL a k = putL b k
  | 0, a, b, h => rfl
  | k + 1, a, b, h => by
    have h1 : a % 256 = b % 256 := by
      have := congrArg (· % 256) h
      rwa [Nat.mod_mod_of_dvd _ ⟨256 ^ k, by rw [Nat.pow_succ, Nat.mul_comm]⟩, Nat.mod_mod_of_dvd _ ⟨256 ^ k, by rw [Nat.pow_succ, Nat.mul_comm]⟩] at this
    have h2 : a / 256 % 256 ^ k = b / 256 % 256 ^ k := by
      have e : ∀ n : Nat, n / 256 % 256 ^ k = n % 256 ^ (k + 1) / 256 := fun n => by
        rw [Nat.pow_succ, Nat.mul_comm, Nat.mod_mul_right_div_self]
      rw [e, e, h]
    simp only [putL]
    rw [putL_mod k _ _ h2]
    congr 1
    apply UInt8.toNat_inj.1
    simp [h1]

theorem low_same {k n : Int} (h1 : 1 ≤ k) (h9 : k ≤ 9) (n0 : 0 ≤ n) (n1 : n < 18446744073709551616) :
    mkb (putL (clipS k n).toNat (wid k).toNat) = mkb (putL n.toNat (wid k).toNat) := by
  congr 1
  apply putL_mod
  rcases kinds k with rfl | rfl | rfl | rfl | rfl | rfl | rfl | rfl | rfl | hout
  case inr.inr.inr.inr.inr.inr.inr.inr.inr => omega
  all_goals
    simp only [clipS, wid]
    simp
  all_goals (repeat' split) <;> omega

/-- The greatest bit of a kind. -/
def topD (k : Int) : Int := if wid k = 1 then 128 else if wid k = 2 then 32768 else if wid k = 4 then 2147483648 else 9223372036854775808
theorem top_sign {k n : Int} (h1 : 1 ≤ k) (h8 : k ≤ 8) (n0 : 0 ≤ n) (n1 : n < 18446744073709551616) :
    decide (cmpS k (clipS k n) 0 < 0) = (sgn k && (n / topD k % 2 == 1)) := by
  obtain ⟨x0, x1⟩ := clipS_range k n n0 n1
  rw [cmp_rk x0 x1 (by omega) (by omega), if_neg (by omega), clip_clip n0 n1]
  have hc0 : clipS k 0 = 0 := by unfold clipS; (repeat' split) <;> omega
  have hr0 : rk k 0 = 0 := by unfold rk valZ; rw [if_neg (by omega), if_neg (by omega)]
  rw [hc0, hr0]
  unfold rk
  rw [if_neg (by omega)]
  have hc : (cmp3 (valZ k (clipS k n)) 0 < 0) ↔ valZ k (clipS k n) < 0 := by unfold cmp3; (repeat' split) <;> omega
  rw [Bool.eq_iff_iff, decide_eq_true_iff, hc]
  rcases kinds k with rfl | rfl | rfl | rfl | rfl | rfl | rfl | rfl | rfl | hout
  case inr.inr.inr.inr.inr.inr.inr.inr.inl => omega
  case inr.inr.inr.inr.inr.inr.inr.inr.inr => omega
  all_goals
    simp [valZ, clipS, sgn, topD, wid]
  all_goals try omega
  all_goals (repeat' split) <;> omega

theorem and_one {n : Int} (n0 : 0 ≤ n) (n1 : n < 18446744073709551616) : bits .and .u64 n 1 = n % 2 := by
  obtain ⟨N, rfl⟩ : ∃ N : Nat, n = N := ⟨n.toNat, by omega⟩
  have := u64_and_mask N 1 1 (by omega) (by omega) (by decide)
  simpa using this

theorem kind_of (kind n : Int) (hn : 0 < n) : -n < kind.tmod n ∧ kind.tmod n < n ∧ 0 ≤ (kind.tmod n + n).tmod n ∧ (kind.tmod n + n).tmod n < n := by
  have h1 := Int.lt_tmod_of_pos kind hn
  have h0 := Int.tmod_lt_of_pos kind hn
  have h2 := Int.tmod_nonneg (a := kind.tmod n + n) n (by omega)
  have h3 := Int.tmod_lt_of_pos (kind.tmod n + n) hn
  exact ⟨h1, h0, h2, h3⟩

theorem bytes_len (n k : Nat) : ((mkb (putL n k)).size : Int) = k := by rw [mkb_size, putL_length]

set_option maxHeartbeats 3200000 in
theorem one (k kind n : Int) (w : World) (hk : (Lit.int .i64 kind).wf = true) (hn : (Lit.int .u64 n).wf = true) (hT : Tab w)
    (h1 : 1 ≤ k) (h9 : k ≤ 9) (hx : 1 + (kind.tmod 9 + 9).tmod 9 = k) :
    Calls Tryd.prog 10 #[.int .i64 kind, .int .u64 n] w fun e w' => e = .returned (.bool true) ∧ Below w.heap.size w w' := by
  have HA := Lib.hid (fun w hT => awake_any w hT)
  obtain ⟨n0, n1⟩ := u64_range hn
  obtain ⟨t1, t2, y0, y1⟩ := kind_of kind 9 (by omega)
  obtain ⟨x, hx'⟩ : ∃ x, kind.tmod 9 = x := ⟨_, rfl⟩
  rw [hx'] at y0 y1 t1 t2 hx
  obtain ⟨y, hy⟩ : ∃ y, (x + 9).tmod 9 = y := ⟨_, rfl⟩
  rw [hy] at y0 y1 hx
  obtain rfl : y = k - 1 := by omega
  clear hx
  obtain ⟨x0, x1⟩ := clipS_range k n n0 n1
  have wk : (Lit.int .i64 k).wf = true := wf_i64 (by omega) (by omega)
  have W1 := Lib.hid (fun w hT => width_any k w wk hT)
  have S1 := Lib.hid (fun w => signed_any k w wk)
  have C1 := Lib.hid (fun w hT => clip_any k n w wk hn hT)
  have c2 := fun w hT => clip_any k (clipS k n) w wk (wf_u64 x0 x1) hT
  simp only [clip_clip n0 n1] at c2
  have C2 := Lib.hid c2
  have b1 := fun w hT => bytes_any k (clipS k n) w wk (wf_u64 x0 x1) hT
  simp only [low_same h1 h9 n0 n1] at b1
  have B1 := Lib.hid b1
  have B2 := Lib.hid (fun w hT => bytes_any k n w wk hn hT)
  have K1 := Lib.hid (fun w hT => compare_any k (clipS k n) 0 w wk (wf_u64 x0 x1) (by decide) hT)
  have hl := bytes_len n.toNat (wid k).toNat
  have hq := fun h8 => top_sign h1 h8 n0 n1
  have hB := Below.refl w.heap.size w
  clear c2 b1
  generalize mkb (putL n.toNat (wid k).toNat) = s at *
  generalize clipS k n = c at *
  rcases kinds k with rfl | rfl | rfl | rfl | rfl | rfl | rfl | rfl | rfl | hout
  · clear x0 x1
    simp [wid] at W1 hl
    simp [sgn] at S1
    have ha := and_one (n := n / 128) (by omega) (by omega)
    simp at hy
    have q := hq (by decide)
    simp [topD, wid, sgn] at q
    clear hq
    generalize n / 128 % 2 = m at *
    generalize cmpS 1 c 0 = d at *
    have q' : (decide (d < 0)) = false := by simpa using q
    clear q
    go_enter Tryd.func10, Tryd.ntmps10
    go_wp2_with (first
      | (go_at_call 11; with_reducible refine (HA.out _ hT).mono ?_; rintro e v1 ⟨rfl, hb⟩; replace hT := hT.below hb hT.pos; replace hB := hB.trans (hb.mono hB.size))
      | (go_at_call 14; with_reducible refine (W1.out _ hT).mono ?_; rintro e v1 ⟨rfl, rfl⟩)
      | (go_at_call 16; with_reducible refine (S1.out _).mono ?_; rintro e v1 ⟨rfl, rfl⟩)
      | (go_at_call 18; with_reducible refine (C1.out _ hT).mono ?_; rintro e v1 ⟨rfl, rfl⟩)
      | (go_at_call 18; with_reducible refine (C2.out _ hT).mono ?_; rintro e v1 ⟨rfl, rfl⟩)
      | (go_at_call 20; with_reducible refine (B1.out _ hT).mono ?_; rintro e v1 ⟨rfl, hb⟩; replace hT := hT.below hb hT.pos; replace hB := hB.trans (hb.mono hB.size))
      | (go_at_call 20; with_reducible refine (B2.out _ hT).mono ?_; rintro e v1 ⟨rfl, hb⟩; replace hT := hT.below hb hT.pos; replace hB := hB.trans (hb.mono hB.size))
      | (go_at_call 24; with_reducible refine (K1.out _ hT).mono ?_; rintro e v1 ⟨rfl, hb⟩; replace hT := hT.below hb hT.pos; replace hB := hB.trans (hb.mono hB.size)))
    all_goals go_ret
    all_goals exact ⟨rfl, hB⟩
  · clear x0 x1
    simp [wid] at W1 hl
    simp [sgn] at S1
    have ha := and_one (n := n / 32768) (by omega) (by omega)
    simp at hy
    have q := hq (by decide)
    simp [topD, wid, sgn] at q
    clear hq
    generalize n / 32768 % 2 = m at *
    generalize cmpS 2 c 0 = d at *
    have q' : (decide (d < 0)) = false := by simpa using q
    clear q
    go_enter Tryd.func10, Tryd.ntmps10
    go_wp2_with (first
      | (go_at_call 11; with_reducible refine (HA.out _ hT).mono ?_; rintro e v1 ⟨rfl, hb⟩; replace hT := hT.below hb hT.pos; replace hB := hB.trans (hb.mono hB.size))
      | (go_at_call 14; with_reducible refine (W1.out _ hT).mono ?_; rintro e v1 ⟨rfl, rfl⟩)
      | (go_at_call 16; with_reducible refine (S1.out _).mono ?_; rintro e v1 ⟨rfl, rfl⟩)
      | (go_at_call 18; with_reducible refine (C1.out _ hT).mono ?_; rintro e v1 ⟨rfl, rfl⟩)
      | (go_at_call 18; with_reducible refine (C2.out _ hT).mono ?_; rintro e v1 ⟨rfl, rfl⟩)
      | (go_at_call 20; with_reducible refine (B1.out _ hT).mono ?_; rintro e v1 ⟨rfl, hb⟩; replace hT := hT.below hb hT.pos; replace hB := hB.trans (hb.mono hB.size))
      | (go_at_call 20; with_reducible refine (B2.out _ hT).mono ?_; rintro e v1 ⟨rfl, hb⟩; replace hT := hT.below hb hT.pos; replace hB := hB.trans (hb.mono hB.size))
      | (go_at_call 24; with_reducible refine (K1.out _ hT).mono ?_; rintro e v1 ⟨rfl, hb⟩; replace hT := hT.below hb hT.pos; replace hB := hB.trans (hb.mono hB.size)))
    all_goals go_ret
    all_goals exact ⟨rfl, hB⟩
  · clear x0 x1
    simp [wid] at W1 hl
    simp [sgn] at S1
    have ha := and_one (n := n / 2147483648) (by omega) (by omega)
    simp at hy
    have q := hq (by decide)
    simp [topD, wid, sgn] at q
    clear hq
    generalize n / 2147483648 % 2 = m at *
    generalize cmpS 3 c 0 = d at *
    have q' : (decide (d < 0)) = false := by simpa using q
    clear q
    go_enter Tryd.func10, Tryd.ntmps10
    go_wp2_with (first
      | (go_at_call 11; with_reducible refine (HA.out _ hT).mono ?_; rintro e v1 ⟨rfl, hb⟩; replace hT := hT.below hb hT.pos; replace hB := hB.trans (hb.mono hB.size))
      | (go_at_call 14; with_reducible refine (W1.out _ hT).mono ?_; rintro e v1 ⟨rfl, rfl⟩)
      | (go_at_call 16; with_reducible refine (S1.out _).mono ?_; rintro e v1 ⟨rfl, rfl⟩)
      | (go_at_call 18; with_reducible refine (C1.out _ hT).mono ?_; rintro e v1 ⟨rfl, rfl⟩)
      | (go_at_call 18; with_reducible refine (C2.out _ hT).mono ?_; rintro e v1 ⟨rfl, rfl⟩)
      | (go_at_call 20; with_reducible refine (B1.out _ hT).mono ?_; rintro e v1 ⟨rfl, hb⟩; replace hT := hT.below hb hT.pos; replace hB := hB.trans (hb.mono hB.size))
      | (go_at_call 20; with_reducible refine (B2.out _ hT).mono ?_; rintro e v1 ⟨rfl, hb⟩; replace hT := hT.below hb hT.pos; replace hB := hB.trans (hb.mono hB.size))
      | (go_at_call 24; with_reducible refine (K1.out _ hT).mono ?_; rintro e v1 ⟨rfl, hb⟩; replace hT := hT.below hb hT.pos; replace hB := hB.trans (hb.mono hB.size)))
    all_goals go_ret
    all_goals exact ⟨rfl, hB⟩
  · clear x0 x1
    simp [wid] at W1 hl
    simp [sgn] at S1
    have ha := and_one (n := n / 9223372036854775808) (by omega) (by omega)
    simp at hy
    have q := hq (by decide)
    simp [topD, wid, sgn] at q
    clear hq
    generalize n / 9223372036854775808 % 2 = m at *
    generalize cmpS 4 c 0 = d at *
    have q' : (decide (d < 0)) = false := by simpa using q
    clear q
    go_enter Tryd.func10, Tryd.ntmps10
    go_wp2_with (first
      | (go_at_call 11; with_reducible refine (HA.out _ hT).mono ?_; rintro e v1 ⟨rfl, hb⟩; replace hT := hT.below hb hT.pos; replace hB := hB.trans (hb.mono hB.size))
      | (go_at_call 14; with_reducible refine (W1.out _ hT).mono ?_; rintro e v1 ⟨rfl, rfl⟩)
      | (go_at_call 16; with_reducible refine (S1.out _).mono ?_; rintro e v1 ⟨rfl, rfl⟩)
      | (go_at_call 18; with_reducible refine (C1.out _ hT).mono ?_; rintro e v1 ⟨rfl, rfl⟩)
      | (go_at_call 18; with_reducible refine (C2.out _ hT).mono ?_; rintro e v1 ⟨rfl, rfl⟩)
      | (go_at_call 20; with_reducible refine (B1.out _ hT).mono ?_; rintro e v1 ⟨rfl, hb⟩; replace hT := hT.below hb hT.pos; replace hB := hB.trans (hb.mono hB.size))
      | (go_at_call 20; with_reducible refine (B2.out _ hT).mono ?_; rintro e v1 ⟨rfl, hb⟩; replace hT := hT.below hb hT.pos; replace hB := hB.trans (hb.mono hB.size))
      | (go_at_call 24; with_reducible refine (K1.out _ hT).mono ?_; rintro e v1 ⟨rfl, hb⟩; replace hT := hT.below hb hT.pos; replace hB := hB.trans (hb.mono hB.size)))
    all_goals go_ret
    all_goals exact ⟨rfl, hB⟩
  · clear x0 x1
    simp [wid] at W1 hl
    simp [sgn] at S1
    have ha := and_one (n := n / 128) (by omega) (by omega)
    simp at hy
    have q := hq (by decide)
    simp [topD, wid, sgn] at q
    clear hq
    generalize n / 128 % 2 = m at *
    generalize cmpS 5 c 0 = d at *
    by_cases hd : d < 0
    · have q' : (m == 1) = true := by rw [← q]; simpa using hd
      clear q
      go_enter Tryd.func10, Tryd.ntmps10
      go_wp2_with (first
      | (go_at_call 11; with_reducible refine (HA.out _ hT).mono ?_; rintro e v1 ⟨rfl, hb⟩; replace hT := hT.below hb hT.pos; replace hB := hB.trans (hb.mono hB.size))
      | (go_at_call 14; with_reducible refine (W1.out _ hT).mono ?_; rintro e v1 ⟨rfl, rfl⟩)
      | (go_at_call 16; with_reducible refine (S1.out _).mono ?_; rintro e v1 ⟨rfl, rfl⟩)
      | (go_at_call 18; with_reducible refine (C1.out _ hT).mono ?_; rintro e v1 ⟨rfl, rfl⟩)
      | (go_at_call 18; with_reducible refine (C2.out _ hT).mono ?_; rintro e v1 ⟨rfl, rfl⟩)
      | (go_at_call 20; with_reducible refine (B1.out _ hT).mono ?_; rintro e v1 ⟨rfl, hb⟩; replace hT := hT.below hb hT.pos; replace hB := hB.trans (hb.mono hB.size))
      | (go_at_call 20; with_reducible refine (B2.out _ hT).mono ?_; rintro e v1 ⟨rfl, hb⟩; replace hT := hT.below hb hT.pos; replace hB := hB.trans (hb.mono hB.size))
      | (go_at_call 24; with_reducible refine (K1.out _ hT).mono ?_; rintro e v1 ⟨rfl, hb⟩; replace hT := hT.below hb hT.pos; replace hB := hB.trans (hb.mono hB.size)))
      all_goals go_ret
      all_goals exact ⟨by simp [hd], hB⟩
    · have q' : (m == 1) = false := by rw [← q]; simpa using hd
      clear q
      go_enter Tryd.func10, Tryd.ntmps10
      go_wp2_with (first
      | (go_at_call 11; with_reducible refine (HA.out _ hT).mono ?_; rintro e v1 ⟨rfl, hb⟩; replace hT := hT.below hb hT.pos; replace hB := hB.trans (hb.mono hB.size))
      | (go_at_call 14; with_reducible refine (W1.out _ hT).mono ?_; rintro e v1 ⟨rfl, rfl⟩)
      | (go_at_call 16; with_reducible refine (S1.out _).mono ?_; rintro e v1 ⟨rfl, rfl⟩)
      | (go_at_call 18; with_reducible refine (C1.out _ hT).mono ?_; rintro e v1 ⟨rfl, rfl⟩)
      | (go_at_call 18; with_reducible refine (C2.out _ hT).mono ?_; rintro e v1 ⟨rfl, rfl⟩)
      | (go_at_call 20; with_reducible refine (B1.out _ hT).mono ?_; rintro e v1 ⟨rfl, hb⟩; replace hT := hT.below hb hT.pos; replace hB := hB.trans (hb.mono hB.size))
      | (go_at_call 20; with_reducible refine (B2.out _ hT).mono ?_; rintro e v1 ⟨rfl, hb⟩; replace hT := hT.below hb hT.pos; replace hB := hB.trans (hb.mono hB.size))
      | (go_at_call 24; with_reducible refine (K1.out _ hT).mono ?_; rintro e v1 ⟨rfl, hb⟩; replace hT := hT.below hb hT.pos; replace hB := hB.trans (hb.mono hB.size)))
      all_goals go_ret
      all_goals exact ⟨by simp [hd], hB⟩
  · clear x0 x1
    simp [wid] at W1 hl
    simp [sgn] at S1
    have ha := and_one (n := n / 32768) (by omega) (by omega)
    simp at hy
    have q := hq (by decide)
    simp [topD, wid, sgn] at q
    clear hq
    generalize n / 32768 % 2 = m at *
    generalize cmpS 6 c 0 = d at *
    by_cases hd : d < 0
    · have q' : (m == 1) = true := by rw [← q]; simpa using hd
      clear q
      go_enter Tryd.func10, Tryd.ntmps10
      go_wp2_with (first
      | (go_at_call 11; with_reducible refine (HA.out _ hT).mono ?_; rintro e v1 ⟨rfl, hb⟩; replace hT := hT.below hb hT.pos; replace hB := hB.trans (hb.mono hB.size))
      | (go_at_call 14; with_reducible refine (W1.out _ hT).mono ?_; rintro e v1 ⟨rfl, rfl⟩)
      | (go_at_call 16; with_reducible refine (S1.out _).mono ?_; rintro e v1 ⟨rfl, rfl⟩)
      | (go_at_call 18; with_reducible refine (C1.out _ hT).mono ?_; rintro e v1 ⟨rfl, rfl⟩)
      | (go_at_call 18; with_reducible refine (C2.out _ hT).mono ?_; rintro e v1 ⟨rfl, rfl⟩)
      | (go_at_call 20; with_reducible refine (B1.out _ hT).mono ?_; rintro e v1 ⟨rfl, hb⟩; replace hT := hT.below hb hT.pos; replace hB := hB.trans (hb.mono hB.size))
      | (go_at_call 20; with_reducible refine (B2.out _ hT).mono ?_; rintro e v1 ⟨rfl, hb⟩; replace hT := hT.below hb hT.pos; replace hB := hB.trans (hb.mono hB.size))
      | (go_at_call 24; with_reducible refine (K1.out _ hT).mono ?_; rintro e v1 ⟨rfl, hb⟩; replace hT := hT.below hb hT.pos; replace hB := hB.trans (hb.mono hB.size)))
      all_goals go_ret
      all_goals exact ⟨by simp [hd], hB⟩
    · have q' : (m == 1) = false := by rw [← q]; simpa using hd
      clear q
      go_enter Tryd.func10, Tryd.ntmps10
      go_wp2_with (first
      | (go_at_call 11; with_reducible refine (HA.out _ hT).mono ?_; rintro e v1 ⟨rfl, hb⟩; replace hT := hT.below hb hT.pos; replace hB := hB.trans (hb.mono hB.size))
      | (go_at_call 14; with_reducible refine (W1.out _ hT).mono ?_; rintro e v1 ⟨rfl, rfl⟩)
      | (go_at_call 16; with_reducible refine (S1.out _).mono ?_; rintro e v1 ⟨rfl, rfl⟩)
      | (go_at_call 18; with_reducible refine (C1.out _ hT).mono ?_; rintro e v1 ⟨rfl, rfl⟩)
      | (go_at_call 18; with_reducible refine (C2.out _ hT).mono ?_; rintro e v1 ⟨rfl, rfl⟩)
      | (go_at_call 20; with_reducible refine (B1.out _ hT).mono ?_; rintro e v1 ⟨rfl, hb⟩; replace hT := hT.below hb hT.pos; replace hB := hB.trans (hb.mono hB.size))
      | (go_at_call 20; with_reducible refine (B2.out _ hT).mono ?_; rintro e v1 ⟨rfl, hb⟩; replace hT := hT.below hb hT.pos; replace hB := hB.trans (hb.mono hB.size))
      | (go_at_call 24; with_reducible refine (K1.out _ hT).mono ?_; rintro e v1 ⟨rfl, hb⟩; replace hT := hT.below hb hT.pos; replace hB := hB.trans (hb.mono hB.size)))
      all_goals go_ret
      all_goals exact ⟨by simp [hd], hB⟩
  · clear x0 x1
    simp [wid] at W1 hl
    simp [sgn] at S1
    have ha := and_one (n := n / 2147483648) (by omega) (by omega)
    simp at hy
    have q := hq (by decide)
    simp [topD, wid, sgn] at q
    clear hq
    generalize n / 2147483648 % 2 = m at *
    generalize cmpS 7 c 0 = d at *
    by_cases hd : d < 0
    · have q' : (m == 1) = true := by rw [← q]; simpa using hd
      clear q
      go_enter Tryd.func10, Tryd.ntmps10
      go_wp2_with (first
      | (go_at_call 11; with_reducible refine (HA.out _ hT).mono ?_; rintro e v1 ⟨rfl, hb⟩; replace hT := hT.below hb hT.pos; replace hB := hB.trans (hb.mono hB.size))
      | (go_at_call 14; with_reducible refine (W1.out _ hT).mono ?_; rintro e v1 ⟨rfl, rfl⟩)
      | (go_at_call 16; with_reducible refine (S1.out _).mono ?_; rintro e v1 ⟨rfl, rfl⟩)
      | (go_at_call 18; with_reducible refine (C1.out _ hT).mono ?_; rintro e v1 ⟨rfl, rfl⟩)
      | (go_at_call 18; with_reducible refine (C2.out _ hT).mono ?_; rintro e v1 ⟨rfl, rfl⟩)
      | (go_at_call 20; with_reducible refine (B1.out _ hT).mono ?_; rintro e v1 ⟨rfl, hb⟩; replace hT := hT.below hb hT.pos; replace hB := hB.trans (hb.mono hB.size))
      | (go_at_call 20; with_reducible refine (B2.out _ hT).mono ?_; rintro e v1 ⟨rfl, hb⟩; replace hT := hT.below hb hT.pos; replace hB := hB.trans (hb.mono hB.size))
      | (go_at_call 24; with_reducible refine (K1.out _ hT).mono ?_; rintro e v1 ⟨rfl, hb⟩; replace hT := hT.below hb hT.pos; replace hB := hB.trans (hb.mono hB.size)))
      all_goals go_ret
      all_goals exact ⟨by simp [hd], hB⟩
    · have q' : (m == 1) = false := by rw [← q]; simpa using hd
      clear q
      go_enter Tryd.func10, Tryd.ntmps10
      go_wp2_with (first
      | (go_at_call 11; with_reducible refine (HA.out _ hT).mono ?_; rintro e v1 ⟨rfl, hb⟩; replace hT := hT.below hb hT.pos; replace hB := hB.trans (hb.mono hB.size))
      | (go_at_call 14; with_reducible refine (W1.out _ hT).mono ?_; rintro e v1 ⟨rfl, rfl⟩)
      | (go_at_call 16; with_reducible refine (S1.out _).mono ?_; rintro e v1 ⟨rfl, rfl⟩)
      | (go_at_call 18; with_reducible refine (C1.out _ hT).mono ?_; rintro e v1 ⟨rfl, rfl⟩)
      | (go_at_call 18; with_reducible refine (C2.out _ hT).mono ?_; rintro e v1 ⟨rfl, rfl⟩)
      | (go_at_call 20; with_reducible refine (B1.out _ hT).mono ?_; rintro e v1 ⟨rfl, hb⟩; replace hT := hT.below hb hT.pos; replace hB := hB.trans (hb.mono hB.size))
      | (go_at_call 20; with_reducible refine (B2.out _ hT).mono ?_; rintro e v1 ⟨rfl, hb⟩; replace hT := hT.below hb hT.pos; replace hB := hB.trans (hb.mono hB.size))
      | (go_at_call 24; with_reducible refine (K1.out _ hT).mono ?_; rintro e v1 ⟨rfl, hb⟩; replace hT := hT.below hb hT.pos; replace hB := hB.trans (hb.mono hB.size)))
      all_goals go_ret
      all_goals exact ⟨by simp [hd], hB⟩
  · clear x0 x1
    simp [wid] at W1 hl
    simp [sgn] at S1
    have ha := and_one (n := n / 9223372036854775808) (by omega) (by omega)
    simp at hy
    have q := hq (by decide)
    simp [topD, wid, sgn] at q
    clear hq
    generalize n / 9223372036854775808 % 2 = m at *
    generalize cmpS 8 c 0 = d at *
    by_cases hd : d < 0
    · have q' : (m == 1) = true := by rw [← q]; simpa using hd
      clear q
      go_enter Tryd.func10, Tryd.ntmps10
      go_wp2_with (first
      | (go_at_call 11; with_reducible refine (HA.out _ hT).mono ?_; rintro e v1 ⟨rfl, hb⟩; replace hT := hT.below hb hT.pos; replace hB := hB.trans (hb.mono hB.size))
      | (go_at_call 14; with_reducible refine (W1.out _ hT).mono ?_; rintro e v1 ⟨rfl, rfl⟩)
      | (go_at_call 16; with_reducible refine (S1.out _).mono ?_; rintro e v1 ⟨rfl, rfl⟩)
      | (go_at_call 18; with_reducible refine (C1.out _ hT).mono ?_; rintro e v1 ⟨rfl, rfl⟩)
      | (go_at_call 18; with_reducible refine (C2.out _ hT).mono ?_; rintro e v1 ⟨rfl, rfl⟩)
      | (go_at_call 20; with_reducible refine (B1.out _ hT).mono ?_; rintro e v1 ⟨rfl, hb⟩; replace hT := hT.below hb hT.pos; replace hB := hB.trans (hb.mono hB.size))
      | (go_at_call 20; with_reducible refine (B2.out _ hT).mono ?_; rintro e v1 ⟨rfl, hb⟩; replace hT := hT.below hb hT.pos; replace hB := hB.trans (hb.mono hB.size))
      | (go_at_call 24; with_reducible refine (K1.out _ hT).mono ?_; rintro e v1 ⟨rfl, hb⟩; replace hT := hT.below hb hT.pos; replace hB := hB.trans (hb.mono hB.size)))
      all_goals go_ret
      all_goals exact ⟨by simp [hd], hB⟩
    · have q' : (m == 1) = false := by rw [← q]; simpa using hd
      clear q
      go_enter Tryd.func10, Tryd.ntmps10
      go_wp2_with (first
      | (go_at_call 11; with_reducible refine (HA.out _ hT).mono ?_; rintro e v1 ⟨rfl, hb⟩; replace hT := hT.below hb hT.pos; replace hB := hB.trans (hb.mono hB.size))
      | (go_at_call 14; with_reducible refine (W1.out _ hT).mono ?_; rintro e v1 ⟨rfl, rfl⟩)
      | (go_at_call 16; with_reducible refine (S1.out _).mono ?_; rintro e v1 ⟨rfl, rfl⟩)
      | (go_at_call 18; with_reducible refine (C1.out _ hT).mono ?_; rintro e v1 ⟨rfl, rfl⟩)
      | (go_at_call 18; with_reducible refine (C2.out _ hT).mono ?_; rintro e v1 ⟨rfl, rfl⟩)
      | (go_at_call 20; with_reducible refine (B1.out _ hT).mono ?_; rintro e v1 ⟨rfl, hb⟩; replace hT := hT.below hb hT.pos; replace hB := hB.trans (hb.mono hB.size))
      | (go_at_call 20; with_reducible refine (B2.out _ hT).mono ?_; rintro e v1 ⟨rfl, hb⟩; replace hT := hT.below hb hT.pos; replace hB := hB.trans (hb.mono hB.size))
      | (go_at_call 24; with_reducible refine (K1.out _ hT).mono ?_; rintro e v1 ⟨rfl, hb⟩; replace hT := hT.below hb hT.pos; replace hB := hB.trans (hb.mono hB.size)))
      all_goals go_ret
      all_goals exact ⟨by simp [hd], hB⟩
  · clear x0 x1
    simp [wid] at W1 hl
    simp [sgn] at S1
    have ha := and_one (n := n / 9223372036854775808) (by omega) (by omega)
    simp at hy
    clear hq
    generalize n / 9223372036854775808 % 2 = m at *
    clear K1
    go_enter Tryd.func10, Tryd.ntmps10
    go_wp2_with (first
      | (go_at_call 11; with_reducible refine (HA.out _ hT).mono ?_; rintro e v1 ⟨rfl, hb⟩; replace hT := hT.below hb hT.pos; replace hB := hB.trans (hb.mono hB.size))
      | (go_at_call 14; with_reducible refine (W1.out _ hT).mono ?_; rintro e v1 ⟨rfl, rfl⟩)
      | (go_at_call 16; with_reducible refine (S1.out _).mono ?_; rintro e v1 ⟨rfl, rfl⟩)
      | (go_at_call 18; with_reducible refine (C1.out _ hT).mono ?_; rintro e v1 ⟨rfl, rfl⟩)
      | (go_at_call 18; with_reducible refine (C2.out _ hT).mono ?_; rintro e v1 ⟨rfl, rfl⟩)
      | (go_at_call 20; with_reducible refine (B1.out _ hT).mono ?_; rintro e v1 ⟨rfl, hb⟩; replace hT := hT.below hb hT.pos; replace hB := hB.trans (hb.mono hB.size))
      | (go_at_call 20; with_reducible refine (B2.out _ hT).mono ?_; rintro e v1 ⟨rfl, hb⟩; replace hT := hT.below hb hT.pos; replace hB := hB.trans (hb.mono hB.size)))
    go_ret
    exact ⟨rfl, hB⟩
  · omega

theorem walk (kind n : Int) (w : World) (hk : (Lit.int .i64 kind).wf = true) (hn : (Lit.int .u64 n).wf = true) (hT : Tab w) :
    Calls Tryd.prog 10 #[.int .i64 kind, .int .u64 n] w fun e w' => e = .returned (.bool true) ∧ Below w.heap.size w w' := by
  obtain ⟨t1, t2, y0, y1⟩ := kind_of kind 9 (by omega)
  exact one _ kind n w hk hn hT (by omega) (by omega) rfl

set_option maxRecDepth 100000 in
theorem lifted (os : Os) (started : os.Started) (H : Type) (enc : TypeId × Value → H) :
    ReturnsInHanded {} Tryd.checked os 10 .any (fun w args => (Rows.wordClipsSpec.pre enc Tryd.prog Tryd.f10 Rows.wordClipsRow.domain false w args ∧ laidMet Tryd.prog Rows.wordClipsRow.laid w) ∧ sizedMet enc Tryd.prog Tryd.f10 (OpenSpec.ofChange Rows.wordClipsSpec) false w args) (Rows.wordClipsSpec.post enc Tryd.prog Tryd.f10 false true false false) := by
  refine returnsInHanded_of_change_and (C := Tryd.checked) (X := fun w _ => laidMet Tryd.prog Rows.wordClipsRow.laid w) (fun _ _ _ hh h => h.of_heap hh) own started (by kernel_rfl) Tryd.func10
    (ChangeSpec.witness_at (enc := enc) (C := Tryd.checked) (os := os) (X := fun w _ => laidMet Tryd.prog Rows.wordClipsRow.laid w) false (laidWorld os) #[.int .i64 0, .int .u64 0] 8 rfl (by kernel_rfl) (by kernel_rfl) (by kernel_rfl) (by kernel_rfl) (by kernel_rfl) (laid_met os _)) ?_
  intro W base args ds gs before hval0 hW hcnd _ hL _
  have hval : ∀ (j : Nat) t v, Tryd.f10.params[j]? = some t → args[j]? = some v → Value.okWide Tryd.prog W .any base t v := hval0
  have hW' := hW
  obtain ⟨p, q, hA0, hV, rfl, hfz, hnd⟩ := hW
  have hA : DataW.TrodAll enc Tryd.prog W 0 (fun _ => true) true Tryd.f10.params.toList args.toList ds p := hA0
  rw [Tryd.params10] at hA hval
  obtain ⟨v0, vs0, d0, ds0, p0, q0, hargs, rfl, rfl, h0, r0⟩ := trodAll_cons hA
  obtain ⟨v1, vs1, d1, ds1, p1, q1, rfl, rfl, rfl, h1, r1⟩ := trodAll_cons r0
  obtain ⟨rfl, rfl, rfl⟩ := trodAll_nil r1
  obtain rfl : args = #[v0, v1] := by cases args; simp_all
  obtain ⟨rfl, rfl⟩ := trodVars_none hV
  have k0 := h0
  have lt0 : ∀ x ∈ p0, x.block < W.heap.size := by obtain ⟨m, hm⟩ := k0; exact DataW.trod_lt m _ _ _ hm
  obtain ⟨a0, rfl, _, _, w0⟩ := open_int Tryd.underlying3 (hval 0 3 v0 rfl rfl) h0
  have k1 := h1
  have lt1 : ∀ x ∈ p1, x.block < W.heap.size := by obtain ⟨m, hm⟩ := k1; exact DataW.trod_lt m _ _ _ hm
  obtain ⟨a1, rfl, _, _, w1⟩ := open_int Tryd.underlying22 (hval 1 22 v1 rfl rfl) h1
  clear hA0 hval0
  refine (walk a0 a1 W w0 w1 (tab_of_laid hL)).mono fun e W' ⟨he, bel⟩ => ?_
  subst he
  exact ⟨_, rfl, _, _, _, [], _, [], hW', trodAll_mk1 (shut_bool Tryd.underlying4 _), (trodAll_cons_mk (Below.trod laidOut (by kernel_rfl) (of_decide_eq_true (by kernel_rfl)) k0 bel lt0) (trodAll_cons_mk (Below.trod laidOut (by kernel_rfl) (of_decide_eq_true (by kernel_rfl)) k1 bel lt1) trodAll_mk0)), rfl, bel.frame _, fun h => by cases h⟩
theorem over : Rows.wordClipsRow.holds Tryd.pinned (OpenSpec.ofChange Rows.wordClipsSpec) :=
  OpenClaim.holds_of_wide 10 Tryd.f10 rfl rfl rfl rfl rfl rfl rfl ⟨rfl, rfl, rfl, rfl, rfl⟩ rfl rfl rfl rfl rfl (by kernel_rfl) Tryd.func10 (by kernel_rfl)
    (of_decide_eq_true (by kernel_rfl)) (by unfold Func.isWrapper; first | (rw [if_pos (by decide +kernel)]; kernel_rfl) | (rw [if_neg (by decide +kernel)]; exact ⟨rfl, rfl⟩))
    (fun os started H enc _ => lifted os started H enc)
/-- The statement. -/
theorem proved : Rows.WordClipsCardSaid :=
  Claim7.holds_tied_plain_at .later [] [.data] true _ false over (fun _ h => by cases h) (by kernel_rfl) (fun _ h => by cases h) wordClips_row_tie rfl ⟨rfl, rfl⟩ (by kernel_rfl) rfl
    (fun f fn hf hfn => by
      obtain rfl : f = 10 := Option.some.inj (hf.symm.trans (by kernel_rfl))
      obtain rfl : fn = Tryd.f10 := Option.some.inj (hfn.symm.trans Tryd.func10)
      refine ⟨by kernel_rfl, fun j t ht => ?_⟩
      rw [Tryd.params10] at ht
      match j, ht with
      | 0, ht =>
        obtain rfl : t = 3 := by simpa using ht.symm
        exact (by kernel_rfl : Tryd.pinned.checked.prog.wantsStandIn 3 = false)
      | 1, ht =>
        obtain rfl : t = 22 := by simpa using ht.symm
        exact (by kernel_rfl : Tryd.pinned.checked.prog.wantsStandIn 22 = false)
      | j + 2, ht => simp at ht)
    (by kernel_rfl)
end Go.Proofs.YtgiidhmjkkgkaaaDoor.lawClips
