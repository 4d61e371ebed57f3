/- Package reloc: which relocations may be; Read. -/
import Derived.Test.YtpkjaacklfiblaaZC
import Derived.Test.YtpkjaacklfiblaaDyn
import Derived.Deep.RegionHeld3
namespace Go.Proofs.Ytpkjaacklfiblaa
open Go.RowKit
set_option linter.unusedVariables false
set_option linter.unusedSimpArgs false

/-- May it be, in a view of so many bytes? -/
def Rl.may (r : Rl) (all : Int) : Bool := (if r.k = 8 then r.s == 0 else r.asks && decide (0 < r.s)) && inn r.p 8 all
/-- The relocation that stands at a. -/
def rlAt (s : ByteArray) (a : Int) : Rl := ⟨wrap64 (getN s a 8), getN s (a + 8) 4, getN s (a + 12) 4, wrap64 (getN s (a + 16) 8)⟩
def rlsAt (s : ByteArray) (f : Int) (n : Nat) : List Rl := (List.range n).map fun (i : Nat) => rlAt s (f + (i : Int) * 24)
theorem rlsAt_length (s : ByteArray) (f : Int) (n : Nat) : (rlsAt s f n).length = n := by simp [rlsAt]
theorem rlsAt_succ (s : ByteArray) (f : Int) (n : Nat) : rlsAt s f (n + 1) = rlsAt s f n ++ [rlAt s (f + (n : Int) * 24)] := by simp [rlsAt, List.range_succ]
theorem getN_inZ (s : ByteArray) (a : Int) (k : Nat) (hk : k ≤ 8) : 0 ≤ getN s a k ∧ getN s a k < (256 ^ k : Nat) := by
  unfold getN
  split
  · rename_i h
    obtain ⟨h1, h2, h3, h4, h5⟩ := hol_iff.1 h
    have := getL_lt (partL s a.toNat (k : Int).toNat)
    have hl := partL_length (s := s) (a := a.toNat) (n := (k : Int).toNat) (by omega)
    rw [hl, Int.toNat_natCast] at this
    rw [Int.toNat_natCast]
    exact ⟨Int.natCast_nonneg _, Int.ofNat_lt.2 this⟩
  · exact ⟨Int.le_refl _, by have := Nat.pow_pos (n := k) (show 0 < 256 by omega); omega⟩
theorem getN_in4 (s : ByteArray) (a : Int) : 0 ≤ getN s a 4 ∧ getN s a 4 < 4294967296 := getN_inZ s a 4 (by omega)
theorem rlAt_wf (s : ByteArray) (a : Int) : (rlAt s a).wf := by
  have h1 := getN_in4 s (a + 8)
  have h2 := getN_in4 s (a + 12)
  exact ⟨wrap64_wf _, (WalkArith.wf_i64 (by omega) : (Lit.int .i64 (getN s (a + 8) 4)).wf = true), (WalkArith.wf_i64 (by omega) : (Lit.int .i64 (getN s (a + 12) 4)).wf = true), wrap64_wf _⟩
theorem rlsAt_wf (s : ByteArray) (f : Int) (n : Nat) : ∀ r, r ∈ rlsAt s f n → r.wf := fun r hr => by
  obtain ⟨i, -, rfl⟩ := List.mem_map.1 hr
  exact rlAt_wf _ _
/-- Each of so many may be. -/
def rlOk (s : ByteArray) (f : Int) (n : Nat) : Bool := (rlsAt s f n).all fun r => r.may s.size
theorem rlOk_zero (s : ByteArray) (f : Int) : rlOk s f 0 = true := rfl
theorem rlOk_succ (s : ByteArray) (f : Int) (n : Nat) : rlOk s f (n + 1) = (rlOk s f n && (rlAt s (f + (n : Int) * 24)).may s.size) := by unfold rlOk; rw [rlsAt_succ, List.all_append]; simp
theorem rlOk_le (s : ByteArray) (f : Int) {k n : Nat} (h : k ≤ n) (hk : rlOk s f k = false) : rlOk s f n = false := by
  induction n with
  | zero => obtain rfl : k = 0 := by omega
            exact hk
  | succ n ih =>
    by_cases e : k = n + 1
    · subst e; exact hk
    · rw [rlOk_succ, ih (by omega), Bool.false_and]
/-- What Read tells. -/
def relB (s : ByteArray) (f z : Int) : Bool := decide (z = 0) || (decide (z % 24 = 0) && inn f z s.size && rlOk s f (z / 24).toNat)
def relE (s : ByteArray) (f z : Int) : Int := if relB s f z then 0 else 17
def relL (s : ByteArray) (f z : Int) : List Rl := if relB s f z then rlsAt s f (z / 24).toNat else []
theorem relL_wf (s : ByteArray) (f z : Int) : ∀ r, r ∈ relL s f z → r.wf := fun r hr => by
  unfold relL at hr
  split at hr
  · exact rlsAt_wf _ _ _ r hr
  · simp at hr
theorem rel_zero (s : ByteArray) (f : Int) : relL s f 0 = [] ∧ relE s f 0 = 0 := by
  have e : relB s f 0 = true := by unfold relB; simp
  constructor
  · unfold relL; rw [e]; rfl
  · unfold relE; rw [e]; rfl
theorem rel_no {s : ByteArray} {f z : Int} (hz : z ≠ 0) (h : ¬ (z % 24 = 0 ∧ inn f z s.size = true ∧ rlOk s f (z / 24).toNat = true)) : relL s f z = [] ∧ relE s f z = 17 := by
  have e : relB s f z = false := by
    cases hb : relB s f z
    · rfl
    · unfold relB at hb
      simp only [Bool.or_eq_true, Bool.and_eq_true, decide_eq_true_eq] at hb
      rcases hb with hb | hb
      · exact absurd hb hz
      · exact absurd ⟨hb.1.1, hb.1.2, hb.2⟩ h
  constructor
  · unfold relL; rw [e]; rfl
  · unfold relE; rw [e]; rfl
theorem rel_yes {s : ByteArray} {f z : Int} (h1 : z % 24 = 0) (h2 : inn f z s.size = true) (h3 : rlOk s f (z / 24).toNat = true) : relL s f z = rlsAt s f (z / 24).toNat ∧ relE s f z = 0 := by
  have e : relB s f z = true := by unfold relB; simp [h1, h2, h3]
  constructor
  · unfold relL; rw [e]; rfl
  · unfold relE; rw [e]; rfl
/-- Relocations were told. -/
def RelET (w : World) (l : List Rl) (er : Int) (e : Ending) (w' : World) : Prop := ∃ A c, e = .returned (.tuple #[.slice A l.length c, .int .i64 er]) ∧ RlRow w' A l ∧ Below w.heap.size w w'

set_option maxHeartbeats 1600000 in
theorem may_any (r : Rl) (all : Int) (w : World) (hr : r.wf) (ha : all ≤ 9223372036854775807) :
    Calls Try.prog 27 #[.agg r.cs, .int .i64 all] w fun e w' => e = .returned (.bool (r.may all)) ∧ Below w.heap.size w w' := by
  have HA := Lib.hid (fun v => asks_any r v)
  have HI := Lib.hid (fun v => within_any r.p 8 all v hr.p (by decide) ha)
  obtain ⟨p, k, y, a⟩ := r
  have hm : (⟨p, k, y, a⟩ : Rl).may all = ((if k = 8 then y == 0 else (⟨p, k, y, a⟩ : Rl).asks && decide (0 < y)) && inn p 8 all) := rfl
  obtain ⟨q, hq⟩ : ∃ q, (⟨p, k, y, a⟩ : Rl).asks = q := ⟨_, rfl⟩
  obtain ⟨m, hmm⟩ : ∃ m, (⟨p, k, y, a⟩ : Rl).may all = m := ⟨_, rfl⟩
  rw [hq] at HA hm
  rw [hmm] at hm ⊢
  clear hq hmm hr
  unfold Rl.cs at *
  simp only at HA HI ⊢
  generalize inn p 8 all = ii at *
  obtain ⟨W, hW⟩ : ∃ W, w.alloc (.cells #[.int .i64 p, .int .i64 k, .int .i64 y, .int .i64 a] 23) = W := ⟨_, rfl⟩
  have hB : Below w.heap.size w W := by rw [← hW]; exact (Below.refl _ _).alloc (Nat.le_refl _) _
  have hK : Blk W w.heap.size 23 #[.int .i64 p, .int .i64 k, .int .i64 y, .int .i64 a] := by rw [← hW]; exact Blk.new _ _ _
  have c0 : W.cell? ⟨w.heap.size, 0, none⟩ = some (.int .i64 p) := hK.at_ 0 _ rfl
  have c1 : W.cell? ⟨w.heap.size, 1, none⟩ = some (.int .i64 k) := hK.at_ 1 _ rfl
  have c2 : W.cell? ⟨w.heap.size, 2, none⟩ = some (.int .i64 y) := hK.at_ 2 _ rfl
  have c3 : W.cell? ⟨w.heap.size, 3, none⟩ = some (.int .i64 a) := hK.at_ 3 _ rfl
  have HW := Lib.hid hW
  have HAQ := Lib.hid (show ∀ v, Below w.heap.size w v → Blk v w.heap.size 23 #[.int .i64 p, .int .i64 k, .int .i64 y, .int .i64 a] → Calls Try.prog 14 #[.agg #[.int .i64 p, .int .i64 k, .int .i64 y, .int .i64 a]] v fun e w' => e = .returned (.bool q) ∧ (Below w.heap.size w w' ∧ w'.cell? ⟨w.heap.size, 0, none⟩ = some (.int .i64 p) ∧ w'.cell? ⟨w.heap.size, 2, none⟩ = some (.int .i64 y)) from fun v h1 h2 => (HA.out v).mono fun e w' ⟨he, hb⟩ => ⟨he, h1.trans (hb.mono (Nat.le_of_lt h2.lt)), (h2.below hb h2.lt).at_ 0 _ rfl, (h2.below hb h2.lt).at_ 2 _ rfl⟩)
  have HBK := Lib.hid (And.intro hB hK)
  clear hW hB hK HA
  by_cases h8 : k = 8
  · subst h8
    rw [if_pos rfl] at hm
    by_cases hy : y = 0
    · subst hy
      obtain rfl : m = ii := by rw [hm]; simp
      clear hm
      go_enter Try.func27, Try.ntmps27
      go_upto_region 1 with fail
      try rw [HW.out]
      go_wp2_with (go_at_call 24; refine (HI.out _).mono ?_; rintro e v1 ⟨rfl, rfl⟩)
      go_ret
      exact ⟨rfl, HBK.out.1⟩
    · have e : (y == 0) = false := by simpa using hy
      obtain rfl : m = false := by rw [hm, e]; rfl
      clear hm
      go_enter Try.func27, Try.ntmps27
      go_upto_region 1 with fail
      try rw [HW.out]
      go_wp2
      go_ret
      exact ⟨rfl, HBK.out.1⟩
  · rw [if_neg h8] at hm
    have e : (k == 8) = false := by simpa using h8
    cases q
    · obtain rfl : m = false := by rw [hm]; rfl
      clear hm
      go_enter Try.func27, Try.ntmps27
      go_upto_region 1 with fail
      try rw [HW.out]
      go_wp2_with (go_at_call 14; refine (HAQ.out _ HBK.out.1 HBK.out.2).mono ?_; rintro e v1 ⟨rfl, hb, d0, d2⟩)
      go_ret
      exact ⟨rfl, hb⟩
    · by_cases hy : 0 < y
      · obtain rfl : m = ii := by rw [hm]; simp [hy]
        clear hm
        go_enter Try.func27, Try.ntmps27
        go_upto_region 1 with fail
        try rw [HW.out]
        go_wp2_with (first
          | (go_at_call 14; refine (HAQ.out _ HBK.out.1 HBK.out.2).mono ?_; rintro e v1 ⟨rfl, hb, d0, d2⟩)
          | (go_at_call 24; refine (HI.out _).mono ?_; rintro e v2 ⟨rfl, rfl⟩))
        go_ret
        exact ⟨rfl, hb⟩
      · have e2 : decide (0 < y) = false := by simpa using hy
        obtain rfl : m = false := by rw [hm, e2]; rfl
        clear hm
        go_enter Try.func27, Try.ntmps27
        go_upto_region 1 with fail
        try rw [HW.out]
        go_wp2_with (go_at_call 14; refine (HAQ.out _ HBK.out.1 HBK.out.2).mono ?_; rintro e v1 ⟨rfl, hb, d0, d2⟩)
        go_ret
        exact ⟨rfl, hb⟩

set_option maxHeartbeats 800000 in
theorem number_anyZ (gv gd : Nat) (s : ByteArray) (f : Int) (i a n : Nat) (w : World) (hs : s.size ≤ 1000000000) (hv : w.cell? ⟨gv, 0, none⟩ = some (.string s)) (hd : w.cell? ⟨gd, 5, none⟩ = some (.int .i64 f)) (h0 : 0 ≤ f) (h1 : f ≤ 1000000000) (hi : i ≤ 1000000000) (ha : a ≤ 100) (hn : n ≤ 8) :
    Calls Try.prog 25 #[.int .i64 (i : Int), .int .i64 (a : Int), .int .i64 (n : Int), .pointer (some ⟨gv, 0, none⟩), .pointer (some ⟨gd, 0, none⟩)] w fun e w' => e = .returned (.int .u64 (getN s (f + (i : Int) * 24 + a) n)) ∧ w = w' := by
  have HG := Lib.hid (fun w => get_any s (f + (i : Int) * 24 + a) n w (WalkArith.wf_i64 (by omega)) (WalkArith.wf_i64 (by omega)) (by omega))
  obtain ⟨z, hz⟩ : ∃ z, getN s (f + (i : Int) * 24 + a) n = z := ⟨_, rfl⟩
  rw [hz] at HG ⊢
  generalize hol s.size (f + (i : Int) * 24 + a) n = h at *
  obtain ⟨P, hP⟩ : ∃ P : Int, (i : Int) * 24 = P := ⟨_, rfl⟩
  rw [hP] at HG
  obtain ⟨Q, hQ⟩ : ∃ Q : Int, f + P = Q := ⟨_, rfl⟩
  rw [hQ] at HG
  obtain ⟨T, hT⟩ : ∃ T : Int, Q + (a : Int) = T := ⟨_, rfl⟩
  rw [hT] at HG
  have x1 : IntKind.i64.wrap ((i : Int) * 24) = P := by rw [IntWalk.i64_in _ (by omega)]; exact hP
  have x2 : IntKind.i64.wrap (f + P) = Q := by rw [IntWalk.i64_in _ (by omega)]; exact hQ
  have x3 : IntKind.i64.wrap (Q + (a : Int)) = T := by rw [IntWalk.i64_in _ (by omega)]; exact hT
  have y1 : wrap64 ((i : Int) * 24) = P := by rw [IntWalk.wrap64_in _ (by omega)]; exact hP
  have y2 : wrap64 (f + P) = Q := by rw [IntWalk.wrap64_in _ (by omega)]; exact hQ
  have y3 : wrap64 (Q + (a : Int)) = T := by rw [IntWalk.wrap64_in _ (by omega)]; exact hT
  clear hP hQ hT hz
  go_enter Try.func25, Try.ntmps25
  go_wp2_with (go_at_call 26; refine (HG.out _).mono ?_; rintro e w' ⟨rfl, rfl⟩)
  go_ret
  exact ⟨rfl, rfl⟩
end Go.Proofs.Ytpkjaacklfiblaa
