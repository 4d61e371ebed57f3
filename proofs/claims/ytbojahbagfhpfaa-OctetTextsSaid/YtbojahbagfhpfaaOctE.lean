/- Contracts of the reference's functions of layer 1: Put, Part, Fill, Round. -/
import Derived.Test.YtbojahbagfhpfaaOctD
namespace Go.Proofs.Ytbojahbagfhpfaa
open Go.RowKit
set_option linter.unusedVariables false

theorem mkb_append (a b : List UInt8) : mkb a ++ mkb b = mkb (a ++ b) := by
  apply ByteArray.ext
  simp [mkb]
theorem mkb_nil : (⟨#[]⟩ : ByteArray) = mkb [] := rfl

theorem run_string_one {P : Program} (src dst e : TypeId) (hs : P.underlying src = some (.slice e)) (he : P.underlying e = some (.int .u8)) (hd : P.underlying dst = some .string) (n k cap : Nat) (x : Int) (hx : x = (n : Int) / 256 ^ k) (w : World) :
    (convert src dst (.slice (some ⟨w.heap.size, 0, none⟩) 1 cap)).run P (w.alloc (.cells #[.int .u8 (x % 256)] e)) = .ok (.string (mkb [UInt8.ofNat (n / 256 ^ k)])) (w.alloc (.cells #[.int .u8 (x % 256)] e)) := by
  subst hx
  refine run_string_blk (P := P) _ src dst e w.heap.size cap e [UInt8.ofNat (n / 256 ^ k)] 1 rfl hs he hd ?_
  have e : Lib.byteCells [UInt8.ofNat (n / 256 ^ k)] = [.int .u8 ((n : Int) / 256 ^ k % 256)] := by
    simp [Lib.byteCells]
  rw [e]
  exact Blk.new _ _ _

set_option maxHeartbeats 400000 in
theorem rput_any (n b : Int) (w : World) (hn : (Lit.int .u64 n).wf = true) (hb : (Lit.int .i64 b).wf = true) :
    Calls Try.prog 17 #[.int .u64 n, .int .i64 b] w fun e w' => e = .returned (.string (mkb (putL n.toNat (wide b)))) ∧ Below w.heap.size w w' := by
  obtain ⟨_, _⟩ := bounds_u64 hn
  obtain ⟨_, _⟩ := bounds_i64 hb
  obtain ⟨n, rfl⟩ : ∃ M : Nat, n = M := ⟨n.toNat, by omega⟩
  simp only [Int.toNat_natCast]
  have hW : (wide b : Int) ≤ 8 ∧ ∀ k : Nat, k ≤ wide b → (k < wide b ↔ (k : Int) < b ∧ (k : Int) < 8) := ⟨by unfold wide; omega, fun k hk => by unfold wide at *; omega⟩
  obtain ⟨hW, hk8⟩ := hW
  generalize wide b = W at *
  have HK := Lib.hid hk8
  clear hk8
  go_enter Try.func17, Try.ntmps17
  go_wp2
  go_loopw [0, 5, 6] (fun v s i wr => ∃ k : Nat, k ≤ W ∧ i = .int .i64 k ∧ v = .int .u64 ((n : Int) / 256 ^ k) ∧ s = .string (mkb (putL n k)) ∧ Below w.heap.size w wr) (fun _ _ i _ => W - (intOf i).toNat)
  case atStart => exact ⟨0, Nat.zero_le _, rfl, by simp, rfl, Below.refl _ _⟩
  case round =>
    obtain ⟨k, hk, rfl, rfl, rfl, hbel⟩ := hrel
    have hnk : (0 : Int) ≤ (n : Int) / 256 ^ k := Int.ediv_nonneg (by omega) (Int.pow_nonneg (by omega))
    by_cases hlt : k < W
    · obtain ⟨hb1, hb2⟩ := (HK.out k hk).1 hlt
      have hd : ((n : Int) / 256 ^ k) / 256 = (n : Int) / 256 ^ (k + 1) := by rw [Int.ediv_ediv_of_nonneg (Int.pow_nonneg (by omega)), Int.pow_succ]
      have hnle : (n : Int) / 256 ^ k ≤ (n : Int) := Int.ediv_le_self _ (by omega)
      obtain ⟨x, hx⟩ : ∃ x, x = (n : Int) / 256 ^ k := ⟨_, rfl⟩
      have hcv := run_string_one (P := Try.prog) 40 9 5 Try.underlying40 Try.underlying5 Try.underlying9 n k 1 x hx
      rw [← hx] at hd hnle hnk ⊢
      have hz1 : (mkb (putL n k)).size = k := by rw [mkb_size, putL_length]
      have hz2 : (mkb [UInt8.ofNat (n / 256 ^ k)]).size = 1 := by rw [mkb_size]; rfl
      have HD := Lib.hid hd
      have HX := Lib.hid hx
      clear hd hx
      go_wp2
      go_roundw
      case rel => exact ⟨k + 1, by omega, by go_num, by rw [← HD.out], by rw [mkb_append, putL_snoc], hbel.alloc hbel.size _⟩
      case measure => simp [intOf] <;> omega
    · obtain rfl : k = W := by omega
      by_cases hb1 : (k : Int) < b
      · have hb2 : ¬ ((k : Int) < 8) := fun h => absurd ((HK.out k hk).2 ⟨hb1, h⟩) (by omega)
        go_wp2
        go_ret
        exact ⟨rfl, hbel⟩
      · go_wp2
        go_ret
        exact ⟨rfl, hbel⟩

set_option maxHeartbeats 400000 in
theorem rpart_any (s : ByteArray) (a n : Int) (w : World) (ha : (Lit.int .i64 a).wf = true) (hn : (Lit.int .i64 n).wf = true) (hs : s.size ≤ 281474976710656) :
    Calls Try.prog 19 #[.string s, .int .i64 a, .int .i64 n] w fun e w' => e = .returned (.tuple #[.string (partS s a n), .bool (inn a n s.size)]) ∧ w = w' := by
  cases hi : inn a n s.size
  · have he : partS s a n = ⟨#[]⟩ := by unfold partS; simp [hi]
    rw [he]; clear he
    go_enter Try.func19, Try.ntmps19
    go_wp2_with (go_at_call 27; refine (rwithin_any _ _ _ _ ha hn (by omega)).mono ?_; rintro e w' ⟨rfl, rfl⟩)
    go_ret2
    exact ⟨rfl, rfl⟩
  · obtain ⟨h1, h2, h3, h4⟩ := inn_iff.1 hi
    have he : partS s a n = s.extract a.toNat (a.toNat + n.toNat) := by unfold partS; simp [hi]
    rw [he]; clear he
    obtain ⟨A, rfl⟩ : ∃ A : Nat, a = A := ⟨a.toNat, by omega⟩
    obtain ⟨M, rfl⟩ : ∃ M : Nat, n = M := ⟨n.toNat, by omega⟩
    simp only [Int.toNat_natCast]
    go_enter Try.func19, Try.ntmps19
    go_wp2_with (go_at_call 27; refine (rwithin_any _ _ _ _ ha hn (by omega)).mono ?_; rintro e w' ⟨rfl, rfl⟩)
    go_ret2
    exact ⟨rfl, rfl⟩

set_option maxHeartbeats 400000 in
theorem rfill_any (s : ByteArray) (n : Int) (w : World) (hn : (Lit.int .i64 n).wf = true) (hs : s.size ≤ 281474976710656) (hle : n ≤ 2147483647) :
    Calls Try.prog 25 #[.string s, .int .i64 n] w fun e w' => e = .returned (.string (fillS s n)) ∧ Below w.heap.size w w' := by
  obtain ⟨_, _⟩ := bounds_i64 hn
  by_cases h0 : n < 0
  · have he : fillS s n = ⟨#[]⟩ := by unfold fillS; simp [h0]
    rw [he]; clear he
    go_enter Try.func25, Try.ntmps25
    go_wp2
    go_ret
    exact ⟨rfl, Below.refl _ _⟩
  · have he : fillS s n = mkb (fillL s.data.toList n.toNat) := by unfold fillS; simp [h0]
    rw [he]; clear he
    obtain ⟨N, rfl⟩ : ∃ M : Nat, n = M := ⟨n.toNat, by omega⟩
    simp only [Int.toNat_natCast]
    by_cases h1 : N ≤ s.size
    · have he : mkb (fillL s.data.toList N) = s.extract 0 N := by
        rw [extract_mkb]
        congr 1
        unfold fillL
        rw [len_data, show N - s.size = 0 by omega]
        simp
      rw [he]; clear he
      go_enter Try.func25, Try.ntmps25
      go_wp2
      go_ret
      exact ⟨rfl, Below.refl _ _⟩
    · obtain ⟨i0, hi, hz0, hz1, hz2⟩ := info_parts infoU8
      have hmk := run_make_bytes (P := Try.prog) 40 5 i0 Try.underlying40 hi hz0 hz1 hz2 ((N : Int) - (s.size : Int)) (by omega) (by omega)
      have hcv := fun wr => run_string_blk (P := Try.prog) (World.alloc wr (.cells (zrow ((N : Int) - (s.size : Int)).toNat) 5)) 40 9 5 wr.heap.size ((N : Int) - (s.size : Int)).toNat 5 (List.replicate ((N : Int) - (s.size : Int)).toNat 0) ((N : Int) - (s.size : Int)).toNat (List.length_replicate ..) Try.underlying40 Try.underlying5 Try.underlying9 (Blk.new _ _ _)
      have he : mkb (fillL s.data.toList N) = s ++ mkb (List.replicate (N - s.size) 0) := by
        conv => rhs; rw [← mkb_of s, mkb_append]
        congr 1
        unfold fillL
        rw [mkb_of, List.take_of_length_le (by rw [len_data]; omega), len_data]
      rw [he]; clear he
      have hnn : ((N : Int) - (s.size : Int)).toNat = N - s.size := by omega
      rw [hnn] at hmk hcv
      clear hnn
      have hz1 : (mkb (List.replicate (N - s.size) 0)).size = N - s.size := by rw [mkb_size, List.length_replicate]
      go_enter Try.func25, Try.ntmps25
      go_wp2
      go_ret
      exact ⟨rfl, (Below.refl _ _).alloc (Nat.le_refl _) _⟩

theorem rround_math {n b : Int} (h0 : 0 ≤ n) (h1 : n ≤ 4611686018427387904) (h2 : 1 ≤ b) :
    (n % b = 0 → rndOk n b = true ∧ rndTo n b = n / b * b) ∧ (¬ n % b = 0 → (rndOk n b = true ↔ ¬ (4611686018427387904 / (n / b + 1) < b)) ∧ (rndOk n b = true → rndTo n b = (n / b + 1) * b) ∧ (rndOk n b = false → rndTo n b = 0)) := by
  have hd := Int.mul_ediv_add_emod n b
  have hm := Int.emod_nonneg n (show b ≠ 0 by omega)
  have hm2 := Int.emod_lt_of_pos n (show 0 < b by omega)
  have hq : 0 ≤ n / b := Int.ediv_nonneg h0 (by omega)
  refine ⟨fun hz => ?_, fun hz => ?_⟩
  · obtain ⟨e1, e2⟩ := rnd_zero ⟨h0, h1, h2⟩ hz
    refine ⟨e1, ?_⟩
    rw [e2, Int.mul_comm]; omega
  · have hmul : (n / b + 1) * b = n + (b - n % b) := by rw [Int.add_mul, Int.one_mul, Int.mul_comm]; omega
    refine ⟨⟨fun h => ?_, fun h => ?_⟩, fun h => ?_, fun h => by unfold rndTo; simp [h]⟩
    · by_cases hf : b - n % b ≤ 4611686018427387904 - n
      · have hle : b * (n / b + 1) ≤ 4611686018427387904 := by rw [Int.mul_comm, hmul]; omega
        have := (Int.le_ediv_iff_mul_le (show 0 < n / b + 1 by omega)).2 hle
        omega
      · rw [(rnd_far hz hf).1] at h; cases h
    · have hle := (Int.le_ediv_iff_mul_le (show 0 < n / b + 1 by omega)).1 (show b ≤ 4611686018427387904 / (n / b + 1) by omega)
      rw [Int.mul_comm, hmul] at hle
      exact (rnd_yes ⟨h0, h1, h2⟩ hz (by omega)).1
    · by_cases hf : b - n % b ≤ 4611686018427387904 - n
      · rw [(rnd_yes ⟨h0, h1, h2⟩ hz hf).2, hmul]
      · rw [(rnd_far hz hf).1] at h; cases h

set_option maxHeartbeats 400000 in
theorem rround_any (n b : Int) (w : World) (hn : (Lit.int .i64 n).wf = true) (hb : (Lit.int .i64 b).wf = true) :
    Calls Try.prog 23 #[.int .i64 n, .int .i64 b] w fun e w' => e = .returned (.tuple #[.int .i64 (rndTo n b), .bool (rndOk n b)]) ∧ w = w' := by
  obtain ⟨_, _⟩ := bounds_i64 hn
  obtain ⟨_, _⟩ := bounds_i64 hb
  by_cases h : 0 ≤ n ∧ n ≤ 4611686018427387904 ∧ 1 ≤ b
  · obtain ⟨h0, h1, h2⟩ := h
    obtain ⟨m1, m2⟩ := rround_math h0 h1 h2
    have hq : 0 ≤ n / b := Int.ediv_nonneg h0 (by omega)
    have hqn : n / b ≤ n := Int.ediv_le_self _ h0
    have hd := Int.mul_ediv_add_emod n b
    have hm := Int.emod_nonneg n (show b ≠ 0 by omega)
    have hm2 := Int.emod_lt_of_pos n (show 0 < b by omega)
    by_cases hz : n % b = 0
    · obtain ⟨e1, e2⟩ := m1 hz
      rw [e1, e2]; clear e1 e2 m1 m2
      have hle : n / b * b ≤ 4611686018427387904 := by rw [Int.mul_comm]; omega
      have hle0 : 0 ≤ n / b * b := by rw [Int.mul_comm]; omega
      by_cases hq0 : 0 < n / b
      · have hx := (Int.le_ediv_iff_mul_le hq0).2 (show b * (n / b) ≤ 4611686018427387904 by omega)
        clear hd
        go_enter Try.func23, Try.ntmps23
        go_wp2
        go_ret2
        exact ⟨rfl, rfl⟩
      · clear hd
        go_enter Try.func23, Try.ntmps23
        go_wp2
        go_ret2
        exact ⟨rfl, rfl⟩
    · obtain ⟨e0, e1, e2⟩ := m2 hz
      have hx0 : 0 ≤ 4611686018427387904 / (n / b + 1) := Int.ediv_nonneg (by omega) (by omega)
      cases hok : rndOk n b
      · have hx : 4611686018427387904 / (n / b + 1) < b := by
          by_cases hx : 4611686018427387904 / (n / b + 1) < b
          · exact hx
          · rw [e0.2 hx] at hok; cases hok
        rw [e2 hok]; clear e0 e1 e2 m1 m2 hd hok
        go_enter Try.func23, Try.ntmps23
        go_wp2
        go_ret2
        exact ⟨rfl, rfl⟩
      · have hx : ¬ 4611686018427387904 / (n / b + 1) < b := e0.1 hok
        have hle := (Int.le_ediv_iff_mul_le (show 0 < n / b + 1 by omega)).1 (show b ≤ 4611686018427387904 / (n / b + 1) by omega)
        rw [Int.mul_comm] at hle
        have hle0 : 0 ≤ (n / b + 1) * b := Int.mul_nonneg (by omega) (by omega)
        rw [e1 hok]; clear e0 e1 e2 m1 m2 hd hok
        go_enter Try.func23, Try.ntmps23
        go_wp2
        go_ret2
        exact ⟨rfl, rfl⟩
  · have e1 := rnd_no h
    have e2 : rndTo n b = 0 := by unfold rndTo; simp [e1]
    rw [e1, e2]; clear e1 e2
    by_cases h1 : 0 ≤ n
    · by_cases h2 : 1 ≤ b
      · have h3 : 4611686018427387904 < n := by omega
        clear h
        go_enter Try.func23, Try.ntmps23
        go_wp2
        go_ret2
        exact ⟨rfl, rfl⟩
      · clear h
        go_enter Try.func23, Try.ntmps23
        go_wp2
        go_ret2
        exact ⟨rfl, rfl⟩
    · clear h
      go_enter Try.func23, Try.ntmps23
      go_wp2
      go_ret2
      exact ⟨rfl, rfl⟩
end Go.Proofs.Ytbojahbagfhpfaa
