/- Package stack: Size, ended. -/
import Derived.Test.YtafogipkbhglcaaJA
namespace Go.Proofs.Ytafogipkbhglcaa
open Go.RowKit
set_option linter.unusedVariables false
set_option linter.unusedSimpArgs false

theorem rnd16 (n : Nat) (h : n ≤ 1000000000) : rndTo (n : Int) 16 = ((n + 15) / 16 * 16 : Nat) ∧ rndOk (n : Int) 16 = true := by
  have h0 : 0 ≤ (n : Int) ∧ (n : Int) ≤ 4611686018427387904 ∧ (1 : Int) ≤ 16 := by omega
  by_cases hz : (n : Int) % 16 = 0
  · obtain ⟨e1, e2⟩ := rnd_zero h0 hz
    rw [e1, e2]
    exact ⟨by omega, rfl⟩
  · obtain ⟨e1, e2⟩ := rnd_yes h0 hz (by omega)
    rw [e1, e2]
    exact ⟨by omega, rfl⟩

set_option maxRecDepth 100000 in
set_option maxHeartbeats 1600000 in
theorem size_any (A D X : Option Addr) (args env : List ByteArray) (aux : List Pa) (c d x : Nat) (w : World) (h1 : StrRow w A args) (h2 : StrRow w D env)
    (hl1 : args.length ≤ 1000000) (hl2 : env.length ≤ 1000000) (hl3 : aux.length ≤ 1000000) (ht1 : tlen args ≤ 100000000) (ht2 : tlen env ≤ 100000000) :
    Calls Try.prog 12 #[.slice A args.length c, .slice D env.length d, .slice X aux.length x] w fun e w' => e = .returned (.int .i64 (sizeN args env aux)) ∧ w = w' := by
  obtain ⟨n, hn⟩ : ∃ n, args.length = n := ⟨_, rfl⟩
  obtain ⟨m, hm⟩ : ∃ n, env.length = n := ⟨_, rfl⟩
  obtain ⟨q, hq⟩ : ∃ n, aux.length = n := ⟨_, rfl⟩
  obtain ⟨S, hS⟩ : ∃ S, sizeN args env aux = S := ⟨_, rfl⟩
  obtain ⟨T1, hT1⟩ : ∃ S, tlen args = S := ⟨_, rfl⟩
  obtain ⟨T2, hT2⟩ : ∃ S, tlen env = S := ⟨_, rfl⟩
  have hR := rnd16 (8 * (n + m + 2 * q + 5) + T1 + T2) (by omega)
  have hSN : S = (8 * (n + m + 2 * q + 5) + T1 + T2 + 15) / 16 * 16 := by rw [← hS]; unfold sizeN rawN; rw [hn, hm, hq, hT1, hT2]
  rw [← hSN] at hR
  rw [hS, hn, hm, hq]
  rw [hn] at hl1
  rw [hm] at hl2
  rw [hq] at hl3
  rw [hT1] at ht1
  rw [hT2] at ht2
  have HL1 := Lib.hid (fun k => (show tlen (args.take k) ≤ T1 from by rw [← hT1]; exact tlen_take_le _ _))
  have HL2 := Lib.hid (fun k => (show tlen (env.take k) ≤ T2 from by rw [← hT2]; exact tlen_take_le _ _))
  have HN := Lib.hid (And.intro hn (And.intro hm (And.intro hT1 hT2)))
  have H1 := Lib.hid h1
  have H2 := Lib.hid h2
  have HRND := Lib.hid (fun u => round_any ((8 * (n + m + 2 * q + 5) + T1 + T2 : Nat) : Int) 16 u (WalkArith.wf_i64 (by omega)) (by decide))
  rw [hR.1, hR.2] at HRND
  clear hn hm hq hS hT1 hT2 hSN hR h1 h2
  obtain ⟨base, hbase⟩ : ∃ b : Nat, b = 8 * (n + m + 2 * q + 5) := ⟨_, rfl⟩
  have hb1 : base ≤ 40000040 := by omega
  have hbI : (8 : Int) * ((n : Int) + (m : Int) + 2 * (q : Int) + 5) = (base : Int) := by omega
  have HBS := Lib.hid hbase
  clear hbase
  have x0 : ∀ (w : World), (Instr.index 72 (.agg #[.slice A n c, .slice D m d]) (.int .i64 0)).run Try.prog w = .ok (.slice A n c) w := fun w => by
    simp [Instr.index, run_underlying Try.underlying72, asIntOf, go_sem]
  have x1 : ∀ (w : World), (Instr.index 72 (.agg #[.slice A n c, .slice D m d]) (.int .i64 1)).run Try.prog w = .ok (.slice D m d) w := fun w => by
    simp [Instr.index, run_underlying Try.underlying72, asIntOf, go_sem]
  go_enter Try.func12, Try.ntmps12
  go_wp2_with fail
  go_loopw [7, 9, 11, 28] (fun v7 _ _ i wr => ∃ k U : Nat, k ≤ 2 ∧ i = .int .i64 k ∧ v7 = .int .i64 U ∧ Hid (U = if k = 0 then base else if k = 1 then base + T1 else base + T1 + T2) ∧ wr = w) (fun _ _ _ i _ => 2 - (intOf i).toNat)
  case atStart => exact ⟨0, base, by omega, rfl, rfl, Lib.hid rfl, rfl⟩
  case round =>
    obtain ⟨k, U, hk, rfl, rfl, HV, hwr⟩ := hrel
    obtain rfl : w = wr := hwr.symm
    by_cases h0 : k = 0
    · subst h0
      have hU : U ≤ 40000040 := by have h4 := HV.out; simp at h4; omega
      go_wp2_with fail
      go_loopw [7, 11, 33] (fun v7 _ i wr => ∃ j V : Nat, j ≤ n ∧ i = .int .i64 j ∧ v7 = .int .i64 V ∧ Hid (V = U + tlen (args.take j)) ∧ wr = w) (fun _ _ i _ => n - (intOf i).toNat)
      case atStart => exact ⟨0, U, Nat.zero_le _, rfl, rfl, Lib.hid (by simp [tlen_nil]), rfl⟩
      case round =>
        obtain ⟨j, V, hj, rfl, rfl, HV2, hwr⟩ := hrel
        obtain rfl : w = wr := hwr.symm
        have hVb : V ≤ 240000040 := by have h3 := HL1.out j; have h4 := HV2.out; omega
        by_cases hlt : j < n
        · have hjl : j < args.length := by rw [HN.out.1]; exact hlt
          obtain ⟨ad, rfl, hblt, d0, hsz⟩ := H1.out j hjl
          have HTK := Lib.hid (tlen_take hjl)
          have hsb : args[j].size ≤ 100000000 := by have h3 := HL1.out (j + 1); have h4 := HTK.out; omega
          generalize args[j] = s at *
          have k0 : (0 : Int) ≤ (j : Int) := by omega
          have k1 : (j : Int) < (n : Int) := by omega
          clear hjl hsz
          go_wp2_with fail
          go_roundw
          case rel => exact ⟨j + 1, V + (s.size + 1), by omega, by go_num, by go_num, Lib.hid (by rw [HTK.out, HV2.out]; omega), by trivial⟩
          case measure => simp [intOf]; omega
        · obtain rfl : j = n := by omega
          have hf := HV2.out
          rw [← HN.out.1, List.take_length] at hf
          go_wp2_with fail
          go_roundw
          case rel => exact ⟨1, V, by omega, by go_num, rfl, Lib.hid (by have h4 := HV.out; have h5 := HN.out; simp at h4 ⊢; omega), by trivial⟩
          case measure => simp [intOf]
    · by_cases h1 : k = 1
      · subst h1
        have hU : U ≤ 140000040 := by have h4 := HV.out; simp at h4; omega
        go_wp2_with fail
        go_loopw [7, 11, 33] (fun v7 _ i wr => ∃ j V : Nat, j ≤ m ∧ i = .int .i64 j ∧ v7 = .int .i64 V ∧ Hid (V = U + tlen (env.take j)) ∧ wr = w) (fun _ _ i _ => m - (intOf i).toNat)
        case atStart => exact ⟨0, U, Nat.zero_le _, rfl, rfl, Lib.hid (by simp [tlen_nil]), rfl⟩
        case round =>
          obtain ⟨j, V, hj, rfl, rfl, HV2, hwr⟩ := hrel
          obtain rfl : w = wr := hwr.symm
          have hVb : V ≤ 240000040 := by have h3 := HL2.out j; have h4 := HV2.out; omega
          by_cases hlt : j < m
          · have hjl : j < env.length := by rw [HN.out.2.1]; exact hlt
            obtain ⟨ad, rfl, hblt, d0, hsz⟩ := H2.out j hjl
            have HTK := Lib.hid (tlen_take hjl)
            have hsb : env[j].size ≤ 100000000 := by have h3 := HL2.out (j + 1); have h4 := HTK.out; omega
            generalize env[j] = s at *
            have k0 : (0 : Int) ≤ (j : Int) := by omega
            have k1 : (j : Int) < (m : Int) := by omega
            clear hjl hsz
            go_wp2_with fail
            go_roundw
            case rel => exact ⟨j + 1, V + (s.size + 1), by omega, by go_num, by go_num, Lib.hid (by rw [HTK.out, HV2.out]; omega), by trivial⟩
            case measure => simp [intOf]; omega
          · obtain rfl : j = m := by omega
            have hf := HV2.out
            rw [← HN.out.2.1, List.take_length] at hf
            go_wp2_with fail
            go_roundw
            case rel => exact ⟨2, V, by omega, by go_num, rfl, Lib.hid (by have h4 := HV.out; have h5 := HN.out; simp at h4 ⊢; omega), by trivial⟩
            case measure => simp [intOf]
      · obtain rfl : k = 2 := by omega
        have hf := HV.out
        simp at hf
        have hb9 := HBS.out
        have HR2 := Lib.hid (show U = 8 * (n + m + 2 * q + 5) + T1 + T2 from by omega)
        clear hb9 hf
        have HRU := Lib.hid (show ∀ u, Calls Try.prog 33 #[.int .i64 (U : Int), .int .i64 16] u fun e w' => e = .returned (.tuple #[.int .i64 S, .bool true]) ∧ u = w' from fun u => by rw [HR2.out]; exact HRND.out u)
        go_wp2_with (go_at_call 33; refine (HRU.out _).mono ?_; rintro e v1 ⟨rfl, rfl⟩)
        go_ret
        exact ⟨rfl, rfl⟩
end Go.Proofs.Ytafogipkbhglcaa
