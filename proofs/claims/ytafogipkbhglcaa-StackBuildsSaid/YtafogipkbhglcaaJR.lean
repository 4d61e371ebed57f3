/- Layer 17: the reference's texts, plain and Size. -/
import Derived.Test.YtafogipkbhglcaaJC
import Derived.Test.YtafogipkbhglcaaOctE
namespace Go.Proofs.Ytafogipkbhglcaa
open Go.RowKit
set_option linter.unusedVariables false
set_option linter.unusedSimpArgs false

set_option maxRecDepth 100000 in
set_option maxHeartbeats 1600000 in
theorem rtexts17 (A : Option Addr) (ss : List ByteArray) (c : Nat) (w : World) (hr : StrRow w A ss) (hl : ss.length ≤ 100000000) (ht : tlen ss ≤ 100000000) :
    Calls Try.prog 31 #[.slice A ss.length c] w fun e w' => e = .returned (.int .i64 (tlen ss)) ∧ w = w' := by
  obtain ⟨n, hn⟩ : ∃ n, ss.length = n := ⟨_, rfl⟩
  obtain ⟨T, hT⟩ : ∃ n, tlen ss = n := ⟨_, rfl⟩
  have HTL := Lib.hid (fun k => (Nat.le_trans (tlen_take_le ss k) ht))
  rw [hn, hT]
  rw [hn] at hl
  have HN := Lib.hid (And.intro hn hT)
  have HR := Lib.hid hr
  clear hn hT hr ht
  go_enter Try.func31, Try.ntmps31
  go_wp2
  go_loopw [3, 4] (fun v3 i wr => ∃ k V : Nat, k ≤ n ∧ i = .int .i64 k ∧ v3 = .int .i64 V ∧ Hid (V = tlen (ss.take k)) ∧ wr = w) (fun _ i _ => n - (intOf i).toNat)
  case atStart => exact ⟨0, 0, Nat.zero_le _, rfl, rfl, Lib.hid (by simp [tlen_nil]), rfl⟩
  case round =>
    obtain ⟨k, V, hk, rfl, rfl, HV, hwr⟩ := hrel
    obtain rfl : w = wr := hwr.symm
    by_cases hlt : k < n
    · have hkl : k < ss.length := by rw [HN.out.1]; exact hlt
      obtain ⟨ad, rfl, hblt, d0, hsz⟩ := HR.out k hkl
      have HTK := Lib.hid (tlen_take hkl)
      have hsb : ss[k].size ≤ 100000000 ∧ V ≤ 100000000 := by have h3 := HTL.out (k + 1); have h4 := HTK.out; have h5 := HV.out; omega
      generalize ss[k] = s at *
      have k0 : (0 : Int) ≤ (k : Int) := by omega
      have k1 : (k : Int) < (n : Int) := by omega
      clear hkl hsz
      go_wp2_with fail
      go_roundw
      case rel => exact ⟨k + 1, V + s.size + 1, by omega, by go_num, by go_num, Lib.hid (by rw [HTK.out, HV.out]; omega), by trivial⟩
      case measure => simp [intOf]; omega
    · obtain rfl : k = n := by omega
      have hf := HV.out
      rw [← HN.out.1, List.take_length, HN.out.2] at hf
      have HF := Lib.hid hf
      clear hf
      go_wp2
      go_ret
      exact ⟨by rw [HF.out]; rfl, rfl⟩

theorem mem_zero_at {s : ByteArray} {j : Nat} (h : j < s.size) (he : s[j] = 0) : s.data.toList.contains 0 = true := by
  have h1 : j < s.data.toList.length := by rw [len_data]; exact h
  have h2 : s.data.toList[j] = 0 := he
  simp only [List.contains_eq_mem, decide_eq_true_eq]
  rw [← h2]
  exact List.getElem_mem h1
theorem no_zero_of {s : ByteArray} (h : ∀ j (hj : j < s.size), s[j] ≠ 0) : s.data.toList.contains 0 = false := by
  cases hc : s.data.toList.contains 0 with
  | false => rfl
  | true =>
    simp only [List.contains_eq_mem, decide_eq_true_eq] at hc
    obtain ⟨j, hj, he⟩ := List.mem_iff_getElem.1 hc
    exact absurd he (h j (by rw [← len_data]; exact hj))
theorem plainJ_take {ss : List ByteArray} {k : Nat} (h : k < ss.length) : plainB (ss.take (k + 1)) = (plainB (ss.take k) && !ss[k].data.toList.contains 0) := by
  rw [List.take_succ_eq_append_getElem h]
  unfold plainB
  rw [List.all_append]
  simp
theorem plainJ_bad {ss : List ByteArray} {k : Nat} (h : k < ss.length) (hb : ss[k].data.toList.contains 0 = true) : plainB ss = false := by
  unfold plainB
  rw [List.all_eq_false]
  exact ⟨ss[k], List.getElem_mem h, by rw [hb]; decide⟩

set_option maxRecDepth 100000 in
set_option maxHeartbeats 1600000 in
theorem rplain17 (A : Option Addr) (ss : List ByteArray) (c : Nat) (w : World) (hr : StrRow w A ss) (hl : ss.length ≤ 100000000) (hs : ∀ s ∈ ss, s.size ≤ 100000000) :
    Calls Try.prog 30 #[.slice A ss.length c] w fun e w' => e = .returned (.bool (plainB ss)) ∧ w = w' := by
  obtain ⟨n, hn⟩ : ∃ n, ss.length = n := ⟨_, rfl⟩
  obtain ⟨b, hb⟩ : ∃ n, plainB ss = n := ⟨_, rfl⟩
  rw [hn, hb]
  rw [hn] at hl
  have HN := Lib.hid (And.intro hn hb)
  have HR := Lib.hid hr
  have HS := Lib.hid hs
  clear hn hb hr hs
  go_enter Try.func30, Try.ntmps30
  go_wp2
  go_loopw [3, 4] (fun i _ wr => ∃ k : Nat, k ≤ n ∧ i = .int .i64 k ∧ Hid (plainB (ss.take k) = true) ∧ wr = w) (fun i _ _ => n - (intOf i).toNat)
  case atStart => exact ⟨0, Nat.zero_le _, rfl, Lib.hid rfl, rfl⟩
  case round =>
    obtain ⟨k, hk, rfl, HP, hwr⟩ := hrel
    obtain rfl : w = wr := hwr.symm
    by_cases hlt : k < n
    · have hkl : k < ss.length := by rw [HN.out.1]; exact hlt
      obtain ⟨ad, rfl, hblt, d0, hsz⟩ := HR.out k hkl
      have HBAD := Lib.hid (fun hb => plainJ_bad (k := k) hkl hb)
      have HOK := Lib.hid (plainJ_take hkl)
      have hsb := HS.out ss[k] (List.getElem_mem hkl)
      generalize ss[k] = s at *
      have k0 : (0 : Int) ≤ (k : Int) := by omega
      have k1 : (k : Int) < (n : Int) := by omega
      clear hkl hsz
      go_wp2_with fail
      go_loopw [4] (fun j wr => ∃ q : Nat, q ≤ s.size ∧ j = .int .i64 q ∧ Hid (∀ x (hx : x < s.size), x < q → s[x] ≠ 0) ∧ wr = w) (fun j _ => s.size - (intOf j).toNat)
      case atStart => exact ⟨0, Nat.zero_le _, rfl, Lib.hid (fun x _ h => by omega), rfl⟩
      case round =>
        obtain ⟨q, hq, rfl, HQ, hwr⟩ := hrel
        obtain rfl : w = wr := hwr.symm
        by_cases hlq : q < s.size
        · have q0 : (0 : Int) ≤ (q : Int) := by omega
          have q1 : (q : Int) < (s.size : Int) := by omega
          by_cases h0 : s[q] = 0
          · have HF := Lib.hid (show false = b from by rw [← HN.out.2]; exact (HBAD.out (mem_zero_at hlq h0)).symm)
            go_wp2_with fail
            go_ret
            exact ⟨by rw [← HF.out]; rfl, rfl⟩
          · have h0' : ((s[q]'hlq).toNat == 0) = false := by
              simp only [beq_eq_false_iff_ne, ne_eq]
              intro h; exact h0 (UInt8.toNat_inj.1 (by simpa using h))
            have HQ2 := Lib.hid (show ∀ x (hx : x < s.size), x < q + 1 → s[x] ≠ 0 from fun x hx hxq => by
              by_cases he : x = q
              · subst he; exact h0
              · exact HQ.out x hx (by omega))
            go_wp2_with fail
            go_roundw
            case rel => exact ⟨q + 1, by omega, by go_num, HQ2, by trivial⟩
            case measure => simp [intOf]; omega
        · obtain rfl : q = s.size := by omega
          have HK := Lib.hid (show plainB (ss.take (k + 1)) = true from by
            rw [HOK.out, HP.out, no_zero_of (fun j hj => HQ.out j hj hj)]
            rfl)
          go_wp2_with fail
          go_roundw
          case rel => exact ⟨k + 1, by omega, by go_num, HK, by trivial⟩
          case measure => simp [intOf]; omega
    · obtain rfl : k = n := by omega
      have hf := HP.out
      rw [← HN.out.1, List.take_length, HN.out.2] at hf
      have HF := Lib.hid hf
      clear hf
      go_wp2
      go_ret
      exact ⟨by rw [HF.out]; rfl, rfl⟩

theorem w64nat (x : Nat) (h : x ≤ 1000000000) : wrap64 (x : Int) = (x : Int) ∧ IntKind.i64.wrap (x : Int) = (x : Int) := ⟨IntWalk.wrap64_in _ (by omega), IntWalk.i64_in _ (by omega)⟩
set_option maxRecDepth 100000 in
set_option maxHeartbeats 1600000 in
theorem rsize17 (A D X : Option Addr) (args env : List ByteArray) (aux : List Pa) (c d x : Nat) (w : World) (h1 : StrRow w A args) (h2 : StrRow w D env)
    (hl1 : args.length ≤ 1000000) (hl2 : env.length ≤ 1000000) (hl3 : aux.length ≤ 1000000) (ht1 : tlen args ≤ 100000000) (ht2 : tlen env ≤ 100000000) :
    Calls Try.prog 13 #[.slice A args.length c, .slice D env.length d, .slice X aux.length x] w fun e w' => e = .returned (.int .i64 (sizeN args env aux)) ∧ w = w' := by
  have H1 := rtexts17 A args c w h1 (by omega) ht1
  have H2 := rtexts17 D env d w h2 (by omega) ht2
  have hS : sizeN args env aux = (8 * (args.length + env.length + 2 * aux.length + 5) + tlen args + tlen env + 15) / 16 * 16 := rfl
  generalize args.length = n at *
  generalize env.length = m at *
  generalize aux.length = q at *
  generalize tlen args = t1 at *
  generalize tlen env = t2 at *
  obtain ⟨S, hSS⟩ : ∃ S, sizeN args env aux = S := ⟨_, rfl⟩
  rw [hSS] at hS ⊢
  obtain ⟨V, hV⟩ : ∃ V : Nat, 8 * (n + m + 2 * q + 5) + t1 + t2 + 15 = V := ⟨_, rfl⟩
  rw [hV] at hS
  have hq1 : (V : Int).tdiv 16 = ((V / 16 : Nat) : Int) := by rw [Int.tdiv_eq_ediv_of_nonneg (by omega)]; omega
  obtain ⟨Q, hQ⟩ : ∃ Q, V / 16 = Q := ⟨_, rfl⟩
  rw [hQ] at hq1 hS
  have hQb : Q ≤ 1000000000 := by omega
  have hSb : S ≤ 1000000000 := by omega
  have hVi : (8 : Int) * (1 + (n : Int) + 1 + (m : Int) + 1 + 2 * (q : Int) + 2) + (t1 : Int) + (t2 : Int) + 15 = (V : Int) := by omega
  have hQ2 : (Q : Int) * 16 = (S : Int) := by omega
  obtain ⟨hw1, hw2⟩ := w64nat Q hQb
  obtain ⟨hw3, hw4⟩ := w64nat S hSb
  have HC1 := Lib.hid H1
  have HC2 := Lib.hid H2
  clear H1 H2 h1 h2 hS hSS hV hQ
  go_enter Try.func13, Try.ntmps13
  go_wp2_with (first
    | (go_at_call 31; with_reducible refine HC1.out.mono ?_; rintro e v1 ⟨rfl, rfl⟩)
    | (go_at_call 31; with_reducible refine HC2.out.mono ?_; rintro e v1 ⟨rfl, rfl⟩))
  go_ret
  exact ⟨rfl, rfl⟩
end Go.Proofs.Ytafogipkbhglcaa
