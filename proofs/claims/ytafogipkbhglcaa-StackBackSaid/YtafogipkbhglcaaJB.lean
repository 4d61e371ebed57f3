/- Package stack: areTexts, areAux. -/
import Derived.Test.YtafogipkbhglcaaJA
import Derived.Lib.Bytealg
import Derived.Laws.Externs
namespace Go.Proofs.Ytafogipkbhglcaa
open Go.RowKit
set_option linter.unusedVariables false
set_option linter.unusedSimpArgs false

@[go_sem] theorem call_indexByteString17 (s : ByteArray) (c : Int) (w : World) : (callFunc 62 #[.string s, .int .u8 c]).run Try.prog w = .ok (.value (.int .i64 (Lib.indexByte s.data.toList c.toNat.toUInt8))) w := by
  rw [run_callFunc_extern (e := Extern.BytealgIndexByte.indexByte) Try.func62 (by kernel_rfl) (by kernel_rfl) (by kernel_rfl) (by kernel_rfl), Lib.run_indexByteString]
  rfl
theorem indexByte_neg17 : ∀ (l : List UInt8) (c : UInt8), Lib.indexByte l c < 0 ↔ c ∉ l
  | [], c => by simp [Lib.indexByte]
  | b :: l, c => by
    have ih := indexByte_neg17 l c
    have hg := Lib.indexByte_ge l c
    unfold Lib.indexByte
    by_cases hb : b = c
    · subst hb; simp
    · have hbc : (b == c) = false := by simpa using hb
      simp only [hbc, Bool.false_eq_true, if_false, List.mem_cons, not_or]
      by_cases h1 : Lib.indexByte l c = -1
      · simp [h1]
        exact ⟨fun e => hb e.symm, ih.1 (by omega)⟩
      · have : (Lib.indexByte l c == -1) = false := by simpa using h1
        simp only [this, Bool.false_eq_true, if_false]
        constructor
        · intro h; omega
        · intro h; exact absurd (ih.2 h.2) (by omega)

theorem sindexbyte17 (s : ByteArray) (w : World) : Calls Try.prog 58 #[.string s, .int .u8 0] w fun e w' => e = .returned (.int .i64 (Lib.indexByte s.data.toList 0)) ∧ w = w' := by
  go_enter Try.func58, Try.ntmps58
  go_wp2
  go_ret
  exact ⟨rfl, rfl⟩
set_option maxRecDepth 100000 in
set_option maxHeartbeats 1600000 in
theorem sindex17 (s : ByteArray) (w : World) : Calls Try.prog 55 #[.string s, .string ⟨#[0]⟩] w fun e w' => e = .returned (.int .i64 (Lib.indexByte s.data.toList 0)) ∧ w = w' := by
  have H := Lib.hid (sindexbyte17 s)
  have hz : (⟨#[0]⟩ : ByteArray).size = 1 := rfl
  by_cases h : s = ⟨#[0]⟩
  · subst h
    have he : Lib.indexByte (⟨#[0]⟩ : ByteArray).data.toList 0 = 0 := by decide
    rw [he]
    clear he
    have hs : ((⟨#[0]⟩ : ByteArray).toList == (⟨#[0]⟩ : ByteArray).toList) = true := by simp
    go_enter Try.func55, Try.ntmps55
    go_wp2
    go_ret
    exact ⟨rfl, rfl⟩
  · have hs : ((⟨#[0]⟩ : ByteArray).toList == s.toList) = false := by
      rw [beq_eq_false_iff_ne]
      intro e
      apply h
      rw [Lib.toList_data, Lib.toList_data] at e
      rw [← mkb_of s, ← e]
      rfl
    have hs2 : (([0] : List UInt8) == s.toList) = false := by
      have h9 := hs
      rw [Lib.toList_data (⟨#[0]⟩ : ByteArray)] at h9
      exact h9
    go_enter Try.func55, Try.ntmps55
    go_wp2_with (go_at_call 58; refine (H.out _).mono ?_; rintro e v1 ⟨rfl, rfl⟩)
    go_ret
    exact ⟨rfl, rfl⟩
theorem index17 (s : ByteArray) (w : World) : Calls Try.prog 50 #[.string s, .string ⟨#[0]⟩] w fun e w' => e = .returned (.int .i64 (Lib.indexByte s.data.toList 0)) ∧ w = w' := by
  have H := Lib.hid (sindex17 s)
  go_enter Try.func50, Try.ntmps50
  go_wp2_with (go_at_call 55; refine (H.out _).mono ?_; rintro e v1 ⟨rfl, rfl⟩)
  go_ret
  exact ⟨rfl, rfl⟩
theorem contains17 (s : ByteArray) (w : World) : Calls Try.prog 42 #[.string s, .string ⟨#[0]⟩] w fun e w' => e = .returned (.bool (s.data.toList.contains 0)) ∧ w = w' := by
  have H := Lib.hid (index17 s)
  have hi := indexByte_neg17 s.data.toList 0
  have hv : decide (0 ≤ Lib.indexByte s.data.toList 0) = s.data.toList.contains 0 := by
    by_cases h : (0 : UInt8) ∈ s.data.toList
    · have h1 : ¬ Lib.indexByte s.data.toList 0 < 0 := fun e => (hi.1 e) h
      rw [decide_eq_true (by omega)]
      symm
      simpa using h
    · have h1 := hi.2 h
      rw [decide_eq_false (by omega)]
      symm
      simpa using h
  rw [← hv]
  clear hv hi
  generalize Lib.indexByte s.data.toList 0 = z at *
  go_enter Try.func42, Try.ntmps42
  go_wp2_with (go_at_call 50; refine (H.out _).mono ?_; rintro e v1 ⟨rfl, rfl⟩)
  go_ret
  exact ⟨rfl, rfl⟩
theorem hasz17 (s : ByteArray) (w : World) : Calls Try.prog 41 #[.string s] w fun e w' => e = .returned (.bool (s.data.toList.contains 0)) ∧ w = w' := by
  have H := Lib.hid (contains17 s)
  generalize s.data.toList.contains 0 = b at *
  go_enter Try.func41, Try.ntmps41
  go_wp2_with (go_at_call 42; refine (H.out _).mono ?_; rintro e v1 ⟨rfl, rfl⟩)
  go_ret
  exact ⟨rfl, rfl⟩

theorem plainB_take {ss : List ByteArray} {k : Nat} (h : k < ss.length) : plainB (ss.take (k + 1)) = (plainB (ss.take k) && !ss[k].data.toList.contains 0) := by
  rw [List.take_succ_eq_append_getElem h]
  unfold plainB
  rw [List.all_append]
  simp
theorem plainB_bad {ss : List ByteArray} {k : Nat} (h : k < ss.length) (hb : ss[k].data.toList.contains 0 = true) : plainB ss = false := by
  unfold plainB
  rw [List.all_eq_false]
  exact ⟨ss[k], List.getElem_mem h, by rw [hb]; decide⟩

set_option maxRecDepth 100000 in
set_option maxHeartbeats 1600000 in
theorem idx_texts (A : Option Addr) (ss : List ByteArray) (c : Nat) (w : World) (hr : StrRow w A ss) (hl : ss.length ≤ 100000000) :
    Calls Try.prog 49 #[.slice A ss.length c, .func (.func 41) #[] #[]] w fun e w' => ∃ z : Int, (e = .returned (.int .i64 z) ∧ w = w') ∧ decide (0 ≤ z) = !plainB ss := by
  obtain ⟨n, hn⟩ : ∃ n, ss.length = n := ⟨_, rfl⟩
  rw [hn]
  rw [hn] at hl
  have HN := Lib.hid hn
  have HR := Lib.hid hr
  clear hn hr
  go_enter Try.func49, Try.ntmps49
  go_wp2
  go_loopw [5, 8] (fun _ i wr => ∃ k : Nat, k ≤ n ∧ i = .int .i64 k ∧ Hid (plainB (ss.take k) = true) ∧ wr = w) (fun _ i _ => n - (intOf i).toNat)
  case atStart => exact ⟨0, Nat.zero_le _, rfl, Lib.hid rfl, rfl⟩
  case round =>
    obtain ⟨k, hk, rfl, HP, rfl⟩ := hrel
    by_cases hlt : k < n
    · have hkl : k < ss.length := by rw [HN.out]; exact hlt
      obtain ⟨ad, rfl, hblt, d0, hsz⟩ := HR.out k hkl
      have H := hasz17 ss[k]
      have HBAD := Lib.hid (fun hb => plainB_bad (k := k) hkl hb)
      have HOK := Lib.hid (plainB_take hkl)
      generalize ss[k].data.toList.contains 0 = b at *
      generalize ss[k] = s at *
      have HC := Lib.hid H
      have k0 : (0 : Int) ≤ (k : Int) := by omega
      have k1 : (k : Int) < (n : Int) := by omega
      clear H hkl hsz
      cases b
      · go_wp2_with (go_at_call 41; refine (HC.out _).mono ?_; rintro e v1 ⟨rfl, rfl⟩)
        go_roundw
        case rel => exact ⟨k + 1, by omega, by go_num, Lib.hid (by rw [HOK.out, HP.out]; rfl), by trivial⟩
        case measure => simp [intOf]; omega
      · go_wp2_with (go_at_call 41; refine (HC.out _).mono ?_; rintro e v1 ⟨rfl, rfl⟩)
        go_ret
        exact ⟨_, ⟨rfl, rfl⟩, by rw [HBAD.out (by trivial), decide_eq_true (by omega)]; rfl⟩
    · obtain rfl : k = n := by omega
      have hf := HP.out
      rw [← HN.out, List.take_length] at hf
      have HF := Lib.hid hf
      clear hf
      go_wp2
      go_ret
      exact ⟨_, ⟨rfl, rfl⟩, by rw [HF.out]; rfl⟩
theorem contains_texts (A : Option Addr) (ss : List ByteArray) (c : Nat) (w : World) (hr : StrRow w A ss) (hl : ss.length ≤ 100000000) :
    Calls Try.prog 40 #[.slice A ss.length c, .func (.func 41) #[] #[]] w fun e w' => e = .returned (.bool (!plainB ss)) ∧ w = w' := by
  have H := Lib.hid (idx_texts A ss c w hr hl)
  generalize plainB ss = b at *
  generalize ss.length = n at *
  clear hr
  go_enter Try.func40, Try.ntmps40
  go_wp2_with (go_at_call 49; refine H.out.mono ?_; rintro e v1 ⟨z, ⟨rfl, rfl⟩, hz⟩)
  go_ret
  exact ⟨by rw [← hz]; rfl, rfl⟩
theorem are_texts (A : Option Addr) (ss : List ByteArray) (c : Nat) (w : World) (hr : StrRow w A ss) (hl : ss.length ≤ 100000000) :
    Calls Try.prog 21 #[.slice A ss.length c] w fun e w' => e = .returned (.bool (plainB ss)) ∧ w = w' := by
  have H := Lib.hid (contains_texts A ss c w hr hl)
  generalize plainB ss = b at *
  generalize ss.length = n at *
  clear hr
  go_enter Try.func21, Try.ntmps21
  go_wp2_with (go_at_call 40; refine H.out.mono ?_; rintro e v1 ⟨rfl, rfl⟩)
  go_ret
  exact ⟨by simp, rfl⟩

/- The same of pairs. -/
set_option maxRecDepth 100000 in
set_option maxHeartbeats 1600000 in
theorem badaux17 (p : Pa) (w : World) : Calls Try.prog 44 #[.agg p.cs] w fun e w' => e = .returned (.bool (!p.may)) ∧ Below w.heap.size w w' := by
  obtain ⟨t, v⟩ := p
  have HB := Lib.hid ((Below.refl w.heap.size w).alloc (Nat.le_refl _) (.cells #[.int .i64 t, .int .i64 v] 40))
  unfold Pa.cs
  have HM : Hid (Pa.may ⟨t, v⟩ = (decide (1 ≤ t) && decide (t ≤ 1099511627776) && decide (0 ≤ v) && decide (v ≤ 1099511627776))) := Lib.hid rfl
  generalize Pa.may ⟨t, v⟩ = m at *
  by_cases h1 : t < 1
  · obtain rfl : m = false := by rw [HM.out]; simp; omega
    go_enter Try.func44, Try.ntmps44
    go_wp2
    go_ret
    exact ⟨rfl, HB.out⟩
  · by_cases h2 : 1099511627776 < t
    · obtain rfl : m = false := by rw [HM.out]; simp; omega
      go_enter Try.func44, Try.ntmps44
      go_wp2
      go_ret
      exact ⟨rfl, HB.out⟩
    · by_cases h3 : v < 0
      · obtain rfl : m = false := by rw [HM.out]; simp; omega
        go_enter Try.func44, Try.ntmps44
        go_wp2
        go_ret
        exact ⟨rfl, HB.out⟩
      · by_cases h4 : 1099511627776 < v
        · obtain rfl : m = false := by rw [HM.out]; simp; omega
          go_enter Try.func44, Try.ntmps44
          go_wp2
          go_ret
          exact ⟨rfl, HB.out⟩
        · obtain rfl : m = true := by rw [HM.out]; simp; omega
          go_enter Try.func44, Try.ntmps44
          go_wp2
          go_ret
          exact ⟨rfl, HB.out⟩
theorem auxB_take {l : List Pa} {k : Nat} (h : k < l.length) : auxB (l.take (k + 1)) = (auxB (l.take k) && l[k].may) := by
  rw [List.take_succ_eq_append_getElem h]
  unfold auxB
  rw [List.all_append]
  simp
theorem auxB_bad {l : List Pa} {k : Nat} (h : k < l.length) (hb : l[k].may = false) : auxB l = false := by
  unfold auxB
  rw [List.all_eq_false]
  exact ⟨l[k], List.getElem_mem h, by rw [hb]; decide⟩
set_option maxRecDepth 100000 in
set_option maxHeartbeats 1600000 in
theorem idx_aux (A : Option Addr) (l : List Pa) (c : Nat) (w : World) (hr : PaRow w A l) (hl : l.length ≤ 100000000) :
    Calls Try.prog 51 #[.slice A l.length c, .func (.func 44) #[] #[]] w fun e w' => ∃ z : Int, (e = .returned (.int .i64 z) ∧ Below w.heap.size w w') ∧ decide (0 ≤ z) = !auxB l := by
  obtain ⟨n, hn⟩ : ∃ n, l.length = n := ⟨_, rfl⟩
  rw [hn]
  rw [hn] at hl
  have HN := Lib.hid hn
  have HR := Lib.hid (fun v (hv : Below w.heap.size w v) => hr.below rfl hv)
  clear hn hr
  go_enter Try.func51, Try.ntmps51
  go_wp2
  go_loopw [5, 8] (fun _ i wr => ∃ k : Nat, k ≤ n ∧ i = .int .i64 k ∧ Hid (auxB (l.take k) = true) ∧ Hid (Below w.heap.size w wr)) (fun _ i _ => n - (intOf i).toNat)
  case atStart => exact ⟨0, Nat.zero_le _, rfl, Lib.hid rfl, Lib.hid (Below.refl _ _)⟩
  case round =>
    obtain ⟨k, hk, rfl, HP, HB⟩ := hrel
    by_cases hlt : k < n
    · have hkl : k < l.length := by rw [HN.out]; exact hlt
      obtain ⟨ad, rfl, hblt, hwf, d0, d1⟩ := (HR.out wr HB.out).at_ hkl
      have H := badaux17 l[k]
      have HBAD := Lib.hid (fun hb => auxB_bad (k := k) hkl hb)
      have HOK := Lib.hid (auxB_take hkl)
      generalize l[k].may = b at *
      generalize l[k] = p at *
      unfold Pa.cs at H
      have HC := Lib.hid H
      have k0 : (0 : Int) ≤ (k : Int) := by omega
      have k1 : (k : Int) < (n : Int) := by omega
      clear H hkl hwf
      cases b
      · go_wp2_with (go_at_call 44; refine (HC.out _).mono ?_; rintro e v1 ⟨rfl, hb⟩)
        go_ret
        exact ⟨_, ⟨rfl, HB.out.trans (hb.mono HB.out.size)⟩, by rw [HBAD.out (by trivial), decide_eq_true (by omega)]; rfl⟩
      · go_wp2_with (go_at_call 44; refine (HC.out _).mono ?_; rintro e v1 ⟨rfl, hb⟩)
        go_roundw
        case rel => exact ⟨k + 1, by omega, by go_num, Lib.hid (by rw [HOK.out, HP.out]; rfl), Lib.hid (HB.out.trans (hb.mono HB.out.size))⟩
        case measure => simp [intOf]; omega
    · obtain rfl : k = n := by omega
      have hf := HP.out
      rw [← HN.out, List.take_length] at hf
      have HF := Lib.hid hf
      clear hf
      go_wp2
      go_ret
      exact ⟨_, ⟨rfl, HB.out⟩, by rw [HF.out]; rfl⟩
theorem contains_aux (A : Option Addr) (l : List Pa) (c : Nat) (w : World) (hr : PaRow w A l) (hl : l.length ≤ 100000000) :
    Calls Try.prog 43 #[.slice A l.length c, .func (.func 44) #[] #[]] w fun e w' => e = .returned (.bool (!auxB l)) ∧ Below w.heap.size w w' := by
  have H := Lib.hid (idx_aux A l c w hr hl)
  generalize auxB l = b at *
  generalize l.length = n at *
  clear hr
  go_enter Try.func43, Try.ntmps43
  go_wp2_with (go_at_call 51; refine H.out.mono ?_; rintro e v1 ⟨z, ⟨rfl, hb⟩, hz⟩)
  go_ret
  exact ⟨by rw [← hz]; rfl, hb⟩
theorem are_aux (A : Option Addr) (l : List Pa) (c : Nat) (w : World) (hr : PaRow w A l) (hl : l.length ≤ 100000000) :
    Calls Try.prog 22 #[.slice A l.length c] w fun e w' => e = .returned (.bool (auxB l)) ∧ Below w.heap.size w w' := by
  have H := Lib.hid (contains_aux A l c w hr hl)
  generalize auxB l = b at *
  generalize l.length = n at *
  clear hr
  go_enter Try.func22, Try.ntmps22
  go_wp2_with (go_at_call 43; refine H.out.mono ?_; rintro e v1 ⟨rfl, hb⟩)
  go_ret
  exact ⟨by simp, hb⟩
end Go.Proofs.Ytafogipkbhglcaa
