/- Layer 12: SameTexts; short and name; awake. -/
import Derived.Test.YtmkaehnekhejmaaGl
namespace Go.Proofs.Ytmkaehnekhejmaa
open Go.RowKit
set_option linter.unusedVariables false
set_option linter.unusedSimpArgs false

theorem take_eq_succD {α : Type} {l m : List α} {k : Nat} (h1 : k < l.length) (h2 : k < m.length) (h : l.take k = m.take k) (he : l[k] = m[k]) : l.take (k + 1) = m.take (k + 1) := by
  rw [List.take_succ_eq_append_getElem h1, List.take_succ_eq_append_getElem h2, h, he]

set_option maxRecDepth 100000 in
set_option maxHeartbeats 1600000 in
theorem texts_any (l m : List ByteArray) (A D : Option Addr) (c d : Nat) (w : World) (h1 : StrRow w A l) (h2 : StrRow w D m) (hl : l.length ≤ 100000000) (hm : m.length ≤ 100000000) :
    Calls Try.prog 11 #[.slice A l.length c, .slice D m.length d] w fun e w' => e = .returned (.bool (decide (l = m))) ∧ Below w.heap.size w w' := by
  by_cases hlen : l.length = m.length
  · obtain ⟨n, hn⟩ : ∃ n, l.length = n := ⟨_, rfl⟩
    have hn2 : m.length = n := by omega
    obtain ⟨r, hr0⟩ : ∃ r, decide (l = m) = r := ⟨_, rfl⟩
    rw [hr0, hn2, hn]
    have HR := Lib.hid hr0
    have HN := Lib.hid (And.intro hn hn2)
    have H1 := Lib.hid h1
    have H2 := Lib.hid h2
    clear hlen hn hn2 hr0 h1 h2
    go_enter Try.func11, Try.ntmps11
    go_wp2
    go_loopw [5] (fun i wr => ∃ k q : Nat, k ≤ n ∧ i = .int .i64 k ∧ Hid (l.take k = m.take k) ∧ wr = w.drewN q) (fun i _ => n - (intOf i).toNat)
    case atStart => exact ⟨0, 0, Nat.zero_le _, rfl, Lib.hid rfl, (World.drewN_zero w).symm⟩
    case round =>
      obtain ⟨k, q, hk, rfl, ht, rfl⟩ := hrel
      by_cases hlt : k < n
      · have hk1 : k < l.length := by rw [HN.out.1]; exact hlt
        have hk2 : k < m.length := by rw [HN.out.2]; exact hlt
        obtain ⟨ad, rfl, hblt, d0, hwf⟩ := (H1.out) k hk1
        obtain ⟨ae, rfl, hblt2, e0, hwf2⟩ := (H2.out) k hk2
        have hst := take_eq_succD hk1 hk2 ht.out
        obtain ⟨s, hs⟩ : ∃ s, l[k] = s := ⟨_, rfl⟩
        obtain ⟨t, ht2⟩ : ∃ t, m[k] = t := ⟨_, rfl⟩
        have hno : s ≠ t → l ≠ m := fun h e => by subst e; rw [hs] at ht2; exact h ht2
        rw [hs] at d0 hst
        rw [ht2] at e0 hst
        have k0 : (0 : Int) ≤ (k : Int) := by omega
        have k1 : (k : Int) < (n : Int) := by omega
        by_cases hst2 : s = t
        · have HS := Lib.hid (hst hst2)
          subst hst2
          clear hst hno hs ht2 hwf hwf2
          go_wp2
          go_region
          all_goals
            go_wp2
            go_roundw
          case rel => exact ⟨k + 1, q + 1, by omega, by go_num, Lib.hid HS.out, rfl⟩
          case measure => simp [intOf]; omega
        · have HV := Lib.hid (show false = r from by rw [← HR.out]; exact (decide_eq_false (hno hst2)).symm)
          have hsb : (s.toList == t.toList) = false := beq_eq_false_iff_ne.2 (fun e => hst2 (by
            rw [← mkb_of s, ← mkb_of t]
            rw [Lib.toList_data, Lib.toList_data] at e
            rw [e]))
          clear hst hno hs ht2 hwf hwf2
          go_wp2
          go_region
          all_goals
            go_wp2
            go_ret
            exact ⟨congrArg (fun r => Ending.returned (.bool r)) HV.out, Go.Proofs.Ytmkaehnekhejmaa.Below.drewN (Below.refl _ _) (q + 1)⟩
      · obtain rfl : k = n := by omega
        have HV := Lib.hid (show true = r from by
          have e := ht.out
          rw [List.take_of_length_le (by rw [HN.out.1]; exact Nat.le_refl _), List.take_of_length_le (by rw [HN.out.2]; exact Nat.le_refl _)] at e
          rw [← HR.out]
          exact (decide_eq_true e).symm)
        go_wp2
        go_ret
        exact ⟨congrArg (fun r => Ending.returned (.bool r)) HV.out, Go.Proofs.Ytmkaehnekhejmaa.Below.drewN (Below.refl _ _) _⟩
  · have hne : decide (l = m) = false := decide_eq_false (fun e => hlen (by rw [e]))
    rw [hne]
    have hb : ((l.length : Int) == (m.length : Int)) = false := by simp; omega
    clear hne h1 h2
    generalize l.length = a at *
    generalize m.length = b at *
    go_enter Try.func11, Try.ntmps11
    go_wp2
    go_ret
    exact ⟨rfl, Below.refl _ _⟩

/-- A text's first three bytes. -/
def shortB (s : ByteArray) : ByteArray := if 3 < s.size then s.extract 0 3 else s
theorem shortB_size (s : ByteArray) : (shortB s).size ≤ 3 := by
  unfold shortB
  split
  · rw [extract_mkb, mkb_size, List.drop_zero, List.length_take]
    omega
  · omega
set_option maxHeartbeats 400000 in
theorem short_any (s : ByteArray) (w : World) (hs : s.size ≤ maxLen) : Calls Try.prog 8 #[.string s] w fun e w' => e = .returned (.string (shortB s)) ∧ w' = w := by
  unfold maxLen at hs
  unfold shortB
  by_cases h : 3 < s.size
  · rw [if_pos h]
    have h' : (3 : Int) < (s.size : Int) := by omega
    go_enter Try.func8, Try.ntmps8
    go_wp2
    go_ret
    exact ⟨rfl, rfl⟩
  · rw [if_neg h]
    have h' : ¬ (3 : Int) < (s.size : Int) := by omega
    go_enter Try.func8, Try.ntmps8
    go_wp2
    go_ret
    exact ⟨rfl, rfl⟩
/-- One of a to p. -/
def nameN (k : Nat) : ByteArray := mkb [UInt8.ofNat (97 + k)]
def nameB (n : Int) : ByteArray := nameN (n % 16).toNat
theorem nameN_size (k : Nat) : (nameN k).size = 1 := by unfold nameN; rw [mkb_size]; rfl
theorem i64_and15 (n : Int) : bits .and .i64 n 15 = n % 16 := i64_and_mask n 4 15 (by omega) (by decide)
theorem nameN_inj {a b : Nat} (ha : a < 16) (hb : b < 16) (h : nameN a = nameN b) : a = b := by
  have h1 := mkb_inj h
  injection h1 with h1
  have h2 := congrArg UInt8.toNat h1
  rw [UInt8.toNat_ofNat', UInt8.toNat_ofNat'] at h2
  simp at h2
  omega
set_option maxHeartbeats 400000 in
theorem name_any (n : Int) (w : World) : Calls Try.prog 17 #[.int .i64 n] w fun e w' => e = .returned (.string (nameB n)) ∧ Below w.heap.size w w' := by
  have e := i64_and15 n
  unfold nameB
  obtain ⟨k, hk⟩ : ∃ k : Nat, n % 16 = k := ⟨(n % 16).toNat, by omega⟩
  rw [hk] at e
  rw [hk, Int.toNat_natCast]
  have hk16 : k < 16 := by omega
  have h1 : IntKind.i64.wrap (97 + (k : Int)) = ((97 + k : Nat) : Int) := by rw [show 97 + (k : Int) = ((97 + k : Nat) : Int) by omega]; exact IntWalk.i64_in _ (by omega)
  have h2 : IntKind.u8.wrap ((97 + k : Nat) : Int) = ((97 + k : Nat) : Int) := by
    have e : IntKind.u8.wrap ((97 + k : Nat) : Int) = ((97 + k : Nat) : Int) % 256 := rfl
    rw [e]; omega
  have hc := fun (v : World) => run_string_blk (P := Try.prog) (World.alloc v (.cells #[.int .u8 ((97 + k : Nat) : Int)] 5)) 45 9 5 v.heap.size 1 5 [UInt8.ofNat (97 + k)] 1 rfl Try.underlying45 Try.underlying5 Try.underlying9 (by
    have : (Lib.byteCells [UInt8.ofNat (97 + k)]).toArray = #[.int .u8 ((97 + k : Nat) : Int)] := by
      simp [Lib.byteCells]
      omega
    rw [this]
    exact Blk.new v _ _)
  unfold nameN
  generalize 97 + k = K at *
  clear hk
  go_enter Try.func17, Try.ntmps17
  go_wp2
  go_ret
  exact ⟨rfl, (Below.refl _ _).alloc (Nat.le_refl _) _⟩
end Go.Proofs.Ytmkaehnekhejmaa
