/- Contracts of Text and Set, of package octet and of the reference. -/
import Derived.Test.YtafogipkbhglcaaOctE
import Derived.Deep.RegionWith
import Derived.WalkMore
namespace Go.Proofs.Ytafogipkbhglcaa
open Go.RowKit
set_option linter.unusedVariables false

/-- How far behind a place the next byte 0 stands. -/
def zat (s : ByteArray) (a : Nat) : Nat := (s.data.toList.drop a).findIdx (· == 0)
theorem drop_at {s : ByteArray} {a k : Nat} (h : a + k < s.size) : ∃ h', (s.data.toList.drop a)[k]'h' = s[a + k] := by
  refine ⟨by rw [List.length_drop, len_data]; omega, ?_⟩
  rw [List.getElem_drop]; rfl
theorem zat_le (s : ByteArray) (a : Nat) : zat s a ≤ s.size - a := by
  unfold zat
  have := List.findIdx_le_length (p := (· == (0 : UInt8))) (xs := s.data.toList.drop a)
  rwa [List.length_drop, len_data] at this
theorem zat_step {s : ByteArray} {a k : Nat} (h : a + k < s.size) (hk : k ≤ zat s a) (hne : ¬ s[a + k] = 0) : k + 1 ≤ zat s a := by
  rcases Nat.lt_or_ge k (zat s a) with hlt | hge
  · exact hlt
  · have he : k = zat s a := by omega
    obtain ⟨h', e⟩ := drop_at h
    have hz := List.findIdx_getElem (p := (· == (0 : UInt8))) (xs := s.data.toList.drop a) (w := by show zat s a < _; omega)
    have : (s.data.toList.drop a)[k]'h' = 0 := by
      have hz' : ((s.data.toList.drop a)[zat s a]'(by omega) == 0) = true := hz
      simpa [he] using hz'
    exact absurd (e ▸ this) hne
theorem zat_hit {s : ByteArray} {a k : Nat} (h : a + k < s.size) (hk : k ≤ zat s a) (he : s[a + k] = 0) : zat s a = k := by
  rcases Nat.lt_or_ge k (zat s a) with hlt | hge
  · obtain ⟨h', e⟩ := drop_at h
    have := List.not_of_lt_findIdx (p := (· == (0 : UInt8))) (xs := s.data.toList.drop a) (i := k) hlt
    rw [e, he] at this
    simp at this
  · omega

/-- What Text tells. -/
def textOk (s : ByteArray) (a most : Int) : Bool := decide (0 ≤ a) && decide (a.toNat + zat s a.toNat < s.size) && decide ((zat s a.toNat : Int) ≤ most)
def textS (s : ByteArray) (a most : Int) : ByteArray := if textOk s a most then s.extract a.toNat (a.toNat + zat s a.toNat) else ⟨#[]⟩
theorem text_no {s : ByteArray} {a most : Int} (h : ¬ (0 ≤ a ∧ a.toNat + zat s a.toNat < s.size ∧ (zat s a.toNat : Int) ≤ most)) : textOk s a most = false ∧ textS s a most = ⟨#[]⟩ := by
  have e : textOk s a most = false := by
    unfold textOk
    simp only [Bool.and_eq_false_iff, decide_eq_false_iff_not]
    by_cases h1 : 0 ≤ a
    · by_cases h2 : a.toNat + zat s a.toNat < s.size
      · exact .inr (fun h3 => h ⟨h1, h2, h3⟩)
      · exact .inl (.inr h2)
    · exact .inl (.inl h1)
  exact ⟨e, by unfold textS; simp [e]⟩
theorem text_yes {s : ByteArray} {a : Nat} {most : Int} (h1 : a + zat s a < s.size) (h2 : (zat s a : Int) ≤ most) : textOk s a most = true ∧ textS s a most = s.extract a (a + zat s a) := by
  have e : textOk s a most = true := by unfold textOk; simp [h1, h2]
  exact ⟨e, by unfold textS; simp [e]⟩

set_option maxHeartbeats 800000 in
theorem text_any (s : ByteArray) (a n : Int) (w : World) (ha : (Lit.int .i64 a).wf = true) (hn : (Lit.int .i64 n).wf = true) (hs : s.size ≤ 281474976710656) :
    Calls Try.prog 54 #[.string s, .int .i64 a, .int .i64 n] w fun e w' => e = .returned (.tuple #[.string (textS s a n), .bool (textOk s a n)]) ∧ Below w.heap.size w w' := by
  cases hi : inn a 0 s.size
  · have hx : ¬ (0 ≤ a ∧ a ≤ s.size) := by
      intro h
      have : inn a 0 s.size = true := by rw [inn_iff]; omega
      rw [this] at hi; cases hi
    obtain ⟨e1, e2⟩ := text_no (s := s) (a := a) (most := n) (by rintro ⟨x, y, _⟩; exact hx ⟨x, by omega⟩)
    rw [e1, e2]; clear e1 e2
    go_enter Try.func54, Try.ntmps54
    go_wp2_with fail
    go_step3
    go_wp2_with (go_at_call 56; refine (within_any _ _ _ _ ha (by decide) (by omega)).mono ?_; rintro e w' ⟨rfl, rfl⟩)
    try rw [Exit.noGoto_ret]
    go_ret2
    exact ⟨rfl, Below.refl _ _⟩
  · obtain ⟨h1, _, h3, _⟩ := inn_iff.1 hi
    obtain ⟨A, rfl⟩ : ∃ A : Nat, a = A := ⟨a.toNat, by omega⟩
    obtain ⟨R1, hR1⟩ : ∃ x, x = textS s A n := ⟨_, rfl⟩
    obtain ⟨R2, hR2⟩ : ∃ x, x = textOk s A n := ⟨_, rfl⟩
    rw [← hR1, ← hR2]
    have H1 := Lib.hid hR1
    have H2 := Lib.hid hR2
    clear hR1 hR2
    go_enter Try.func54, Try.ntmps54
    go_wp2_with fail
    go_step3
    go_wp2_with (go_at_call 56; refine (within_any _ _ _ _ ha (by decide) (by omega)).mono ?_; rintro e w' ⟨rfl, rfl⟩)
    go_step3
    go_wp2
    go_loop [8, 9, 20] (fun v b i => ∃ k : Nat, k ≤ s.size - A ∧ i = .int .i64 k ∧ v = .int .i64 0 ∧ b = .bool false ∧ k ≤ zat s A) (fun _ _ i => s.size - A - (intOf i).toNat)
    case atStart => exact ⟨0, Nat.zero_le _, rfl, rfl, rfl, Nat.zero_le _⟩
    case round =>
      obtain ⟨k, hk, rfl, rfl, rfl, hz⟩ := hrel
      have hzl := zat_le s A
      have hsz := Lib.hid hs
      by_cases hlt : k < s.size - A
      · by_cases hm : n < (k : Int)
        · obtain ⟨e1, e2⟩ := text_no (s := s) (a := A) (most := n) (by rintro ⟨_, _, y⟩; simp only [Int.toNat_natCast] at y; omega)
          rw [← H1.out] at e2
          rw [← H2.out] at e1
          subst e1; subst e2
          go_wp2
          try rw [Exit.noGoto_ret]
          go_ret2
          exact ⟨rfl, Below.refl _ _⟩
        · by_cases h0 : s[A + k]'(by omega) = 0
          · have hzk := zat_hit (s := s) (a := A) (k := k) (by omega) hz h0
            obtain ⟨e1, e2⟩ := text_yes (s := s) (a := A) (most := n) (by omega) (by omega)
            rw [← H1.out] at e2
            rw [← H2.out] at e1
            rw [hzk] at e2
            subst e1; subst e2
            clear hzk
            go_wp2_with (go_at_call 57; refine (part_any s A k _ (by omega) (by omega)).mono ?_; rintro e w' ⟨rfl, hb⟩)
            try rw [Exit.noGoto_ret]
            go_ret2
            exact ⟨rfl, hb⟩
          · have hst := zat_step (s := s) (a := A) (k := k) (by omega) hz h0
            have h0' : ((s[A + k]'(by omega)).toNat == 0) = false := by
              simp only [beq_eq_false_iff_ne, ne_eq]
              intro h; exact h0 (UInt8.toNat_inj.1 (by simpa using h))
            go_wp2
            go_round
            case rel => exact ⟨k + 1, by omega, by go_num, rfl, rfl, hst⟩
            case measure => simp [intOf] <;> omega
      · obtain ⟨e1, e2⟩ := text_no (s := s) (a := A) (most := n) (by rintro ⟨_, y, _⟩; simp only [Int.toNat_natCast] at y; omega)
        rw [← H1.out] at e2
        rw [← H2.out] at e1
        subst e1; subst e2
        go_wp2
        try rw [Exit.noGoto_ret]
        go_ret2
        exact ⟨rfl, Below.refl _ _⟩

set_option maxHeartbeats 800000 in
theorem rtext_any (s : ByteArray) (a n : Int) (w : World) (ha : (Lit.int .i64 a).wf = true) (hn : (Lit.int .i64 n).wf = true) (hs : s.size ≤ 281474976710656) :
    Calls Try.prog 19 #[.string s, .int .i64 a, .int .i64 n] w fun e w' => e = .returned (.tuple #[.string (textS s a n), .bool (textOk s a n)]) ∧ w = w' := by
  obtain ⟨_, _⟩ := bounds_i64 ha
  by_cases h1 : 0 ≤ a
  · obtain ⟨A, rfl⟩ : ∃ A : Nat, a = A := ⟨a.toNat, by omega⟩
    obtain ⟨R1, hR1⟩ : ∃ x, x = textS s A n := ⟨_, rfl⟩
    obtain ⟨R2, hR2⟩ : ∃ x, x = textOk s A n := ⟨_, rfl⟩
    rw [← hR1, ← hR2]
    have H1 := Lib.hid hR1
    have H2 := Lib.hid hR2
    clear hR1 hR2
    go_enter Try.func19, Try.ntmps19
    go_wp2
    go_loop [8] (fun i => ∃ k : Nat, i = .int .i64 ((A : Int) + k) ∧ k ≤ zat s A) (fun i => (s.size + A - (intOf i).toNat))
    case atStart => exact ⟨0, by simp, Nat.zero_le _⟩
    case round =>
      obtain ⟨k, rfl, hz⟩ := hrel
      have hzl := zat_le s A
      by_cases hlt : (A : Int) + k < s.size
      · by_cases hm : (k : Int) ≤ n
        · by_cases h0 : s[A + k]'(by omega) = 0
          · have hzk := zat_hit (s := s) (a := A) (k := k) (by omega) hz h0
            obtain ⟨e1, e2⟩ := text_yes (s := s) (a := A) (most := n) (by omega) (by omega)
            rw [← H1.out] at e2
            rw [← H2.out] at e1
            rw [hzk] at e2
            subst e1; subst e2
            clear hzk
            go_wp2
            go_ret2
            exact ⟨rfl, rfl⟩
          · have hst := zat_step (s := s) (a := A) (k := k) (by omega) hz h0
            have h0' : ((s[A + k]'(by omega)).toNat == 0) = false := by
              simp only [beq_eq_false_iff_ne, ne_eq]
              intro h; exact h0 (UInt8.toNat_inj.1 (by simpa using h))
            go_wp2
            go_round
            case rel => exact ⟨k + 1, by go_num, hst⟩
            case measure => simp [intOf] <;> omega
        · obtain ⟨e1, e2⟩ := text_no (s := s) (a := A) (most := n) (by rintro ⟨_, _, y⟩; simp only [Int.toNat_natCast] at y; omega)
          rw [← H1.out] at e2
          rw [← H2.out] at e1
          subst e1; subst e2
          go_wp2
          go_ret2
          exact ⟨rfl, rfl⟩
      · obtain ⟨e1, e2⟩ := text_no (s := s) (a := A) (most := n) (by rintro ⟨_, y, _⟩; simp only [Int.toNat_natCast] at y; omega)
        rw [← H1.out] at e2
        rw [← H2.out] at e1
        subst e1; subst e2
        go_wp2
        go_ret2
        exact ⟨rfl, rfl⟩
  · obtain ⟨e1, e2⟩ := text_no (s := s) (a := a) (most := n) (by rintro ⟨x, _, _⟩; exact h1 x)
    rw [e1, e2]; clear e1 e2
    go_enter Try.func19, Try.ntmps19
    go_wp2
    go_ret2
    exact ⟨rfl, rfl⟩
end Go.Proofs.Ytafogipkbhglcaa
