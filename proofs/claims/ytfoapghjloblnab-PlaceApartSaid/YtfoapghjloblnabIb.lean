/- Layer 13 (of no program): a tree of maxima over a row of numbers: setting one, finding the first that is great enough. -/
import Derived.Lib.Hide
namespace Go.Proofs.Ytfoapghjloblnab
set_option linter.unusedVariables false
set_option linter.unusedSimpArgs false

/-- Each inner place has the greater one of the two below it. -/
def TreeP (H : Nat) (T : Nat → Int) : Prop := ∀ k, 1 ≤ k → k < H → T k = max (T (2 * k)) (T (2 * k + 1))
/-- .. but those above i. -/
def TreeBut (H : Nat) (T : Nat → Int) (i : Nat) : Prop := ∀ k, 1 ≤ k → k < H → (∀ j, 0 < j → k ≠ i / 2 ^ j) → T k = max (T (2 * k)) (T (2 * k + 1))
def updT (T : Nat → Int) (i : Nat) (v : Int) : Nat → Int := fun k => if k = i then v else T k

theorem TreeP.set {H : Nat} {T : Nat → Int} (h : TreeP H T) (i : Nat) (v : Int) (hi : H ≤ i) : TreeBut H (updT T i v) i := by
  intro k h1 h2 h3
  unfold updT
  have h4 := h3 1 (by decide)
  rw [if_neg (by omega), if_neg (by omega), if_neg (by omega)]
  exact h k h1 h2
theorem TreeBut.up {H : Nat} {T : Nat → Int} {i : Nat} (h : TreeBut H T i) : TreeBut H (updT T (i / 2) (max (T (2 * (i / 2))) (T (2 * (i / 2) + 1)))) (i / 2) := by
  intro k h1 h2 h3
  have h4 : k ≠ i / 2 / 2 := h3 1 (by decide)
  unfold updT
  by_cases e : k = i / 2
  · rw [if_pos e, if_neg (by omega), if_neg (by omega), ← e]
  · rw [if_neg e, if_neg (by omega), if_neg (by omega)]
    refine h k h1 h2 (fun j hj => ?_)
    by_cases hj1 : j = 1
    · subst hj1
      simpa using e
    · have := h3 (j - 1) (by omega)
      have e2 : 2 ^ j = 2 * 2 ^ (j - 1) := by
        have e3 : j = j - 1 + 1 := by omega
        rw [e3, Nat.pow_succ, Nat.mul_comm]
        simp
      rw [e2, ← Nat.div_div_eq_div_mul]
      exact this
theorem TreeBut.done {H : Nat} {T : Nat → Int} {i : Nat} (h : TreeBut H T i) (hi : i ≤ 1) : TreeP H T := by
  intro k h1 h2
  refine h k h1 h2 (fun j hj => ?_)
  have : i / 2 ^ j = 0 := by
    rw [Nat.div_eq_zero_iff]
    right
    have : 2 ^ 1 ≤ 2 ^ j := Nat.pow_le_pow_right (by decide) hj
    omega
  omega

/-- Place i stands d below the top, h above the ground. -/
def Lv (D d h i : Nat) : Prop := d + h = D ∧ 2 ^ d ≤ i ∧ i < 2 ^ (d + 1)
def LowT (T : Nat → Int) (s : Int) (a n : Nat) : Prop := a ≤ n ∧ ∀ x, a ≤ x → x < n → T x < s
theorem p2 (n : Nat) : 2 ^ (n + 1) = 2 * 2 ^ n := by rw [Nat.pow_succ, Nat.mul_comm]
theorem p2pos (n : Nat) : 0 < 2 ^ n := Nat.pow_pos (by decide)
theorem Lv.lt {D d h i : Nat} (k : Lv D d h i) : 1 ≤ i ∧ i < 2 ^ (D + 1) := by
  obtain ⟨h1, h2, h3⟩ := k
  have := p2pos d
  have : 2 ^ (d + 1) ≤ 2 ^ (D + 1) := Nat.pow_le_pow_right (by decide) (by omega)
  omega
/-- What stands below a place is not above it. -/
theorem sub_le {D : Nat} {T : Nat → Int} (hT : TreeP (2 ^ D) T) : ∀ (h d i x : Nat), Lv D d h i → i * 2 ^ h ≤ x → x < (i + 1) * 2 ^ h → T x ≤ T i
  | 0, d, i, x, _, h1, h2 => by
    have : x = i := by simp at h1 h2; omega
    rw [this]
    exact Int.le_refl _
  | h + 1, d, i, x, hl, h1, h2 => by
    obtain ⟨l1, l2, l3⟩ := hl
    have hpos := p2pos d
    have hlt : i < 2 ^ D := by
      have : 2 ^ (d + 1) ≤ 2 ^ D := Nat.pow_le_pow_right (by decide) (by omega)
      omega
    have ht := hT i (by omega) hlt
    have q1 := p2 d
    have q2 := p2 (d + 1)
    have q3 := p2 h
    have e1 : i * 2 ^ (h + 1) = (2 * i) * 2 ^ h := by rw [q3, ← Nat.mul_assoc, Nat.mul_comm i 2]
    have e2 : (i + 1) * 2 ^ (h + 1) = (2 * i + 1 + 1) * 2 ^ h := by rw [q3, ← Nat.mul_assoc]; congr 1; omega
    rw [e1] at h1
    rw [e2] at h2
    by_cases hx : x < (2 * i + 1) * 2 ^ h
    · have := sub_le hT h (d + 1) (2 * i) x ⟨by omega, by omega, by omega⟩ h1 hx
      omega
    · have := sub_le hT h (d + 1) (2 * i + 1) x ⟨by omega, by omega, by omega⟩ (by omega) h2
      omega

/-- The search stands at i, whose part of the ground begins at n: there is nothing from a on up to n. -/
def At1 (D : Nat) (T : Nat → Int) (s : Int) (a i n : Nat) : Prop := ∃ d h, Lv D d h i ∧ n = i * 2 ^ h ∧ n < 2 ^ (D + 1) ∧ LowT T s a n
/-- .. nor below i, whose part ends at n; or it has left the tree. -/
def At2 (D : Nat) (T : Nat → Int) (s : Int) (a i n : Nat) : Prop := LowT T s a n ∧ ((i = 0 ∧ n = 2 ^ (D + 1)) ∨ ∃ d h, Lv D d h i ∧ n = (i + 1) * 2 ^ h ∧ n ≤ 2 ^ (D + 1))

theorem lv_end {D d h i : Nat} (l : Lv D d h i) : (i + 1) * 2 ^ h ≤ 2 ^ (D + 1) := by
  obtain ⟨l1, l2, l3⟩ := l
  have : (i + 1) * 2 ^ h ≤ 2 ^ (d + 1) * 2 ^ h := Nat.mul_le_mul_right _ (by omega)
  have e : 2 ^ (d + 1) * 2 ^ h = 2 ^ (D + 1) := by rw [← Nat.pow_add]; congr 1; omega
  omega
theorem At1.start {D : Nat} (T : Nat → Int) (s : Int) (i : Nat) (h1 : 2 ^ D ≤ i) (h2 : i < 2 ^ (D + 1)) : At1 D T s i i i :=
  ⟨D, 0, ⟨by omega, h1, h2⟩, by simp, h2, Nat.le_refl _, fun x hx hx2 => by omega⟩
theorem At1.lt {D : Nat} {T : Nat → Int} {s : Int} {a i n : Nat} (h : At1 D T s a i n) : 1 ≤ i ∧ i < 2 ^ (D + 1) ∧ n < 2 ^ (D + 1) := by
  obtain ⟨d, e, l, -, hn, -⟩ := h
  exact ⟨l.lt.1, l.lt.2, hn⟩
theorem At1.fall {D : Nat} {T : Nat → Int} {s : Int} {a i n : Nat} (hT : TreeP (2 ^ D) T) (h : At1 D T s a i n) (hs : T i < s) : ∃ m, n < m ∧ At2 D T s a i m := by
  obtain ⟨d, e, l, hn, hn2, hl⟩ := h
  have hp := p2pos e
  have he : (i + 1) * 2 ^ e = i * 2 ^ e + 2 ^ e := by rw [Nat.add_mul, Nat.one_mul]
  refine ⟨(i + 1) * 2 ^ e, by omega, ⟨by have := hl.1; omega, fun x hx hx2 => ?_⟩, .inr ⟨d, e, l, rfl, lv_end l⟩⟩
  by_cases hxn : x < n
  · exact hl.2 x hx hxn
  · have := sub_le hT e d i x l (by omega) hx2
    omega
theorem At2.up {D : Nat} {T : Nat → Int} {s : Int} {a i n : Nat} (h : At2 D T s a i n) (ho : i % 2 = 1) : At2 D T s a (i / 2) n := by
  obtain ⟨hl, h⟩ := h
  refine ⟨hl, ?_⟩
  rcases h with ⟨rfl, -⟩ | ⟨d, e, ⟨l1, l2, l3⟩, hn, hn2⟩
  · omega
  · cases d with
    | zero =>
      have hi : i = 1 := by simp at l2 l3; omega
      subst hi
      left
      refine ⟨rfl, ?_⟩
      rw [hn, show e = D by omega, p2]
    | succ d =>
      right
      have q := p2 d
      have q2 := p2 (d + 1)
      have q3 := p2 e
      refine ⟨d, e + 1, ⟨by omega, by omega, by omega⟩, ?_, hn2⟩
      rw [hn, q3, ← Nat.mul_assoc]
      congr 1
      omega
theorem At2.next {D : Nat} {T : Nat → Int} {s : Int} {a i n : Nat} (h : At2 D T s a i n) (ho : i % 2 = 0) (h0 : i ≠ 0) : At1 D T s a (i + 1) n := by
  obtain ⟨hl, h⟩ := h
  rcases h with ⟨rfl, -⟩ | ⟨d, e, ⟨l1, l2, l3⟩, hn, hn2⟩
  · exact absurd rfl h0
  · have q := p2 d
    have l : Lv D d e (i + 1) := ⟨l1, by omega, by omega⟩
    refine ⟨d, e, l, hn, ?_, hl⟩
    have h1 := lv_end l
    have h2 : (i + 1 + 1) * 2 ^ e = (i + 1) * 2 ^ e + 2 ^ e := by rw [Nat.add_mul (i + 1), Nat.one_mul]
    have := p2pos e
    omega
theorem At2.none {D : Nat} {T : Nat → Int} {s : Int} {a n : Nat} (h : At2 D T s a 0 n) : LowT T s a (2 ^ (D + 1)) := by
  obtain ⟨hl, h⟩ := h
  rcases h with ⟨-, rfl⟩ | ⟨d, e, ⟨l1, l2, l3⟩, hn, hn2⟩
  · exact hl
  · have := p2pos d
    omega
theorem At2.lt {D : Nat} {T : Nat → Int} {s : Int} {a i n : Nat} (h : At2 D T s a i n) : i < 2 ^ (D + 1) := by
  obtain ⟨-, h⟩ := h
  rcases h with ⟨rfl, -⟩ | ⟨d, e, l, -⟩
  · exact p2pos _
  · exact l.lt.2
theorem At1.down {D : Nat} {T : Nat → Int} {s : Int} {a i n : Nat} (hT : TreeP (2 ^ D) T) (h : At1 D T s a i n) (hs : s ≤ T i) (hi : i < 2 ^ D) :
    At1 D T s a (2 * i) n ∧ (T (2 * i) < s → (∃ m, At1 D T s a (2 * i + 1) m) ∧ s ≤ T (2 * i + 1)) := by
  obtain ⟨d, e, ⟨l1, l2, l3⟩, hn, hn2, hl⟩ := h
  have hpd := p2pos d
  cases e with
  | zero =>
    have : d = D := by omega
    subst this
    omega
  | succ e =>
    have q := p2 d
    have q2 := p2 (d + 1)
    have q3 := p2 e
    have lA : Lv D (d + 1) e (2 * i) := ⟨by omega, by omega, by omega⟩
    have lB : Lv D (d + 1) e (2 * i + 1) := ⟨by omega, by omega, by omega⟩
    have hA : At1 D T s a (2 * i) n := ⟨d + 1, e, lA, by rw [hn, q3, ← Nat.mul_assoc, Nat.mul_comm i 2], hn2, hl⟩
    refine ⟨hA, fun hlt => ⟨⟨(2 * i + 1) * 2 ^ e, d + 1, e, lB, rfl, ?_, ?_⟩, ?_⟩⟩
    · have := lv_end lB
      have h2 : (2 * i + 1 + 1) * 2 ^ e = (2 * i + 1) * 2 ^ e + 2 ^ e := by rw [Nat.add_mul (2 * i + 1), Nat.one_mul]
      have := p2pos e
      omega
    · obtain ⟨m, hm, hm2⟩ := hA.fall hT hlt
      rcases hm2.2 with ⟨h0, -⟩ | ⟨d', e', ⟨m1, m2, m3⟩, hn', -⟩
      · omega
      · have hd : d' = d + 1 := by
          rcases Nat.lt_trichotomy d' (d + 1) with hh | hh | hh
          · have : 2 ^ (d' + 1) ≤ 2 ^ (d + 1) := Nat.pow_le_pow_right (by decide) (by omega)
            omega
          · exact hh
          · have : 2 ^ (d + 1 + 1) ≤ 2 ^ d' := Nat.pow_le_pow_right (by decide) (by omega)
            omega
        have he : e' = e := by omega
        rw [he] at hn'
        rw [← hn']
        exact hm2.1
    · have ht := hT i (by omega) hi
      omega
theorem At1.ground {D : Nat} {T : Nat → Int} {s : Int} {a i n : Nat} (h : At1 D T s a i n) (hi : 2 ^ D ≤ i) : LowT T s a i := by
  obtain ⟨d, e, ⟨l1, l2, l3⟩, hn, hn2, hl⟩ := h
  have : d = D := by
    by_cases hd : d = D
    · exact hd
    · have : 2 ^ (d + 1) ≤ 2 ^ D := Nat.pow_le_pow_right (by decide) (by omega)
      omega
  subst this
  have : e = 0 := by omega
  subst this
  simp at hn
  rw [← hn]
  exact hl
/-- Where a place's part of the ground begins. -/
def lfI (D i : Nat) : Nat := i * 2 ^ (D - i.log2)
theorem At1.lf {D : Nat} {T : Nat → Int} {s : Int} {a i n : Nat} (h : At1 D T s a i n) : lfI D i = n := by
  obtain ⟨d, e, ⟨l1, l2, l3⟩, hn, -⟩ := h
  have : i.log2 = d := (Nat.log2_eq_iff (by have := p2pos d; omega)).2 ⟨l2, l3⟩
  unfold lfI
  rw [this, hn]
  congr 2
  omega
end Go.Proofs.Ytfoapghjloblnab
