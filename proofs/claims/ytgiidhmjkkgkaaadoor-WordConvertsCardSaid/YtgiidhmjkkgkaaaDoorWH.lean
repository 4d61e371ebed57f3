/- Package word: order and its closure. -/
import Derived.Test.YtgiidhmjkkgkaaaDoorWE
namespace Go.Proofs.YtgiidhmjkkgkaaaDoor
open Go.RowKit
set_option linter.unusedVariables false
set_option linter.unusedSimpArgs false

/-- Is the first one less? -/
def lessS (k a b : Int) : Bool :=
  if k = 9 then FloatKind.f64.format.order a.toNat b.toNat == some .lt else if sgn k then decide (wrap64 a < wrap64 b) else decide (a < b)

set_option maxHeartbeats 800000 in
theorem less_any (k a b : Int) (p q : Nat) (w : World) (hp : w.cell? ⟨p, 0, none⟩ = some (.int .i64 k)) (hq : w.cell? ⟨q, 0, none⟩ = some (.bool (sgn k))) :
    Calls Tryd.prog 49 #[.int .u64 a, .int .u64 b, .pointer (some ⟨p, 0, none⟩), .pointer (some ⟨q, 0, none⟩)] w fun e w' => e = .returned (.bool (lessS k a b)) ∧ w = w' := by
  by_cases h9 : k = 9
  · subst h9
    have e : lessS 9 a b = (FloatKind.f64.format.order a.toNat b.toNat == some .lt) := by unfold lessS; simp
    rw [e]; clear e
    go_enter Tryd.func49, Tryd.ntmps49
    go_wp2
    go_ret
    exact ⟨rfl, rfl⟩
  · have h90 : (k == 9) = false := by simpa using h9
    cases hs : sgn k
    · rw [hs] at hq
      have e : lessS k a b = decide (a < b) := by unfold lessS; simp [h9, hs]
      rw [e]; clear e
      go_enter Tryd.func49, Tryd.ntmps49
      go_wp2
      go_ret
      exact ⟨rfl, rfl⟩
    · rw [hs] at hq
      have e : lessS k a b = decide (wrap64 a < wrap64 b) := by unfold lessS; simp [h9, hs]
      rw [e]; clear e
      go_enter Tryd.func49, Tryd.ntmps49
      go_wp2
      go_ret
      exact ⟨rfl, rfl⟩

set_option maxHeartbeats 800000 in
theorem order_any (k : Int) (w : World) (hk : (Lit.int .i64 k).wf = true) :
    Calls Tryd.prog 43 #[.int .i64 k] w fun e w' => e = .returned (.func (.func 49) #[] #[.pointer (some ⟨w.heap.size, 0, none⟩), .pointer (some ⟨w.heap.size + 1, 0, none⟩)]) ∧
      Below w.heap.size w w' ∧ w'.cell? ⟨w.heap.size, 0, none⟩ = some (.int .i64 k) ∧ w'.cell? ⟨w.heap.size + 1, 0, none⟩ = some (.bool (sgn k)) := by
  have hs := fun w => signed_any k w hk
  have HS := Lib.hid hs
  clear hs
  have hmf : ∀ (fn : Fn) (first cap : Array Value) (w : World), (Instr.makeFunc fn first cap).run Tryd.prog w = .ok (.func fn first cap) w := fun _ _ _ _ => rfl
  generalize sgn k = sg at *
  go_enter Tryd.func43, Tryd.ntmps43
  go_wp2_with (go_at_call 16; refine (HS.out _).mono ?_; rintro e w' ⟨rfl, rfl⟩)
  go_ret
  refine ⟨rfl, ((Below.refl _ w).alloc (Nat.le_refl _) _).alloc (by simp) _, ?_, ?_⟩
  · rw [World.cell?_alloc_past (hn := by simp), World.cell?_alloc_at (hn := rfl)]
    rfl
  · rw [World.cell?_alloc_at (hn := by simp)]
    rfl

theorem Tab.drew {w : World} (h : Tab w) : Tab w.drew := h

/-- The order of two words. -/
def cmpS (k a b : Int) : Int :=
  if k = 9 ∧ (Flt.nanB a.toNat = true ∨ Flt.nanB b.toNat = true) then 2
  else if lessS k (clipS k a) (clipS k b) then -1 else if lessS k (clipS k b) (clipS k a) then 1 else 0

set_option maxHeartbeats 3200000 in
theorem cmp_walk9 (a b : Int) (N1 N2 A B : Bool) (w : World) (hT : Tab w)
    (HC1 : Hid (∀ w, Tab w → Calls Tryd.prog 18 #[.int .i64 9, .int .u64 a] w fun e w' => e = .returned (.int .u64 a) ∧ w = w'))
    (HC2 : Hid (∀ w, Tab w → Calls Tryd.prog 18 #[.int .i64 9, .int .u64 b] w fun e w' => e = .returned (.int .u64 b) ∧ w = w'))
    (HI1 : Hid (∀ w, Calls Tryd.prog 42 #[.float .f64 a.toNat] w fun e w' => e = .returned (.bool N1) ∧ w = w'))
    (HI2 : Hid (∀ w, Calls Tryd.prog 42 #[.float .f64 b.toNat] w fun e w' => e = .returned (.bool N2) ∧ w = w'))
    (HO : Hid (∀ w : World, Calls Tryd.prog 43 #[.int .i64 9] w fun e w' => e = .returned (.func (.func 49) #[] #[.pointer (some ⟨w.heap.size, 0, none⟩), .pointer (some ⟨w.heap.size + 1, 0, none⟩)]) ∧
      Below w.heap.size w w' ∧ w'.cell? ⟨w.heap.size, 0, none⟩ = some (.int .i64 9) ∧ w'.cell? ⟨w.heap.size + 1, 0, none⟩ = some (.bool (sgn 9))))
    (HL1 : Hid (∀ (p q : Nat) (w : World), w.cell? ⟨p, 0, none⟩ = some (.int .i64 9) → w.cell? ⟨q, 0, none⟩ = some (.bool (sgn 9)) →
      Calls Tryd.prog 49 #[.int .u64 a, .int .u64 b, .pointer (some ⟨p, 0, none⟩), .pointer (some ⟨q, 0, none⟩)] w fun e w' => e = .returned (.bool A) ∧ w = w'))
    (HL2 : Hid (∀ (p q : Nat) (w : World), w.cell? ⟨p, 0, none⟩ = some (.int .i64 9) → w.cell? ⟨q, 0, none⟩ = some (.bool (sgn 9)) →
      Calls Tryd.prog 49 #[.int .u64 b, .int .u64 a, .pointer (some ⟨p, 0, none⟩), .pointer (some ⟨q, 0, none⟩)] w fun e w' => e = .returned (.bool B) ∧ w = w')) :
    Calls Tryd.prog 24 #[.int .i64 9, .int .u64 a, .int .u64 b] w fun e w' => e = .returned (.int .i64 (if N1 || N2 then 2 else if A then -1 else if B then 1 else 0)) ∧ Below w.heap.size w w' := by
  have hB := Below.refl w.heap.size w
  cases N1
  case true =>
    go_enter Tryd.func24, Tryd.ntmps24
    go_wp2_with (first
        | (go_at_call 18; with_reducible refine (HC1.out _ hT).mono ?_; rintro e w' ⟨rfl, rfl⟩)
        | (go_at_call 18; with_reducible refine (HC2.out _ hT).mono ?_; rintro e w' ⟨rfl, rfl⟩)
        | (go_at_call 42; with_reducible refine (HI1.out _).mono ?_; rintro e w' ⟨rfl, rfl⟩)
        | (go_at_call 42; with_reducible refine (HI2.out _).mono ?_; rintro e w' ⟨rfl, rfl⟩))
    go_ret
    exact ⟨rfl, hB⟩
  cases N2
  case true =>
    go_enter Tryd.func24, Tryd.ntmps24
    go_wp2_with (first
        | (go_at_call 18; with_reducible refine (HC1.out _ hT).mono ?_; rintro e w' ⟨rfl, rfl⟩)
        | (go_at_call 18; with_reducible refine (HC2.out _ hT).mono ?_; rintro e w' ⟨rfl, rfl⟩)
        | (go_at_call 42; with_reducible refine (HI1.out _).mono ?_; rintro e w' ⟨rfl, rfl⟩)
        | (go_at_call 42; with_reducible refine (HI2.out _).mono ?_; rintro e w' ⟨rfl, rfl⟩))
    go_ret
    exact ⟨rfl, hB⟩
  cases A
  case true =>
    go_enter Tryd.func24, Tryd.ntmps24
    go_wp2_with (first
        | (go_at_call 18; with_reducible refine (HC1.out _ hT).mono ?_; rintro e w' ⟨rfl, rfl⟩)
        | (go_at_call 18; with_reducible refine (HC2.out _ hT).mono ?_; rintro e w' ⟨rfl, rfl⟩)
        | (go_at_call 42; with_reducible refine (HI1.out _).mono ?_; rintro e w' ⟨rfl, rfl⟩)
        | (go_at_call 42; with_reducible refine (HI2.out _).mono ?_; rintro e w' ⟨rfl, rfl⟩)
        | (go_at_call 43; refine (HO.out _).mono ?_; rintro e v ⟨rfl, hb, c1, c2⟩; replace hB := hB.trans hb)
        | (go_at_call 49; with_reducible refine (HL1.out _ _ _ c1 c2).mono ?_; rintro e w' ⟨rfl, rfl⟩)
        | (go_at_call 49; with_reducible refine (HL2.out _ _ _ c1 c2).mono ?_; rintro e w' ⟨rfl, rfl⟩))
    go_ret
    exact ⟨rfl, hB⟩
  cases B
  case true =>
    go_enter Tryd.func24, Tryd.ntmps24
    go_wp2_with (first
        | (go_at_call 18; with_reducible refine (HC1.out _ hT).mono ?_; rintro e w' ⟨rfl, rfl⟩)
        | (go_at_call 18; with_reducible refine (HC2.out _ hT).mono ?_; rintro e w' ⟨rfl, rfl⟩)
        | (go_at_call 42; with_reducible refine (HI1.out _).mono ?_; rintro e w' ⟨rfl, rfl⟩)
        | (go_at_call 42; with_reducible refine (HI2.out _).mono ?_; rintro e w' ⟨rfl, rfl⟩)
        | (go_at_call 43; refine (HO.out _).mono ?_; rintro e v ⟨rfl, hb, c1, c2⟩; replace hB := hB.trans hb)
        | (go_at_call 49; with_reducible refine (HL1.out _ _ _ c1 c2).mono ?_; rintro e w' ⟨rfl, rfl⟩)
        | (go_at_call 49; with_reducible refine (HL2.out _ _ _ c1 c2).mono ?_; rintro e w' ⟨rfl, rfl⟩))
    go_ret
    exact ⟨rfl, hB⟩
  case false =>
    go_enter Tryd.func24, Tryd.ntmps24
    go_wp2_with (first
        | (go_at_call 18; with_reducible refine (HC1.out _ hT).mono ?_; rintro e w' ⟨rfl, rfl⟩)
        | (go_at_call 18; with_reducible refine (HC2.out _ hT).mono ?_; rintro e w' ⟨rfl, rfl⟩)
        | (go_at_call 42; with_reducible refine (HI1.out _).mono ?_; rintro e w' ⟨rfl, rfl⟩)
        | (go_at_call 42; with_reducible refine (HI2.out _).mono ?_; rintro e w' ⟨rfl, rfl⟩)
        | (go_at_call 43; refine (HO.out _).mono ?_; rintro e v ⟨rfl, hb, c1, c2⟩; replace hB := hB.trans hb)
        | (go_at_call 49; with_reducible refine (HL1.out _ _ _ c1 c2).mono ?_; rintro e w' ⟨rfl, rfl⟩)
        | (go_at_call 49; with_reducible refine (HL2.out _ _ _ c1 c2).mono ?_; rintro e w' ⟨rfl, rfl⟩))
    go_ret
    exact ⟨rfl, hB⟩

set_option maxHeartbeats 3200000 in
theorem cmp_walk (k a b x y : Int) (sg A B : Bool) (w : World) (hT : Tab w) (hk : (k == 9) = false)
    (HC1 : Hid (∀ w, Tab w → Calls Tryd.prog 18 #[.int .i64 k, .int .u64 a] w fun e w' => e = .returned (.int .u64 x) ∧ w = w'))
    (HC2 : Hid (∀ w, Tab w → Calls Tryd.prog 18 #[.int .i64 k, .int .u64 b] w fun e w' => e = .returned (.int .u64 y) ∧ w = w'))
    (HO : Hid (∀ w : World, Calls Tryd.prog 43 #[.int .i64 k] w fun e w' => e = .returned (.func (.func 49) #[] #[.pointer (some ⟨w.heap.size, 0, none⟩), .pointer (some ⟨w.heap.size + 1, 0, none⟩)]) ∧
      Below w.heap.size w w' ∧ w'.cell? ⟨w.heap.size, 0, none⟩ = some (.int .i64 k) ∧ w'.cell? ⟨w.heap.size + 1, 0, none⟩ = some (.bool sg)))
    (HL1 : Hid (∀ (p q : Nat) (w : World), w.cell? ⟨p, 0, none⟩ = some (.int .i64 k) → w.cell? ⟨q, 0, none⟩ = some (.bool sg) →
      Calls Tryd.prog 49 #[.int .u64 x, .int .u64 y, .pointer (some ⟨p, 0, none⟩), .pointer (some ⟨q, 0, none⟩)] w fun e w' => e = .returned (.bool A) ∧ w = w'))
    (HL2 : Hid (∀ (p q : Nat) (w : World), w.cell? ⟨p, 0, none⟩ = some (.int .i64 k) → w.cell? ⟨q, 0, none⟩ = some (.bool sg) →
      Calls Tryd.prog 49 #[.int .u64 y, .int .u64 x, .pointer (some ⟨p, 0, none⟩), .pointer (some ⟨q, 0, none⟩)] w fun e w' => e = .returned (.bool B) ∧ w = w')) :
    Calls Tryd.prog 24 #[.int .i64 k, .int .u64 a, .int .u64 b] w fun e w' => e = .returned (.int .i64 (if A then -1 else if B then 1 else 0)) ∧ Below w.heap.size w w' := by
  have hB := Below.refl w.heap.size w
  cases A
  case true =>
    go_enter Tryd.func24, Tryd.ntmps24
    go_wp2_with (first
        | (go_at_call 18; with_reducible refine (HC1.out _ hT).mono ?_; rintro e w' ⟨rfl, rfl⟩)
        | (go_at_call 18; with_reducible refine (HC2.out _ hT).mono ?_; rintro e w' ⟨rfl, rfl⟩)
        | (go_at_call 43; refine (HO.out _).mono ?_; rintro e v ⟨rfl, hb, c1, c2⟩; replace hB := hB.trans hb)
        | (go_at_call 49; with_reducible refine (HL1.out _ _ _ c1 c2).mono ?_; rintro e w' ⟨rfl, rfl⟩)
        | (go_at_call 49; with_reducible refine (HL2.out _ _ _ c1 c2).mono ?_; rintro e w' ⟨rfl, rfl⟩))
    go_ret
    exact ⟨rfl, hB⟩
  cases B
  case true =>
    go_enter Tryd.func24, Tryd.ntmps24
    go_wp2_with (first
        | (go_at_call 18; with_reducible refine (HC1.out _ hT).mono ?_; rintro e w' ⟨rfl, rfl⟩)
        | (go_at_call 18; with_reducible refine (HC2.out _ hT).mono ?_; rintro e w' ⟨rfl, rfl⟩)
        | (go_at_call 43; refine (HO.out _).mono ?_; rintro e v ⟨rfl, hb, c1, c2⟩; replace hB := hB.trans hb)
        | (go_at_call 49; with_reducible refine (HL1.out _ _ _ c1 c2).mono ?_; rintro e w' ⟨rfl, rfl⟩)
        | (go_at_call 49; with_reducible refine (HL2.out _ _ _ c1 c2).mono ?_; rintro e w' ⟨rfl, rfl⟩))
    go_ret
    exact ⟨rfl, hB⟩
  case false =>
    go_enter Tryd.func24, Tryd.ntmps24
    go_wp2_with (first
        | (go_at_call 18; with_reducible refine (HC1.out _ hT).mono ?_; rintro e w' ⟨rfl, rfl⟩)
        | (go_at_call 18; with_reducible refine (HC2.out _ hT).mono ?_; rintro e w' ⟨rfl, rfl⟩)
        | (go_at_call 43; refine (HO.out _).mono ?_; rintro e v ⟨rfl, hb, c1, c2⟩; replace hB := hB.trans hb)
        | (go_at_call 49; with_reducible refine (HL1.out _ _ _ c1 c2).mono ?_; rintro e w' ⟨rfl, rfl⟩)
        | (go_at_call 49; with_reducible refine (HL2.out _ _ _ c1 c2).mono ?_; rintro e w' ⟨rfl, rfl⟩))
    go_ret
    exact ⟨rfl, hB⟩

theorem compare_any (k a b : Int) (w : World) (hk : (Lit.int .i64 k).wf = true) (ha : (Lit.int .u64 a).wf = true) (hb : (Lit.int .u64 b).wf = true) (hT : Tab w) :
    Calls Tryd.prog 24 #[.int .i64 k, .int .u64 a, .int .u64 b] w fun e w' => e = .returned (.int .i64 (cmpS k a b)) ∧ Below w.heap.size w w' := by
  have HC1 := Lib.hid (fun w hT => clip_any k a w hk ha hT)
  have HC2 := Lib.hid (fun w hT => clip_any k b w hk hb hT)
  have HO := Lib.hid (fun w => order_any k w hk)
  have HL1 := Lib.hid (fun p q w hp hq => less_any k (clipS k a) (clipS k b) p q w hp hq)
  have HL2 := Lib.hid (fun p q w hp hq => less_any k (clipS k b) (clipS k a) p q w hp hq)
  obtain ⟨a0, a1⟩ := u64_range ha
  obtain ⟨b0, b1⟩ := u64_range hb
  by_cases h9 : k = 9
  · subst h9
    simp only [clip9] at HC1 HC2 HL1 HL2
    have HI1 := Lib.hid (fun w => isnan_any a.toNat w (by omega))
    have HI2 := Lib.hid (fun w => isnan_any b.toNat w (by omega))
    have e : cmpS 9 a b = (if Flt.nanB a.toNat || Flt.nanB b.toNat then 2 else if lessS 9 a b then -1 else if lessS 9 b a then 1 else 0) := by
      unfold cmpS; simp [clip9]
    rw [e]
    exact cmp_walk9 a b _ _ _ _ w hT HC1 HC2 HI1 HI2 HO HL1 HL2
  · have e : cmpS k a b = (if lessS k (clipS k a) (clipS k b) then -1 else if lessS k (clipS k b) (clipS k a) then 1 else 0) := by
      unfold cmpS; simp [h9]
    rw [e]
    exact cmp_walk k a b _ _ _ _ _ w hT (by simpa using h9) HC1 HC2 HO HL1 HL2
end Go.Proofs.YtgiidhmjkkgkaaaDoor
