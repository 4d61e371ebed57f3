/- Package region: Pages, Key, Gap. -/
import Derived.Test.YtkfkaafddfedjacUM
namespace Go.Proofs.Ytkfkaafddfedjac
open Go.RowKit Go.ChangeShapes Go.WideShapes Go.Deep
set_option linter.unusedVariables false
set_option linter.unusedSimpArgs false

theorem Asc.take {l : List Rg} (h : Asc l) (k : Nat) : Asc (l.take k) := by
  have : Asc (l.take k ++ l.drop k) := by rw [List.take_append_drop]; exact h
  exact this.left
theorem pagesL_take (l : List Rg) {k : Nat} (h : k < l.length) : pagesL (l.take (k + 1)) = pagesL (l.take k) + (l[k].t - l[k].f) := by
  rw [List.take_succ_eq_append_getElem h]
  unfold pagesL
  rw [List.map_append, List.sum_append]
  simp only [List.map_cons, List.map_nil, List.sum_cons, List.sum_nil, Int.add_zero]
set_option maxRecDepth 100000 in
set_option maxHeartbeats 3200000 in
theorem pages_any (l : List Rg) (A : Option Addr) (n c : Nat) (w : World) (h : RS w A n c l) (hasc : Asc l) :
    Calls Try.prog 11 #[.slice A n c] w fun e w' => e = .returned (.int .i64 (pagesL l)) ∧ Below w.heap.size w w' := by
  have hn2 : n ≤ 9223372036854775807 := by have := h.cap; have h2 := h.max; unfold maxLen at h2; omega
  have HR := Lib.hid h
  have HN := Lib.hid h.len
  have HASC := Lib.hid hasc
  clear h hasc
  go_enter Try.func11, Try.ntmps11
  go_wp2
  go_loopw [3, 8] (fun x i wr => ∃ k : Nat, k ≤ n ∧ i = .int .i64 k ∧ x = .int .i64 (pagesL (l.take k)) ∧ Hid (Below w.heap.size w wr)) (fun _ i _ => n - (intOf i).toNat)
  case atStart => exact ⟨0, Nat.zero_le _, rfl, rfl, Lib.hid (Below.refl _ _)⟩
  case round =>
    obtain ⟨k, hk, rfl, rfl, HB⟩ := hrel
    by_cases hlt : k < n
    · have hkl : k < l.length := by rw [HN.out]; exact hlt
      obtain ⟨ad, rfl, hblt, hwf, x0, x1, x2, x3, x4, x5⟩ := (HR.out.row.below rfl HB.out).at_ hkl
      have htk := pagesL_take l hkl
      have hb1 := pages_bd (HASC.out.take k)
      have hb2 := pages_bd (HASC.out.take (k + 1))
      have hmay := HASC.out.may _ (List.getElem_mem hkl)
      obtain ⟨r, hr⟩ : ∃ r, l[k] = r := ⟨_, rfl⟩
      rw [hr] at x0 x1 x2 x3 x4 x5 htk hmay
      have HNX := Lib.hid (HB.out.alloc HB.out.size (.cells r.cs 24))
      obtain ⟨cv, hcv⟩ : ∃ cv, pagesL (l.take k) = cv := ⟨_, rfl⟩
      rw [hcv] at htk hb1 ⊢
      rw [htk] at hb2
      have HTK := Lib.hid htk
      have m1 := hmay.f
      have m2 := hmay.ft
      have m3 := hmay.t
      obtain ⟨rf, rt, rp, rk, rfl', rpg⟩ := r
      simp only at x0 x1 x2 x3 x4 x5 hb2 m1 m2 m3
      have v1 : IntKind.i64.wrap (rt - rf) = rt - rf ∧ wrap64 (rt - rf) = rt - rf := ⟨IntWalk.i64_in _ (by omega), IntWalk.wrap64_in _ (by omega)⟩
      have v2 : IntKind.i64.wrap (cv + (rt - rf)) = cv + (rt - rf) ∧ wrap64 (cv + (rt - rf)) = cv + (rt - rf) := ⟨IntWalk.i64_in _ (by omega), IntWalk.wrap64_in _ (by omega)⟩
      obtain ⟨v11, v12⟩ := v1
      obtain ⟨v21, v22⟩ := v2
      have hk0 : (0 : Int) ≤ (k : Int) := by omega
      have hk1 : (k : Int) < (n : Int) := by omega
      clear htk hb1 hb2 hmay hr hkl hwf hblt hcv m1 m2 m3
      go_wp2
      go_roundw
      case rel => exact ⟨k + 1, by omega, by go_num, by rw [HTK.out], HNX⟩
      case measure => simp [intOf]; omega
    · obtain rfl : k = n := by omega
      have h1 : l.take k = l := by rw [List.take_of_length_le]; rw [HN.out]; exact Nat.le_refl _
      rw [h1]
      go_wp2
      go_ret
      exact ⟨rfl, HB.out⟩

/-- The page of a file that a region's page is. -/
def keyR (r : Rg) (x : Int) : Option (Int × Int) := if r.k = 1 ∧ r.f ≤ x ∧ x < r.t then some (r.fl, r.pg + (x - r.f)) else none
def keyV (o : Option (Int × Int)) : Value := .agg #[.int .i64 (o.getD (0, 0)).1, .int .i64 (o.getD (0, 0)).2]

/-- The first gap, if there is one. -/
def gapO (l : List Rg) (low high n : Int) : Option Int :=
  if n < 1 ∨ min high 4096 ≤ gapA l (max low 0) n ∨ min high 4096 - gapA l (max low 0) n < n then none else some (gapA l (max low 0) n)
end Go.Proofs.Ytkfkaafddfedjac
