/- Layer 17, pure: what was built is what Read asks for. -/
import Derived.Test.YtafogipkbhglcaaJI
import Derived.Test.YtafogipkbhglcaaJX
namespace Go.Proofs.Ytafogipkbhglcaa
open Go.RowKit
set_option linter.unusedVariables false
set_option linter.unusedSimpArgs false

theorem Vw.at_ {V : ByteArray} {z y : Nat} {H : List Nat} {ts : List ByteArray} (h : Vw V z H y ts) {j v : Nat} (hj : H[j]? = some v) (hb : v < 18446744073709551616) {a : Nat} (ha : a = z + 8 * j) :
    getN V (a : Int) 8 = (v : Int) ∧ hol V.size (a : Int) 8 = true := by
  obtain ⟨hlt, e⟩ := List.getElem?_eq_some_iff.1 hj
  subst ha
  have := h.num hlt (by rw [e]; exact hb)
  rw [e] at this
  exact this
theorem app_at {α : Type} (A B : List α) (i n : Nat) (hn : A.length = n) : (A ++ B)[n + i]? = B[i]? := by
  subst hn
  rw [List.getElem?_append_right (by omega)]
  congr 1
  omega
section
variable (a : Nat) (args env : List ByteArray) (aux : List Pa)
theorem head0 : (headL a args env aux)[0]? = some args.length := by
  unfold headL
  simp
theorem headA {i : Nat} (h : i < args.length) : (headL a args env aux)[1 + i]? = some (a + tlen (args.take i)) := by
  have e : headL a args env aux = [args.length] ++ (placesL a args ++ ([0] ++ (placesL (a + tlen args) env ++ [0]) ++ auxL aux ++ [0, 0])) := by unfold headL; simp
  rw [e, app_at _ _ _ 1 rfl, List.getElem?_append_left (by rw [placesL_length]; exact h), placesL_at h]
theorem headA0 : (headL a args env aux)[1 + args.length]? = some 0 := by
  have e : headL a args env aux = ([args.length] ++ placesL a args) ++ ([0] ++ ((placesL (a + tlen args) env ++ [0]) ++ auxL aux ++ [0, 0])) := by unfold headL; simp
  have := app_at ([args.length] ++ placesL a args) ([0] ++ ((placesL (a + tlen args) env ++ [0]) ++ auxL aux ++ [0, 0])) 0 (1 + args.length) (by rw [List.length_append, placesL_length]; rfl)
  rw [e]
  rw [Nat.add_zero] at this
  rw [this]
  rfl
theorem headE {i : Nat} (h : i < env.length) : (headL a args env aux)[args.length + 2 + i]? = some (a + tlen args + tlen (env.take i)) := by
  have e : headL a args env aux = ([args.length] ++ placesL a args ++ [0]) ++ (placesL (a + tlen args) env ++ ([0] ++ auxL aux ++ [0, 0])) := by unfold headL; simp
  rw [e, app_at _ _ _ (args.length + 2) (by rw [List.length_append, List.length_append, placesL_length]; simp; omega), List.getElem?_append_left (by rw [placesL_length]; exact h), placesL_at h]
theorem headE0 : (headL a args env aux)[args.length + 2 + env.length]? = some 0 := by
  have e : headL a args env aux = ([args.length] ++ placesL a args ++ [0] ++ placesL (a + tlen args) env) ++ ([0] ++ (auxL aux ++ [0, 0])) := by unfold headL; simp
  have := app_at ([args.length] ++ placesL a args ++ [0] ++ placesL (a + tlen args) env) ([0] ++ (auxL aux ++ [0, 0])) 0 (args.length + 2 + env.length) (by simp only [List.length_append, placesL_length, List.length_singleton]; omega)
  rw [e]
  rw [Nat.add_zero] at this
  rw [this]
  rfl
theorem auxL_at : ∀ (l : List Pa) (i : Nat) (h : i < l.length), (auxL l)[2 * i]? = some l[i].t.toNat ∧ (auxL l)[2 * i + 1]? = some l[i].v.toNat
  | p :: l, 0, _ => by
    unfold auxL
    rw [List.flatMap_cons]
    exact ⟨rfl, rfl⟩
  | p :: l, i + 1, h => by
    have ih := auxL_at l i (by simpa using h)
    have e : auxL (p :: l) = [p.t.toNat, p.v.toNat] ++ auxL l := by unfold auxL; rw [List.flatMap_cons]
    have e1 := app_at [p.t.toNat, p.v.toNat] (auxL l) (2 * i) 2 rfl
    have e2 := app_at [p.t.toNat, p.v.toNat] (auxL l) (2 * i + 1) 2 rfl
    rw [e, show 2 * (i + 1) = 2 + 2 * i by omega, show 2 + 2 * i + 1 = 2 + (2 * i + 1) by omega, e1, e2]
    simpa using ih
theorem headX {j : Nat} (h : j < 2 * aux.length) : (headL a args env aux)[args.length + env.length + 3 + j]? = (auxL aux)[j]? := by
  have e : headL a args env aux = ([args.length] ++ placesL a args ++ [0] ++ placesL (a + tlen args) env ++ [0]) ++ (auxL aux ++ [0, 0]) := by unfold headL; simp
  rw [e, app_at _ _ _ (args.length + env.length + 3) (by simp only [List.length_append, placesL_length, List.length_singleton]; omega), List.getElem?_append_left (by rw [auxL_length]; exact h)]
theorem headX0 : (headL a args env aux)[args.length + env.length + 3 + 2 * aux.length]? = some 0 ∧ (headL a args env aux)[args.length + env.length + 3 + 2 * aux.length + 1]? = some 0 := by
  have e : headL a args env aux = ([args.length] ++ placesL a args ++ [0] ++ placesL (a + tlen args) env ++ [0] ++ auxL aux) ++ [0, 0] := by unfold headL; simp
  have hl : ([args.length] ++ placesL a args ++ [0] ++ placesL (a + tlen args) env ++ [0] ++ auxL aux).length = args.length + env.length + 3 + 2 * aux.length := by
    simp only [List.length_append, placesL_length, List.length_singleton, auxL_length]; omega
  have h0 := app_at ([args.length] ++ placesL a args ++ [0] ++ placesL (a + tlen args) env ++ [0] ++ auxL aux) [0, 0] 0 _ hl
  have h1 := app_at ([args.length] ++ placesL a args ++ [0] ++ placesL (a + tlen args) env ++ [0] ++ auxL aux) [0, 0] 1 _ hl
  rw [e]
  exact ⟨h0, h1⟩
end

/-- What was built is what Read asks for. -/
theorem back17 {V : ByteArray} {z T S : Nat} {args env : List ByteArray} {aux : List Pa}
    (hv : Vw V z (headL (T - (tlen args + tlen env)) args env aux) (S - rawN args env aux) (args ++ env)) (hS : rawN args env aux ≤ S) (hST : S + z ≤ T) (hT : T ≤ 300000)
    (hp1 : plainB args = true) (hp2 : plainB env = true) (hs1 : ∀ s ∈ args, s.size ≤ 1024) (hs2 : ∀ s ∈ env, s.size ≤ 1024) (haux : auxB aux = true) :
    (getN V (z : Int) 8 = ((args.length : Nat) : Int) ∧ hol V.size (z : Int) 8 = true) ∧ TxA V (T - S - z) (z + 8) args ∧ TxA V (T - S - z) (z + 8 + 8 * (args.length + 1)) env ∧ PrA V (z + 8 + 8 * (args.length + 1) + 8 * (env.length + 1)) aux := by
  have hr : rawN args env aux = 8 * (args.length + env.length + 2 * aux.length + 5) + tlen args + tlen env := rfl
  have hl := headL_length (T - (tlen args + tlen env)) args env aux
  have hp : plainB (args ++ env) = true := by
    unfold plainB at *
    rw [List.all_append, hp1, hp2]
    rfl
  have htk1 := tlen_take_le args
  have htk2 := tlen_take_le env
  refine ⟨hv.at_ (head0 _ _ _ _) (by omega) rfl, ⟨fun i hi => ?_, ?_⟩, ⟨fun i hi => ?_, ?_⟩, ⟨fun i hi => ?_, fun i hi => ?_, ?_, ?_⟩⟩
  · have h9 := htk1 i
    obtain ⟨g1, g2⟩ := hv.at_ (headA (T - (tlen args + tlen env)) args env aux hi) (by omega) (a := z + 8 + 8 * i) (by omega)
    obtain ⟨x1, x2⟩ := hv.text hp (k := i) (by rw [List.length_append]; omega) (by rw [List.getElem_append_left hi]; exact hs1 _ (List.getElem_mem hi)) (a := z + (S - (tlen args + tlen env)) + tlen (args.take i)) (by rw [hl, List.take_append_of_le_length (by omega)]; omega)
    rw [List.getElem_append_left hi] at x2
    have e : ((T - (tlen args + tlen env) + tlen (args.take i) : Nat) : Int) - ((T - S - z : Nat) : Int) = ((z + (S - (tlen args + tlen env)) + tlen (args.take i) : Nat) : Int) := by omega
    exact ⟨_, g1, g2, by omega, by omega, by rw [e]; exact x1, by rw [e]; exact x2⟩
  · exact hv.at_ (headA0 _ _ _ _) (by omega) (by omega)
  · have h9 := htk2 i
    have etk : (args ++ env).take (args.length + i) = args ++ env.take i := by
      rw [List.take_append, List.take_of_length_le (l := args) (by omega), show args.length + i - args.length = i by omega]
    obtain ⟨g1, g2⟩ := hv.at_ (headE (T - (tlen args + tlen env)) args env aux hi) (by omega) (a := z + 8 + 8 * (args.length + 1) + 8 * i) (by omega)
    obtain ⟨x1, x2⟩ := hv.text hp (k := args.length + i) (by rw [List.length_append]; omega) (by rw [List.getElem_append_right (by omega)]; exact hs2 _ (List.getElem_mem _)) (a := z + (S - (tlen args + tlen env)) + tlen args + tlen (env.take i)) (by rw [hl, etk, tlen_append]; omega)
    rw [List.getElem_append_right (by omega)] at x2
    have e : ((T - (tlen args + tlen env) + tlen args + tlen (env.take i) : Nat) : Int) - ((T - S - z : Nat) : Int) = ((z + (S - (tlen args + tlen env)) + tlen args + tlen (env.take i) : Nat) : Int) := by omega
    refine ⟨_, g1, g2, by omega, by omega, by rw [e]; exact x1, by rw [e, x2]; congr 1; omega⟩
  · exact hv.at_ (headE0 _ _ _ _) (by omega) (by omega)
  · have hm : aux[i].may = true := by
      unfold auxB at haux
      rw [List.all_eq_true] at haux
      exact haux _ (List.getElem_mem hi)
    obtain ⟨m1, m2, m3, m4⟩ := Pa.may_iff.1 hm
    obtain ⟨g1, g2⟩ := hv.at_ ((headX (T - (tlen args + tlen env)) args env aux (j := 2 * i) (by omega)).trans (auxL_at aux i hi).1) (by omega) (a := z + 8 + 8 * (args.length + 1) + 8 * (env.length + 1) + 16 * i) (by omega)
    exact ⟨_, g1, g2, by omega, by omega, by omega⟩
  · have hm : aux[i].may = true := by
      unfold auxB at haux
      rw [List.all_eq_true] at haux
      exact haux _ (List.getElem_mem hi)
    obtain ⟨m1, m2, m3, m4⟩ := Pa.may_iff.1 hm
    obtain ⟨g1, g2⟩ := hv.at_ ((headX (T - (tlen args + tlen env)) args env aux (j := 2 * i + 1) (by omega)).trans (auxL_at aux i hi).2) (by omega) (a := z + 8 + 8 * (args.length + 1) + 8 * (env.length + 1) + 16 * i + 8) (by omega)
    exact ⟨_, g1, g2, by omega, by omega⟩
  · exact hv.at_ (headX0 _ _ _ _).1 (by omega) (by omega)
  · exact ⟨0, hv.at_ (headX0 _ _ _ _).2 (by omega) (by omega)⟩
end Go.Proofs.Ytafogipkbhglcaa
