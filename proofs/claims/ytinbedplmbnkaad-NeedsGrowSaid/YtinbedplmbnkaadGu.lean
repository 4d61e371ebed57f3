/- Layer 12: the names of a Spec's list; one of them picked. -/
import Derived.Test.YtinbedplmbnkaadGs
import Derived.Test.YtinbedplmbnkaadGt
namespace Go.Proofs.Ytinbedplmbnkaad
open Go.RowKit
set_option linter.unusedVariables false
set_option linter.unusedSimpArgs false

theorem spec_there {nd : List (List Int)} {m i : Nat} (hm : m ≤ 16) (h : i < m) : there (specL nd m) (nameN i) = true ∧ posL (specL nd m) (nameN i) = i ∧ needOf (specL nd m) (nameN i) = (specB nd i).need := by
  have ht : there (specL nd m) (nameN i) = true := there_of_mem (b := specB nd i) (List.mem_map.2 ⟨i, by simpa using h, rfl⟩)
  obtain ⟨hp, hn, hd⟩ := there_pos ht
  rw [specL_at] at hn hd
  have hp' := hp
  rw [specL_len] at hp'
  have e := nameN_inj (by omega) (by omega) hn
  exact ⟨ht, e, by rw [hd, e]⟩
theorem spec_name {nd : List (List Int)} {m : Nat} {s : ByteArray} (h : there (specL nd m) s = true) : ∃ i, i < m ∧ s = nameN i := by
  obtain ⟨hp, hn, _⟩ := there_pos h
  rw [specL_at] at hn
  rw [specL_len] at hp
  exact ⟨_, hp, hn.symm⟩
/-- A letter's place. -/
theorem nameN_at {i : Nat} (hi : i < 16) (v : World) : (Instr.index 9 (.string (nameN i)) (.int .i64 0)).run Try.prog v = .ok (.int .u8 ((97 + i : Nat) : Int)) v := by
  rw [run_index_string (P := Try.prog) v 9 (nameN i) .i64 0 Try.underlying9, dif_pos ⟨by omega, by rw [nameN_size]; omega⟩]
  have e : ∀ (h : (0 : Int).toNat < (nameN i).size), (nameN i)[(0 : Int).toNat].toNat = 97 + i := fun h => by
    show (UInt8.ofNat (97 + i)).toNat = _
    rw [UInt8.toNat_ofNat']
    simp
    omega
  rw [e]
/-- One of the first n, by any number. -/
def pickG (n : Nat) (x : Int) : Nat := ((x.tmod n + n).tmod n).toNat
theorem pickG_eq {n : Nat} (h : 0 < n) (hn : n ≤ 16) (x : Int) : ∃ t0 t1 : Int, x.tmod (n : Int) = t0 ∧ t0 + (n : Int) = t1 ∧ IntKind.i64.wrap (t0 + (n : Int)) = t1 ∧ t1.tmod (n : Int) = ((pickG n x : Nat) : Int) ∧ pickG n x < n ∧ wrap64 t0 = t0 ∧ IntKind.i64.wrap t0 = t0 ∧ wrap64 ((pickG n x : Nat) : Int) = ((pickG n x : Nat) : Int) := by
  have h1 := Int.tmod_lt_of_pos x (show (0 : Int) < n by omega)
  have h2 := Int.lt_tmod_of_pos x (show (0 : Int) < n by omega)
  have h3 := Int.tmod_lt_of_pos (x.tmod n + n) (show (0 : Int) < n by omega)
  have h4 := Int.tmod_nonneg (a := x.tmod n + n) (n : Int) (by omega)
  have h5 : (((pickG n x : Nat) : Int)) = (x.tmod n + n).tmod n := by unfold pickG; omega
  refine ⟨x.tmod n, x.tmod n + n, rfl, rfl, IntWalk.i64_in _ (by omega), h5.symm, by omega, IntWalk.wrap64_in _ (by omega), IntWalk.i64_in _ (by omega), IntWalk.wrap64_in _ (by omega)⟩
/-- What is told of a root of a Spec's list. -/
theorem spec_ord {nd : List (List Int)} {m rr : Nat} (hm : m ≤ 16) (h : rr < m) :
    (ordE (specL nd m) (nameN rr) = 0 ∨ (ordE (specL nd m) (nameN rr) = 17 ∧ 0 < (cloW (specL nd m) (nameN rr)).M.length)) ∧ 0 < (cloW (specL nd m) (nameN rr)).N.length ∧ (cloW (specL nd m) (nameN rr)).N.length ≤ m ∧ (∀ x ∈ (cloW (specL nd m) (nameN rr)).N, ∃ i, i < m ∧ x = nameN i) := by
  obtain ⟨ht, _, _⟩ := spec_there (nd := nd) hm h
  have hI := clo_inv (specL nd m) (nameN rr)
  have hmany := hI.many
  rw [specL_len] at hmany
  have hn0 : (cloW (specL nd m) (nameN rr)).N.length ≠ 0 := fun h => by rw [clo_empty] at h; rw [h] at ht; cases ht
  refine ⟨?_, by omega, hmany, fun x hx => spec_name (hI.th x hx)⟩
  unfold ordE
  rw [if_neg hn0]
  by_cases hM : 0 < (cloW (specL nd m) (nameN rr)).M.length
  · rw [if_pos (.inl hM)]; exact .inr ⟨rfl, hM⟩
  · rw [if_neg (by omega)]; exact .inl rfl
end Go.Proofs.Ytinbedplmbnkaad
