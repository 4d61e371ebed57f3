/- For NeedsMany (of no program): libraries in a row, each of which needs the next one. -/
import Derived.Test.YtinbedplmbnkaacGp
namespace Go.Proofs.Ytinbedplmbnkaac
set_option linter.unusedVariables false
set_option linter.unusedSimpArgs false

def lB (i : Nat) : ByteArray := mkb [108, UInt8.ofNat i]
theorem lB_size (i : Nat) : (lB i).size = 2 := by unfold lB; rw [mkb_size]; rfl
theorem lB_inj {a b : Nat} (ha : a < 256) (hb : b < 256) (h : lB a = lB b) : a = b := by
  have h1 := mkb_inj h
  injection h1 with _ h1
  injection h1 with h1
  have h2 := congrArg UInt8.toNat h1
  rw [UInt8.toNat_ofNat', UInt8.toNat_ofNat'] at h2
  simp at h2
  omega
def chB (m i : Nat) : Lb := ⟨lB i, if i + 1 < m then [lB (i + 1)] else []⟩
def chL (m : Nat) : List Lb := (List.range m).map (chB m)
theorem chL_len (m : Nat) : (chL m).length = m := by simp [chL]
theorem chL_at {m i : Nat} (h : i < (chL m).length) : (chL m)[i] = chB m i := by simp [chL]
theorem ch_there {m i : Nat} (hm : m ≤ 256) (h : i < m) : there (chL m) (lB i) = true ∧ needOf (chL m) (lB i) = (if i + 1 < m then [lB (i + 1)] else []) := by
  have ht : there (chL m) (lB i) = true := there_of_mem (b := chB m i) (List.mem_map.2 ⟨i, by simpa using h, rfl⟩)
  refine ⟨ht, ?_⟩
  obtain ⟨hp, hn, hd⟩ := there_pos ht
  rw [chL_at] at hn hd
  have hp' := hp
  rw [chL_len] at hp'
  have e := lB_inj (by omega) (by omega) hn
  rw [hd, e]
  rfl
def chS (k : Nat) : Wk := ⟨(List.range (k + 1)).map lB, List.range (k + 1), []⟩
theorem ch_run {m : Nat} (hm : m ≤ 256) : ∀ k, k < m → runW (chL m) k (startW (chL m) (lB 0), 0) = (chS k, k)
  | 0, h => by
    have h1 := (ch_there hm h).1
    show (startW (chL m) (lB 0), 0) = _
    unfold startW meet1 chS
    rw [if_pos h1, if_neg (by simp)]
    rfl
  | k + 1, h => by
    rw [runW_add (chL m) k 1, ch_run hm k (by omega)]
    obtain ⟨_, h2⟩ := ch_there hm (show k < m by omega)
    have h3 := (ch_there hm h).1
    rw [if_pos h] at h2
    show (if k < (chS k).N.length then runW (chL m) 0 (stepW (chL m) (chS k, k)) else (chS k, k)) = _
    rw [if_pos (by simp [chS])]
    show stepW (chL m) (chS k, k) = _
    unfold stepW
    simp only
    have e1 : (chS k).N.getD k default = lB k := by simp [chS]
    have e2 : (chS k).D.getD k 0 = k := by simp [chS]
    rw [e1, e2, h2]
    have hn : lB (k + 1) ∉ (chS k).N := by
      intro hm2
      obtain ⟨j, hj, he⟩ := List.mem_map.1 hm2
      have hj' : j < k + 1 := by simpa using hj
      have := lB_inj (by omega) (by omega) he
      omega
    show (meet1 (chL m) (k + 1) (chS k) (lB (k + 1)), k + 1) = _
    unfold meet1
    rw [if_pos h3, if_neg hn]
    unfold chS
    rw [List.range_succ (n := k + 1), List.map_append]
    rfl
theorem ch_clo {m : Nat} (hm : m ≤ 256) (h0 : 0 < m) : cloW (chL m) (lB 0) = chS (m - 1) := by
  have h1 := run_clo (chL m) (lB 0) ((m - 1) + 2) (by rw [chL_len]; omega)
  have h2 := ch_run hm (m - 1) (by omega)
  rw [runW_add, h2] at h1
  obtain ⟨_, h3⟩ := ch_there hm (show m - 1 < m by omega)
  rw [if_neg (by omega)] at h3
  have hs : stepW (chL m) (chS (m - 1), m - 1) = (chS (m - 1), m - 1 + 1) := by
    unfold stepW
    simp only
    have e1 : (chS (m - 1)).N.getD (m - 1) default = lB (m - 1) := by simp [chS]
    rw [e1, h3]
    rfl
  have h4 : runW (chL m) 2 (chS (m - 1), m - 1) = (chS (m - 1), m - 1 + 1) := by
    show (if m - 1 < (chS (m - 1)).N.length then runW (chL m) 1 (stepW (chL m) (chS (m - 1), m - 1)) else _) = _
    rw [if_pos (by simp [chS]), hs, runW_stop (by simp [chS])]
  rw [h4] at h1
  injection h1 with h1 _
  exact h1.symm
theorem ch_told {m : Nat} (hm : m ≤ 256) (h0 : 0 < m) : (ordN (chL m) (lB 0)).length = (if 64 < m then 0 else m) ∧ ordE (chL m) (lB 0) = (if 64 < m then 17 else 0) ∧ rndW (chL m) (lB 0) = false ∧ depW (chL m) (lB 0) (lB (m - 1)) = ((m - 1 : Nat) : Int) := by
  have hc := ch_clo hm h0
  have hl : (chS (m - 1)).N.length = m := by simp [chS]; omega
  have hE : ordE (chL m) (lB 0) = (if 64 < m then 17 else 0) := by
    unfold ordE
    rw [hc, hl, if_neg (by omega)]
    have : (chS (m - 1)).M.length = 0 := rfl
    rw [this]
    by_cases h : 64 < m
    · rw [if_pos (.inr h), if_pos h]
    · rw [if_neg (by omega), if_neg h]
  refine ⟨?_, hE, ?_, ?_⟩
  · unfold ordN
    rw [hE, hc]
    by_cases h : 64 < m
    · rw [if_pos h, if_pos h, if_neg (by decide)]; rfl
    · rw [if_neg h, if_neg h, if_pos rfl, hl]
  · cases hr : rndW (chL m) (lB 0) with
    | false => rfl
    | true =>
      obtain ⟨x, hx, z, hz, _, hzx⟩ := (rndW_iff _ _).1 hr
      rw [hc] at hx
      obtain ⟨i, hi, rfl⟩ := List.mem_map.1 hx
      have hi' : i < m := by
        have : i < m - 1 + 1 := by simpa using hi
        omega
      rw [(ch_there hm hi').2] at hz
      have key : ∀ y, Rt (chL m) z y → ∃ b, i + 1 ≤ b ∧ b < m ∧ y = lB b := by
        intro y h
        induction h with
        | refl =>
          split at hz
          · rename_i h1; exact ⟨i + 1, Nat.le_refl _, h1, by simpa using hz⟩
          · simp at hz
        | step _ hc' _ ih =>
          obtain ⟨b, h1, h2, rfl⟩ := ih
          rw [(ch_there hm h2).2] at hc'
          split at hc'
          · rename_i h3; exact ⟨b + 1, by omega, h3, by simpa using hc'⟩
          · simp at hc'
      obtain ⟨b, h1, h2, h3⟩ := key _ hzx
      have := lB_inj (by omega) (by omega) h3
      omega
  · unfold depW
    rw [hc]
    have hm2 : lB (m - 1) ∈ (chS (m - 1)).N := List.mem_map.2 ⟨m - 1, by simp, rfl⟩
    rw [if_pos hm2]
    have hix := idx_at hm2
    have hlt := idx_lt hm2
    obtain ⟨j, hj⟩ : ∃ j, (chS (m - 1)).N.idxOf (lB (m - 1)) = j := ⟨_, rfl⟩
    simp only [hj] at hix hlt ⊢
    have e1 : (chS (m - 1)).N[j] = lB j := by simp [chS]
    rw [e1] at hix
    rw [hl] at hlt
    have e2 := lB_inj (by omega) (by omega) hix
    rw [e2]
    simp [chS]
end Go.Proofs.Ytinbedplmbnkaac
