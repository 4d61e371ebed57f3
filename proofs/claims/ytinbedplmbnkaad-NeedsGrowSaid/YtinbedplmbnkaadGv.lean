/- For NeedsGrow (of no program): a Spec's list, longer by one. -/
import Derived.Test.YtinbedplmbnkaadGu
namespace Go.Proofs.Ytinbedplmbnkaad
open Go.RowKit
set_option linter.unusedVariables false
set_option linter.unusedSimpArgs false

def newB : ByteArray := ⟨#[110, 101, 119]⟩
theorem newB_size : newB.size = 3 := rfl
theorem newB_ne (k : Nat) : nameN k ≠ newB := fun e => by
  have := congrArg ByteArray.size e
  rw [nameN_size, newB_size] at this
  omega
def L1 (L : List Lb) (r : ByteArray) : List Lb := L ++ [⟨newB, [r]⟩]
def L2 (L : List Lb) (r : ByteArray) (k : Nat) : List Lb := L.set k ⟨nameN k, needOf L (nameN k) ++ [newB]⟩ ++ [⟨newB, [r]⟩]
theorem grow_one {nd : List (List Int)} {m q : Nat} (hm : m ≤ 16) (h : q < m) : ordE (L1 (specL nd m) (nameN q)) (nameN q) = ordE (specL nd m) (nameN q) ∧ ordN (L1 (specL nd m) (nameN q)) (nameN q) = ordN (specL nd m) (nameN q) := by
  have hc : cloW (L1 (specL nd m) (nameN q)) (nameN q) = cloW (specL nd m) (nameN q) := by
    refine grow_none (newB_ne q) ?_ ?_
    · intro b hb
      obtain ⟨i, _, rfl⟩ := List.mem_map.1 hb
      exact newB_ne i
    · intro b hb z hz
      obtain ⟨i, _, rfl⟩ := List.mem_map.1 hb
      obtain ⟨x, _, rfl⟩ := List.mem_map.1 hz
      exact newB_ne _
  have hE : ordE (L1 (specL nd m) (nameN q)) (nameN q) = ordE (specL nd m) (nameN q) := by unfold ordE; rw [hc]
  refine ⟨hE, ?_⟩
  unfold ordN
  rw [hE, hc]
theorem there_set {L : List Lb} {k : Nat} {b : Lb} (hk : k < L.length) (hb : b.name = L[k].name) (s : ByteArray) : there (L.set k b) s = there L s := by
  cases h : there L s with
  | true =>
    obtain ⟨hp, hn, _⟩ := there_pos h
    have hm : (L.set k b)[posL L s]'(by simpa using hp) ∈ L.set k b := List.getElem_mem _
    have := there_of_mem hm
    rw [List.getElem_set] at this
    split at this
    · rename_i e
      rw [hb] at this
      subst e
      rw [hn] at this
      exact this
    · rw [hn] at this
      exact this
  | false =>
    cases h' : there (L.set k b) s with
    | false => rfl
    | true =>
      obtain ⟨hp, hn, _⟩ := there_pos h'
      rw [List.getElem_set] at hn
      have hp2 : posL (L.set k b) s < L.length := by simpa using hp
      split at hn
      · rw [hb] at hn
        exact absurd hn (there_no h _ (List.getElem_mem hk))
      · exact absurd hn (there_no h _ (List.getElem_mem hp2))
theorem grow_two {nd : List (List Int)} {m q k : Nat} (hm : m ≤ 16) (h : q < m) (hk : k < m) (hE : ordE (specL nd m) (nameN q) = 0)
    (hl : (cloW (specL nd m) (nameN q)).N[(cloW (specL nd m) (nameN q)).N.length - 1]? = some (nameN k)) :
    ordE (L2 (specL nd m) (nameN q) k) (nameN q) = 0 ∧ ordN (L2 (specL nd m) (nameN q) k) (nameN q) = ordN (specL nd m) (nameN q) ++ [newB] ∧ rndW (L2 (specL nd m) (nameN q) k) (nameN q) = true := by
  obtain ⟨_, d2, d3, _⟩ := spec_ord (nd := nd) hm h
  have hth := fun i (hi : i < m) => spec_there (nd := nd) hm hi
  have hlen := specL_len nd m
  obtain ⟨L, hL⟩ : ∃ L, specL nd m = L := ⟨_, rfl⟩
  have hnames : ∀ i (hi : i < L.length), L[i].name = nameN i := fun i hi => by subst hL; rw [specL_at]; rfl
  have hnew : there L newB = false := by
    cases hq : there L newB with
    | false => rfl
    | true =>
      obtain ⟨hp, hn, _⟩ := there_pos hq
      rw [hnames] at hn
      exact absurd hn (newB_ne _)
  have hneeds : ∀ x, ∀ z ∈ needOf L x, z ≠ newB := by
    intro x z hz
    obtain ⟨b, hb, hz⟩ := needOf_mem hz
    rw [← hL] at hb
    obtain ⟨i, _, rfl⟩ := List.mem_map.1 hb
    obtain ⟨y, _, rfl⟩ := List.mem_map.1 hz
    exact newB_ne _
  rw [hL] at hlen hE hl hth d2 d3 ⊢
  have hM : (cloW L (nameN q)).M = [] := by
    unfold ordE at hE
    split at hE
    · cases hE
    · split at hE
      · cases hE
      · rename_i h1
        exact List.length_eq_zero_iff.1 (by omega)
  obtain ⟨g1, g2, g3⟩ := hth q h
  obtain ⟨k1, k2, k3⟩ := hth k hk
  have hkL : k < L.length := by omega
  obtain ⟨b, hb⟩ : ∃ b : Lb, (⟨nameN k, needOf L (nameN k) ++ [newB]⟩ : Lb) = b := ⟨_, rfl⟩
  have hbn : b.name = L[k].name := by rw [← hb, hnames]
  have hts := there_set hkL hbn
  have hneed : ∀ s, there L s = true → needOf (L.set k b) s = if s = nameN k then needOf L (nameN k) ++ [newB] else needOf L s := by
    intro s hs
    have hs2 : there (L.set k b) s = true := by rw [hts]; exact hs
    obtain ⟨p1, p2, p3⟩ := there_pos hs
    obtain ⟨r1, r2, r3⟩ := there_pos hs2
    have hp2 : posL (L.set k b) s < L.length := by simpa using r1
    rw [List.getElem_set] at r2 r3
    by_cases e : s = nameN k
    · rw [if_pos e]
      split at r2
      · rename_i e2
        rw [r3, if_pos e2, ← hb]
      · rename_i e2
        rw [hnames] at r2
        exact absurd (nameN_inj (by omega) (by omega) (r2.trans e)).symm e2
    · rw [if_neg e]
      split at r2
      · rename_i e2
        rw [hbn, hnames] at r2
        exact absurd r2.symm e
      · rename_i e2
        rw [r3, if_neg e2, p3]
        rw [hnames] at r2 p2
        have := nameN_inj (by omega) (by omega) (r2.trans p2.symm)
        simp only [this]
  have hL2 : L2 L (nameN q) k = L.set k b ++ [⟨newB, [nameN q]⟩] := by unfold L2; rw [hb]
  rw [hL2]
  have hth2 : ∀ z, there (L.set k b ++ [⟨newB, [nameN q]⟩]) z = (there L z || decide (z = newB)) := by
    intro z
    rw [there_snoc, hts]
    congr 1
    simp only [eq_comm]
  obtain ⟨d, hd⟩ := grow_last (L2 := L.set k b ++ [⟨newB, [nameN q]⟩]) (y := nameN k) (nw := newB) (e := 0) hM g1 hth2 hnew hl
    (by rw [(there_other (b := ⟨newB, [nameN q]⟩) (newB_ne k)).2, hneed _ k1, if_pos rfl])
    (fun z hz hzk => by
      have hzn : z ≠ newB := fun e => by rw [e, hnew] at hz; cases hz
      rw [(there_other (b := ⟨newB, [nameN q]⟩) hzn).2, hneed _ hz, if_neg hzk])
    (by
      unfold needOf
      rw [findL_snoc]
      have : findL (L.set k b) newB = none := by
        have h1 := hts newB
        rw [hnew] at h1
        unfold there at h1
        simpa using h1
      rw [this]
      simp)
    hneeds
  have hE2 : ordE (L.set k b ++ [⟨newB, [nameN q]⟩]) (nameN q) = 0 := by
    unfold ordE
    rw [hd]
    rw [if_neg (by simp), if_neg (by simp; omega)]
  refine ⟨hE2, ?_, ?_⟩
  · unfold ordN
    rw [hE2, hE, if_pos rfl, if_pos rfl, hd]
  · rw [rndW_iff]
    have hr2 : there (L.set k b ++ [⟨newB, [nameN q]⟩]) (nameN q) = true := by rw [hth2, g1]; rfl
    have hnm : newB ∈ (cloW (L.set k b ++ [⟨newB, [nameN q]⟩]) (nameN q)).N := by rw [hd]; simp
    refine ⟨newB, hnm, nameN q, ?_, hr2, (mem_clo hr2).1 hnm⟩
    unfold needOf
    rw [findL_snoc]
    have : findL (L.set k b) newB = none := by
      have h1 := hts newB
      rw [hnew] at h1
      unfold there at h1
      simpa using h1
    rw [this]
    simp
end Go.Proofs.Ytinbedplmbnkaad
