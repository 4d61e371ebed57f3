/- Layer 11: relocations that may be, made by their rests; a row of relocations of one's own that is written to. -/
import Derived.Test.YtpkjaacklfiblaaZG
namespace Go.Proofs.Ytpkjaacklfiblaa
open Go.RowKit
set_option linter.unusedVariables false
set_option linter.unusedSimpArgs false

/-- A row of one's own that is there. -/
theorem own_thereZ {w : World} {B n : Nat} {v : Value} {s : Rl} {l : List Rl} (h : w.ownsRow B 23 4 v n (rlCells (s :: l))) : ∃ g cap, v = .slice (some ⟨g, 0, none⟩) n cap ∧ B ≤ g ∧ g < w.heap.size ∧ n = l.length + 1 ∧ n ≤ cap ∧ cap ≤ maxLen ∧
    (∀ j, j < 4 → w.cell? ⟨g, j, none⟩ = (s.cs)[j]?) ∧ ∀ j, w.frozen? ⟨g, j, none⟩ = false := by
  have hl := h.1
  rw [rlCells_length, List.length_cons] at hl
  rcases h.2 with ⟨_, h0⟩ | ⟨g, cap, cur, rfl, hbg, hg, h1, h2, _, ht⟩
  · omega
  · refine ⟨g, cap, rfl, hbg, (show Blk w g _ cur from hg).lt, by omega, h1, h2, fun j hj => ?_, fun j => (show Blk w g _ cur from hg).frozen j⟩
    rw [(show Blk w g _ cur from hg).cell]
    have h1 := rlCells_at (s :: l) 0 (by simp) j hj
    rw [← ht, List.getElem?_take, if_pos (by omega)] at h1
    simpa using h1
theorem own_setZ {w : World} {B e size n g cap : Nat} {xs : List Value} (h : w.ownsRow B e size (.slice (some ⟨g, 0, none⟩) n cap) n xs) (j : Nat) (u : Value) : (w.setCell ⟨g, j, none⟩ u).ownsRow B e size (.slice (some ⟨g, 0, none⟩) n cap) n (xs.set j u) := by
  refine ⟨by rw [List.length_set]; exact h.1, ?_⟩
  rcases h.2 with ⟨h0, _⟩ | ⟨g2, cap2, cur, hv, hbg, hg, h1, h2, h3, ht⟩
  · cases h0
  · injection hv with e1 e2 e3
    injection e1 with e1
    injection e1 with e1 _ _
    subst e1 e3
    refine .inr ⟨g, cap, cur.setIfInBounds j u, rfl, hbg, (show Blk w g e cur from hg).set_ j u, h1, h2, by rw [Array.size_setIfInBounds]; exact h3, ?_⟩
    rw [Array.toList_setIfInBounds, List.take_set, ht]
theorem own_butZ {S : Nat → Prop} {w w' : World} {B e size n : Nat} {v : Value} {xs : List Value} (h : w.ownsRow B e size v n xs) (hb : But S w w') (hS : ∀ k, v.ownBlock = some k → ¬ S k) : w'.ownsRow B e size v n xs := by
  obtain ⟨h1, h2⟩ := h
  refine ⟨h1, ?_⟩
  rcases h2 with h2 | ⟨g, cap, cur, rfl, hB, hg, r⟩
  · exact .inl h2
  · exact .inr ⟨g, cap, cur, rfl, hB, (hb.block g (Array.getElem?_eq_some_iff.1 hg).1 (hS g rfl)).trans hg, r⟩
theorem own_farZ {w : World} {B e size n : Nat} {v : Value} {xs : List Value} (h : w.ownsRow B e size v n xs) {p : Addr} (hp : v.ownBlock ≠ some p.block) (u : Value) : (w.setCell p u).ownsRow B e size v n xs :=
  own_butZ h ((But.refl (· = p.block) w).setCell (.inl rfl) u) (fun k hk e => hp (by rw [hk, e]))

def kndB (j : Nat) : Int := if j = 0 then 1 else if j = 1 then 6 else if j = 2 then 7 else 8
theorem kndB_at {j : Nat} (h : j < 4) : (#[.int .i64 1, .int .i64 6, .int .i64 7, .int .i64 8] : Array Value)[j]? = some (.int .i64 (kndB j)) := by
  unfold kndB
  match j, h with
  | 0, _ | 1, _ | 2, _ | 3, _ => rfl
/-- A relocation that may be in a view of n bytes, by the rests of another one. -/
def backR (n : Int) (r : Rl) : Rl := ⟨(r.p.tmod (n - 7) + n - 7).tmod (n - 7), kndB (r.k % 4).toNat, if (r.k % 4).toNat = 3 then 0 else 1 + r.s % 1024, r.a⟩
theorem back_in (n : Int) (h : 300 ≤ n ∧ n ≤ 555) (z : Int) : (-(n - 7) < z.tmod (n - 7) ∧ z.tmod (n - 7) < n - 7) ∧ 0 ≤ (z.tmod (n - 7) + n - 7).tmod (n - 7) ∧ (z.tmod (n - 7) + n - 7).tmod (n - 7) < n - 7 := by
  have h1 : -(n - 7) < z.tmod (n - 7) := Int.lt_tmod_of_pos z (by omega)
  have h2 : z.tmod (n - 7) < n - 7 := Int.tmod_lt_of_pos z (by omega)
  exact ⟨⟨h1, h2⟩, Int.tmod_nonneg _ (by omega), Int.tmod_lt_of_pos _ (by omega)⟩
theorem kndB_in (j : Nat) : 1 ≤ kndB j ∧ kndB j ≤ 8 := by
  unfold kndB
  split
  · omega
  · split
    · omega
    · split <;> omega
theorem backR_fits (n : Int) (h : 300 ≤ n ∧ n ≤ 555) (r : Rl) (hr : r.wf) : (backR n r).fits := by
  obtain ⟨-, h3, h4⟩ := back_in n h r.p
  have hk := kndB_in (r.k % 4).toNat
  refine ⟨h3, ?_, ?_, ?_, ?_, ?_, hr.a⟩
  · show (r.p.tmod (n - 7) + n - 7).tmod (n - 7) ≤ _; omega
  · show 0 ≤ kndB _; omega
  · show kndB _ < _; omega
  · unfold backR; simp only; split <;> omega
  · unfold backR; simp only; split <;> omega
theorem backR_may (n : Int) (h : 300 ≤ n ∧ n ≤ 555) (r : Rl) : (backR n r).may n = true := by
  obtain ⟨-, h3, h4⟩ := back_in n h r.p
  have hi : inn (backR n r).p 8 n = true := by rw [inn_iff]; show 0 ≤ (r.p.tmod (n - 7) + n - 7).tmod (n - 7) ∧ _; unfold backR; simp only; omega
  unfold Rl.may
  rw [hi, Bool.and_true]
  unfold Rl.asks backR kndB
  simp only
  have hj : (r.k % 4).toNat = 0 ∨ (r.k % 4).toNat = 1 ∨ (r.k % 4).toNat = 2 ∨ (r.k % 4).toNat = 3 := by omega
  rcases hj with e | e | e | e <;> simp [e] <;> omega
def mLB (n : Int) (l : List Rl) (k : Nat) : List Rl := (l.take k).map (backR n)
theorem mLB_length (n : Int) (l : List Rl) {k : Nat} (h : k ≤ l.length) : (mLB n l k).length = k := by simp [mLB]; omega
theorem mLB_succ (n : Int) (l : List Rl) {k : Nat} (h : k < l.length) : mLB n l (k + 1) = mLB n l k ++ [backR n l[k]] := by
  unfold mLB
  rw [List.take_succ_eq_append_getElem h, List.map_append]
  rfl
theorem mLB_fits (n : Int) (h : 300 ≤ n ∧ n ≤ 555) (l : List Rl) (hl : ∀ r ∈ l, r.wf) (k : Nat) : ∀ r ∈ mLB n l k, r.fits ∧ r.may n = true := fun r hr => by
  obtain ⟨q, hq, rfl⟩ := List.mem_map.1 hr
  exact ⟨backR_fits n h q (hl q (List.mem_of_mem_take hq)), backR_may n h q⟩
def viewB (n : Nat) (ms : List Rl) : ByteArray := mkb (rlBytes ms ++ List.replicate (n - 24 * ms.length) 0)
theorem viewB_size (n : Nat) (ms : List Rl) (h : 24 * ms.length ≤ n) : (viewB n ms).size = n := by unfold viewB; rw [mkb_size, List.length_append, rlBytes_length, List.length_replicate]; omega
theorem fillB (n : Nat) (ms : List Rl) (h : 24 * ms.length ≤ n) : fillS (mkb (rlBytes ms)) (n : Int) = viewB n ms := by
  rw [fill_bytesZ _ _ (by rw [rlBytes_length]; exact h), rlBytes_length]
  rfl
theorem back_read (n : Nat) (ms : List Rl) (hl : 24 * ms.length ≤ n) (h : ∀ r ∈ ms, r.fits ∧ r.may n = true) : relL (viewB n ms) 0 (24 * (ms.length : Int)) = ms ∧ relE (viewB n ms) 0 (24 * (ms.length : Int)) = 0 := by
  have e0 : (24 * (ms.length : Int) / 24).toNat = ms.length := by omega
  have e1 : rlsAt (viewB n ms) 0 ms.length = ms := by
    have := rlsAt_written ms (List.replicate (n - 24 * ms.length) 0) (fun r hr => (h r hr).1) (Nat.le_refl _)
    rw [List.take_of_length_le (Nat.le_refl _)] at this
    exact this
  have e2 : rlOk (viewB n ms) 0 ms.length = true := by
    unfold rlOk
    rw [e1, List.all_eq_true, viewB_size n ms hl]
    exact fun r hr => (h r hr).2
  have e3 : inn 0 (24 * (ms.length : Int)) (viewB n ms).size = true := by rw [inn_iff, viewB_size n ms hl]; omega
  have h3 := rel_yes (s := viewB n ms) (f := 0) (z := 24 * (ms.length : Int)) (by omega) e3 (by rw [e0]; exact e2)
  rw [e0, e1] at h3
  exact h3
theorem back_short (V : ByteArray) (k : Nat) (hk : 0 < k) : relE V 0 (24 * (k : Int) - 1) = 17 := (rel_no (by omega) (fun x => by have := x.1; omega)).2
theorem back_far (n : Nat) (hn : 300 ≤ n ∧ n ≤ 555) (r : Rl) (hr : r.fits) (hp : r.p = (n : Int) - 7) : relE (viewB n [r]) 0 24 = 17 := by
  have e1 : rlsAt (viewB n [r]) 0 1 = [r] := by
    have := rlsAt_written [r] (List.replicate (n - 24 * [r].length) 0) (by simpa using hr) (k := 1) (by simp)
    exact this
  have e2 : rlOk (viewB n [r]) 0 1 = false := by
    unfold rlOk
    rw [e1, viewB_size n [r] (by simp; omega)]
    have hi : inn r.p 8 (n : Int) = false := by
      cases e : inn r.p 8 (n : Int)
      · rfl
      · rw [inn_iff] at e; omega
    simp only [List.all_cons, List.all_nil, Bool.and_true]
    unfold Rl.may
    rw [hi, Bool.and_false]
  exact (rel_no (by omega) (fun x => by
    have h3 := x.2.2
    rw [show ((24 : Int) / 24).toNat = 1 from rfl, e2] at h3
    exact absurd h3 (by simp))).2
end Go.Proofs.Ytpkjaacklfiblaa
