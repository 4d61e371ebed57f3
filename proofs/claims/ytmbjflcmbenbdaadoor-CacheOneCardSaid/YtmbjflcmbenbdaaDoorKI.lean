/- slices.Delete of one key out of a row of keys. -/
import Derived.Test.YtmbjflcmbenbdaaDoorKH
import Derived.Lib.SlicesDelete
namespace Go.Proofs.YtmbjflcmbenbdaaDoor
open Go.RowKit Go.Maps
set_option linter.unusedVariables false
set_option linter.unusedSimpArgs false

/-- Cells laid from a place on. -/
def putA (cs : Array Value) : Nat → List Value → Array Value
  | _, [] => cs
  | o, v :: r => putA (cs.setIfInBounds o v) (o + 1) r
theorem putA_mid : ∀ (vs Q P S : List Value), Q.length = vs.length → putA (P ++ Q ++ S).toArray P.length vs = (P ++ vs ++ S).toArray
  | [], Q, P, S, h => by
    obtain rfl : Q = [] := List.length_eq_zero_iff.1 (by simpa using h)
    rfl
  | v :: vs, q :: Q, P, S, h => by
    have ih := putA_mid vs Q (P ++ [v]) S (by simpa using h)
    have e : (P ++ q :: Q ++ S).toArray.setIfInBounds P.length v = (P ++ [v] ++ Q ++ S).toArray := by
      simp
    show putA ((P ++ q :: Q ++ S).toArray.setIfInBounds P.length v) (P.length + 1) vs = _
    rw [e, show P.length + 1 = (P ++ [v]).length by simp, ih]
    simp
theorem blk_setCells {g : Nat} {t : TypeId} : ∀ (vs : List Value) (o : Nat) {W : World} {cs : Array Value}, Blk W g t cs → Blk (W.setCells g o vs) g t (putA cs o vs)
  | [], _, _, _, h => h
  | v :: vs, o, W, cs, h => blk_setCells vs (o + 1) (h.set_ o v)
theorem but_setCellsK {S : Nat → Prop} {b : Nat} (hS : S b) : ∀ (vs : List Value) (o : Nat) {a w : World}, But S a w → But S a (w.setCells b o vs)
  | [], _, _, _, h => h
  | v :: vs, o, a, w, h => but_setCellsK hS vs (o + 1) (h.setCell (p := ⟨b, o, none⟩) (.inl hS) v)
theorem zeroKeyC (w : World) : (zeroValue 40).run Tryd.prog w = .ok (.agg #[.int .i64 0, .int .i64 0]) w := by kernel_rfl
/-- clear of one key's place. -/
theorem run_clear_key (w : World) (ty : TypeId) (b o c : Nat) (h0 : (w.cell? ⟨b, o, none⟩).isSome = true) (h1 : (w.cell? ⟨b, o + 1, none⟩).isSome = true) (f0 : w.frozen? ⟨b, o, none⟩ = false) (f1 : w.frozen? ⟨b, o + 1, none⟩ = false) :
    (Builtin.clear_ #[83] ty #[.slice (some ⟨b, o, none⟩) 1 c]).run Tryd.prog w = .ok (.tuple #[]) (w.setCells b o [.int .i64 0, .int .i64 0]) := by
  have hzc : (Builtin.zeroCells (Value.agg #[.int .i64 0, .int .i64 0]).cells 1).toList = [.int .i64 0, .int .i64 0] := by kernel_rfl
  have hst := run_storeCells_cells (P := Tryd.prog) b o [.int .i64 0, .int .i64 0] 0 w (fun j hj => by
    simp at hj
    rcases (show j = 0 ∨ j = 1 by omega) with rfl | rfl
    · simpa using h0
    · simpa using h1) (fun j hj => by
    simp at hj
    rcases (show j = 0 ∨ j = 1 by omega) with rfl | rfl
    · simpa using f0
    · simpa using f1) (by intro v hv; simp at hv; subst hv; rfl)
  simp only [Nat.add_zero] at hst
  simp [Builtin.clear_, run_underlying Tryd.underlying83, zeroKeyC, hzc, hst]

set_option maxRecDepth 100000 in
set_option maxHeartbeats 1600000 in
theorem delete_any {W : World} {B g cap : Nat} (A D : List Pg) (x : Pg) (h : W.ownsRow B 40 2 (.slice (some ⟨g, 0, none⟩) (A.length + D.length + 1) cap) (A.length + D.length + 1) (keyCells (A ++ x :: D))) (hl : A.length + D.length + 1 ≤ 4096) :
    Calls Tryd.prog 56 #[.slice (some ⟨g, 0, none⟩) (A.length + D.length + 1) cap, .int .i64 (A.length : Nat), .int .i64 ((A.length : Nat) + 1 : Int)] W fun e W' =>
      e = .returned (.slice (some ⟨g, 0, none⟩) (A.length + D.length) cap) ∧ W'.ownsRow B 40 2 (.slice (some ⟨g, 0, none⟩) (A.length + D.length) cap) (A.length + D.length) (keyCells (A ++ D)) ∧ But (· = g) W W' := by
  obtain ⟨i0, hi0, hz0, hz1, hz2⟩ := info_parts infoKey
  obtain ⟨hxs, h2⟩ := h
  obtain ⟨cur, hB, hg, hnc, hcm, hcs, htk⟩ : ∃ cur, B ≤ g ∧ Blk W g 40 cur ∧ A.length + D.length + 1 ≤ cap ∧ cap ≤ maxLen ∧ cur.size = cap * 2 ∧ cur.toList.take ((A.length + D.length + 1) * 2) = keyCells (A ++ x :: D) := by
    rcases h2 with ⟨h2, _⟩ | ⟨g', cap', cur, h2, hB, hg, r1, r2, r3, r4⟩
    · cases h2
    · injection h2 with e1 _ e3
      injection e1 with e1
      injection e1 with e1 _
      subst e1; subst e3
      exact ⟨cur, hB, hg, r1, r2, r3, r4⟩
  -- the cells in parts
  obtain ⟨rest, hrest⟩ : ∃ rest, cur = (keyCells A ++ ([Value.int .i64 x.f, Value.int .i64 x.q] ++ keyCells D) ++ rest).toArray := by
    have e := List.take_append_drop ((A.length + D.length + 1) * 2) cur.toList
    rw [htk] at e
    exact ⟨cur.toList.drop ((A.length + D.length + 1) * 2), Array.ext' (e.symm.trans (by simp [keyCells]))⟩
  obtain ⟨Z, hZ⟩ : ∃ Z : List Value, Z = [.int .i64 x.f, .int .i64 x.q] ++ keyCells D := ⟨_, rfl⟩
  have hkA := keyCells_length A
  have hkD := keyCells_length D
  have hZl : Z.length = (keyCells D).length + 2 := by rw [hZ]; simp
  rw [← hZ] at hrest
  have e1 : putA cur (A.length * 2) (keyCells D) = (keyCells A ++ keyCells D ++ (Z.drop (keyCells D).length ++ rest)).toArray := by
    have := putA_mid (keyCells D) (Z.take (keyCells D).length) (keyCells A) (Z.drop (keyCells D).length ++ rest) (by simp; omega)
    rw [hkA] at this
    rw [← this, hrest]
    congr 2
    rw [List.append_assoc, List.append_assoc, ← List.append_assoc (Z.take _), List.take_append_drop]
  have e2 : putA (putA cur (A.length * 2) (keyCells D)) ((A.length + D.length) * 2) [.int .i64 0, .int .i64 0] = (keyCells A ++ keyCells D ++ [Value.int .i64 0, Value.int .i64 0] ++ rest).toArray := by
    have := putA_mid [.int .i64 0, .int .i64 0] (Z.drop (keyCells D).length) (keyCells A ++ keyCells D) rest (by simp; omega)
    rw [show (keyCells A ++ keyCells D).length = (A.length + D.length) * 2 by simp; omega] at this
    rw [e1, ← List.append_assoc]
    exact this
  obtain ⟨news, hnews⟩ : ∃ news, news = keyCells D := ⟨_, rfl⟩
  have hg1 := blk_setCells (keyCells D) (A.length * 2) hg.drew
  have hg2 := blk_setCells [.int .i64 0, .int .i64 0] ((A.length + D.length) * 2) hg1
  rw [e2] at hg2
  have hcell : ∀ j u, news[j]? = some u → W.drew.cell? ⟨g, (A.length + 1) * 2 + j, none⟩ = some u := fun j u hj => by
    have hjl : j < (keyCells D).length := by rw [hnews] at hj; exact (List.getElem?_eq_some_iff.1 hj).1
    refine hg.drew.at_ _ _ ?_
    rw [hrest, hZ]
    rw [List.getElem?_toArray, List.getElem?_append_left (by simp; omega), List.getElem?_append_right (by omega), hkA, show (A.length + 1) * 2 + j - A.length * 2 = j + 2 by omega]
    rw [hnews] at hj
    simpa using hj
  have hsz1 : (putA cur (A.length * 2) (keyCells D)).size = cap * 2 := by
    rw [e1, ← hcs, hrest]; simp; omega
  have hsome : ∀ o, o < cap * 2 → (W.drew.cell? ⟨g, o, none⟩).isSome = true ∧ W.drew.frozen? ⟨g, o, none⟩ = false := fun o ho => by
    refine ⟨?_, hg.drew.frozen o⟩
    have := hg.drew.at_ o (cur[o]'(by omega)) (by simp)
    simp [this]
  have hsome1 : ∀ o, o < cap * 2 → ((W.drew.setCells g (A.length * 2) (keyCells D)).cell? ⟨g, o, none⟩).isSome = true ∧ (W.drew.setCells g (A.length * 2) (keyCells D)).frozen? ⟨g, o, none⟩ = false := fun o ho => by
    refine ⟨?_, hg1.frozen o⟩
    have := hg1.at_ o ((putA cur (A.length * 2) (keyCells D))[o]'(by omega)) (by simp)
    simp [this]
  have hcl := fun ty c => run_clear_key (W.drew.setCells g (A.length * 2) (keyCells D)) ty g ((A.length + D.length) * 2) c (hsome1 _ (by omega)).1 (hsome1 _ (by omega)).1 (hsome1 _ (by omega)).2 (hsome1 _ (by omega)).2
  have HF := Lib.hid (show ((W.drew.setCells g (A.length * 2) (keyCells D)).setCells g ((A.length + D.length) * 2) [.int .i64 0, .int .i64 0]).ownsRow B 40 2 (.slice (some ⟨g, 0, none⟩) (A.length + D.length) cap) (A.length + D.length) (keyCells (A ++ D)) ∧
      But (· = g) W ((W.drew.setCells g (A.length * 2) (keyCells D)).setCells g ((A.length + D.length) * 2) [.int .i64 0, .int .i64 0]) from by
    refine ⟨⟨by rw [keyCells_length]; simp, .inr ⟨g, cap, _, rfl, hB, hg2, by omega, hcm, ?_, ?_⟩⟩, but_setCellsK (S := (· = g)) (b := g) rfl _ _ (but_setCellsK (S := (· = g)) (b := g) rfl _ _ (But.refl _ W).drew)⟩
    · rw [← hcs, hrest]; simp; omega
    · rw [show (A.length + D.length) * 2 = (keyCells (A ++ D)).length by rw [keyCells_length]; simp]
      rw [show keyCells (A ++ D) = keyCells A ++ keyCells D by simp [keyCells]]
      show List.take _ (keyCells A ++ keyCells D ++ [Value.int .i64 0, Value.int .i64 0] ++ rest) = _
      rw [List.append_assoc (keyCells A ++ keyCells D)]
      exact List.take_left' rfl)
  have HC := Lib.hid hcell
  have HS := Lib.hid (fun o ho => hsome o ho)
  have hone : ∀ u ∈ news, u.oneCell' = true := fun u hu => by
    rw [hnews] at hu
    unfold keyCells at hu
    obtain ⟨y, _, hy⟩ := List.mem_flatMap.1 hu
    simp at hy
    rcases hy with rfl | rfl <;> rfl
  have HO := Lib.hid hone
  have hnl : news.length = D.length * 2 := by rw [hnews]; exact hkD
  have HNL := Lib.hid hnl
  rw [← hnews] at hcl HF
  obtain ⟨na, hna⟩ : ∃ n, A.length = n := ⟨_, rfl⟩
  obtain ⟨nd, hnd⟩ : ∃ n, D.length = n := ⟨_, rfl⟩
  rw [hna] at hnc hl hcl HC
  rw [hnd] at hnc hl hcl HNL
  simp only [hna, hnd] at HF ⊢
  clear hcell hsome hsome1 hone hg1 hg2 e1 e2 hsz1 hnl hna hnd hkA hkD hZl htk hcs hg hB hxs h2
  unfold maxLen at hcm
  obtain ⟨ad, hA, hsrc⟩ : ∃ ad : Addr, (if cap = na + 1 then some (⟨g, 0, none⟩ : Addr) else some ⟨g, (na + 1) * 2, none⟩) = some ad ∧ Hid (∀ t u, news[t]? = some u → W.drew.cell? (ad.add t) = some u) := by
    by_cases h : cap = na + 1
    · refine ⟨⟨g, 0, none⟩, by simp [h], Lib.hid fun t u hu => ?_⟩
      have h1 := (List.getElem?_eq_some_iff.1 hu).1
      have h2 := HNL.out
      have h3 : nd = 0 := by omega
      omega
    · refine ⟨⟨g, (na + 1) * 2, none⟩, by simp [h], Lib.hid fun t u hu => ?_⟩
      rw [Addr.add_lit]
      exact HC.out t u hu
  clear HC
  have hsp : Hid (∀ j, j < news.length → (W.drew.cell? ⟨g, 0 + na * 2 + j, none⟩).isSome = true ∧ W.drew.frozen? ⟨g, 0 + na * 2 + j, none⟩ = false) := Lib.hid fun j hj => by
    have := HNL.out
    rw [Nat.zero_add]
    exact HS.out _ (by omega)
  clear HS
  obtain ⟨W1, hW1⟩ : ∃ W1, W1 = W.drew.setCells g (na * 2) news := ⟨_, rfl⟩
  have HW1 := Lib.hid hW1
  rw [← hW1] at hcl HF
  clear hW1
  have j1 : na ≤ cap := by omega
  have j2 : na + 1 ≤ cap := by omega
  have j3 : na + nd ≤ cap := by omega
  have k1 : (0 : Int) ≤ (na : Int) + 1 := by omega
  have k2 : (na : Int) ≤ (na : Int) + (nd : Int) := by omega
  have k3 : (0 : Int) ≤ (na : Int) + (nd : Int) := by omega
  go_enter Tryd.func56, Tryd.ntmps56
  go_wp2_with fail
  go_region_law (refine step_append_room rfl (.tmp 22) (.tmp 25) 83 rfl 40 i0 2 Tryd.underlying83 hi0 hz1 g 0 na cap (by simp [Act.eval, Act.put]) ad nd (cap - (na + 1)) news (by simp [Act.eval, Act.put]) HNL.out hsrc.out HO.out (by omega) hsp.out ?_; rw [Nat.zero_add, ← HW1.out])
  go_wp2
  go_ret
  exact ⟨rfl, HF.out.1, HF.out.2⟩
end Go.Proofs.YtmbjflcmbenbdaaDoor
