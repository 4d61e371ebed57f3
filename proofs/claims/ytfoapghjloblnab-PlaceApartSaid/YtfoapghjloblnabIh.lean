/- Package place: newRoom's ends. -/
import Derived.Test.YtfoapghjloblnabIg
import Derived.Sort.OwnSortedInts
import Derived.Lib.SlicesCompact
import Derived.Laws.EntriesVeiled
namespace Go.Proofs.Ytfoapghjloblnab
open Go.RowKit Go.ChangeShapes Go.WideShapes Go.Deep Go.Sort
set_option linter.unusedVariables false
set_option linter.unusedSimpArgs false

theorem cellAI {w : World} {a : Addr} {v : Value} (h : w.cell? a = some v) (o : Obj) : (w.alloc o).cell? a = some v := ((Below.refl _ _).alloc (Nat.le_refl _) o |>.cell (by
  rcases Nat.lt_or_ge a.block w.heap.size with h' | h'
  · exact h'
  · simp [World.cell?, Array.getElem?_eq_none h'] at h)).trans h

/-- Of a row in order what Compact keeps: each once. -/
theorem compactI {d : Array Int} (hs : ∀ i j, i < j → j < d.size → d[i]! ≤ d[j]!) : ∀ m, m < d.size → (Lib.compactUpTo d (m + 1)).Pairwise (· < ·) ∧ (∀ x ∈ Lib.compactUpTo d (m + 1), x ≤ d[m]!) ∧ (∀ j, j ≤ m → d[j]! ∈ Lib.compactUpTo d (m + 1)) ∧ ∀ x ∈ Lib.compactUpTo d (m + 1), ∃ j, j ≤ m ∧ x = d[j]!
  | 0, h => by
    rw [Lib.compactUpTo_succ, if_pos (Lib.keeps_lt_one d 0 (by omega))]
    have : Lib.compactUpTo d 0 = [] := rfl
    rw [this]
    refine ⟨by simp, by simp, fun j hj => ?_, fun x hx => ⟨0, Nat.le_refl _, by simpa using hx⟩⟩
    have : j = 0 := by omega
    subst this
    simp
  | m + 1, h => by
    obtain ⟨h1, h2, h3, h4⟩ := compactI hs m (by omega)
    rw [Lib.compactUpTo_succ]
    by_cases e : d[m + 1]! = d[m]!
    · rw [Lib.keeps_neg (by omega) (by simpa using e)]
      simp only [Bool.false_eq_true, if_false, List.append_nil]
      refine ⟨h1, fun x hx => by rw [e]; exact h2 x hx, fun j hj => ?_, fun x hx => ?_⟩
      · by_cases ej : j = m + 1
        · rw [ej, e]; exact h3 m (Nat.le_refl _)
        · exact h3 j (by omega)
      · obtain ⟨j, hj, ex⟩ := h4 x hx
        exact ⟨j, by omega, ex⟩
    · have hlt : d[m]! < d[m + 1]! := by have := hs m (m + 1) (by omega) h; omega
      rw [Lib.keeps_pos (by simpa using e), if_pos rfl]
      refine ⟨?_, fun x hx => ?_, fun j hj => ?_, fun x hx => ?_⟩
      · rw [List.pairwise_append]
        refine ⟨h1, by simp, fun a ha b hb => ?_⟩
        have := h2 a ha
        rw [List.mem_singleton.1 hb]
        omega
      · rcases List.mem_append.1 hx with hx | hx
        · have := h2 x hx; omega
        · rw [List.mem_singleton.1 hx]; exact Int.le_refl _
      · by_cases ej : j = m + 1
        · subst ej; exact List.mem_append_right _ (List.mem_singleton.2 rfl)
        · exact List.mem_append_left _ (h3 j (by omega))
      · rcases List.mem_append.1 hx with hx | hx
        · obtain ⟨j, hj, ex⟩ := h4 x hx
          exact ⟨j, by omega, ex⟩
        · exact ⟨m + 1, Nat.le_refl _, List.mem_singleton.1 hx⟩

/-- The row of a room's ends: in order, each once. -/
def endsI (L : List Int) : List Int := Lib.compact (L.mergeSort fun x y => decide (x ≤ y))
theorem endsI_all {L : List Int} (h0 : L ≠ []) : (endsI L).Pairwise (· < ·) ∧ (∀ x, x ∈ endsI L ↔ x ∈ L) ∧ (endsI L).length ≤ L.length ∧ 0 < (endsI L).length := by
  have hp : (L.mergeSort fun x y => decide (x ≤ y)).Perm L := List.mergeSort_perm _ _
  have hs : (L.mergeSort fun x y => decide (x ≤ y)).Pairwise (fun a b => decide (a ≤ b) = true) := List.pairwise_mergeSort (fun a b c h1 h2 => by simp only [decide_eq_true_eq] at *; omega) (fun a b => by simp only [Bool.or_eq_true, decide_eq_true_eq]; omega) L
  have hm : ∀ x, x ∈ (L.mergeSort fun x y => decide (x ≤ y)) ↔ x ∈ L := fun x => hp.mem_iff
  have hl := hp.length_eq
  unfold endsI
  generalize (L.mergeSort fun x y => decide (x ≤ y)) = S at hs hm hl
  have hpos : 0 < S.length := by rw [hl]; exact List.length_pos_iff.2 h0
  have hso : ∀ i j, i < j → j < S.toArray.size → S.toArray[i]! ≤ S.toArray[j]! := fun i j hij hj => by
    have hj' : j < S.length := by simpa using hj
    have := List.pairwise_iff_getElem.1 hs i j (by omega) hj' hij
    simp only [decide_eq_true_eq] at this
    rw [getElem!_pos S.toArray i (by simp; omega), getElem!_pos S.toArray j hj]
    simpa using this
  obtain ⟨h1, h2, h3, h4⟩ := compactI hso (S.length - 1) (by simp; omega)
  have e : Lib.compact S = Lib.compactUpTo S.toArray (S.length - 1 + 1) := by
    unfold Lib.compact
    congr 1
    omega
  rw [← e] at h1 h2 h3 h4
  have hat : ∀ j, j < S.length → S.toArray[j]! ∈ S := fun j hj => by
    rw [getElem!_pos S.toArray j (by simpa using hj)]
    simp
  refine ⟨h1, fun x => ⟨fun hx => ?_, fun hx => ?_⟩, by rw [← hl]; unfold Lib.compact Lib.compactUpTo; have := List.length_filter_le (Lib.keeps S.toArray) (List.range S.length); simpa using this, ?_⟩
  · obtain ⟨j, hj, rfl⟩ := h4 x hx
    exact (hm _).1 (hat j (by omega))
  · obtain ⟨j, hj, rfl⟩ := List.getElem_of_mem ((hm x).2 hx)
    have := h3 j (by omega)
    rw [getElem!_pos S.toArray j (by simpa using hj)] at this
    simpa using this
  · exact List.length_pos_iff.2 (fun e0 => by have := h3 0 (Nat.zero_le _); rw [e0] at this; cases this)
/-- .. the ends that newRoom takes. -/
def slotsI (low high : Int) (l : List (Int × Int)) : List Int := high :: (l.filter (likeR low high)).map Prod.snd
theorem slotsI_length (low high : Int) (l : List (Int × Int)) : (slotsI low high l).length ≤ l.length + 1 := by
  unfold slotsI
  have := List.length_filter_le (likeR low high) l
  simp
  omega
theorem slotsI_take {low high : Int} {l : List (Int × Int)} {k : Nat} (h : k < l.length) : slotsI low high (l.take (k + 1)) = if likeR low high l[k] = true then slotsI low high (l.take k) ++ [l[k].2] else slotsI low high (l.take k) := by
  unfold slotsI
  rw [List.take_succ_eq_append_getElem h, List.filter_append]
  by_cases hl : likeR low high l[k] = true
  · rw [if_pos hl]; simp [hl]
  · rw [if_neg hl]; simp [hl]
/-- The first of all gaps. -/
theorem gap_newI {low high : Int} {l : List (Int × Int)} (hb : BndI low high) (hl : l.all thingP = true) :
    ∃ m, 0 < m ∧ m ≤ l.length + 1 ∧ m = (endsI (slotsI low high l)).length ∧ Gap [] low high m (fun k => (endsI (slotsI low high l)).getD k 0) (fun k => if k = m - 1 then high - low else 0) ∧ ∀ x ∈ l, likeR low high x = true → ∃ k, k < m ∧ (endsI (slotsI low high l)).getD k 0 = x.2 := by
  obtain ⟨h1, h2, h3, h4⟩ := endsI_all (L := slotsI low high l) (by unfold slotsI; simp)
  have hsl := slotsI_length low high l
  have hlike : ∀ x, likeR low high x = true → x.2 % 64 = 0 ∧ low ≤ x.2 := fun x hx => by
    unfold likeR at hx
    simp only [Bool.and_eq_true, decide_eq_true_eq] at hx
    have := inn_iff.1 hx.2
    omega
  have hmem : ∀ x ∈ endsI (slotsI low high l), x % 64 = 0 ∧ low ≤ x ∧ x ≤ high := fun x hx => by
    have hx2 := (h2 x).1 hx
    unfold slotsI at hx2
    obtain ⟨b1, b2, b3, b4, b5⟩ := hb
    rcases List.mem_cons.1 hx2 with rfl | hx2
    · omega
    · obtain ⟨y, hy, rfl⟩ := List.mem_map.1 hx2
      have hy2 := (List.mem_filter.1 hy).2
      have := hlike y hy2
      have hyt := List.all_eq_true.1 hl y (List.mem_filter.1 hy).1
      unfold likeR at hy2
      simp only [Bool.and_eq_true, decide_eq_true_eq] at hy2
      have := inn_iff.1 hy2.2
      omega
  have hin : ∀ x ∈ endsI (slotsI low high l), ∃ k, k < (endsI (slotsI low high l)).length ∧ (endsI (slotsI low high l)).getD k 0 = x := fun x hx => by
    obtain ⟨k, hk, rfl⟩ := List.getElem_of_mem hx
    exact ⟨k, hk, by rw [List.getD_eq_getElem?_getD, List.getElem?_eq_getElem hk]; rfl⟩
  have hhigh := hin high ((h2 high).2 (by unfold slotsI; exact List.mem_cons_self ..))
  have hx : ∀ x ∈ l, likeR low high x = true → ∃ k, k < (endsI (slotsI low high l)).length ∧ (endsI (slotsI low high l)).getD k 0 = x.2 := fun x hx hk => by
    refine hin x.2 ((h2 _).2 ?_)
    unfold slotsI
    exact List.mem_cons_of_mem _ (List.mem_map.2 ⟨x, List.mem_filter.2 ⟨hx, hk⟩, rfl⟩)
  refine ⟨_, h4, by omega, rfl, ?_, hx⟩
  clear hx hin h2 h3 hsl hlike
  generalize endsI (slotsI low high l) = C at h1 h4 hmem hhigh
  have hget : ∀ i (hi : i < C.length), C.getD i 0 = C[i] := fun i hi => by rw [List.getD_eq_getElem?_getD, List.getElem?_eq_getElem hi]; rfl
  have hrise : ∀ i j, i < j → j < C.length → C.getD i 0 < C.getD j 0 := fun i j hij hj => by
    rw [hget i (by omega), hget j hj]
    exact List.pairwise_iff_getElem.1 h1 i j (by omega) hj hij
  refine Gap.new h4 hb.2.2.2.1 ?_ hrise (fun i hi => ?_)
  · obtain ⟨k, hk, e⟩ := hhigh
    have h5 := hmem _ (List.getElem_mem (show C.length - 1 < C.length by omega))
    rw [← hget _ (by omega)] at h5
    by_cases ek : k = C.length - 1
    · rw [← ek]; exact e
    · have := hrise k (C.length - 1) (by omega) (by omega)
      show C.getD (C.length - 1) 0 = high
      omega
  · have := hmem _ (List.getElem_mem hi)
    show C.getD i 0 % 64 = 0 ∧ low ≤ C.getD i 0
    rw [hget i hi]
    omega

theorem own_but_I {w : World} {B e n g c k : Nat} {xs : List Value} {u : Value} {p : Addr} (h : w.ownsRow B e 1 (.slice (some ⟨g, 0, none⟩) k c) n xs) (hp : g ≠ p.block) : (w.setCell p u).ownsRow B e 1 (.slice (some ⟨g, 0, none⟩) k c) n xs := by
  rcases h with ⟨h0, h1⟩
  refine ⟨h0, ?_⟩
  rcases h1 with ⟨e0, _⟩ | ⟨g', cap', cur, hv, hbg, hh, a1, a2, a3, a4⟩
  · cases e0
  · cases hv
    exact .inr ⟨g, _, cur, rfl, hbg, (Below.heap_setCell w p u g hp).trans hh, a1, a2, a3, a4⟩
/-- The room while its ends are laid. -/
structure NwI (w0 w : World) (R : Nat) (low high : Int) (A : Option Addr) (c : Nat) (L : List Int) : Prop where
  blk : Blk w (R + 1) 42 #[.int .i64 low, .int .i64 high, .slice A L.length c, .slice none 0 0, .int .i64 1]
  row : w.ownsRow R 3 1 (.slice A L.length c) L.length (L.map (Value.int .i64))
  ne : ∀ ad, A = some ad → ad.block ≠ R + 1
  bel : Below R w0 w
theorem NwI.below {w0 w w' : World} {R : Nat} {low high : Int} {A : Option Addr} {c : Nat} {L : List Int} (h : NwI w0 w R low high A c L) (hR : R ≤ w.heap.size) (hb : Below w.heap.size w w') : NwI w0 w' R low high A c L :=
  ⟨h.blk.below hb h.blk.lt, own_below h.row hb, h.ne, h.bel.trans (hb.mono hR)⟩
theorem NwI.drewN {w0 w : World} {R : Nat} {low high : Int} {A : Option Addr} {c : Nat} {L : List Int} (h : NwI w0 w R low high A c L) (n : Nat) : NwI w0 (w.drewN n) R low high A c L :=
  ⟨h.blk.drewN n, ownsRow_drewN h.row n, h.ne, belowD h.bel n⟩
theorem NwI.push {w0 w w1 : World} {R : Nat} {low high : Int} {A : Option Addr} {c : Nat} {L : List Int} {g cap : Nat} {x : Int} {o : Obj} (h : NwI w0 w R low high A c L)
    (ho : w1.ownsRow R 3 1 (.slice (some ⟨g, 0, none⟩) (L.length + 1) cap) (L.length + 1) (L.map (Value.int .i64) ++ [.int .i64 x])) (hg : ((w.alloc o).drew).grownBy w1 (Value.slice A L.length c).ownBlock) (hat : (Value.slice A L.length c).ownBlock = some g ∨ g = w.heap.size + 1) :
    NwI w0 (w1.setCell ⟨R + 1, 2, none⟩ (.slice (some ⟨g, 0, none⟩) (L.length + 1) cap)) R low high (some ⟨g, 0, none⟩) cap (L ++ [x]) ∧ w1.cell? ⟨R + 1, 2, none⟩ = some (.slice A L.length c) ∧ w1.frozen? ⟨R + 1, 2, none⟩ = false := by
  have hlt := h.blk.lt
  have hne : some (R + 1) ≠ (Value.slice A L.length c).ownBlock := fun e => by
    cases A with
    | none => cases e
    | some ad =>
      have := h.ne ad rfl
      unfold Value.ownBlock at e
      injection e with e
      exact this e.symm
  have b1 : Blk w1 (R + 1) 42 #[.int .i64 low, .int .i64 high, .slice A L.length c, .slice none 0 0, .int .i64 1] := ((h.blk.alloc o).drew).grown hg hne
  have hgR : g ≠ R + 1 := by
    rcases hat with e | e
    · intro e2
      exact hne (by rw [e, e2])
    · omega
  refine ⟨⟨?_, ?_, fun ad e => by cases e; exact hgR, ?_⟩, b1.cell 2, b1.frozen 2⟩
  · have := b1.set_ 2 (.slice (some ⟨g, 0, none⟩) (L.length + 1) cap)
    rw [List.length_append]
    exact this
  · rw [List.length_append, List.map_append]
    refine own_but_I ho ?_
    exact hgR
  · have hR : ∀ k, (Value.slice A L.length c).ownBlock = some k → R ≤ k := fun k e => by
      rcases h.row.2 with ⟨e0, _⟩ | ⟨g', cap', cur, hv, hbg, _⟩
      · rw [e0] at e; cases e
      · rw [hv] at e
        cases e
        exact hbg
    have h1 : Below R w1 (w1.setCell ⟨R + 1, 2, none⟩ (.slice (some ⟨g, 0, none⟩) (L.length + 1) cap)) := (But.setCell (But.refl (fun k => k = R + 1) w1) (p := ⟨R + 1, 2, none⟩) (.inl rfl) _).below (by have := b1.lt; omega) (fun k hk => by have hk : k = R + 1 := hk; omega)
    have h2 : Below R w w1 := (((Below.refl R w).alloc (by omega) o).drew).trans ⟨hg.os, hg.tape, hg.output, hg.size, fun k hk => hg.block k (by simp; omega) (fun e => by have := hR k e.symm; omega)⟩
    exact h.bel.trans (h2.trans h1)
end Go.Proofs.Ytfoapghjloblnab
