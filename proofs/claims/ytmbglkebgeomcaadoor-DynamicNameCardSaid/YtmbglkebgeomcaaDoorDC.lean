/- Package dynamic: say. -/
import Derived.Test.YtmbglkebgeomcaaDoorDB
import Derived.Test.YtmbglkebgeomcaaDoorRowI
import Derived.Deep.AppendLies
import Derived.Maps.OwnOps
namespace Go.Proofs.YtmbglkebgeomcaaDoor
open Go.RowKit
set_option linter.unusedVariables false
set_option linter.unusedSimpArgs false

def dints (l : List Int) : List Value := l.map (Value.int .i64)
theorem dints_length (l : List Int) : (dints l).length = l.length := by simp [dints]
theorem dints_snoc (l : List Int) (n : Int) : dints (l ++ [n]) = dints l ++ [.int .i64 n] := by simp [dints]
/-- A call's own row of ints, read. -/
theorem intRow_own {w : World} {lo n : Nat} {v : Value} {l : List Int} (h : w.ownsRow lo 3 1 v n (dints l)) (hw : ∀ z ∈ l, (Lit.int .i64 z).wf = true) : n = l.length ∧ ∃ A c, v = .slice A l.length c ∧ IntRow w A l := by
  have hl := h.1
  rw [dints_length] at hl
  obtain rfl : n = l.length := by omega
  refine ⟨rfl, ?_⟩
  rcases h.2 with ⟨rfl, h0⟩ | ⟨g, cap, cur, rfl, hbg, hg, _, _, _, ht⟩
  · have : l = [] := List.length_eq_zero_iff.1 h0
    subst this
    exact ⟨none, 0, rfl, fun i hi => absurd hi (by simp)⟩
  · refine ⟨_, cap, rfl, fun i hi => ⟨⟨g, 0, none⟩, rfl, (show Blk w g _ cur from hg).lt, ?_, hw _ (List.getElem_mem hi)⟩⟩
    have h1 : (dints l)[i]? = some (.int .i64 l[i]) := by simp [dints, hi]
    rw [← ht, List.getElem?_take, if_pos (by omega)] at h1
    have e : (⟨g, 0, none⟩ : Addr).add i = ⟨g, i, none⟩ := by unfold Addr.add; split <;> simp_all
    rw [e, (show Blk w g _ cur from hg).cell]
    simpa using h1

theorem cell_one (w : World) (x : Value) (t : TypeId) : ∀ j u, [x][j]? = some u → (w.alloc (.cells #[x] t)).cell? ((⟨w.heap.size, 0, none⟩ : Addr).add j) = some u := fun j u hj => by
  rw [show (⟨w.heap.size, 0, none⟩ : Addr).add j = ⟨w.heap.size, j, none⟩ by unfold Addr.add; split <;> simp_all]
  exact (Blk.new w _ _).at_ j u (by simpa using hj)
theorem own_butD {S : Nat → Prop} {w w' : World} {B e size n : Nat} {v : Value} {xs : List Value} (h : w.ownsRow B e size v n xs) (hb : But S w w') (hS : ∀ k, v.ownBlock = some k → ¬ S k) : w'.ownsRow B e size v n xs := by
  obtain ⟨h1, h2⟩ := h
  refine ⟨h1, ?_⟩
  rcases h2 with h2 | ⟨g, cap, cur, rfl, hB, hg, r⟩
  · exact .inl h2
  · exact .inr ⟨g, cap, cur, rfl, hB, (hb.block g (Array.getElem?_eq_some_iff.1 hg).1 (hS g rfl)).trans hg, r⟩
theorem own_setD {w : World} {B e size n : Nat} {v : Value} {xs : List Value} (h : w.ownsRow B e size v n xs) {p : Addr} (hp : p.block < B) (u : Value) : (w.setCell p u).ownsRow B e size v n xs :=
  own_butD h ((But.refl (· = p.block) w).setCell (.inl rfl) u) (fun k hk e => by have := (h.lt k hk).1; omega)
/-- d, told one thing more. -/
def Dyn.say (d : Dyn) (t n : Int) : Dyn := if t = 1 then ⟨d.needed ++ [n], d.f⟩ else ⟨d.needed, fun j => if j = fldI t ∧ fldI t ≠ 0 then n else d.f j⟩
theorem Dyn.set_ (d : Dyn) (v : Value) (n : Int) {j : Nat} (h1 : 1 ≤ j) (h2 : j ≤ 8) : (d.cs v).setIfInBounds j (.int .i64 n) = (⟨d.needed, fun i => if i = j ∧ j ≠ 0 then n else d.f i⟩ : Dyn).cs v := by
  unfold Dyn.cs
  match j, h1, h2 with
  | 1, _, _ => rfl
  | 2, _, _ => rfl
  | 3, _, _ => rfl
  | 4, _, _ => rfl
  | 5, _, _ => rfl
  | 6, _, _ => rfl
  | 7, _, _ => rfl
  | 8, _, _ => rfl
theorem Dyn.say_wf {d : Dyn} (h : d.wf) {t n : Int} (hn : (Lit.int .i64 n).wf = true) : (d.say t n).wf := by
  unfold Dyn.say
  split
  · exact ⟨fun m hm => by
      rcases List.mem_append.1 hm with h1 | h1
      · exact h.need m h1
      · rw [List.mem_singleton.1 h1]; exact hn, h.num⟩
  · exact ⟨h.need, fun j => by
      simp only
      split
      · exact hn
      · exact h.num j⟩
/-- What is told so far lies at B, the places that are needed in a row of the call's own. -/
structure Sd (B lo : Nat) (v : Value) (d : Dyn) (w : World) : Prop where
  blk : Blk w B 26 (d.cs v)
  own : w.ownsRow lo 3 1 v d.needed.length (dints d.needed)
  le : lo ≤ w.heap.size

set_option maxHeartbeats 1600000 in
set_option maxRecDepth 100000 in
theorem say_any (B lo : Nat) (v : Value) (d : Dyn) (t n : Int) (w : World) (h : Sd B lo v d w) (hB : B < lo) (hl : d.needed.length ≤ 1000) :
    Calls Tryd.prog 20 #[.pointer (some ⟨B, 0, none⟩), .int .u64 t, .int .i64 n] w fun e w' => e = .returned (.tuple #[]) ∧ (∃ v', Sd B lo v' (d.say t n) w') ∧ But (fun k => k = B ∨ lo ≤ k) w w' := by
  obtain ⟨hb, ho, hle⟩ := h
  obtain ⟨i0, hi, hz0, hz1, hz2⟩ := info_parts infoInt
  by_cases ht : t = 1
  · subst ht
    have hs : d.say 1 n = ⟨d.needed ++ [n], d.f⟩ := if_pos rfl
    rw [hs]
    clear hs
    have c0 : w.cell? ⟨B, 0, none⟩ = some v := hb.cell 0
    have HB := Lib.hid hb
    have HO := Lib.hid ho
    obtain ⟨N, hN⟩ : ∃ N, d.needed.length = N := ⟨_, rfl⟩
    rw [hN] at hl ho
    have HN := Lib.hid hN
    clear hb hN
    go_enter Tryd.func20, Tryd.ntmps20
    go_wp2_with (at_builtin; refine Hid.out ?_)
    refine Lib.hid ?_
    refine wpList_append_own _ rfl _ _ 22 rfl lo 3 i0 (.int .i64 0) 1 8 Tryd.underlying22 hi hz0 hz1 hz2 rfl (by decide) v N (dints d.needed) rfl (ho.alloc _) ⟨w.heap.size, 0, none⟩ 1 1 [.int .i64 n] rfl rfl (cell_one _ _ _) (ints_oneCell .i64 [n]) (by unfold maxLen; omega) (by omega) (by simp; omega) ?_
    intro v' w1 hown1 hgrow _
    obtain ⟨A2, c2, rfl⟩ := own_slice hown1
    have hq : some B ≠ v.ownBlock := fun e => absurd (HO.out.lt _ e.symm).1 (by omega)
    have hb1 : Blk w1 B 26 (d.cs v) := (HB.out.alloc _).grown hgrow hq
    have f1 := hb1.frozen 0
    have c1 : w1.cell? ⟨B, 0, none⟩ = some v := hb1.cell 0
    have hset := hb1.set_ 0 (.slice A2 (N + 1) c2)
    have hbut : But (fun k => k = B ∨ lo ≤ k) w (w1.setCell ⟨B, 0, none⟩ (.slice A2 (N + 1) c2)) := by
      refine (((But.refl _ w).alloc _).grown hgrow fun k hk => .inl (.inr (HO.out.lt k hk.symm.symm).1)).setCell (.inl (.inl rfl)) _
    have hown2 : (w1.setCell ⟨B, 0, none⟩ (.slice A2 (N + 1) c2)).ownsRow lo 3 1 (.slice A2 (N + 1) c2) (d.needed ++ [n]).length (dints (d.needed ++ [n])) := by
      rw [dints_snoc, List.length_append, HN.out]
      exact own_setD hown1 hB (.slice A2 (N + 1) c2)
    have HBUT := Lib.hid hbut
    have HOWN := Lib.hid hown2
    have HSET := Lib.hid hset
    have HLE := Lib.hid (Nat.le_trans hle hbut.size)
    clear hgrow hown1 hbut hown2 hset hb1 ho
    go_wp2
    go_end0
    exact ⟨rfl, ⟨_, by simpa [Dyn.cs] using HSET.out, HOWN.out, HLE.out⟩, HBUT.out⟩
  · have hs : d.say t n = ⟨d.needed, fun j => if j = fldI t ∧ fldI t ≠ 0 then n else d.f j⟩ := if_neg ht
    have h8 := fldI_le t
    rw [hs]
    clear hs
    have hnum := fun w => dnumber_any B t w
    unfold numV at hnum
    have htb : (t == 1) = false := by simpa using ht
    generalize fldI t = j at *
    by_cases hj : j = 0
    · subst hj
      rw [if_pos rfl] at hnum
      have HNUM := Lib.hid hnum
      clear hnum
      go_enter Tryd.func20, Tryd.ntmps20
      go_wp2_with (go_at_call 24; with_reducible refine (HNUM.out _).mono ?_; rintro e w' ⟨rfl, rfl⟩)
      go_end0
      refine ⟨rfl, ⟨v, ?_, ho, hle⟩, But.refl _ _⟩
      simpa [Dyn.cs] using hb
    · rw [if_neg hj] at hnum
      have HNUM := Lib.hid hnum
      have hset := hb.set_ j (.int .i64 n)
      rw [d.set_ v n (by omega) h8] at hset
      have hc := (hb.cell j).trans (d.at_ v (by omega) h8)
      have hf := hb.frozen j
      have HSET := Lib.hid hset
      have HOWN := Lib.hid (own_setD ho (p := ⟨B, j, none⟩) hB (.int .i64 n))
      have HBUT := Lib.hid (show But (fun k => k = B ∨ lo ≤ k) w (w.setCell ⟨B, j, none⟩ (.int .i64 n)) from (But.refl _ w).setCell (.inl (.inl rfl)) _)
      have HLE := Lib.hid (Nat.le_trans hle HBUT.out.size)
      clear hnum hset ho hb
      go_enter Tryd.func20, Tryd.ntmps20
      go_wp2_with (go_at_call 24; with_reducible refine (HNUM.out _).mono ?_; rintro e w' ⟨rfl, rfl⟩)
      go_end0
      exact ⟨rfl, ⟨v, HSET.out, HOWN.out, HLE.out⟩, HBUT.out⟩
end Go.Proofs.YtmbglkebgeomcaaDoor
