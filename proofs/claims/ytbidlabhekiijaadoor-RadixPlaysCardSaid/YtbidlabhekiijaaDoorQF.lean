/- Layer 7: rows of spots; Same of the reference. -/
import Derived.Test.YtbidlabhekiijaaDoorQE
import Derived.BigQuiet
namespace Go.Proofs.YtbidlabhekiijaaDoor
open Go.RowKit
set_option linter.unusedVariables false
set_option linter.unusedSimpArgs false

/-- A page and its entry, as cells. -/
def spC (x : Nat × Sl) : List Value := [.int .i64 (x.1 : Nat), .bool x.2.h, .bool x.2.w, .bool x.2.c, .bool x.2.o, .int .i64 x.2.n]
theorem spotP_eq (M : Nat → Sl) (p : Nat) : spotP M p = spC (p, M p) := rfl
/-- The pages with entries. -/
noncomputable def spotsF (M : Nat → Sl) : List (Nat × Sl) := (pagesF M 0).map fun p => (p, M p)
theorem spots8_eq (M : Nat → Sl) : spots8 M = (spotsF M).flatMap spC := by
  unfold spots8 spotsF
  rw [List.flatMap_map]
  rfl
theorem flat_at7 {α : Type} (f : α → List Value) (k : Nat) (hf : ∀ x, (f x).length = k) : ∀ (l : List α) (i j : Nat) (hi : i < l.length), j < k → (l.flatMap f)[i * k + j]? = (f l[i])[j]?
  | x :: l, 0, j, _, hj => by
    rw [List.flatMap_cons, Nat.zero_mul, Nat.zero_add, List.getElem?_append_left (by rw [hf]; exact hj)]
    rfl
  | x :: l, i + 1, j, hi, hj => by
    rw [List.flatMap_cons, List.getElem?_append_right (by rw [hf, Nat.succ_mul]; omega), hf]
    rw [show (i + 1) * k + j - k = i * k + j by rw [Nat.succ_mul]; omega]
    exact flat_at7 f k hf l i j (by simpa using hi) hj

/-- A slice holds these spots, in a block from B on. -/
def SRow (w : World) (B : Nat) (v : Value) (L : List (Nat × Sl)) : Prop :=
  ∃ A c, v = .slice A L.length c ∧ ∀ i (hi : i < L.length), ∃ g o, A = some ⟨g, o, none⟩ ∧ B ≤ g ∧ g < w.heap.size ∧ ∀ j u, (spC L[i])[j]? = some u → w.cell? ⟨g, o + (i * 6 + j), none⟩ = some u
theorem SRow.of_own {w : World} {B : Nat} {v : Value} {L : List (Nat × Sl)} (h : w.ownsRow B 47 6 v L.length (L.flatMap spC)) : SRow w B v L := by
  obtain ⟨A, c, rfl⟩ := own_sl7 h
  refine ⟨A, c, rfl, fun i hi => ?_⟩
  obtain ⟨g, c', e⟩ := ownsRow_form7 h (by omega)
  cases e
  have hlt := h.lt g rfl
  refine ⟨g, 0, rfl, hlt.1, hlt.2, fun j u hj => ?_⟩
  have hj6 : j < 6 := by
    have := (List.getElem?_eq_some_iff.1 hj).1
    exact this
  rw [Nat.zero_add, h.cellAt (i * 6 + j) (by omega), flat_at7 spC 6 (fun _ => rfl) L i j hi hj6]
  exact hj
theorem SRow.below {w w' : World} {B : Nat} {v : Value} {L : List (Nat × Sl)} (h : SRow w B v L) (hb : Below w.heap.size w w') : SRow w' B v L := by
  obtain ⟨A, c, hv, h⟩ := h
  refine ⟨A, c, hv, fun i hi => ?_⟩
  obtain ⟨g, o, hA, hB, hlt, hc⟩ := h i hi
  exact ⟨g, o, hA, hB, Nat.lt_of_lt_of_le hlt hb.size, fun j u hj => (World.cell?_of_block (a := ⟨g, o + (i * 6 + j), none⟩) (hb.block g hlt)).trans (hc j u hj)⟩
theorem SRow.but {S : Nat → Prop} {w w' : World} {B : Nat} {v : Value} {L : List (Nat × Sl)} (h : SRow w B v L) (hb : But S w w') (hS : ∀ g, B ≤ g → ¬ S g) : SRow w' B v L := by
  obtain ⟨A, c, hv, h⟩ := h
  refine ⟨A, c, hv, fun i hi => ?_⟩
  obtain ⟨g, o, hA, hB, hlt, hc⟩ := h i hi
  exact ⟨g, o, hA, hB, Nat.lt_of_lt_of_le hlt hb.size, fun j u hj => (World.cell?_of_block (a := ⟨g, o + (i * 6 + j), none⟩) (hb.block g hlt (hS g hB))).trans (hc j u hj)⟩
theorem SRow.drewN {w : World} {B : Nat} {v : Value} {L : List (Nat × Sl)} (h : SRow w B v L) (n : Nat) : SRow (w.drewN n) B v L := h
theorem SRow.alloc {w : World} {B : Nat} {v : Value} {L : List (Nat × Sl)} (h : SRow w B v L) (o : Obj) : SRow (w.alloc o) B v L := h.below ((Below.refl _ _).alloc (Nat.le_refl _) o)
theorem SRow.len {w : World} {B : Nat} {v : Value} {L : List (Nat × Sl)} (h : SRow w B v L) : ∃ A c, v = .slice A L.length c := by
  obtain ⟨A, c, hv, _⟩ := h
  exact ⟨A, c, hv⟩
/-- What All tells, as a row of spots. -/
theorem AllT.row {w w' : World} {M : Nat → Sl} {e : Ending} (h : AllT w M e w') : ∃ v, e = .returned v ∧ SRow w' w.heap.size v (spotsF M) ∧ Below w.heap.size w w' := by
  obtain ⟨v, he, ho, hb⟩ := h
  refine ⟨v, he, SRow.of_own ?_, hb⟩
  rw [← spots8_eq]
  simpa [spotsF] using ho

theorem eq_slN (k : Nat) (a b c d : Bool) (n : Int) (w : World) : (Op.equalIn (k + 2) 23 (.agg #[.bool a, .bool b, .bool c, .bool d, .int .i64 n]) (.agg #[.bool a, .bool b, .bool c, .bool d, .int .i64 n])).run Tryd.prog w = .ok true w := by
  have u1 := Tryd.underlying4
  have u2 := Tryd.underlying3
  have hS : Tryd.prog.underlying 23 = some (.struct (Tryd.prog.fieldsOf 23)) := by kernel_rfl
  rw [show k + 2 = k + 1 + 1 from rfl, run_equalIn_agg w (k + 1) 23 _ _ hS (by kernel_rfl)]
  simp only [Program.fieldsOf, Tryd.underlying23]
  go_simp
theorem eq_sp (a : Int) (b c d e : Bool) (n : Int) (w : World) : (Op.equalIn 10000 47 (.agg #[.int .i64 a, .bool b, .bool c, .bool d, .bool e, .int .i64 n]) (.agg #[.int .i64 a, .bool b, .bool c, .bool d, .bool e, .int .i64 n])).run Tryd.prog w = .ok true w := by
  have u2 := Tryd.underlying3
  have hS : Tryd.prog.underlying 47 = some (.struct (Tryd.prog.fieldsOf 47)) := by kernel_rfl
  have h1 := eq_slN 9997 b c d e n
  rw [show (10000 : Nat) = 9999 + 1 from rfl, run_equalIn_agg w 9999 47 _ _ hS (by kernel_rfl)]
  simp only [Program.fieldsOf, Tryd.underlying47]
  go_simp

/-- The cells of one spot of a row. -/
theorem SRow.at_ {w : World} {B : Nat} {A : Option Addr} {n c : Nat} {L : List (Nat × Sl)} (h : SRow w B (.slice A n c) L) {i : Nat} (hi : i < L.length) : ∃ g o R, A = some ⟨g, o, none⟩ ∧ B ≤ g ∧ g < w.heap.size ∧ o + i * 6 = R ∧
    w.cell? ⟨g, R, none⟩ = some (.int .i64 (L[i].1 : Nat)) ∧ w.cell? ⟨g, R + 1, none⟩ = some (.bool L[i].2.h) ∧ w.cell? ⟨g, R + 2, none⟩ = some (.bool L[i].2.w) ∧ w.cell? ⟨g, R + 3, none⟩ = some (.bool L[i].2.c) ∧ w.cell? ⟨g, R + 4, none⟩ = some (.bool L[i].2.o) ∧ w.cell? ⟨g, R + 5, none⟩ = some (.int .i64 L[i].2.n) := by
  obtain ⟨A', c', hv, h⟩ := h
  cases hv
  obtain ⟨g, o, hA, hB, hlt, hc⟩ := h i hi
  refine ⟨g, o, o + i * 6, hA, hB, hlt, ?_, ?_, ?_, ?_, ?_, ?_, ?_⟩
  · rfl
  · simpa using hc 0 _ rfl
  · have := hc 1 _ rfl; rwa [← Nat.add_assoc] at this
  · have := hc 2 _ rfl; rwa [← Nat.add_assoc] at this
  · have := hc 3 _ rfl; rwa [← Nat.add_assoc] at this
  · have := hc 4 _ rfl; rwa [← Nat.add_assoc] at this
  · have := hc 5 _ rfl; rwa [← Nat.add_assoc] at this

set_option maxRecDepth 100000 in
set_option maxHeartbeats 1600000 in
theorem same_any {w : World} {B B' : Nat} {va vb : Value} {L : List (Nat × Sl)} (ha : SRow w B va L) (hb : SRow w B' vb L) (hL : L.length ≤ 10000) :
    Calls Tryd.prog 27 #[va, vb] w fun e w' => e = .returned (.bool true) ∧ ∃ n, w' = w.drewN n := by
  obtain ⟨A, c, rfl⟩ := ha.len
  obtain ⟨A', c', rfl⟩ := hb.len
  have HA := Lib.hid ha
  have HB := Lib.hid hb
  clear ha hb
  go_enter Tryd.func27, Tryd.ntmps27
  go_wp2
  go_loopw [5] (fun ii wr => ∃ (k n : Nat), k ≤ L.length ∧ ii = .int .i64 k ∧ wr = w.drewN n) (fun ii _ => L.length - (intOf ii).toNat)
  case atStart => exact ⟨0, 0, Nat.zero_le _, rfl, rfl⟩
  case round =>
    obtain ⟨k, n, hk, rfl, rfl⟩ := hrel
    by_cases hlt : k < L.length
    · obtain ⟨g, o, R, rfl, _, _, hR, x0, x1, x2, x3, x4, x5⟩ := HA.out.at_ hlt
      obtain ⟨g', o', R', rfl, _, _, hR', y0, y1, y2, y3, y4, y5⟩ := HB.out.at_ hlt
      generalize L[k] = z at *
      obtain ⟨pg, za, zb, zc, zd, zn⟩ := z
      simp only at x0 x1 x2 x3 x4 x5 y0 y1 y2 y3 y4 y5
      have hk8 : (k : Int) < (L.length : Int) := by omega
      have he := eq_sp pg za zb zc zd zn
      go_upto_region 6 with fail
      go_quiet (fail)
      go_wp2
      go_roundw
      case rel => exact ⟨k + 1, _, by omega, by go_num, rfl⟩
      case measure => simp [intOf]; omega
    · obtain rfl : k = L.length := by omega
      clear HA HB
      go_wp2
      go_ret
      exact ⟨rfl, n, rfl⟩
end Go.Proofs.YtbidlabhekiijaaDoor
