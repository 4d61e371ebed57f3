/- Relocations that come in; rows of relocations; the reference's Same. -/
import Derived.Test.YtpkjaacklfiblaaZA
import Derived.Test.YtpkjaacklfiblaaBut
import Derived.Test.YtpkjaacklfiblaaLaw
import Derived.Test.YtpkjaacklfiblaaBits
import Derived.Deep.Fields
import Derived.Laws.StructEq
import Derived.Laws.Tables
namespace Go.Proofs.Ytpkjaacklfiblaa
open Go.RowKit Go.ChangeShapes Go.WideShapes Go.Deep
set_option linter.unusedVariables false
set_option linter.unusedSimpArgs false

def zrelV : Value := .agg #[.int .i64 0, .int .i64 0, .int .i64 0, .int .i64 0]
/-- A struct of fields of one cell each. -/
theorem open_fieldsZ {H : Type} {enc : TypeId × Value → H} {P : Program} {w : World} {base : Nat} {spare : Nat → Bool} {held : Bool} {r : Reach} {b0 : Nat} {t : TypeId} {v : Value} {d : DataW H} {ps : List MemPlace} {fs : Array Field}
    (ht : P.underlying t = some (.struct fs)) (hone : oneCellFields P fs = true) (hC : P.cellsOf t = fs.size) (hv : Value.okWide P w r b0 t v) (h : DataW.Trod enc P w base spare held t v d ps) :
    ∃ cs : List Value, v = .agg cs.toArray ∧ cs.length = fs.size ∧ ∀ (j : Nat) (f : Field), fs[j]? = some f → ∃ (u : Value) (y : DataW H × List MemPlace) (fuel : Nat), cs[j]? = some u ∧ DataW.trod enc P w base spare held fuel f.type [u] = some y := by
  obtain ⟨cs, rfl, hsz⟩ := okWide_struct ht hv
  rw [hC] at hsz
  obtain ⟨fuel, hy⟩ := h
  obtain ⟨xs, m, _, _, hlen, hxl, hel⟩ := DataW.trod_struct ht hy
  refine ⟨cs.toList, rfl, by simpa using hsz, fun j f hj => ?_⟩
  obtain ⟨ho, hk⟩ := hone_of hone j f hj
  have hjl : j < fs.size := (Array.getElem?_eq_some_iff.1 hj).1
  have h1 := hel j f hj
  have hl : cs.toList.length = fs.size := by simpa using hsz
  simp only [Value.cells] at h1
  rw [ho, hk, List.drop_eq_getElem_cons (by omega), List.getElem?_eq_getElem (by omega)] at h1
  exact ⟨_, _, m, List.getElem?_eq_getElem (by omega), h1⟩
theorem listZ4 {l : List Value} {a b c d : Value} (hs : l.length = 4) (h0 : l[0]? = some a) (h1 : l[1]? = some b) (h2 : l[2]? = some c) (h3 : l[3]? = some d) : l = [a, b, c, d] := by
  match l, hs with
  | [c0, c1, c2, c3], _ =>
    simp only [List.getElem?_cons_zero, List.getElem?_cons_succ, Option.some.injEq] at h0 h1 h2 h3
    rw [h0, h1, h2, h3]
/-- A relocation that comes in. -/
theorem open_relZ {H : Type} {enc : TypeId × Value → H} {w : World} {base : Nat} {spare : Nat → Bool} {held : Bool} {r : Reach} {b0 : Nat} {v : Value} {d : DataW H} {ps : List MemPlace}
    (hv : Value.okWide Try.prog w r b0 23 v) (h : DataW.Trod enc Try.prog w base spare held 23 v d ps) : ∃ s : Rl, v = .agg s.cs ∧ s.wf := by
  obtain ⟨cs, rfl, hsz, hel⟩ := open_fieldsZ Try.underlying23 (by kernel_rfl) (by kernel_rfl) hv h
  obtain ⟨u0, _, _, c0, t0⟩ := hel 0 _ rfl
  obtain ⟨u1, _, _, c1, t1⟩ := hel 1 _ rfl
  obtain ⟨u2, _, _, c2, t2⟩ := hel 2 _ rfl
  obtain ⟨u3, _, _, c3, t3⟩ := hel 3 _ rfl
  obtain ⟨p, h0, _, w0⟩ := DataW.trod_int Try.underlying3 t0
  obtain ⟨k, h1, _, w1⟩ := DataW.trod_int Try.underlying3 t1
  obtain ⟨y, h2, _, w2⟩ := DataW.trod_int Try.underlying3 t2
  obtain ⟨a, h3, _, w3⟩ := DataW.trod_int Try.underlying2 t3
  cases h0
  cases h1
  cases h2
  cases h3
  rw [listZ4 hsz c0 c1 c2 c3]
  exact ⟨⟨p, k, y, a⟩, rfl, w0, w1, w2, w3⟩

/-- The slice at A has these relocations. -/
def RlRow (w : World) (A : Option Addr) (l : List Rl) : Prop := ∀ i (hi : i < l.length), ∃ ad, A = some ad ∧ ad.block < w.heap.size ∧ (∀ j, j < 4 → w.cell? (ad.add (i * 4 + j)) = (l[i].cs)[j]?) ∧ l[i].wf
theorem RlRow.below {w w' : World} {A : Option Addr} {l : List Rl} (h : RlRow w A l) {n : Nat} (hn : n = w.heap.size) (hb : Below n w w') : RlRow w' A l := fun i hi => by
  obtain ⟨ad, h1, h2, h3, h4⟩ := h i hi
  refine ⟨ad, h1, Nat.lt_of_lt_of_le h2 hb.size, fun j hj => (hb.cell ?_).trans (h3 j hj), h4⟩
  have : (ad.add (i * 4 + j)).block = ad.block := by unfold Addr.add; split <;> rfl
  omega
theorem RlRow.drewN {w : World} {A : Option Addr} {l : List Rl} (h : RlRow w A l) (n : Nat) : RlRow (w.drewN n) A l := h
theorem RlRow.wf {w : World} {A : Option Addr} {l : List Rl} (h : RlRow w A l) (i : Nat) (hi : i < l.length) : l[i].wf := by
  obtain ⟨_, _, _, _, hw⟩ := h i hi
  exact hw
theorem RlRow.at_ {w : World} {A : Option Addr} {l : List Rl} (h : RlRow w A l) {i : Nat} (hi : i < l.length) : ∃ ad, A = some ad ∧ ad.block < w.heap.size ∧ l[i].wf ∧
    w.cell? (ad.add (i * 4)) = some (.int .i64 l[i].p) ∧
    w.cell? ⟨(ad.add (i * 4)).block, (ad.add (i * 4)).off + 1, none⟩ = some (.int .i64 l[i].k) ∧
    w.cell? ⟨(ad.add (i * 4)).block, (ad.add (i * 4)).off + 2, none⟩ = some (.int .i64 l[i].s) ∧
    w.cell? ⟨(ad.add (i * 4)).block, (ad.add (i * 4)).off + 3, none⟩ = some (.int .i64 l[i].a) := by
  obtain ⟨ad, e, hlt, hc, hw⟩ := h i hi
  have hs : ∀ j, 0 < j → (⟨(ad.add (i * 4)).block, (ad.add (i * 4)).off + j, none⟩ : Addr) = ad.add (i * 4 + j) := fun j hj => by
    rw [← Go.Deep.add_add]
    show _ = (ad.add (i * 4)).add j
    generalize ad.add (i * 4) = q
    unfold Addr.add
    split <;> simp_all
  refine ⟨ad, e, hlt, hw, ?_, ?_, ?_, ?_⟩
  · exact hc 0 (by omega)
  all_goals rw [hs _ (by omega)]
  · exact hc 1 (by omega)
  · exact hc 2 (by omega)
  · exact hc 3 (by omega)

section
variable {H : Type} {enc : TypeId × Value → H} {w : World} {base : Nat} {spare : Nat → Bool} {held : Bool} {r : Reach} {b0 : Nat} {v : Value} {d : DataW H} {ps : List MemPlace}
/-- A slice of relocations that comes in. -/
theorem open_relsZ (hv : Value.okWide Try.prog w r b0 32 v) (h : DataW.Trod enc Try.prog w base spare held 32 v d ps) : ∃ A l c, v = .slice A (List.length l) c ∧ l.length ≤ maxLen ∧ RlRow w A l := by
  obtain ⟨A, n, c, rfl, hn, hi⟩ := open_fields_row Try.underlying32 Try.underlying23 (by kernel_rfl) (by kernel_rfl) (by decide) hv h
  obtain ⟨zs, hl, hz⟩ := list_of (Q := fun i (z : Rl) => ∃ ad, A = some ad ∧ ad.block < w.heap.size ∧ (∀ j, j < 4 → w.cell? (ad.add (i * 4 + j)) = (z.cs)[j]?) ∧ z.wf) n (fun i h => by
    obtain ⟨ad, rfl, hb, hf⟩ := hi i h
    obtain ⟨u0, y0, m0, c0, t0⟩ := hf 0 _ rfl
    obtain ⟨u1, y1, m1, c1, t1⟩ := hf 1 _ rfl
    obtain ⟨u2, y2, m2, c2, t2⟩ := hf 2 _ rfl
    obtain ⟨u3, y3, m3, c3, t3⟩ := hf 3 _ rfl
    obtain ⟨p, h0, _, w0⟩ := DataW.trod_int Try.underlying3 t0
    obtain ⟨k, h1, _, w1⟩ := DataW.trod_int Try.underlying3 t1
    obtain ⟨y, h2, _, w2⟩ := DataW.trod_int Try.underlying3 t2
    obtain ⟨a, h3, _, w3⟩ := DataW.trod_int Try.underlying2 t3
    injection h0 with h0
    injection h1 with h1
    injection h2 with h2
    injection h3 with h3
    subst h0 h1 h2 h3
    refine ⟨⟨p, k, y, a⟩, ad, rfl, hb, fun j hj => ?_, w0, w1, w2, w3⟩
    match j, hj with
    | 0, _ => show w.cell? _ = some (.int .i64 p); simpa using c0
    | 1, _ => show w.cell? _ = some (.int .i64 k); simpa using c1
    | 2, _ => show w.cell? _ = some (.int .i64 y); simpa using c2
    | 3, _ => show w.cell? _ = some (.int .i64 a); simpa using c3)
  subst hl
  exact ⟨A, zs, c, rfl, hn, hz⟩
end

/-- The cells of relocations. -/
def rlCells (l : List Rl) : List Value := l.flatMap fun s => s.cs.toList
theorem rlCells_length : ∀ l, (rlCells l).length = l.length * 4
  | [] => rfl
  | e :: l => by
    have h := rlCells_length l
    unfold rlCells at *
    rw [List.flatMap_cons, List.length_append, h]
    simp [Rl.cs]; omega
theorem rlCells_at : ∀ (l : List Rl) (k : Nat) (h : k < l.length) (j : Nat), j < 4 → (rlCells l)[k * 4 + j]? = (l[k].cs)[j]?
  | e :: l, 0, _, j, hj => by
    unfold rlCells
    rw [List.flatMap_cons, Nat.zero_mul, Nat.zero_add, List.getElem?_append_left (by simp [Rl.cs]; omega)]
    simp
  | e :: l, k + 1, h, j, hj => by
    have h1 := rlCells_at l k (by simpa using h) j hj
    unfold rlCells at *
    rw [List.flatMap_cons, List.getElem?_append_right (by simp [Rl.cs]; omega), show (k + 1) * 4 + j - e.cs.toList.length = k * 4 + j by simp [Rl.cs]; omega]
    exact h1
theorem rlCells_snoc (l : List Rl) (s : Rl) : rlCells (l ++ [s]) = rlCells l ++ [.int .i64 s.p, .int .i64 s.k, .int .i64 s.s, .int .i64 s.a] := by simp [rlCells, Rl.cs]
theorem rlCells_p (s : Rl) (l : List Rl) (z : Int) : (rlCells (s :: l)).set 0 (.int .i64 z) = rlCells ({ s with p := z } :: l) := by simp [rlCells, Rl.cs]

/-- What a call's own row of relocations is. -/
theorem RlRow.of_own {w : World} {B n : Nat} {v : Value} {l : List Rl} (h : w.ownsRow B 23 4 v n (rlCells l)) (hw : ∀ s, s ∈ l → s.wf) : n = l.length ∧ ∃ A c, v = .slice A l.length c ∧ RlRow w A l ∧ ∀ ad, A = some ad → B ≤ ad.block := by
  have hl := h.1
  rw [rlCells_length] at hl
  obtain rfl : n = l.length := by omega
  refine ⟨rfl, ?_⟩
  rcases h.2 with ⟨rfl, h0⟩ | ⟨g, cap, cur, rfl, hbg, hg, _, _, _, ht⟩
  · have : l = [] := List.length_eq_zero_iff.1 h0
    subst this
    exact ⟨none, 0, rfl, fun i hi => absurd hi (by simp), fun ad e => by cases e⟩
  · refine ⟨_, cap, rfl, fun i hi => ⟨⟨g, 0, none⟩, rfl, (show Blk w g _ cur from hg).lt, fun j hj => ?_, hw _ (List.getElem_mem hi)⟩, fun ad e => by cases e; exact hbg⟩
    have h1 := rlCells_at l i hi j hj
    rw [← ht, List.getElem?_take, if_pos (by omega)] at h1
    have e : (⟨g, 0, none⟩ : Addr).add (i * 4 + j) = ⟨g, i * 4 + j, none⟩ := by unfold Addr.add; split <;> simp_all
    rw [e, (show Blk w g _ cur from hg).cell]
    simpa using h1
theorem infoRel : (Try.prog.info? 23).map (fun i => (i.zero, i.size, i.bytes)) = some (some (.agg #[.int .i64 0, .int .i64 0, .int .i64 0, .int .i64 0]), 4, 32) := by kernel_rfl

@[go_sem] theorem eq_rl (p k y a p' k' y' a' : Int) (w : World) : (Op.equalIn 10000 23 (.agg #[.int .i64 p, .int .i64 k, .int .i64 y, .int .i64 a]) (.agg #[.int .i64 p', .int .i64 k', .int .i64 y', .int .i64 a'])).run Try.prog w = .ok (p == p' && k == k' && y == y' && a == a') w := by
  have u1 := Try.underlying2
  have u2 := Try.underlying3
  have hS : Try.prog.underlying 23 = some (.struct (Try.prog.fieldsOf 23)) := by kernel_rfl
  rw [show (10000 : Nat) = 9999 + 1 from rfl, run_equalIn_agg w 9999 23 _ _ hS (by kernel_rfl)]
  simp only [Program.fieldsOf, Try.underlying23]
  go_simp
  by_cases h1 : p = p' <;> by_cases h2 : k = k' <;> by_cases h3 : y = y' <;> by_cases h4 : a = a' <;> simp [h1, h2, h3, h4]

theorem rl_ext {a b : Rl} (h1 : a.p = b.p) (h2 : a.k = b.k) (h3 : a.s = b.s) (h4 : a.a = b.a) : a = b := by
  cases a; cases b; simp_all
theorem eq_of_get {l m : List Rl} (hl : l.length = m.length) (h : ∀ i (h1 : i < l.length) (h2 : i < m.length), l[i] = m[i]) : l = m := List.ext_getElem hl h

set_option maxHeartbeats 1600000 in
/-- Two rows that are the same. -/
theorem same_yes (l m : List Rl) (hlm : l = m) (A B : Option Addr) (c c' : Nat) (w : World) (hr : RlRow w A l) (hr' : RlRow w B m) (hl : l.length ≤ maxLen) :
    Calls Try.prog 20 #[.slice A l.length c, .slice B m.length c'] w fun e w' => e = .returned (.bool true) ∧ Below w.heap.size w w' := by
  subst hlm
  unfold maxLen at hl
  have HR := Lib.hid hr
  have HR' := Lib.hid hr'
  obtain ⟨n, hn⟩ : ∃ n, l.length = n := ⟨_, rfl⟩
  rw [hn] at hl ⊢
  have HN := Lib.hid hn
  clear hr hr' hn
  go_enter Try.func20, Try.ntmps20
  go_wp2
  go_loopw [5] (fun i wr => ∃ k : Nat, k ≤ n ∧ i = .int .i64 k ∧ Hid (∃ q, wr = w.drewN q)) (fun i _ => n - (intOf i).toNat)
  case atStart => exact ⟨0, Nat.zero_le _, rfl, Lib.hid ⟨0, (World.drewN_zero w).symm⟩⟩
  case round =>
    obtain ⟨k, hk, rfl, hq⟩ := hrel
    obtain ⟨q, rfl⟩ := hq.out
    by_cases hlt : k < n
    · have hkl : k < l.length := by rw [HN.out]; exact hlt
      obtain ⟨ad, rfl, hblt, hwf, d0, d1, d2, d3⟩ := (HR.out.drewN q).at_ hkl
      obtain ⟨ad', rfl, hblt', -, d0', d1', d2', d3'⟩ := (HR'.out.drewN q).at_ hkl
      obtain ⟨s, hs⟩ : ∃ s, l[k] = s := ⟨_, rfl⟩
      rw [hs] at d0 d1 d2 d3 d0' d1' d2' d3'
      obtain ⟨p, kk, y, a⟩ := s
      simp only at d0 d1 d2 d3 d0' d1' d2' d3'
      clear hs hwf hblt hblt' hkl
      generalize hW : w.drewN q = W at *
      go_wp2
      go_quiet (fail)
      go_wp2
      go_roundw
      case rel => exact ⟨k + 1, by omega, by go_num, Lib.hid ⟨_, by rw [← hW, World.drewN_drewN]⟩⟩
      case measure => simp [intOf]; omega
    · obtain rfl : k = n := by omega
      go_wp2
      go_ret
      exact ⟨rfl, Below.drewN (Below.refl _ _) _⟩
end Go.Proofs.Ytpkjaacklfiblaa
