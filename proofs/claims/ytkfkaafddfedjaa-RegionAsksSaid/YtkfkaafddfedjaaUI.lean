/- Package region: what Cut puts. -/
import Derived.Test.YtkfkaafddfedjaaUH
namespace Go.Proofs.Ytkfkaafddfedjaa
open Go.RowKit Go.ChangeShapes Go.WideShapes Go.Deep
set_option linter.unusedVariables false
set_option linter.unusedSimpArgs false

/-- The closure that puts. -/
abbrev putVal (tb : Nat) : Value := .func (.func 31) #[] #[.pointer (some ⟨tb, 0, none⟩)]
theorem Asc.len {l : List Rg} (h : Asc l) : l.length ≤ 4096 := by
  have key : ∀ (l : List Rg) (b : Int), Asc l → (∀ r ∈ l, b ≤ r.f) → b ≤ 4096 → (l.length : Int) ≤ 4096 - b := by
    intro l
    induction l with
    | nil => intro b _ _ hb; simp; omega
    | cons r l ih =>
      intro b h hb h4
      have h1 := h.head.ft
      have h2 := h.head.t
      have h3 := hb r (by simp)
      have h5 := ih r.t h.tail (fun q hq => h.ahead q hq) h2
      simp only [List.length_cons]
      omega
  have := key l 0 h (fun r hr => (h.may r hr).f) (by omega)
  omega
/-- Put while a call goes over regions of its own making. -/
theorem PutI.fresh {x : World} {B tb : Nat} {A : Option Addr} {c : Nat} {L : List Rg} {cs : Array Value} {N : Nat} (h : Told (x.alloc (.cells cs 29)) B tb A c L) (hN : ∀ g, (Value.slice A L.length c).ownBlock = some g → g < N) (ht : tb < N) (hx : N < x.heap.size) :
    PutI (x.alloc (.cells cs 29)) (x.alloc (.cells cs 29)) B tb (fun k => k = N ∨ k = x.heap.size) A c L :=
  ⟨h, Below.refl _ _, fun k e => by
    refine ⟨?_, ?_, rfl, fun e2 => ?_⟩
    · simp
      rcases e with rfl | rfl <;> omega
    · rcases e with rfl | rfl <;> omega
    · have := hN _ e2
      rcases e with rfl | rfl <;> omega⟩
theorem rg_new (x : World) (m : List Rg) (hw : ∀ r ∈ m, r.Wf) : RgRow (x.alloc (.cells (rgCells m).toArray 29)) (some ⟨x.heap.size, 0, none⟩) m := fun i hi => by
  refine ⟨_, rfl, by simp, fun j hj => ?_, hw _ (List.getElem_mem hi)⟩
  have e : (⟨x.heap.size, 0, none⟩ : Addr).add (i * 6 + j) = ⟨x.heap.size, i * 6 + j, none⟩ := by unfold Addr.add; split <;> simp_all
  rw [e, (Blk.new x 29 (rgCells m).toArray).cell]
  rw [← rgCells_at m i hi j hj]
  simp
theorem Rg.Wf.part {r : Rg} (h : r.Wf) (hb : r.Bd) {a b : Int} (ha : 0 ≤ a ∧ a ≤ 1099511627776) (hb2 : 0 ≤ b ∧ b ≤ 1099511627776) : (r.part a b).Wf := by
  obtain ⟨w0, w1, w2, w3, w4, w5⟩ := h
  refine ⟨wf64 (by show _ ≤ a; omega) (by show a ≤ _; omega), wf64 (by show _ ≤ b; omega) (by show b ≤ _; omega), w2, w3, w4, ?_⟩
  show (Lit.int .i64 (r.pgAt a)).wf = true
  unfold Rg.pgAt
  split
  · rename_i hk
    have := hb.pg hk
    have := hb.f
    exact wf64 (by omega) (by omega)
  · exact w5
theorem cutR_ok {r : Rg} (hw : r.Wf) (hm : r.May) {a b : Int} (ha : 0 ≤ a ∧ a ≤ 1099511627776) (hb : 0 ≤ b ∧ b ≤ 1099511627776) : PutOk (cutR a b r) := by
  have := hm.f
  have := hm.ft
  have := hm.t
  intro q hq
  unfold cutR at hq
  simp at hq
  rcases hq with rfl | rfl
  · refine ⟨hw.part hm.bd (by omega) (by omega), fun h => ?_⟩
    have h : r.f < min r.t a := h
    exact (hm.part_may (Int.le_refl _) h (by omega)).bd
  · refine ⟨hw.part hm.bd (by omega) (by omega), fun h => ?_⟩
    have h : max r.f b < r.t := h
    exact (hm.part_may (by omega) h (Int.le_refl _)).bd
/-- What a closure that fills did. -/
def Filled (v : World) (B tb : Nat) (M : List Rg) (e : Ending) (v' : World) : Prop := e = .returned (.tuple #[]) ∧ ∃ A' c', Told v' B tb A' c' (putAll [] M) ∧ Below B v v'

end Go.Proofs.Ytkfkaafddfedjaa
