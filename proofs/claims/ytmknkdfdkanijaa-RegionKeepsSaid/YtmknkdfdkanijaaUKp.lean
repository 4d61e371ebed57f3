/- RegionKeeps: for any changes, to 10, of an empty row, any pages from, to and any Perm by their rests: each page of the cut row has what it had, but those cut, which are none's; each page of the protected one has what it had, but the Perm of those protected; it is done if all of them are there. -/
import Derived.Test.YtmknkdfdkanijaaVH
namespace Go.Proofs.Ytmknkdfdkanijaa.lawKeeps
open Go.ChangeShapes Go.WideShapes Go.ChangeAt Go.RowKit Go.Deep
set_option linter.unusedVariables false
set_option linter.unusedSimpArgs false

def keyO : Option Inf → Option (Int × Int)
  | some i => if i.2.1 = 1 then some (i.2.2.1, i.2.2.2) else none
  | none => none
def fsO : Option Inf → Int × Int × Int
  | some i => (i.1, i.2.1, i.2.2.1)
  | none => (0, 0, 0)
theorem key_find {L : List Rg} {p : Int} {o : Option Inf} (h : atL L p = o) : keyR ((findR L p).getD zeroR) p = keyO o := by
  subst h
  cases hf : findR L p with
  | none => rw [findR_none hf]; rfl
  | some r =>
    obtain ⟨h1, h2, h3, h4⟩ := findR_some hf
    rw [h1]
    simp only [Option.getD_some, keyR, keyO, Rg.inf, Rg.pgAt]
    by_cases hk : r.k = 1
    · simp [hk, h3, h4]
    · simp [hk]
theorem find_bd {L : List Rg} (h : Asc L) (p : Int) : ((findR L p).getD zeroR).Bd := by
  cases hf : findR L p with
  | none => exact ⟨by decide, by decide, fun h => by cases h⟩
  | some r => exact (h.may r (findR_some hf).2.1).bd
theorem find_there (L : List Rg) (x : Int) : (findR L x).isSome = (atL L x).isSome := by rw [← findR_at]; simp
/-- What a page tells of the region that has it. -/
theorem find_fs {L : List Rg} {p : Int} {o : Option Inf} (h : atL L p = o) : (((findR L p).getD zeroR).p, ((findR L p).getD zeroR).k, ((findR L p).getD zeroR).fl) = fsO o := by
  subst h
  cases hf : findR L p with
  | none => rw [findR_none hf]; rfl
  | some r => rw [(findR_some hf).1]; rfl
theorem kp {L M : List Rg} {p : Int} (h : atL M p = atL L p) : (findR M p).isSome = (findR L p).isSome ∧ (((findR M p).getD zeroR).p = ((findR L p).getD zeroR).p ∧ ((findR M p).getD zeroR).k = ((findR L p).getD zeroR).k ∧ ((findR M p).getD zeroR).fl = ((findR L p).getD zeroR).fl) ∧ keyR ((findR M p).getD zeroR) p = keyR ((findR L p).getD zeroR) p := by
  have h1 := find_fs h
  have h2 := find_fs (L := L) (p := p) rfl
  rw [← h2] at h1
  simp only [Prod.mk.injEq] at h1
  exact ⟨by rw [find_there, find_there, h], h1, by rw [key_find h, key_find (L := L) rfl]⟩
theorem kq {L M : List Rg} {p c : Int} (h : atL M p = (atL L p).map (permI c)) : (findR M p).isSome = (findR L p).isSome ∧ (((findR L p).isSome = true → ((findR M p).getD zeroR).p = c) ∧ ((findR M p).getD zeroR).k = ((findR L p).getD zeroR).k ∧ ((findR M p).getD zeroR).fl = ((findR L p).getD zeroR).fl) ∧ keyR ((findR M p).getD zeroR) p = keyR ((findR L p).getD zeroR) p := by
  have h1 := find_fs h
  have h2 := find_fs (L := L) (p := p) rfl
  have h3 := key_find h
  have h4 := key_find (L := L) (p := p) rfl
  have h5 := find_there L p
  have h6 := find_there M p
  rw [h] at h6
  cases ho : atL L p with
  | none =>
    rw [ho] at h1 h2 h3 h4 h5 h6
    simp only [Option.map_none, fsO, keyO, Prod.mk.injEq] at h1 h2 h3 h4
    refine ⟨by rw [h5, h6]; rfl, ⟨fun hx => ?_, by rw [h1.2.1, h2.2.1], by rw [h1.2.2, h2.2.2]⟩, by rw [h3, h4]⟩
    rw [h5] at hx
    cases hx
  | some i =>
    rw [ho] at h1 h2 h3 h4 h5 h6
    simp only [Option.map_some, permI, fsO, keyO, Prod.mk.injEq] at h1 h2 h3 h4
    exact ⟨by rw [h5, h6]; rfl, ⟨fun _ => h1.1, by rw [h1.2.1, h2.2.1], by rw [h1.2.2, h2.2.2]⟩, by rw [h3, h4]⟩
theorem kn {M : List Rg} {p : Int} (h : atL M p = none) : (findR M p).isSome = false ∧ (findR M p).getD zeroR = zeroR := by
  have h1 := find_there M p
  rw [h] at h1
  cases hf : findR M p with
  | none => exact ⟨rfl, rfl⟩
  | some r => rw [hf] at h1; cases h1
theorem find_to (L : List Rg) (p : Int) {A : Option Addr} {n c : Nat} {v : World} (h : RS v A n c L) {f t pm k fl pg : Int} {x : Bool} (h0 : (findR L p).getD zeroR = ⟨f, t, pm, k, fl, pg⟩) (h1 : (findR L p).isSome = x) :
    Calls Try.prog 12 #[.slice A n c, .int .i64 p] v fun e w' => e = .returned (.tuple #[.agg #[.int .i64 f, .int .i64 t, .int .i64 pm, .int .i64 k, .int .i64 fl, .int .i64 pg], .bool x]) ∧ Below v.heap.size v w' := by
  have := find_any L p A n c v h
  rw [h0, h1] at this
  exact this
theorem key_to {f t pm k fl pg p k0 k1 : Int} {ki : Bool} (hb : (⟨f, t, pm, k, fl, pg⟩ : Rg).Bd) (h0 : (keyR ⟨f, t, pm, k, fl, pg⟩ p).getD (0, 0) = (k0, k1)) (h1 : (keyR ⟨f, t, pm, k, fl, pg⟩ p).isSome = ki) (v : World) :
    Calls Try.prog 16 #[.agg #[.int .i64 f, .int .i64 t, .int .i64 pm, .int .i64 k, .int .i64 fl, .int .i64 pg], .int .i64 p] v fun e w' => e = .returned (.tuple #[.agg #[.int .i64 k0, .int .i64 k1], .bool ki]) ∧ Below v.heap.size v w' := by
  have := key_any ⟨f, t, pm, k, fl, pg⟩ p v hb
  unfold keyV at this
  rw [h0, h1] at this
  exact this

end Go.Proofs.Ytmknkdfdkanijaa.lawKeeps
