/- Layer 4: few: at most eight files, cut and filled. -/
import Derived.Test.YtmbjflcmbenbdaaDoorFM
import Derived.Test.YtmbjflcmbenbdaaDoorFOs
import Derived.Deep.CutRange
namespace Go.Proofs.YtmbjflcmbenbdaaDoor
open Go.RowKit Go.Shelf Go.Deep
set_option linter.unusedVariables false
set_option linter.unusedSimpArgs false

theorem infoFile : (Tryd.prog.info? 63).map (fun i => (i.zero, i.size, i.bytes)) = some (some (.agg #[.string ⟨#[]⟩, .string ⟨#[]⟩]), 2, 32) := by kernel_rfl
theorem infoU8f : (Tryd.prog.info? 5).map (fun i => (i.zero, i.size, i.bytes)) = some (some (.int .u8 0), 1, 1) := by kernel_rfl
/-- Files that are small. -/
def Small8 (fs : List Fl) : Prop := ∀ f ∈ fs, f.name.size ≤ 30 ∧ f.data.size ≤ 599
/-- A few files were told, in new memory. -/
def FewTold (w : World) (n : Nat) (e : Ending) (w' : World) : Prop := ∃ A c fs, e = .returned (.slice A fs.length c) ∧ fs.length = min n 8 ∧ Small8 fs ∧ w'.ownsRow w.heap.size 63 2 (.slice A fs.length c) fs.length (fileCells fs) ∧ Below w.heap.size w w'
theorem ad_add1 (a : Addr) (k : Nat) : (a.add (k * 2 + 1)) = ⟨(a.add (k * 2)).block, (a.add (k * 2)).off + 1, none⟩ := by
  unfold Addr.add
  by_cases h : k = 0
  · subst h; simp
  · rw [if_neg (by omega), if_neg (by omega)]
    simp [Nat.add_assoc]
theorem row_set (lst : List UInt8) (t : Nat) (x : Int) (h0 : 0 ≤ x) (h1 : x < 256) : (Lib.byteCells lst).toArray.setIfInBounds t (.int .u8 x) = (Lib.byteCells (lst.set t (UInt8.ofNat x.toNat))).toArray := by
  have e : ((UInt8.ofNat x.toNat).toNat : Int) = x := by
    rw [UInt8.toNat_ofNat']
    omega
  unfold Lib.byteCells
  rw [List.map_set, e]
  simp
theorem tmod600 (z : Int) : -600 < z.tmod 600 ∧ z.tmod 600 < 600 := by
  rcases Int.le_total 0 z with h | h
  · rw [Int.tmod_eq_emod_of_nonneg h]; omega
  · obtain ⟨y, rfl⟩ : ∃ y, z = -y := ⟨-z, by omega⟩
    rw [Int.neg_tmod, Int.tmod_eq_emod_of_nonneg (by omega)]; omega

end Go.Proofs.YtmbjflcmbenbdaaDoor
