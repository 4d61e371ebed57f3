/- Layer 9: what the laws share: ints that come in, short, a table of the law's own. -/
import Derived.Test.YtmbglkebgeomcaaDoorDI
import Derived.Test.YtmbglkebgeomcaaDoorBits
namespace Go.Proofs.YtmbglkebgeomcaaDoor
open Go.RowKit
set_option linter.unusedVariables false
set_option linter.unusedSimpArgs false

section
variable {H : Type} {enc : TypeId × Value → H} {w : World} {base : Nat} {spare : Nat → Bool} {held : Bool} {r : Reach} {b0 : Nat} {v : Value} {d : DataW H} {ps : List MemPlace}
theorem openInts9 (hv : Value.okWide Tryd.prog w r b0 22 v) (h : DataW.Trod enc Tryd.prog w base spare held 22 v d ps) : ∃ A zs c, v = .slice A (List.length zs) c ∧ zs.length ≤ maxLen ∧ IntRow w A zs :=
  open_int_row Tryd.underlying22 Tryd.underlying3 (by kernel_rfl) hv h
end
/-- A text of at most so many bytes. -/
def shortS9 (s : ByteArray) (n : Nat) : ByteArray := if n < s.size then s.extract 0 n else s
theorem shortS9_size (s : ByteArray) (n : Nat) : (shortS9 s n).size ≤ n := by
  unfold shortS9
  split
  · rw [extract_mkb, mkb_size, List.length_take]; omega
  · omega
set_option maxHeartbeats 400000 in
theorem short9_any (s : ByteArray) (n : Nat) (w : World) (hs : s.size ≤ maxLen) (hn : n ≤ 1000) :
    Calls Tryd.prog 10 #[.string s, .int .i64 n] w fun e w' => e = .returned (.string (shortS9 s n)) ∧ w = w' := by
  unfold maxLen at hs
  by_cases h : n < s.size
  · have e : shortS9 s n = s.extract 0 n := by unfold shortS9; simp [h]
    rw [e]; clear e
    go_enter Tryd.func10, Tryd.ntmps10
    go_wp2
    go_ret
    exact ⟨rfl, rfl⟩
  · have e : shortS9 s n = s := by unfold shortS9; simp [h]
    rw [e]; clear e
    go_enter Tryd.func10, Tryd.ntmps10
    go_wp2
    go_ret
    exact ⟨rfl, rfl⟩
/-- A table of the law's own, in a block. -/
structure Dn (w : World) (X : Nat) (A : Option Addr) (c : Nat) (d : Dyn) (v : World) : Prop where
  blk : Blk v X 26 (d.cs (.slice A d.needed.length c))
  row : IntRow v A d.needed
theorem Dn.below {w : World} {X c : Nat} {A : Option Addr} {d : Dyn} {v v2 : World} (h : Dn w X A c d v) (hb : Below v.heap.size v v2) : Dn w X A c d v2 :=
  ⟨h.blk.below hb h.blk.lt, intRow_below h.row rfl hb⟩
theorem Dn.alloc {w : World} {X c : Nat} {A : Option Addr} {d : Dyn} {v : World} (h : Dn w X A c d v) (o : Obj) : Dn w X A c d (v.alloc o) :=
  h.below ((Below.refl _ _).alloc (Nat.le_refl _) _)
theorem i64_and10 (n : Int) : bits .and .i64 n 1023 = n % 1024 := i64_and_mask n 10 1023 (by omega) (by decide)
theorem i64_and6 (n : Int) : bits .and .i64 n 63 = n % 64 := i64_and_mask n 6 63 (by omega) (by decide)
end Go.Proofs.YtmbglkebgeomcaaDoor
