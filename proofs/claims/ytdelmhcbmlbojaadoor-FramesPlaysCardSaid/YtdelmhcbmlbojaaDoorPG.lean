/- What a page has of which a part was set. -/
import Derived.Test.YtdelmhcbmlbojaaDoorPF
import Derived.Test.YtdelmhcbmlbojaaDoorWK
import Derived.Test.YtdelmhcbmlbojaaDoorWR
namespace Go.Proofs.YtdelmhcbmlbojaaDoor
open Go.RowKit
set_option linter.unusedVariables false

theorem putAt_mid {o s : ByteArray} {n : Nat} (h : n ≤ o.size) : (putAt o n s).extract n (n + s.size) = s := by
  have h1 : (o.data.toList.take n).length = n := by rw [List.length_take, len_data]; omega
  rw [extract_mkb]
  unfold putAt
  rw [mkb_data, List.append_assoc, List.drop_left' h1, Nat.add_sub_cancel_left, ← len_data, List.take_left' rfl, mkb_of]
theorem putAt_low {o s : ByteArray} {n : Nat} (h : n ≤ o.size) : (putAt o n s).extract 0 n = o.extract 0 n := by
  have h1 : (o.data.toList.take n).length = n := by rw [List.length_take, len_data]; omega
  rw [extract_mkb, extract_mkb]
  unfold putAt
  rw [mkb_data, List.append_assoc, List.drop_zero, List.drop_zero, Nat.sub_zero, List.take_left' h1]
theorem putAt_high {o s : ByteArray} {n : Nat} (h : n + s.size ≤ o.size) : (putAt o n s).extract (n + s.size) o.size = o.extract (n + s.size) o.size := by
  have h1 : (o.data.toList.take n ++ s.data.toList).length = n + s.size := by rw [List.length_append, List.length_take, len_data, len_data]; omega
  rw [extract_mkb, extract_mkb]
  unfold putAt
  rw [mkb_data, List.drop_left' h1]

/-- What is stored is loaded. -/
theorem part_set {o : ByteArray} {a k x : Int} (ho : o.size = 64) (hi : inn a (wid k) 64 = true) (hk : wid k ≠ 0) (x0 : 0 ≤ x) (x1 : x < 18446744073709551616) : readV k (partS (setS o a (wid k) x.toNat) a (wid k)) = clipS k x := by
  have hr := wid_range k
  obtain ⟨n, W, rfl, hW, hw, h1, h8⟩ := (wd_cases a k).resolve_left (fun h => by rcases h with h | h; exact hk h; rw [hi] at h; cases h)
  have hz : ¬ (k < 1 ∨ 9 < k) := fun h => hk (wid_zero.2 h)
  have hs : (mkb (putL x.toNat W)).size = W := by rw [mkb_size, putL_length]
  have e1 : setS o (n : Int) (wid k) x.toNat = putAt o n (mkb (putL x.toNat W)) := by rw [hW, setS_in ho h1 h8 hw]
  have e2 : (putAt o n (mkb (putL x.toNat W))).size = 64 := by rw [putAt_size (by omega), ho]
  have e3 := putAt_mid (o := o) (s := mkb (putL x.toNat W)) (n := n) (by omega)
  rw [hs] at e3
  rw [e1]
  unfold partS
  rw [e2, if_pos (show inn (n : Int) (wid k) ((64 : Nat) : Int) = true from hi), hW, Int.toNat_natCast, Int.toNat_natCast, e3]
  have := (read_put (k := k) (n := x) (by omega) (by omega) x0 x1).1
  rw [hW, Int.toNat_natCast] at this
  exact this

/-- A text of at most 64 bytes, and what it is as a page. -/
def cut64 (s : ByteArray) : ByteArray := if 64 < s.size then s.extract 0 64 else s
def pageOf (s : ByteArray) : ByteArray := fillS (cut64 s) 64
theorem pageOf_size (s : ByteArray) : (pageOf s).size = 64 := by
  unfold pageOf fillS
  rw [if_neg (by decide), mkb_size, fillL_length]
  rfl
theorem cut64_size (s : ByteArray) : (cut64 s).size ≤ 64 := by
  unfold cut64
  split
  · rw [ByteArray.size_extract]; omega
  · omega
theorem fill64_any (s : ByteArray) (w : World) : Calls Tryd.prog 13 #[.string (cut64 s), .int .i64 64] w fun e w' => e = .returned (.string (pageOf s)) ∧ Below w.heap.size w w' :=
  rfill_any (cut64 s) 64 w (by decide) (by have := cut64_size s; omega) (by decide)
end Go.Proofs.YtdelmhcbmlbojaaDoor
