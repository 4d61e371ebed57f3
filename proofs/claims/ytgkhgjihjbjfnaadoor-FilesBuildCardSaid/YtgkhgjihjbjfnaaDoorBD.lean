/- Package block: Of. -/
import Derived.Test.YtgkhgjihjbjfnaaDoorBC
namespace Go.Proofs.YtgkhgjihjbjfnaaDoor
open Go.RowKit
set_option linter.unusedVariables false

/-- A text filled, or cut, to a sector. -/
def fill64 (s : ByteArray) : ByteArray := mkb (fillL s.data.toList 64)
theorem fill64_size (s : ByteArray) : (fill64 s).size = 64 := by unfold fill64; rw [mkb_size, fillL_length]
theorem over_zsec (s : ByteArray) : over zsec s = fill64 s := by
  unfold over fill64 fillL zsec
  rw [mkb_data, List.drop_replicate, len_data]
  congr 3
  omega

/-- The disk behind k rounds of Of. -/
def ofD (l : List ByteArray) (k : Nat) : Dsk := ⟨(l.take k).map fill64 ++ List.replicate (l.length - k) zsec, 0, 0, 0⟩
theorem ofD_zero (l : List ByteArray) : ofD l 0 = newD l.length := by simp [ofD, newD]
theorem ofD_length (l : List ByteArray) {k : Nat} (h : k ≤ l.length) : (ofD l k).S.length = l.length := by simp [ofD]; omega
theorem ofD_at (l : List ByteArray) {k : Nat} (h : k < l.length) (h' : k < (ofD l k).S.length) : (ofD l k).S[k] = zsec := by
  have hl : ((l.take k).map fill64).length = k := by simp; omega
  have e : (ofD l k).S[k]? = some zsec := by
    show ((l.take k).map fill64 ++ List.replicate (l.length - k) zsec)[k]? = _
    rw [List.getElem?_append_right (by omega), hl, Nat.sub_self, List.getElem?_replicate, if_pos (by omega)]
  exact (List.getElem?_eq_some_iff.1 e).2
theorem ofD_set (l : List ByteArray) {k : Nat} (h : k < l.length) : { ofD l k with S := (ofD l k).S.set k (fill64 l[k]) } = ofD l (k + 1) := by
  have hl : ((l.take k).map fill64).length = k := by simp; omega
  show Dsk.mk _ _ _ _ = Dsk.mk _ _ _ _
  congr 1
  show ((l.take k).map fill64 ++ List.replicate (l.length - k) zsec).set k _ = _
  rw [List.set_append_right _ _ (by omega), hl, Nat.sub_self, show l.length - k = (l.length - (k + 1)) + 1 by omega, List.replicate_succ, List.set_cons_zero, List.take_succ_eq_append_getElem h, List.map_append, List.append_assoc]
  rfl
theorem ofD_full (l : List ByteArray) : ofD l l.length = ⟨l.map fill64, 0, 0, 0⟩ := by simp [ofD]

set_option maxHeartbeats 400000 in
theorem of_no (A : Option Addr) (n c : Nat) (w : World) (h : n < 1 ∨ 16384 < n) (hn : n ≤ 281474976710656) : Calls Tryd.prog 17 #[.slice A n c] w fun e w' => e = .returned (.pointer none) ∧ w = w' := by
  have hw := bnew_no n w (by omega)
  have HW := Lib.hid hw
  clear hw
  go_enter Tryd.func17, Tryd.ntmps17
  go_wp2_with (go_at_call 39; refine HW.out.mono ?_; rintro e w4 ⟨rfl, rfl⟩)
  go_ret
  exact ⟨rfl, rfl⟩

set_option maxRecDepth 100000 in
set_option maxHeartbeats 800000 in
theorem of_yes (ad : Addr) (l : List ByteArray) (c : Nat) (w : World) (h1 : 1 ≤ l.length) (h2 : l.length ≤ 16384) (hb : ad.block < w.heap.size)
    (hl : ∀ i (hi : i < l.length), w.cell? (ad.add i) = some (.string l[i])) :
    Calls Tryd.prog 17 #[.slice (some ad) l.length c] w fun e w' =>
      e = .returned (.pointer (some ⟨w.heap.size + 1, 0, none⟩)) ∧ Below w.heap.size w w' ∧ Dk w' (w.heap.size + 1) w.heap.size ⟨l.map fill64, 0, 0, 0⟩ := by
  rw [← ofD_full]
  have hw := bnew_yes l.length w h1 h2
  rw [← ofD_zero] at hw
  have HW := Lib.hid hw
  have HL := Lib.hid hl
  clear hw hl
  go_enter Tryd.func17, Tryd.ntmps17
  go_wp2_with (go_at_call 39; refine HW.out.mono ?_; rintro e w1 ⟨rfl, hbel, hdk⟩)
  go_loopw [13] (fun i wr => ∃ k : Nat, k ≤ l.length ∧ i = .int .i64 k ∧ Below w.heap.size w wr ∧ Dk wr (w.heap.size + 1) w.heap.size (ofD l k)) (fun i _ => l.length - (intOf i).toNat)
  case atStart => exact ⟨0, Nat.zero_le _, rfl, hbel, hdk⟩
  case round =>
    obtain ⟨k, hk, rfl, hbel, hdk⟩ := hrel
    by_cases hlt : k < l.length
    · have hc : wr.cell? (ad.add k) = some (.string l[k]) := (hbel.cell (p := ad.add k) (by rw [show (ad.add k).block = ad.block by unfold Addr.add; split <;> rfl]; exact hb)).trans (HL.out k hlt)
      have hkl : k < (ofD l k).S.length := by rw [ofD_length l hk]; exact hlt
      have hs := sector_any hdk k hkl
      have hset := ofD_set l hlt
      have hover := over_zsec l[k]
      have hat := ofD_at l hlt hkl
      have hall : All64 (ofD l (k + 1)).S := by
        rw [← hset]
        exact hdk.all.set_ (fill64_size _)
      have HS := Lib.hid hs
      have HT := Lib.hid hset
      have HO := Lib.hid hover
      have HA := Lib.hid hat
      have HALL := Lib.hid hall
      have HD := Lib.hid hdk
      have HB := Lib.hid hbel
      have hlen : Hid ((ofD l (k + 1)).S.length = (ofD l k).S.length) := by show _ = _; rw [ofD_length l hk, ofD_length l hlt]
      clear hs hset hover hat hall hdk hbel
      generalize l[k] = s at *
      go_wp2_with (first
        | (go_at_call 40; refine HS.out.mono ?_; rintro e w' ⟨rfl, rfl⟩)
        | (refine wpList_copy_sec rfl (.tmp 20) (.tmp 21) _ _ rfl 5 Tryd.underlying35 sizeU8 w.heap.size k 5 (ofD l k).S s rfl rfl HD.out.all hkl HD.out.row ?_
           intro w5 hb5 hg5
           rw [HA.out, HO.out] at hb5
           have h5 := HD.out.head.grown hg5 (by intro e; injection e with e; omega)
           have HG := Lib.hid hg5
           have HB5 := Lib.hid hb5
           have H5 := Lib.hid h5
           clear hg5 hb5 h5))
      go_roundw
      case rel =>
        refine ⟨k + 1, by omega, by go_num, HB.out.grown HG.out (by have := HB.out.size; omega) (fun j e => by injection e with e; omega), by omega, ?_, ?_, HALL.out, by rw [hlen.out]; exact HD.out.len⟩
        · have h6 := H5.out
          rw [← HT.out]
          simpa using h6
        · rw [← HT.out]
          exact HB5.out
      case measure => simp [intOf]; omega
    · obtain rfl : k = l.length := by omega
      go_wp2
      go_ret
      exact ⟨rfl, hbel, hdk⟩
end Go.Proofs.YtgkhgjihjbjfnaaDoor
