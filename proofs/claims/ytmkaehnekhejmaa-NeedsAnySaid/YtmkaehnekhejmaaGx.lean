/- The reference of layer 12: find, has. -/
import Derived.Test.YtmkaehnekhejmaaGr
namespace Go.Proofs.Ytmkaehnekhejmaa
open Go.RowKit
set_option linter.unusedVariables false
set_option linter.unusedSimpArgs false

theorem beq_no {a b : ByteArray} (h : a ≠ b) : (a.toList == b.toList) = false := beq_eq_false_iff_ne.2 (fun e => h (by
  rw [← mkb_of a, ← mkb_of b]
  rw [Lib.toList_data, Lib.toList_data] at e
  rw [e]))
/-- What find tells. -/
def FindT (L : List Lb) (x : ByteArray) (w0 w : World) (e : Ending) (w' : World) : Prop := ∃ A c, e = .returned (.tuple #[.slice A (needOf L x).length c, .bool (there L x)]) ∧ StrRow w0 A (needOf L x) ∧ w' = w
theorem find_take {L : List Lb} {x : ByteArray} {k : Nat} (h : ∀ i (hi : i < L.length), i < k → L[i].name ≠ x) (hk : k < L.length) (he : L[k].name = x) : there L x = true ∧ needOf L x = L[k].need := by
  have ht : there L x = true := by rw [← he]; exact there_of_mem (List.getElem_mem hk)
  refine ⟨ht, ?_⟩
  obtain ⟨hp, hn, hd⟩ := there_pos ht
  have hle : posL L x ≤ k := by
    apply Decidable.byContradiction
    intro hc
    have := List.not_of_lt_findIdx (p := fun b : Lb => decide (b.name = x)) (xs := L) (i := k) (by unfold posL at hc; omega)
    simp [he] at this
  have hge : ¬ posL L x < k := fun hc => h _ hp hc hn
  have : posL L x = k := by omega
  rw [hd]
  simp only [this]
theorem find_none {L : List Lb} {x : ByteArray} (h : ∀ i (hi : i < L.length), L[i].name ≠ x) : there L x = false ∧ needOf L x = [] := by
  have hf : findL L x = none := by
    unfold findL
    rw [List.find?_eq_none]
    intro b hb
    obtain ⟨i, hi, rfl⟩ := List.getElem_of_mem hb
    simpa using h i hi
  unfold there needOf
  rw [hf]
  exact ⟨rfl, rfl⟩
set_option maxRecDepth 100000 in
set_option maxHeartbeats 1600000 in
theorem find_any (w0 : World) (L : List Lb) (x : ByteArray) (A : Option Addr) (c : Nat) (w : World) (h : LibRow w0 A L) (hb0 : Below w0.heap.size w0 w) (hl : L.length ≤ 100000) :
    Calls Try.prog 20 #[.slice A L.length c, .string x] w (FindT L x w0 w) := by
  have H := Lib.hid h
  have HB0 := Lib.hid hb0
  obtain ⟨n, hn⟩ : ∃ n, L.length = n := ⟨_, rfl⟩
  have HN := Lib.hid hn
  rw [hn] at hl ⊢
  have HNO := Lib.hid (fun (h : ∀ i (hi : i < L.length), L[i].name ≠ x) => show FindT L x w0 w (.returned (.tuple #[.slice none 0 0, .bool false])) w from by
    obtain ⟨h1, h2⟩ := find_none h
    exact ⟨none, 0, by rw [h1, h2]; rfl, by rw [h2]; exact fun i hi => absurd hi (by simp), rfl⟩)
  have HYES := Lib.hid (fun (k : Nat) (hk : k < L.length) (An : Option Addr) (m cn : Nat) (h : ∀ i (hi : i < L.length), i < k → L[i].name ≠ x) (he : L[k].name = x) (hm : L[k].need.length = m) (hr : StrRow w0 An L[k].need) => show FindT L x w0 w (.returned (.tuple #[.slice An m cn, .bool true])) w from by
    obtain ⟨h1, h2⟩ := find_take h hk he
    exact ⟨An, cn, by rw [h1, h2, hm], by rw [h2]; exact hr, rfl⟩)
  clear h hn hb0
  go_enter Try.func20, Try.ntmps20
  go_wp2_with fail
  go_loopw [6] (fun z wr => ∃ k : Nat, k ≤ n ∧ z = .int .i64 k ∧ Hid (∀ i (hi : i < L.length), i < k → L[i].name ≠ x) ∧ wr = w) (fun z _ => n - (intOf z).toNat)
  case atStart => exact ⟨0, Nat.zero_le _, rfl, Lib.hid (fun i hi h => by omega), rfl⟩
  case round =>
    obtain ⟨k, hk, rfl, HS, rfl⟩ := hrel
    by_cases hlt : k < n
    · have hk1 : k < L.length := by rw [HN.out]; exact hlt
      obtain ⟨ad, An, cn, rfl, hblt, hlb⟩ := H.out k hk1
      have hrow := hlb.row
      obtain ⟨c0, c1, -, -, -⟩ := hlb.below hblt rfl HB0.out
      have hk0 : (0 : Int) ≤ (k : Int) := by omega
      have hk2 : (k : Int) < (n : Int) := by omega
      obtain ⟨m, hm⟩ : ∃ m, L[k].need.length = m := ⟨_, rfl⟩
      rw [hm] at c1
      by_cases he : L[k].name = x
      · have HF := Lib.hid (HYES.out k hk1 An m cn HS.out he hm hrow)
        rw [he] at c0
        clear hrow hm he hlb hblt
        go_wp2
        go_ret2
        exact HF.out
      · have HS2 := Lib.hid (show ∀ i (hi : i < L.length), i < k + 1 → L[i].name ≠ x from fun i hi h => by
          rcases Nat.lt_or_ge i k with h1 | h1
          · exact HS.out i hi h1
          · have : i = k := by omega
            subst this; exact he)
        have hb := beq_no he
        generalize L[k].name = nm at *
        clear hrow hm he hlb hblt
        go_wp2
        go_roundw
        case rel => exact ⟨k + 1, by omega, by go_num, HS2, by first | rfl | trivial⟩
        case measure => simp [intOf]; omega
    · obtain rfl : k = n := by omega
      have HF := Lib.hid (HNO.out (fun i hi => HS.out i hi (by rw [← HN.out]; exact hi)))
      go_wp2
      go_ret2
      exact HF.out

set_option maxRecDepth 100000 in
set_option maxHeartbeats 800000 in
theorem has_any (l : List ByteArray) (x : ByteArray) (A : Option Addr) (c : Nat) (w : World) (h : StrRow w A l) (hl : l.length ≤ 100000000) :
    Calls Try.prog 21 #[.slice A l.length c, .string x] w fun e w' => e = .returned (.bool (decide (x ∈ l))) ∧ w' = w := by
  have H := Lib.hid h
  obtain ⟨n, hn⟩ : ∃ n, l.length = n := ⟨_, rfl⟩
  have HN := Lib.hid hn
  rw [hn] at hl ⊢
  obtain ⟨rv, hrv⟩ : ∃ rv, decide (x ∈ l) = rv := ⟨_, rfl⟩
  rw [hrv]
  have HRV := Lib.hid hrv
  clear h hn hrv
  go_enter Try.func21, Try.ntmps21
  go_wp2_with fail
  go_loopw [5] (fun z wr => ∃ k : Nat, k ≤ n ∧ z = .int .i64 k ∧ Hid (x ∉ l.take k) ∧ wr = w) (fun z _ => n - (intOf z).toNat)
  case atStart => exact ⟨0, Nat.zero_le _, rfl, Lib.hid (by simp), rfl⟩
  case round =>
    obtain ⟨k, hk, rfl, HS, rfl⟩ := hrel
    by_cases hlt : k < n
    · have hk1 : k < l.length := by rw [HN.out]; exact hlt
      obtain ⟨ad, rfl, hblt, c0, _⟩ := H.out k hk1
      have hk0 : (0 : Int) ≤ (k : Int) := by omega
      have hk2 : (k : Int) < (n : Int) := by omega
      by_cases he : l[k] = x
      · have HF := Lib.hid (show rv = true from by rw [← HRV.out]; exact decide_eq_true (by rw [← he]; exact List.getElem_mem hk1))
        rw [he] at c0
        clear he
        go_wp2
        go_ret
        exact ⟨congrArg (fun b => Ending.returned (.bool b)) HF.out.symm, rfl⟩
      · have HS2 := Lib.hid (show x ∉ l.take (k + 1) from by
          rw [List.take_succ_eq_append_getElem hk1, List.mem_append]
          rintro (h | h)
          · exact HS.out h
          · simp at h; exact he h.symm)
        have hb := beq_no he
        generalize l[k] = nm at *
        clear he
        go_wp2
        go_roundw
        case rel => exact ⟨k + 1, by omega, by go_num, HS2, by first | rfl | trivial⟩
        case measure => simp [intOf]; omega
    · obtain rfl : k = n := by omega
      have HF := Lib.hid (show rv = false from by
        rw [← HRV.out]
        have := HS.out
        rw [List.take_of_length_le (by rw [HN.out]; exact Nat.le_refl _)] at this
        exact decide_eq_false this)
      go_wp2
      go_ret
      exact ⟨congrArg (fun b => Ending.returned (.bool b)) HF.out.symm, rfl⟩
end Go.Proofs.Ytmkaehnekhejmaa
