/- The reference's pool: New, Asked, Add, Free, Bytes, Take, Fill, Copy, Load, Store. -/
import Derived.Test.YtdelmhcbmlbojaaDoorPG
namespace Go.Proofs.YtdelmhcbmlbojaaDoor
open Go.RowKit
set_option linter.unusedVariables false

/-- The reference's pool. -/
structure Rf (w : World) (q h s : Nat) (H : List Int) (T : List ByteArray) : Prop where
  head : Blk w q 47 #[.slice (some ⟨h, 0, none⟩) H.length H.length, .slice (some ⟨s, 0, none⟩) T.length T.length]
  row : Blk w h 3 (icells H)
  srow : Blk w s 9 (scells T)
  qh : q ≠ h
  qs : q ≠ s
  hs : h ≠ s
  lenT : T.length = H.length
  len : H.length ≤ 4096
section
variable {w w' : World} {q h s : Nat} {H : List Int} {T : List ByteArray}
theorem Rf.on (r : Rf w q h s H T) (hb : Below w.heap.size w w') : Rf w' q h s H T := ⟨r.head.below hb r.head.lt, r.row.below hb r.row.lt, r.srow.below hb r.srow.lt, r.qh, r.qs, r.hs, r.lenT, r.len⟩
theorem Rf.but {S : Nat → Prop} (r : Rf w q h s H T) (hb : But S w w') (hq : ¬ S q) (hh : ¬ S h) (hs : ¬ S s) : Rf w' q h s H T := ⟨r.head.but hb hq, r.row.but hb hh, r.srow.but hb hs, r.qh, r.qs, r.hs, r.lenT, r.len⟩
theorem Rf.drewN (r : Rf w q h s H T) (n : Nat) : Rf (w.drewN n) q h s H T := ⟨r.head.drewN n, r.row.drewN n, r.srow.drewN n, r.qh, r.qs, r.hs, r.lenT, r.len⟩
theorem Rf.drew (r : Rf w q h s H T) : Rf w.drew q h s H T := r.drewN 1
theorem Rf.setH (r : Rf w q h s H T) (k : Nat) (x : Int) : Rf (w.setCell ⟨h, k, none⟩ (.int .i64 x)) q h s (H.set k x) T := by
  refine ⟨?_, ?_, r.srow.far (p := ⟨h, k, none⟩) (fun e => r.hs e.symm) _, r.qh, r.qs, r.hs, by simpa using r.lenT, by simpa using r.len⟩
  · have := r.head.far (p := ⟨h, k, none⟩) r.qh (.int .i64 x)
    simp only [List.length_set]
    exact this
  · have := r.row.set_ k (.int .i64 x)
    rw [icells_set] at this
    exact this
theorem Rf.setT (r : Rf w q h s H T) (k : Nat) (x : ByteArray) : Rf (w.setCell ⟨s, k, none⟩ (.string x)) q h s H (T.set k x) := by
  refine ⟨?_, r.row.far (p := ⟨s, k, none⟩) r.hs _, ?_, r.qh, r.qs, r.hs, by simpa using r.lenT, r.len⟩
  · have := r.head.far (p := ⟨s, k, none⟩) r.qs (.string x)
    simp only [List.length_set]
    exact this
  · have := r.srow.set_ k (.string x)
    rw [scells_set] at this
    exact this
end

set_option maxHeartbeats 400000 in
theorem rasked_any {w : World} {q h s : Nat} {H : List Int} {T : List ByteArray} (r : Rf w q h s H T) (z : Int) : Calls Tryd.prog 39 #[.pointer (some ⟨q, 0, none⟩), .int .i64 z] w fun e w' => e = .returned (.int .i64 (askE H z)) ∧ w = w' := by
  have hc := r.head.at_ 0 _ rfl
  by_cases hin : 0 ≤ z ∧ z < H.length
  · obtain ⟨h1, h2⟩ := hin
    obtain ⟨k, rfl⟩ : ∃ k : Nat, z = k := ⟨z.toNat, by omega⟩
    have hk : k < H.length := by omega
    have c1 := r.row.at_ k _ (icells_at hk)
    rw [askE_in hk]
    have d2 : decide ((H.length : Int) ≤ (k : Int)) = false := decide_eq_false (by omega)
    generalize H[k] = x at *
    by_cases hx : x = 0
    · subst hx
      rw [if_pos rfl]
      clear r h1 h2
      go_enter Tryd.func39, Tryd.ntmps39
      go_wp2
      go_ret
      exact ⟨rfl, rfl⟩
    · rw [if_neg hx]
      have hne : (x == 0) = false := by simpa using hx
      clear r h1 h2 hx
      go_enter Tryd.func39, Tryd.ntmps39
      go_wp2
      go_ret
      exact ⟨rfl, rfl⟩
  · have e : askE H z = 14 := by unfold askE; rw [if_neg hin]
    rw [e]
    have hl := r.len
    clear r e
    generalize H.length = n at *
    by_cases h1 : z < 0
    · go_enter Tryd.func39, Tryd.ntmps39
      go_wp2
      go_ret
      exact ⟨rfl, rfl⟩
    · have h2 : (n : Int) ≤ z := by omega
      have h3 : 0 ≤ z := by omega
      clear hin
      go_enter Tryd.func39, Tryd.ntmps39
      go_wp2
      go_ret
      exact ⟨rfl, rfl⟩

set_option maxHeartbeats 800000 in
theorem radd_any {w : World} {q h s : Nat} {H : List Int} {T : List ByteArray} (r : Rf w q h s H T) (z n : Int) : Calls Tryd.prog 17 #[.pointer (some ⟨q, 0, none⟩), .int .i64 z, .int .i64 n] w fun e w' =>
    e = .returned (.int .i64 (askE H z)) ∧ But (· = h) w w' ∧ Rf w' q h s (addH H z n) T := by
  have HA := Lib.hid (rasked_any r z)
  have HR := Lib.hid r
  by_cases h0 : askE H z = 0
  · have e : addH H z n = H.set z.toNat (wrap64 (H.getD z.toNat 0 + n)) := by unfold addH; rw [if_pos h0]
    obtain ⟨k, rfl, hk, _⟩ := askE_zero h0
    have e2 : H.getD ((k : Int)).toNat 0 = H[k] := by simp [List.getD, hk]
    have c0 := r.head.at_ 0 _ rfl
    have c1 := r.row.at_ k _ (icells_at hk)
    have f1 := r.row.frozen k
    rw [h0] at HA
    rw [e, h0, e2, Int.toNat_natCast]
    have hl : (k : Int) < (H.length : Int) := by omega
    generalize H[k] = x at *
    clear r h0 e e2
    go_enter Tryd.func17, Tryd.ntmps17
    go_wp2_with (go_at_call 39; refine HA.out.mono ?_; rintro e w' ⟨rfl, rfl⟩)
    go_region
    all_goals
      go_wp2
      go_ret
      exact ⟨rfl, ((But.refl (· = h) w).drew).setCell (p := ⟨h, k, none⟩) (.inl rfl) _, (HR.out.drewN 1).setH k _⟩
  · have e : addH H z n = H := by unfold addH; rw [if_neg h0]
    have hne : (askE H z == 0) = false := by simpa using h0
    rw [e]
    generalize askE H z = x at *
    clear r h0 e
    go_enter Tryd.func17, Tryd.ntmps17
    go_wp2_with (go_at_call 39; refine HA.out.mono ?_; rintro e w' ⟨rfl, rfl⟩)
    go_ret
    exact ⟨rfl, But.refl _ _, HR.out⟩

set_option maxHeartbeats 800000 in
theorem rfree_any {w : World} {q h s : Nat} {H : List Int} {T : List ByteArray} (r : Rf w q h s H T) : Calls Tryd.prog 30 #[.pointer (some ⟨q, 0, none⟩)] w fun e w' => e = .returned (.int .i64 (freeN H)) ∧ w = w' := by
  have hc := r.head.at_ 0 _ rfl
  have hrow := Lib.hid r.row
  have hlen := r.len
  clear r
  go_enter Tryd.func30, Tryd.ntmps30
  go_wp2
  go_loop [3, 4] (fun u i => ∃ k : Nat, k ≤ H.length ∧ i = .int .i64 k ∧ u = .int .i64 (freeN (H.take k))) (fun _ i => H.length - (intOf i).toNat)
  case atStart => exact ⟨0, Nat.zero_le _, rfl, rfl⟩
  case round =>
    obtain ⟨k, hk, rfl, rfl⟩ := hrel
    by_cases hlt : k < H.length
    · have c1 := hrow.out.at_ k _ (icells_at hlt)
      have hs := freeN_succ H hlt
      have hle : freeN (H.take k) ≤ 4096 := by have := freeN_le (H.take k); simp at this; omega
      obtain ⟨x, hx⟩ : ∃ x, x = H[k] := ⟨_, rfl⟩
      rw [← hx] at c1 hs
      generalize freeN (H.take k) = u at *
      have HX := Lib.hid hs
      clear hx hs
      by_cases h0 : x = 0
      · subst h0
        rw [if_pos rfl] at HX
        go_wp2
        go_round
        case rel => exact ⟨k + 1, by omega, by go_num, by rw [HX.out]; go_num⟩
        case measure => simp [intOf]; omega
      · have h1 : (x == 0) = false := by simpa using h0
        rw [if_neg h0] at HX
        go_wp2
        go_round
        case rel => exact ⟨k + 1, by omega, by go_num, by rw [HX.out]; go_num⟩
        case measure => simp [intOf]; omega
    · obtain rfl : k = H.length := by omega
      rw [List.take_length]
      go_wp2
      go_ret
      exact ⟨rfl, rfl⟩

def rgtS (H : List Int) (T : List ByteArray) (z : Int) : ByteArray := if askE H z = 0 then T.getD z.toNat ⟨#[]⟩ else ⟨#[]⟩
set_option maxHeartbeats 400000 in
theorem rbytes_any {w : World} {q h s : Nat} {H : List Int} {T : List ByteArray} (r : Rf w q h s H T) (z : Int) : Calls Tryd.prog 20 #[.pointer (some ⟨q, 0, none⟩), .int .i64 z] w fun e w' => e = .returned (.tuple #[.string (rgtS H T z), .int .i64 (askE H z)]) ∧ w = w' := by
  have HA := Lib.hid (rasked_any r z)
  by_cases h0 : askE H z = 0
  · obtain ⟨k, rfl, hk, _⟩ := askE_zero h0
    have hkT : k < T.length := by rw [r.lenT]; exact hk
    have e : rgtS H T k = T[k] := by unfold rgtS; rw [if_pos h0]; simp [List.getD, hkT]
    have c0 := r.head.at_ 1 _ rfl
    have c1 := r.srow.at_ k _ (scells_at hkT)
    rw [h0] at HA
    rw [e, h0]
    have hl : (k : Int) < (T.length : Int) := by omega
    generalize T[k] = x at *
    generalize T.length = n at *
    clear r h0 e
    go_enter Tryd.func20, Tryd.ntmps20
    go_wp2_with (go_at_call 39; refine HA.out.mono ?_; rintro e w' ⟨rfl, rfl⟩)
    go_ret2
    exact ⟨rfl, rfl⟩
  · have e : rgtS H T z = ⟨#[]⟩ := by unfold rgtS; rw [if_neg h0]
    have hne : (askE H z != 0) = true := by simpa using h0
    rw [e]
    generalize askE H z = x at *
    clear r h0 e
    go_enter Tryd.func20, Tryd.ntmps20
    go_wp2_with (go_at_call 39; refine HA.out.mono ?_; rintro e w' ⟨rfl, rfl⟩)
    go_ret2
    exact ⟨rfl, rfl⟩

/-- What is held, and the bytes, behind a Take. -/
def tkH (H : List Int) : List Int := if freeAt H < H.length then H.set (freeAt H) 1 else H
def tkT (H : List Int) (T : List ByteArray) : List ByteArray := if freeAt H < H.length then T.set (freeAt H) zsec else T
set_option maxHeartbeats 1600000 in
theorem rtake_any {w : World} {q h s : Nat} {H : List Int} {T : List ByteArray} (r : Rf w q h s H T) : Calls Tryd.prog 15 #[.pointer (some ⟨q, 0, none⟩)] w fun e w' =>
    e = .returned (.tuple #[.int .i64 (tkV H), .int .i64 (tkE H)]) ∧ But (fun j => j = h ∨ j = s) w w' ∧ Rf w' q h s (tkH H) (tkT H T) := by
  have HR := Lib.hid r
  have c0 := r.head.at_ 0 _ rfl
  have c00 := r.head.at_ 1 _ rfl
  have hlen := r.len
  have HT := Lib.hid r.lenT
  have hqh := r.qh
  have hqs := r.qs
  have hhs := r.hs
  have hf := fun w => rfill_any ⟨#[]⟩ 64 w (by decide) (by decide) (by decide)
  rw [show fillS ⟨#[]⟩ 64 = zsec from rfl] at hf
  have HF0 := Lib.hid hf
  obtain ⟨a1, ha1⟩ : ∃ a, tkV H = a := ⟨_, rfl⟩
  obtain ⟨a2, ha2⟩ : ∃ a, tkE H = a := ⟨_, rfl⟩
  obtain ⟨a3, ha3⟩ : ∃ a, tkH H = a := ⟨_, rfl⟩
  obtain ⟨a4, ha4⟩ : ∃ a, tkT H T = a := ⟨_, rfl⟩
  rw [ha1, ha2, ha3, ha4]
  have HV := Lib.hid (And.intro ha1 (And.intro ha2 (And.intro ha3 ha4)))
  clear ha1 ha2 ha3 ha4 r hf
  go_enter Tryd.func15, Tryd.ntmps15
  go_wp2
  go_loop [4] (fun i => ∃ k : Nat, k ≤ H.length ∧ i = .int .i64 k ∧ k ≤ freeAt H) (fun i => H.length - (intOf i).toNat)
  case atStart => exact ⟨0, Nat.zero_le _, rfl, Nat.zero_le _⟩
  case round =>
    obtain ⟨k, hk, rfl, hf⟩ := hrel
    have HF := Lib.hid hf
    clear hf
    by_cases hlt : k < H.length
    · have c1 := HR.out.row.at_ k _ (icells_at hlt)
      have f1 := HR.out.row.frozen k
      obtain ⟨x, hx⟩ : ∃ x, x = H[k] := ⟨_, rfl⟩
      rw [← hx] at c1
      have HX := Lib.hid hx
      clear hx
      by_cases h0 : x = 0
      · subst h0
        have hz := freeAt_hit hlt HF.out HX.out.symm
        obtain ⟨e1, e2, e3, e4⟩ := HV.out
        unfold tkV at e1
        unfold tkE at e2
        unfold tkH at e3
        unfold tkT at e4
        rw [hz, if_pos hlt] at e1 e3 e4
        rw [hz, if_pos hlt] at e2
        subst e1 e2 e3 e4
        have hltT : k < T.length := by rw [HT.out]; exact hlt
        have kI : (k : Int) < (T.length : Int) := by omega
        have HR2 := Lib.hid ((HR.out.setH k 1).drew)
        have HB2 := Lib.hid ((((But.refl (fun j => j = h ∨ j = s) w).setCell (p := ⟨h, k, none⟩) (.inl (.inl rfl)) (.int .i64 1))).drew)
        have a0 := HR2.out.head.at_ 1 _ rfl
        have HLT := Lib.hid hltT
        clear hz hltT
        go_wp2
        go_region_held3 (fun w' => w'.cell? ⟨q, 1, none⟩ = some (.slice (some ⟨s, 0, none⟩) T.length T.length))
          (first | exact a0 | exact (HR5.out.head.far (p := ⟨s, k, none⟩) hqs _).at_ 1 _ rfl)
          ((go_at_call 13; refine (HF0.out _).mono ?_; rintro e v5 ⟨rfl, hb5⟩; have hr5 := HR2.out.on hb5; have c5 := hr5.srow.at_ k _ (scells_at HLT.out); have f5 := hr5.srow.frozen k; clear a0; have a0 := hr5.head.at_ 1 _ rfl; have HB5 := Lib.hid hb5; have HR5 := Lib.hid hr5; clear hb5 hr5))
        go_wp2
        go_ret2
        exact ⟨rfl, (HB2.out.trans (But.of_below HB5.out)).setCell (p := ⟨s, k, none⟩) (.inl (.inr rfl)) _, HR5.out.setT k zsec⟩
      · have hn := freeAt_step hlt HF.out (by rw [← HX.out]; exact h0)
        have hne : (x == 0) = false := by simpa using h0
        have HN := Lib.hid hn
        clear hn h0
        go_wp2
        go_round
        case rel => exact ⟨k + 1, by omega, by go_num, HN.out⟩
        case measure => simp [intOf]; omega
    · have hz : freeAt H = H.length := by have := freeAt_le H; have := HF.out; omega
      obtain rfl : k = H.length := by omega
      obtain ⟨e1, e2, e3, e4⟩ := HV.out
      unfold tkV at e1
      unfold tkE at e2
      unfold tkH at e3
      unfold tkT at e4
      rw [hz, if_neg (Nat.lt_irrefl _)] at e1 e3 e4
      rw [hz, if_neg (Nat.lt_irrefl _)] at e2
      subst e1 e2 e3 e4
      clear hz
      go_wp2
      go_ret2
      exact ⟨rfl, But.refl _ _, HR.out⟩
end Go.Proofs.YtdelmhcbmlbojaaDoor
