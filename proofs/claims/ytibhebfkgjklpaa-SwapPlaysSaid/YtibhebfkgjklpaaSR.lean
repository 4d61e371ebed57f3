/- The reference's area: New, asked, Get, Add, Used, Put. -/
import Derived.Test.YtibhebfkgjklpaaSD
namespace Go.Proofs.Ytibhebfkgjklpaa
open Go.RowKit
set_option linter.unusedVariables false

/-- Cells of strings. -/
def scells (T : List ByteArray) : Array Value := (T.map Value.string).toArray
theorem scells_at {T : List ByteArray} {k : Nat} (hk : k < T.length) : (scells T)[k]? = some (.string T[k]) := by simp [scells, hk]
theorem scells_set (T : List ByteArray) (k : Nat) (x : ByteArray) : (scells T).setIfInBounds k (.string x) = scells (T.set k x) := by simp [scells, List.map_set]

/-- The reference's area. -/
structure Rf (w : World) (q h s : Nat) (H : List Int) (T : List ByteArray) : Prop where
  head : Blk w q 44 #[.slice (some ⟨h, 0, none⟩) H.length H.length, .slice (some ⟨s, 0, none⟩) T.length T.length]
  row : Blk w h 3 (icells H)
  srow : Blk w s 9 (scells T)
  qh : q ≠ h
  qs : q ≠ s
  hs : h ≠ s
  lenT : T.length = H.length
  len : H.length ≤ 4096
section
variable {w w' : World} {q h s : Nat} {H : List Int} {T : List ByteArray}
theorem Rf.on (r : Rf w q h s H T) (hb : Below w.heap.size w w') : Rf w' q h s H T := ⟨r.head.below hb r.head.lt, r.row.below hb r.row.lt, r.srow.below hb r.srow.lt, r.qh, r.qs, r.hs, r.lenT, r.len⟩
theorem Rf.but {S : Nat → Prop} (r : Rf w q h s H T) (hb : But S w w') (hq : ¬ S q) (hh : ¬ S h) (hs : ¬ S s) : Rf w' q h s H T := ⟨r.head.but hb hq, r.row.but hb hh, r.srow.but hb hs, r.qh, r.qs, r.hs, r.lenT, r.len⟩
theorem Rf.drewN (r : Rf w q h s H T) (n : Nat) : Rf (w.drewN n) q h s H T := ⟨r.head.drewN n, r.row.drewN n, r.srow.drewN n, r.qh, r.qs, r.hs, r.lenT, r.len⟩
theorem Rf.alloc (r : Rf w q h s H T) (o : Obj) : Rf (w.alloc o) q h s H T := r.on ((Below.refl _ _).alloc (Nat.le_refl _) o)
theorem Rf.setH (r : Rf w q h s H T) (k : Nat) (x : Int) : Rf (w.setCell ⟨h, k, none⟩ (.int .i64 x)) q h s (H.set k x) T := by
  refine ⟨?_, ?_, r.srow.far (p := ⟨h, k, none⟩) (fun e => r.hs e.symm) _, r.qh, r.qs, r.hs, by simpa using r.lenT, by simpa using r.len⟩
  · have := r.head.far (p := ⟨h, k, none⟩) r.qh (.int .i64 x)
    simp only [List.length_set]
    exact this
  · have := r.row.set_ k (.int .i64 x)
    rw [icells_set] at this
    exact this
theorem Rf.setT (r : Rf w q h s H T) (k : Nat) (x : ByteArray) : Rf (w.setCell ⟨s, k, none⟩ (.string x)) q h s H (T.set k x) := by
  refine ⟨?_, r.row.far (p := ⟨s, k, none⟩) r.hs _, ?_, r.qh, r.qs, r.hs, by simpa using r.lenT, r.len⟩
  · have := r.head.far (p := ⟨s, k, none⟩) r.qs (.string x)
    simp only [List.length_set]
    exact this
  · have := r.srow.set_ k (.string x)
    rw [scells_set] at this
    exact this
end

set_option maxHeartbeats 400000 in
theorem rasked_any {w : World} {q h s : Nat} {H : List Int} {T : List ByteArray} (r : Rf w q h s H T) (z : Int) : Calls Try.prog 34 #[.pointer (some ⟨q, 0, none⟩), .int .i64 z] w fun e w' => e = .returned (.int .i64 (askE H z)) ∧ w = w' := by
  have hc := r.head.at_ 0 _ rfl
  by_cases hin : 0 ≤ z ∧ z < H.length
  · obtain ⟨h1, h2⟩ := hin
    obtain ⟨k, rfl⟩ : ∃ k : Nat, z = k := ⟨z.toNat, by omega⟩
    have hk : k < H.length := by omega
    have c1 := r.row.at_ k _ (icells_at hk)
    rw [askE_in hk]
    have d2 : decide ((H.length : Int) ≤ (k : Int)) = false := decide_eq_false (by omega)
    generalize H[k] = x at *
    by_cases hx : x = 0
    · subst hx
      rw [if_pos rfl]
      clear r h1 h2
      go_enter Try.func34, Try.ntmps34
      go_wp2
      go_ret
      exact ⟨rfl, rfl⟩
    · rw [if_neg hx]
      have hne : (x == 0) = false := by simpa using hx
      clear r h1 h2 hx
      go_enter Try.func34, Try.ntmps34
      go_wp2
      go_ret
      exact ⟨rfl, rfl⟩
  · have e : askE H z = 14 := by unfold askE; rw [if_neg hin]
    rw [e]
    have hl := r.len
    clear r e
    generalize H.length = n at *
    by_cases h1 : z < 0
    · go_enter Try.func34, Try.ntmps34
      go_wp2
      go_ret
      exact ⟨rfl, rfl⟩
    · have h2 : (n : Int) ≤ z := by omega
      have h3 : 0 ≤ z := by omega
      clear hin
      go_enter Try.func34, Try.ntmps34
      go_wp2
      go_ret
      exact ⟨rfl, rfl⟩

def rgtS (H : List Int) (T : List ByteArray) (z : Int) : ByteArray := if askE H z = 0 then T.getD z.toNat ⟨#[]⟩ else ⟨#[]⟩
set_option maxHeartbeats 400000 in
theorem rget_any {w : World} {q h s : Nat} {H : List Int} {T : List ByteArray} (r : Rf w q h s H T) (z : Int) : Calls Try.prog 17 #[.pointer (some ⟨q, 0, none⟩), .int .i64 z] w fun e w' => e = .returned (.tuple #[.string (rgtS H T z), .int .i64 (askE H z)]) ∧ w = w' := by
  have HA := Lib.hid (rasked_any r z)
  by_cases h0 : askE H z = 0
  · obtain ⟨k, rfl, hk, _⟩ := askE_zero h0
    have hkT : k < T.length := by rw [r.lenT]; exact hk
    have e : rgtS H T k = T[k] := by unfold rgtS; rw [if_pos h0]; simp [List.getD, hkT]
    have c0 := r.head.at_ 1 _ rfl
    have c1 := r.srow.at_ k _ (scells_at hkT)
    rw [h0] at HA
    rw [e, h0]
    have hl : (k : Int) < (T.length : Int) := by omega
    generalize T[k] = x at *
    generalize T.length = n at *
    clear r h0 e
    go_enter Try.func17, Try.ntmps17
    go_wp2_with (go_at_call 34; refine HA.out.mono ?_; rintro e w' ⟨rfl, rfl⟩)
    go_ret2
    exact ⟨rfl, rfl⟩
  · have e : rgtS H T z = ⟨#[]⟩ := by unfold rgtS; rw [if_neg h0]
    have hne : (askE H z != 0) = true := by simpa using h0
    rw [e]
    generalize askE H z = x at *
    clear r h0 e
    go_enter Try.func17, Try.ntmps17
    go_wp2_with (go_at_call 34; refine HA.out.mono ?_; rintro e w' ⟨rfl, rfl⟩)
    go_ret2
    exact ⟨rfl, rfl⟩

set_option maxHeartbeats 800000 in
theorem radd_any {w : World} {q h s : Nat} {H : List Int} {T : List ByteArray} (r : Rf w q h s H T) (z n : Int) : Calls Try.prog 19 #[.pointer (some ⟨q, 0, none⟩), .int .i64 z, .int .i64 n] w fun e w' =>
    e = .returned (.int .i64 (askE H z)) ∧ But (· = h) w w' ∧ Rf w' q h s (addH H z n) T := by
  have HA := Lib.hid (rasked_any r z)
  have HR := Lib.hid r
  by_cases h0 : askE H z = 0
  · have e : addH H z n = H.set z.toNat (wrap64 (H.getD z.toNat 0 + n)) := by unfold addH; rw [if_pos h0]
    obtain ⟨k, rfl, hk, _⟩ := askE_zero h0
    have e2 : H.getD ((k : Int)).toNat 0 = H[k] := by simp [List.getD, hk]
    have c0 := r.head.at_ 0 _ rfl
    have c1 := r.row.at_ k _ (icells_at hk)
    have f1 := r.row.frozen k
    rw [h0] at HA
    rw [e, h0, e2, Int.toNat_natCast]
    have hl : (k : Int) < (H.length : Int) := by omega
    generalize H[k] = x at *
    clear r h0 e e2
    go_enter Try.func19, Try.ntmps19
    go_wp2_with (go_at_call 34; refine HA.out.mono ?_; rintro e w' ⟨rfl, rfl⟩)
    go_region
    all_goals
      go_wp2
      go_ret
      exact ⟨rfl, ((But.refl (· = h) w).drew).setCell (p := ⟨h, k, none⟩) (.inl rfl) _, (HR.out.drewN 1).setH k _⟩
  · have e : addH H z n = H := by unfold addH; rw [if_neg h0]
    have hne : (askE H z == 0) = false := by simpa using h0
    rw [e]
    generalize askE H z = x at *
    clear r h0 e
    go_enter Try.func19, Try.ntmps19
    go_wp2_with (go_at_call 34; refine HA.out.mono ?_; rintro e w' ⟨rfl, rfl⟩)
    go_ret
    exact ⟨rfl, But.refl _ _, HR.out⟩

set_option maxHeartbeats 800000 in
theorem rused_any {w : World} {q h s : Nat} {H : List Int} {T : List ByteArray} (r : Rf w q h s H T) : Calls Try.prog 22 #[.pointer (some ⟨q, 0, none⟩)] w fun e w' => e = .returned (.int .i64 (usedN H)) ∧ w = w' := by
  have hc := r.head.at_ 0 _ rfl
  have hrow := Lib.hid r.row
  have hlen := r.len
  clear r
  go_enter Try.func22, Try.ntmps22
  go_wp2
  go_loop [3, 4] (fun u i => ∃ k : Nat, k ≤ H.length ∧ i = .int .i64 k ∧ u = .int .i64 (usedN (H.take k))) (fun _ i => H.length - (intOf i).toNat)
  case atStart => exact ⟨0, Nat.zero_le _, rfl, rfl⟩
  case round =>
    obtain ⟨k, hk, rfl, rfl⟩ := hrel
    by_cases hlt : k < H.length
    · have c1 := hrow.out.at_ k _ (icells_at hlt)
      have hs := usedN_succ H hlt
      have hle : usedN (H.take k) ≤ 4096 := by have := usedN_le (H.take k); simp at this; omega
      obtain ⟨x, hx⟩ : ∃ x, x = H[k] := ⟨_, rfl⟩
      rw [← hx] at c1 hs
      generalize usedN (H.take k) = u at *
      have HX := Lib.hid hs
      clear hx hs
      by_cases h0 : 0 < x
      · go_wp2
        go_round
        case rel => exact ⟨k + 1, by omega, by go_num, by rw [HX.out, if_pos h0]; go_num⟩
        case measure => simp [intOf]; omega
      · have h1 : x ≤ 0 := by omega
        go_wp2
        go_round
        case rel => exact ⟨k + 1, by omega, by go_num, by rw [HX.out, if_neg h0]; go_num⟩
        case measure => simp [intOf]; omega
    · obtain rfl : k = H.length := by omega
      rw [List.take_length]
      go_wp2
      go_ret
      exact ⟨rfl, rfl⟩

def rptV (H : List Int) (t : ByteArray) : Int := if rptE H t = 0 then freeAt H else 0
def rptH (H : List Int) (t : ByteArray) : List Int := if rptE H t = 0 then H.set (freeAt H) 1 else H
def rptT (H : List Int) (T : List ByteArray) (t : ByteArray) : List ByteArray := if rptE H t = 0 then T.set (freeAt H) t else T
set_option maxHeartbeats 800000 in
theorem rput_any5 {w : World} {q h s : Nat} {H : List Int} {T : List ByteArray} (r : Rf w q h s H T) (t : ByteArray) (ht : t.size ≤ 281474976710656) : Calls Try.prog 15 #[.pointer (some ⟨q, 0, none⟩), .string t] w fun e w' =>
    e = .returned (.tuple #[.int .i64 (rptV H t), .int .i64 (rptE H t)]) ∧ But (fun j => j = h ∨ j = s) w w' ∧ Rf w' q h s (rptH H t) (rptT H T t) := by
  have HR := Lib.hid r
  by_cases h64 : t.size = 64
  · have h2 : ((t.size : Int) != 64) = false := by simp [h64]
    have c0 := r.head.at_ 0 _ rfl
    have c00 := r.head.at_ 1 _ rfl
    have hlen := r.len
    have hrow := Lib.hid r.row
    have HT := Lib.hid r.lenT
    have hqh := r.qh
    have hqs := r.qs
    have hhs := r.hs
    obtain ⟨a1, ha1⟩ : ∃ a, rptV H t = a := ⟨_, rfl⟩
    obtain ⟨a2, ha2⟩ : ∃ a, rptE H t = a := ⟨_, rfl⟩
    obtain ⟨a3, ha3⟩ : ∃ a, rptH H t = a := ⟨_, rfl⟩
    obtain ⟨a4, ha4⟩ : ∃ a, rptT H T t = a := ⟨_, rfl⟩
    rw [ha1, ha2, ha3, ha4]
    have HV := Lib.hid (And.intro ha1 (And.intro ha2 (And.intro ha3 ha4)))
    clear ha1 ha2 ha3 ha4 r
    go_enter Try.func15, Try.ntmps15
    go_wp2
    go_loop [6] (fun i => ∃ k : Nat, k ≤ H.length ∧ i = .int .i64 k ∧ k ≤ freeAt H) (fun i => H.length - (intOf i).toNat)
    case atStart => exact ⟨0, Nat.zero_le _, rfl, Nat.zero_le _⟩
    case round =>
      obtain ⟨k, hk, rfl, hf⟩ := hrel
      have HF := Lib.hid hf
      clear hf
      by_cases hlt : k < H.length
      · have c1 := hrow.out.at_ k _ (icells_at hlt)
        have f1 := hrow.out.frozen k
        have hltT : k < T.length := by rw [HT.out]; exact hlt
        have c2 := HR.out.srow.at_ k _ (scells_at hltT)
        have f2 := HR.out.srow.frozen k
        have kI : (k : Int) < (T.length : Int) := by omega
        obtain ⟨x, hx⟩ : ∃ x, x = H[k] := ⟨_, rfl⟩
        rw [← hx] at c1
        have HX := Lib.hid hx
        clear hx
        by_cases h0 : x = 0
        · subst h0
          have hz := freeAt_hit hlt HF.out HX.out.symm
          obtain ⟨e1, e2, e3, e4⟩ := HV.out
          have ez : rptE H t = 0 := rptE_free h64 (by rw [hz]; exact hlt)
          unfold rptV at e1
          unfold rptH at e3
          unfold rptT at e4
          rw [if_pos ez, hz] at e1 e3 e4
          rw [ez] at e2
          subst e1 e2 e3 e4
          have HZ2 := Lib.hid hltT
          clear hz ez h64
          generalize T[k] = y at *
          go_wp2
          go_ret2
          exact ⟨rfl, ((But.refl (fun j => j = h ∨ j = s) w).setCell (p := ⟨h, k, none⟩) (.inl (.inl rfl)) _).setCell (p := ⟨s, k, none⟩) (.inl (.inr rfl)) _, (HR.out.setH k 1).setT k t⟩
        · have hn := freeAt_step hlt HF.out (by rw [← HX.out]; exact h0)
          have hne : (x == 0) = false := by simpa using h0
          have HN := Lib.hid hn
          clear hn h0
          go_wp2
          go_round
          case rel => exact ⟨k + 1, by omega, by go_num, HN.out⟩
          case measure => simp [intOf]; omega
      · have hz : freeAt H = H.length := by have := freeAt_le H; have := HF.out; omega
        obtain rfl : k = H.length := by omega
        obtain ⟨e1, e2, e3, e4⟩ := HV.out
        have ez : rptE H t = 15 := by unfold rptE; rw [if_pos h64, if_neg (by omega)]
        unfold rptV at e1
        unfold rptH at e3
        unfold rptT at e4
        rw [if_neg (by rw [ez]; decide)] at e1 e3 e4
        rw [ez] at e2
        subst e1 e2 e3 e4
        clear hz ez h64
        go_wp2
        go_ret2
        exact ⟨rfl, But.refl _ _, HR.out⟩
  · have h2 : ((t.size : Int) != 64) = true := by simp; omega
    have ez : rptE H t = 1 := by unfold rptE; rw [if_neg h64]
    have e1 : rptV H t = 0 := by unfold rptV; rw [if_neg (by rw [ez]; decide)]
    have e3 : rptH H t = H := by unfold rptH; rw [if_neg (by rw [ez]; decide)]
    have e4 : rptT H T t = T := by unfold rptT; rw [if_neg (by rw [ez]; decide)]
    rw [ez, e1, e3, e4]
    clear ez e1 e3 e4 h64 r
    go_enter Try.func15, Try.ntmps15
    go_wp2
    go_ret2
    exact ⟨rfl, But.refl _ _, HR.out⟩

/-- A reference's area of n free slots was made. -/
def RMade5 (w : World) (n : Nat) (e : Ending) (w' : World) : Prop := ∃ q h s, e = .returned (.pointer (some ⟨q, 0, none⟩)) ∧ w.heap.size ≤ q ∧ w.heap.size ≤ h ∧ w.heap.size ≤ s ∧ Below w.heap.size w w' ∧ Rf w' q h s (List.replicate n 0) (List.replicate n ⟨#[]⟩)
set_option maxHeartbeats 800000 in
theorem rnew_any (n : Nat) (hn : n ≤ 4096) (w : World) : Calls Try.prog 12 #[.int .i64 n] w (RMade5 w n) := by
  obtain ⟨i0, hi, hz0, hz1, hz2⟩ := info_parts infoInt
  have hmk := run_make_ints (P := Try.prog) 41 3 i0 Try.underlying41 hi hz0 hz1 hz2 n (by omega)
  obtain ⟨i1, hj, hy0, hy1, hy2⟩ := info_parts infoStr
  have hmk2 := run_make_strs (P := Try.prog) 42 9 i1 Try.underlying42 hj hy0 hy1 hy2 n (by omega)
  go_enter Try.func12, Try.ntmps12
  go_wp2
  go_region
  all_goals
    go_wp2
    go_ret
  · refine ⟨w.heap.size + 1 + 1, w.heap.size, w.heap.size + 1, rfl, by omega, Nat.le_refl _, by omega, ?_, ?_⟩
    · exact ((((Below.refl _ w).alloc (Nat.le_refl _) _).alloc (by simp) _).alloc (by simp; omega) _).drew
    · have k1 := ((Blk.new w 3 (icells (List.replicate n 0))).alloc (.cells (List.replicate n (Value.string ⟨#[]⟩)).toArray 9)).alloc (.cells #[.slice (some ⟨w.heap.size, 0, none⟩) n n, .slice (some ⟨w.heap.size + 1, 0, none⟩) n n] 44)
      have k2 := (Blk.new (w.alloc (.cells (icells (List.replicate n 0)) 3)) 9 (List.replicate n (Value.string ⟨#[]⟩)).toArray).alloc (.cells #[.slice (some ⟨w.heap.size, 0, none⟩) n n, .slice (some ⟨w.heap.size + 1, 0, none⟩) n n] 44)
      have k3 := Blk.new ((w.alloc (.cells (icells (List.replicate n 0)) 3)).alloc (.cells (List.replicate n (Value.string ⟨#[]⟩)).toArray 9)) 44 #[.slice (some ⟨w.heap.size, 0, none⟩) n n, .slice (some ⟨w.heap.size + 1, 0, none⟩) n n]
      simp only [World.size_alloc] at k2 k3
      exact ⟨by simpa using k3.drew, by simpa using k1.drew, by simpa [scells] using k2.drew, by omega, by omega, by omega, by simp, by simpa using hn⟩
  · refine ⟨w.heap.size + 1 + 1, w.heap.size + 1, w.heap.size, rfl, by omega, by omega, Nat.le_refl _, ?_, ?_⟩
    · exact ((((Below.refl _ w).alloc (Nat.le_refl _) _).alloc (by simp) _).alloc (by simp; omega) _).drew
    · have k1 := ((Blk.new w 9 (List.replicate n (Value.string ⟨#[]⟩)).toArray).alloc (.cells (icells (List.replicate n 0)) 3)).alloc (.cells #[.slice (some ⟨w.heap.size + 1, 0, none⟩) n n, .slice (some ⟨w.heap.size, 0, none⟩) n n] 44)
      have k2 := (Blk.new (w.alloc (.cells (List.replicate n (Value.string ⟨#[]⟩)).toArray 9)) 3 (icells (List.replicate n 0))).alloc (.cells #[.slice (some ⟨w.heap.size + 1, 0, none⟩) n n, .slice (some ⟨w.heap.size, 0, none⟩) n n] 44)
      have k3 := Blk.new ((w.alloc (.cells (List.replicate n (Value.string ⟨#[]⟩)).toArray 9)).alloc (.cells (icells (List.replicate n 0)) 3)) 44 #[.slice (some ⟨w.heap.size + 1, 0, none⟩) n n, .slice (some ⟨w.heap.size, 0, none⟩) n n]
      simp only [World.size_alloc] at k2 k3
      exact ⟨by simpa using k3.drew, by simpa using k2.drew, by simpa [scells] using k1.drew, by omega, by omega, by omega, by simp, by simpa using hn⟩
end Go.Proofs.Ytibhebfkgjklpaa
