/- Package frames: word, its closures; Load, Store. -/
import Derived.Test.YtbidlabhekiijaaDoorPC
import Derived.Test.YtbidlabhekiijaaDoorWJ
import Derived.Test.YtbidlabhekiijaaDoorOctG
namespace Go.Proofs.YtbidlabhekiijaaDoor
open Go.RowKit
set_option linter.unusedVariables false

/-- What a word that is asked for tells; the word; the pool behind its Store. -/
def wdE (H : List Int) (s a k : Int) : Int := if askE H s = 0 then (if wid k = 0 then 1 else if inn a (wid k) 64 then 0 else 14) else askE H s
def ldV (H : List Int) (S : List ByteArray) (s a k : Int) : Int := if wdE H s a k = 0 then readV k (partS (S.getD s.toNat ⟨#[]⟩) a (wid k)) else 0
def Pol.stX (X : Pol) (s a k n : Int) : Pol := if wdE X.H s a k = 0 then { X with S := X.S.set s.toNat (setS (X.S.getD s.toNat ⟨#[]⟩) a (wid k) n.toNat) } else X
theorem Pol.stX_H (X : Pol) (s a k n : Int) : (X.stX s a k n).H = X.H := by unfold Pol.stX; split <;> rfl
theorem wdE_zero {H : List Int} {s a k : Int} (h : wdE H s a k = 0) : askE H s = 0 ∧ wid k ≠ 0 ∧ inn a (wid k) 64 = true := by
  unfold wdE at h
  split at h
  · split at h
    · cases h
    · split at h
      · exact ⟨by assumption, by assumption, by assumption⟩
      · cases h
  · exact absurd h (by assumption)
theorem setS_in {o : ByteArray} {n W : Nat} {x : Nat} (ho : o.size = 64) (h1 : 1 ≤ W) (h8 : W ≤ 8) (hw : n + W ≤ 64) : setS o (n : Int) (W : Int) x = putAt o n (mkb (putL x W)) := by
  unfold setS putAt
  rw [if_pos (by rw [hol_iff, ho]; omega), mkb_data, mkb_size, putL_length, Int.toNat_natCast, Int.toNat_natCast]
theorem setS_size {o : ByteArray} {a w : Int} {x : Nat} (ho : o.size = 64) : (setS o a w x).size = 64 := by
  unfold setS
  split
  · rename_i h
    rw [hol_iff, ho] at h
    rw [mkb_size, List.length_append, List.length_append, List.length_take, List.length_drop, putL_length, len_data, ho]
    omega
  · exact ho
theorem readE_in {s : ByteArray} {k : Int} (hk : wid k ≠ 0) (hs : (s.size : Int) = wid k) : readE k s = 0 := by unfold readE; rw [if_neg hk, if_neg (by omega)]
theorem ext_size {o : ByteArray} {n W : Nat} (ho : o.size = 64) (hw : n + W ≤ 64) : (o.extract n (n + W)).size = W := by rw [ByteArray.size_extract]; omega


set_option maxRecDepth 100000 in
set_option maxHeartbeats 1600000 in
theorem pclo_word_load {w : World} (g k n W : Nat) (hw : n + W ≤ 64) (h1 : 1 ≤ W) (h8 : W ≤ 8) (b c d e1 e2 : Nat) (kd : Int) (hkd : (Lit.int .i64 kd).wf = true) (hW : wid kd = W) (hb : w.cell? ⟨b, 0, none⟩ = some (.int .i64 kd)) (hc : w.cell? ⟨c, 0, none⟩ = some (.int .i64 n))
    (hd : w.cell? ⟨d, 0, none⟩ = some (.func (.func 71) #[] #[.pointer (some ⟨e1, 0, none⟩), .pointer (some ⟨e2, 0, none⟩)])) (hT : Tab w) (r : Int) (R : World → Prop)
    (hK : Hid (Calls Tryd.prog 71 #[.slice (some ⟨g, 64 * k + n, none⟩) W (64 - n), .pointer (some ⟨e1, 0, none⟩), .pointer (some ⟨e2, 0, none⟩)] w.drew fun e w' => e = .returned (.int .i64 r) ∧ R w')) :
    Calls Tryd.prog 74 #[.slice (some ⟨g, 64 * k, none⟩) 64 64, .pointer (some ⟨b, 0, none⟩), .pointer (some ⟨c, 0, none⟩), .pointer (some ⟨d, 0, none⟩)] w fun e w' => e = .returned (.int .i64 r) ∧ R w' := by
  have hwd := width_any kd w hkd hT
  have hin : inn (n : Int) (W : Int) 64 = true := by rw [inn_iff]; omega
  have hwi := within_any (n : Int) (W : Int) 64 w (wf_i64 (by omega) (by omega)) (wf_i64 (by omega) (by omega)) (by decide)
  rw [hin] at hwi
  rw [hW] at hwd
  have HW := Lib.hid hwd
  have HI := Lib.hid hwi
  have d0 : ((W : Int) == 0) = false := by simp; omega
  clear hwd hwi hin hW hT hkd
  obtain ⟨M, hM⟩ : ∃ M, M = n + W := ⟨_, rfl⟩
  have s1 : W = M - n := by omega
  have g0 : (n : Int) + (W : Int) = (M : Int) := by omega
  have g3 : n ≤ M := by omega
  have g4 : M ≤ 64 := by omega
  have g5 : IntKind.i64.wrap (M : Int) = M := IntWalk.i64_in _ (by omega)
  have g6 : ¬ (64 = n) := by omega
  have g7 : (n : Int) ≤ (M : Int) := by omega
  have g8 : (M : Int) ≤ 64 := by omega
  have hK2 := hK.out
  conv at hK2 =>
    enter [3]
    rw [s1]
  have HK := Lib.hid hK2
  clear hK hK2 s1 hM
  go_enter Tryd.func74, Tryd.ntmps74
  go_wp2_with (first
    | (go_at_call 75; refine HW.out.mono ?_; rintro e w' ⟨rfl, rfl⟩)
    | (go_at_call 76; refine HI.out.mono ?_; rintro e w' ⟨rfl, rfl⟩))
  go_still_tail 7, (by kernel_rfl)
  change wpList _ _ _ _ _ w.drew
  generalize w.drew = w2 at *
  go_wp2_with (go_at_call 71; refine HK.out.mono ?_; rintro e w' ⟨rfl, hR⟩)
  go_ret
  exact ⟨rfl, hR⟩

set_option maxHeartbeats 400000 in
theorem pword_load_of (p : Option Addr) (s a k : Int) (e1 e2 : Nat) (w : World) (r : Int) (R : World → Prop)
    (hU : Hid (Calls Tryd.prog 61 #[.pointer p, .int .i64 s, .func (.func 74) #[] #[.pointer (some ⟨w.heap.size + 1, 0, none⟩), .pointer (some ⟨w.heap.size, 0, none⟩), .pointer (some ⟨w.heap.size + 1 + 1, 0, none⟩)]]
      (((w.alloc (.cells #[.int .i64 a] 3)).alloc (.cells #[.int .i64 k] 3)).alloc (.cells #[.func (.func 71) #[] #[.pointer (some ⟨e1, 0, none⟩), .pointer (some ⟨e2, 0, none⟩)]] 111)) fun e w' => e = .returned (.int .i64 r) ∧ R w')) :
    Calls Tryd.prog 68 #[.pointer p, .int .i64 s, .int .i64 a, .int .i64 k, .func (.func 71) #[] #[.pointer (some ⟨e1, 0, none⟩), .pointer (some ⟨e2, 0, none⟩)]] w fun e w' => e = .returned (.int .i64 r) ∧ R w' := by
  have hmf : ∀ (fn : Fn) (first cap : Array Value) (w : World), (Instr.makeFunc fn first cap).run Tryd.prog w = .ok (.func fn first cap) w := fun _ _ _ _ => rfl
  go_enter Tryd.func68, Tryd.ntmps68
  go_wp2_with (go_at_call 61; refine hU.out.mono ?_; rintro e w4 ⟨rfl, hR⟩)
  go_ret
  exact ⟨rfl, hR⟩


set_option maxRecDepth 100000 in
set_option maxHeartbeats 1600000 in
theorem pclo_word_store {w : World} (g k n W : Nat) (hw : n + W ≤ 64) (h1 : 1 ≤ W) (h8 : W ≤ 8) (b c d e1 e2 : Nat) (kd : Int) (hkd : (Lit.int .i64 kd).wf = true) (hW : wid kd = W) (hb : w.cell? ⟨b, 0, none⟩ = some (.int .i64 kd)) (hc : w.cell? ⟨c, 0, none⟩ = some (.int .i64 n))
    (hd : w.cell? ⟨d, 0, none⟩ = some (.func (.func 69) #[] #[.pointer (some ⟨e1, 0, none⟩), .pointer (some ⟨e2, 0, none⟩)])) (hT : Tab w) (r : Int) (R : World → Prop)
    (hK : Hid (Calls Tryd.prog 69 #[.slice (some ⟨g, 64 * k + n, none⟩) W (64 - n), .pointer (some ⟨e1, 0, none⟩), .pointer (some ⟨e2, 0, none⟩)] w.drew fun e w' => e = .returned (.int .i64 r) ∧ R w')) :
    Calls Tryd.prog 74 #[.slice (some ⟨g, 64 * k, none⟩) 64 64, .pointer (some ⟨b, 0, none⟩), .pointer (some ⟨c, 0, none⟩), .pointer (some ⟨d, 0, none⟩)] w fun e w' => e = .returned (.int .i64 r) ∧ R w' := by
  have hwd := width_any kd w hkd hT
  have hin : inn (n : Int) (W : Int) 64 = true := by rw [inn_iff]; omega
  have hwi := within_any (n : Int) (W : Int) 64 w (wf_i64 (by omega) (by omega)) (wf_i64 (by omega) (by omega)) (by decide)
  rw [hin] at hwi
  rw [hW] at hwd
  have HW := Lib.hid hwd
  have HI := Lib.hid hwi
  have d0 : ((W : Int) == 0) = false := by simp; omega
  clear hwd hwi hin hW hT hkd
  obtain ⟨M, hM⟩ : ∃ M, M = n + W := ⟨_, rfl⟩
  have s1 : W = M - n := by omega
  have g0 : (n : Int) + (W : Int) = (M : Int) := by omega
  have g3 : n ≤ M := by omega
  have g4 : M ≤ 64 := by omega
  have g5 : IntKind.i64.wrap (M : Int) = M := IntWalk.i64_in _ (by omega)
  have g6 : ¬ (64 = n) := by omega
  have g7 : (n : Int) ≤ (M : Int) := by omega
  have g8 : (M : Int) ≤ 64 := by omega
  have hK2 := hK.out
  conv at hK2 =>
    enter [3]
    rw [s1]
  have HK := Lib.hid hK2
  clear hK hK2 s1 hM
  go_enter Tryd.func74, Tryd.ntmps74
  go_wp2_with (first
    | (go_at_call 75; refine HW.out.mono ?_; rintro e w' ⟨rfl, rfl⟩)
    | (go_at_call 76; refine HI.out.mono ?_; rintro e w' ⟨rfl, rfl⟩))
  go_still_tail 7, (by kernel_rfl)
  change wpList _ _ _ _ _ w.drew
  generalize w.drew = w2 at *
  go_wp2_with (go_at_call 69; refine HK.out.mono ?_; rintro e w' ⟨rfl, hR⟩)
  go_ret
  exact ⟨rfl, hR⟩

set_option maxHeartbeats 400000 in
theorem pword_store_of (p : Option Addr) (s a k : Int) (e1 e2 : Nat) (w : World) (r : Int) (R : World → Prop)
    (hU : Hid (Calls Tryd.prog 61 #[.pointer p, .int .i64 s, .func (.func 74) #[] #[.pointer (some ⟨w.heap.size + 1, 0, none⟩), .pointer (some ⟨w.heap.size, 0, none⟩), .pointer (some ⟨w.heap.size + 1 + 1, 0, none⟩)]]
      (((w.alloc (.cells #[.int .i64 a] 3)).alloc (.cells #[.int .i64 k] 3)).alloc (.cells #[.func (.func 69) #[] #[.pointer (some ⟨e1, 0, none⟩), .pointer (some ⟨e2, 0, none⟩)]] 111)) fun e w' => e = .returned (.int .i64 r) ∧ R w')) :
    Calls Tryd.prog 68 #[.pointer p, .int .i64 s, .int .i64 a, .int .i64 k, .func (.func 69) #[] #[.pointer (some ⟨e1, 0, none⟩), .pointer (some ⟨e2, 0, none⟩)]] w fun e w' => e = .returned (.int .i64 r) ∧ R w' := by
  have hmf : ∀ (fn : Fn) (first cap : Array Value) (w : World), (Instr.makeFunc fn first cap).run Tryd.prog w = .ok (.func fn first cap) w := fun _ _ _ _ => rfl
  go_enter Tryd.func68, Tryd.ntmps68
  go_wp2_with (go_at_call 61; refine hU.out.mono ?_; rintro e w4 ⟨rfl, hR⟩)
  go_ret
  exact ⟨rfl, hR⟩


set_option maxHeartbeats 800000 in
theorem pclo_word_no {w : World} (g k : Nat) (b c d : Nat) (kd at_ : Int) (hkd : (Lit.int .i64 kd).wf = true) (hat : (Lit.int .i64 at_).wf = true) (hb : w.cell? ⟨b, 0, none⟩ = some (.int .i64 kd)) (hc : w.cell? ⟨c, 0, none⟩ = some (.int .i64 at_)) (hT : Tab w)
    (hno : wid kd = 0 ∨ inn at_ (wid kd) 64 = false) :
    Calls Tryd.prog 74 #[.slice (some ⟨g, 64 * k, none⟩) 64 64, .pointer (some ⟨b, 0, none⟩), .pointer (some ⟨c, 0, none⟩), .pointer (some ⟨d, 0, none⟩)] w fun e w' => e = .returned (.int .i64 (if wid kd = 0 then 1 else 14)) ∧ w = w' := by
  have HW := Lib.hid (width_any kd w hkd hT)
  have hr := wid_range kd
  have HI := Lib.hid (within_any at_ (wid kd) 64 w hat (wf_i64 (by omega) (by omega)) (by decide))
  by_cases h0 : wid kd = 0
  · rw [if_pos h0]
    have d0 : (wid kd == 0) = true := by simpa using h0
    generalize wid kd = W at *
    subst h0
    clear hno hT hr
    go_enter Tryd.func74, Tryd.ntmps74
    go_wp2_with (go_at_call 75; refine HW.out.mono ?_; rintro e w' ⟨rfl, rfl⟩)
    go_ret
    exact ⟨rfl, rfl⟩
  · rw [if_neg h0]
    have hi : inn at_ (wid kd) 64 = false := by rcases hno with h | h; exact absurd h h0; exact h
    have d0 : (wid kd == 0) = false := by simpa using h0
    rw [hi] at HI
    generalize wid kd = W at *
    clear hno hT hr hi h0
    go_enter Tryd.func74, Tryd.ntmps74
    go_wp2_with (first
      | (go_at_call 75; refine HW.out.mono ?_; rintro e w' ⟨rfl, rfl⟩)
      | (go_at_call 76; refine HI.out.mono ?_; rintro e w' ⟨rfl, rfl⟩))
    go_ret
    exact ⟨rfl, rfl⟩

end Go.Proofs.YtbidlabhekiijaaDoor
