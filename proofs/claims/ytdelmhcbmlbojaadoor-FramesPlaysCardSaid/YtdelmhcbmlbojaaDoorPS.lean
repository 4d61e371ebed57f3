/- The reference's pool: New, Fill, Copy, Load, Store. -/
import Derived.Test.YtdelmhcbmlbojaaDoorPR
namespace Go.Proofs.YtdelmhcbmlbojaaDoor
open Go.RowKit
set_option linter.unusedVariables false

set_option maxHeartbeats 400000 in
theorem rnew_no (n : Int) (w : World) (h : n < 1 ∨ 4096 < n) : Calls Tryd.prog 12 #[.int .i64 n] w fun e w' => e = .returned (.pointer none) ∧ w = w' := by
  by_cases h1 : n < 1
  · go_enter Tryd.func12, Tryd.ntmps12
    go_wp2
    go_ret
    exact ⟨rfl, rfl⟩
  · have h2 : 4096 < n := by omega
    clear h
    go_enter Tryd.func12, Tryd.ntmps12
    go_wp2
    go_ret
    exact ⟨rfl, rfl⟩
/-- A reference's pool of n free frames was made. -/
def RMade6 (w : World) (n : Nat) (e : Ending) (w' : World) : Prop := ∃ q h s, e = .returned (.pointer (some ⟨q, 0, none⟩)) ∧ w.heap.size ≤ q ∧ w.heap.size ≤ h ∧ w.heap.size ≤ s ∧ Below w.heap.size w w' ∧ Rf w' q h s (List.replicate n 0) (List.replicate n ⟨#[]⟩)
set_option maxHeartbeats 800000 in
theorem rnew_made (n : Nat) (h1 : 1 ≤ n) (hn : n ≤ 4096) (w : World) : Calls Tryd.prog 12 #[.int .i64 n] w (RMade6 w n) := by
  obtain ⟨i0, hi, hz0, hz1, hz2⟩ := info_parts infoInt
  have hmk := run_make_ints (P := Tryd.prog) 44 3 i0 Tryd.underlying44 hi hz0 hz1 hz2 n (by omega)
  obtain ⟨i1, hj, hy0, hy1, hy2⟩ := info_parts infoStr
  have hmk2 := run_make_strs (P := Tryd.prog) 45 9 i1 Tryd.underlying45 hj hy0 hy1 hy2 n (by omega)
  go_enter Tryd.func12, Tryd.ntmps12
  go_wp2
  go_region
  all_goals
    go_wp2
    go_ret
  · refine ⟨w.heap.size + 1 + 1, w.heap.size, w.heap.size + 1, rfl, by omega, Nat.le_refl _, by omega, ?_, ?_⟩
    · exact ((((Below.refl _ w).alloc (Nat.le_refl _) _).alloc (by simp) _).alloc (by simp; omega) _).drew
    · have k1 := ((Blk.new w 3 (icells (List.replicate n 0))).alloc (.cells (List.replicate n (Value.string ⟨#[]⟩)).toArray 9)).alloc (.cells #[.slice (some ⟨w.heap.size, 0, none⟩) n n, .slice (some ⟨w.heap.size + 1, 0, none⟩) n n] 47)
      have k2 := (Blk.new (w.alloc (.cells (icells (List.replicate n 0)) 3)) 9 (List.replicate n (Value.string ⟨#[]⟩)).toArray).alloc (.cells #[.slice (some ⟨w.heap.size, 0, none⟩) n n, .slice (some ⟨w.heap.size + 1, 0, none⟩) n n] 47)
      have k3 := Blk.new ((w.alloc (.cells (icells (List.replicate n 0)) 3)).alloc (.cells (List.replicate n (Value.string ⟨#[]⟩)).toArray 9)) 47 #[.slice (some ⟨w.heap.size, 0, none⟩) n n, .slice (some ⟨w.heap.size + 1, 0, none⟩) n n]
      simp only [World.size_alloc] at k2 k3
      exact ⟨by simpa using k3.drew, by simpa using k1.drew, by simpa [scells] using k2.drew, by omega, by omega, by omega, by simp, by simpa using hn⟩
  · refine ⟨w.heap.size + 1 + 1, w.heap.size + 1, w.heap.size, rfl, by omega, by omega, Nat.le_refl _, ?_, ?_⟩
    · exact ((((Below.refl _ w).alloc (Nat.le_refl _) _).alloc (by simp) _).alloc (by simp; omega) _).drew
    · have k1 := ((Blk.new w 9 (List.replicate n (Value.string ⟨#[]⟩)).toArray).alloc (.cells (icells (List.replicate n 0)) 3)).alloc (.cells #[.slice (some ⟨w.heap.size + 1, 0, none⟩) n n, .slice (some ⟨w.heap.size, 0, none⟩) n n] 47)
      have k2 := (Blk.new (w.alloc (.cells (List.replicate n (Value.string ⟨#[]⟩)).toArray 9)) 3 (icells (List.replicate n 0))).alloc (.cells #[.slice (some ⟨w.heap.size + 1, 0, none⟩) n n, .slice (some ⟨w.heap.size, 0, none⟩) n n] 47)
      have k3 := Blk.new ((w.alloc (.cells (List.replicate n (Value.string ⟨#[]⟩)).toArray 9)).alloc (.cells (icells (List.replicate n 0)) 3)) 47 #[.slice (some ⟨w.heap.size + 1, 0, none⟩) n n, .slice (some ⟨w.heap.size, 0, none⟩) n n]
      simp only [World.size_alloc] at k2 k3
      exact ⟨by simpa using k3.drew, by simpa using k2.drew, by simpa [scells] using k1.drew, by omega, by omega, by omega, by simp, by simpa using hn⟩

def rflE (H : List Int) (z : Int) (t : ByteArray) : Int := if askE H z = 0 then (if t.size = 64 then 0 else 1) else askE H z
def rflT (H : List Int) (T : List ByteArray) (z : Int) (t : ByteArray) : List ByteArray := if rflE H z t = 0 then T.set z.toNat t else T
set_option maxHeartbeats 400000 in
theorem rpfill_any {w : World} {q h s : Nat} {H : List Int} {T : List ByteArray} (r : Rf w q h s H T) (z : Int) (t : ByteArray) (ht : t.size ≤ 281474976710656) : Calls Tryd.prog 22 #[.pointer (some ⟨q, 0, none⟩), .int .i64 z, .string t] w fun e w' =>
    e = .returned (.int .i64 (rflE H z t)) ∧ But (· = s) w w' ∧ Rf w' q h s H (rflT H T z t) := by
  have HA := Lib.hid (rasked_any r z)
  have HR := Lib.hid r
  by_cases h0 : askE H z = 0
  · by_cases h6 : t.size = 64
    · have e1 : rflE H z t = 0 := by unfold rflE; rw [if_pos h0, if_pos h6]
      have e2 : rflT H T z t = T.set z.toNat t := by unfold rflT; rw [if_pos e1]
      obtain ⟨k, rfl, hk, hx⟩ := askE_zero h0
      have hkT : k < T.length := by rw [r.lenT]; exact hk
      have c0 := r.head.at_ 1 _ rfl
      have c1 := r.srow.at_ k _ (scells_at hkT)
      have f1 := r.srow.frozen k
      have h2 : ((t.size : Int) != 64) = false := by simp [h6]
      have hl : (k : Int) < (T.length : Int) := by omega
      rw [h0] at HA
      rw [e1, e2, Int.toNat_natCast]
      generalize T[k] = x at *
      clear r h0 e1 e2 h6 hkT hx hk
      go_enter Tryd.func22, Tryd.ntmps22
      go_wp2_with (go_at_call 39; refine HA.out.mono ?_; rintro e w' ⟨rfl, rfl⟩)
      go_ret
      exact ⟨rfl, (But.refl (· = s) w).setCell (p := ⟨s, k, none⟩) (.inl rfl) _, HR.out.setT k t⟩
    · have e1 : rflE H z t = 1 := by unfold rflE; rw [if_pos h0, if_neg h6]
      have e2 : rflT H T z t = T := by unfold rflT; rw [if_neg (by rw [e1]; decide)]
      have h2 : ((t.size : Int) != 64) = true := by simp; omega
      rw [h0] at HA
      rw [e1, e2]
      clear r h0 e1 e2 h6
      go_enter Tryd.func22, Tryd.ntmps22
      go_wp2_with (go_at_call 39; refine HA.out.mono ?_; rintro e w' ⟨rfl, rfl⟩)
      go_ret
      exact ⟨rfl, But.refl _ _, HR.out⟩
  · have e1 : rflE H z t = askE H z := by unfold rflE; rw [if_neg h0]
    have e2 : rflT H T z t = T := by unfold rflT; rw [if_neg (by rw [e1]; exact h0)]
    have hne : (askE H z != 0) = true := by simpa using h0
    rw [e1, e2]
    generalize askE H z = x at *
    clear r h0 e1 e2
    go_enter Tryd.func22, Tryd.ntmps22
    go_wp2_with (go_at_call 39; refine HA.out.mono ?_; rintro e w' ⟨rfl, rfl⟩)
    go_ret
    exact ⟨rfl, But.refl _ _, HR.out⟩

def cpH (H : List Int) (z : Int) : List Int := if cpE H z = 0 then H.set (freeAt H) 1 else H
def cpT (H : List Int) (T : List ByteArray) (z : Int) : List ByteArray := if cpE H z = 0 then T.set (freeAt H) (T.getD z.toNat ⟨#[]⟩) else T
set_option maxHeartbeats 800000 in
theorem rcopy_any {w : World} {q h s : Nat} {H : List Int} {T : List ByteArray} (r : Rf w q h s H T) (z : Int) : Calls Tryd.prog 24 #[.pointer (some ⟨q, 0, none⟩), .int .i64 z] w fun e w' =>
    e = .returned (.tuple #[.int .i64 (cpV H z), .int .i64 (cpE H z)]) ∧ But (fun j => j = h ∨ j = s) w w' ∧ Rf w' q h s (cpH H z) (cpT H T z) := by
  have HBy := Lib.hid (rbytes_any r z)
  have HR := Lib.hid r
  by_cases h0 : askE H z = 0
  · have hg : rgtS H T z = T.getD z.toNat ⟨#[]⟩ := by unfold rgtS; rw [if_pos h0]
    rw [hg, h0] at HBy
    have ht := rtake_any r
    by_cases hlt : freeAt H < H.length
    · have e1 : cpE H z = 0 := by unfold cpE tkE; rw [if_pos h0, if_pos hlt]
      have e2 : cpV H z = freeAt H := by unfold cpV tkV; rw [if_pos h0, if_pos hlt]
      have e3 : cpH H z = H.set (freeAt H) 1 := by unfold cpH; rw [if_pos e1]
      have e4 : cpT H T z = (T.set (freeAt H) zsec).set (freeAt H) (T.getD z.toNat ⟨#[]⟩) := by unfold cpT; rw [if_pos e1, List.set_set]
      have t1 : tkV H = freeAt H := by unfold tkV; rw [if_pos hlt]
      have t2 : tkE H = 0 := by unfold tkE; rw [if_pos hlt]
      have t3 : tkH H = H.set (freeAt H) 1 := by unfold tkH; rw [if_pos hlt]
      have t4 : tkT H T = T.set (freeAt H) zsec := by unfold tkT; rw [if_pos hlt]
      rw [t1, t2, t3, t4] at ht
      rw [e1, e2, e3, e4]
      have hkT : freeAt H < (T.set (freeAt H) zsec).length := by rw [List.length_set, r.lenT]; exact hlt
      have hlen := r.len
      generalize freeAt H = k at *
      generalize T.set k zsec = T2 at *
      generalize H.set k 1 = H2 at *
      generalize T.getD z.toNat ⟨#[]⟩ = x at *
      have kI : (k : Int) < (T2.length : Int) := by omega
      have HT := Lib.hid ht
      have HKT := Lib.hid hkT
      clear r h0 e1 e2 e3 e4 t1 t2 t3 t4 ht hg hkT
      go_enter Tryd.func24, Tryd.ntmps24
      go_wp2_with (first
        | (go_at_call 20; refine HBy.out.mono ?_; rintro e w' ⟨rfl, rfl⟩)
        | (go_at_call 15; refine HT.out.mono ?_; rintro e w4 ⟨rfl, hb4, hr4⟩; have c4 := hr4.head.at_ 1 _ rfl; have c5 := hr4.srow.at_ k _ (scells_at HKT.out); have f5 := hr4.srow.frozen k; have HR4 := Lib.hid hr4; have HB4 := Lib.hid hb4; clear hr4 hb4))
      go_ret2
      exact ⟨rfl, HB4.out.setCell (p := ⟨s, k, none⟩) (.inl (.inr rfl)) _, HR4.out.setT k x⟩
    · have e1 : cpE H z = 18 := by unfold cpE tkE; rw [if_pos h0, if_neg hlt]
      have e2 : cpV H z = 0 := by unfold cpV tkV; rw [if_pos h0, if_neg hlt]
      have e3 : cpH H z = H := by unfold cpH; rw [if_neg (by rw [e1]; decide)]
      have e4 : cpT H T z = T := by unfold cpT; rw [if_neg (by rw [e1]; decide)]
      have t1 : tkV H = 0 := by unfold tkV; rw [if_neg hlt]
      have t2 : tkE H = 18 := by unfold tkE; rw [if_neg hlt]
      have t3 : tkH H = H := by unfold tkH; rw [if_neg hlt]
      have t4 : tkT H T = T := by unfold tkT; rw [if_neg hlt]
      rw [t1, t2, t3, t4] at ht
      rw [e1, e2, e3, e4]
      have HT := Lib.hid ht
      generalize T.getD z.toNat ⟨#[]⟩ = x at *
      clear r h0 e1 e2 e3 e4 t1 t2 t3 t4 ht hg hlt
      go_enter Tryd.func24, Tryd.ntmps24
      go_wp2_with (first
        | (go_at_call 20; refine HBy.out.mono ?_; rintro e w' ⟨rfl, rfl⟩)
        | (go_at_call 15; refine HT.out.mono ?_; rintro e w4 ⟨rfl, hb4, hr4⟩; have HR4 := Lib.hid hr4; have HB4 := Lib.hid hb4; clear hr4 hb4))
      go_ret2
      exact ⟨rfl, HB4.out, HR4.out⟩
  · have hg : rgtS H T z = ⟨#[]⟩ := by unfold rgtS; rw [if_neg h0]
    have e1 : cpE H z = askE H z := by unfold cpE; rw [if_neg h0]
    have e2 : cpV H z = 0 := by unfold cpV; rw [if_neg h0]
    have e3 : cpH H z = H := by unfold cpH; rw [e1, if_neg h0]
    have e4 : cpT H T z = T := by unfold cpT; rw [e1, if_neg h0]
    have hne : (askE H z != 0) = true := by simpa using h0
    rw [hg] at HBy
    rw [e1, e2, e3, e4]
    generalize askE H z = x at *
    clear r h0 e1 e2 e3 e4 hg
    go_enter Tryd.func24, Tryd.ntmps24
    go_wp2_with (go_at_call 20; refine HBy.out.mono ?_; rintro e w' ⟨rfl, rfl⟩)
    go_ret2
    exact ⟨rfl, But.refl _ _, HR.out⟩

/-- Pages of frames that are held are whole. -/
def Whole (H : List Int) (T : List ByteArray) : Prop := ∀ k (hk : k < H.length), H[k] ≠ 0 → ∃ t, T[k]? = some t ∧ t.size = 64
theorem Whole.getD {H : List Int} {T : List ByteArray} (h : Whole H T) {z : Int} (h0 : askE H z = 0) : (T.getD z.toNat ⟨#[]⟩).size = 64 := by
  obtain ⟨k, rfl, hk, hx⟩ := askE_zero h0
  obtain ⟨t, ht, h6⟩ := h k hk hx
  simp [List.getD, ht, h6]

set_option maxHeartbeats 800000 in
theorem rload_any {w : World} {q h s : Nat} {H : List Int} {T : List ByteArray} (r : Rf w q h s H T) (hw : Whole H T) (z a k : Int) (ha : (Lit.int .i64 a).wf = true) (hk : (Lit.int .i64 k).wf = true) : Calls Tryd.prog 26 #[.pointer (some ⟨q, 0, none⟩), .int .i64 z, .int .i64 a, .int .i64 k] w fun e w' =>
    e = .returned (.tuple #[.int .u64 (ldV H T z a k), .int .i64 (wdE H z a k)]) ∧ w = w' := by
  have HBy := Lib.hid (rbytes_any r z)
  clear r
  by_cases h0 : askE H z = 0
  · have hg : rgtS H T z = T.getD z.toNat ⟨#[]⟩ := by unfold rgtS; rw [if_pos h0]
    rw [hg, h0] at HBy
    have h6 := hw.getD h0
    have HW := Lib.hid (fun w => rwidth_any k w hk)
    have hr := wid_range k
    by_cases hz : wid k = 0
    · have e1 : wdE H z a k = 1 := by unfold wdE; rw [if_pos h0, if_pos hz]
      have e2 : ldV H T z a k = 0 := by unfold ldV; rw [if_neg (by rw [e1]; decide)]
      rw [e1, e2]
      rw [hz] at HW
      generalize T.getD z.toNat ⟨#[]⟩ = x at *
      clear h0 e1 e2 hg hz hr h6 hw
      go_enter Tryd.func26, Tryd.ntmps26
      go_wp2_with (first
        | (go_at_call 20; refine HBy.out.mono ?_; rintro e w' ⟨rfl, rfl⟩)
        | (go_at_call 33; with_reducible refine (HW.out _).mono ?_; rintro e v1 ⟨rfl, rfl⟩))
      go_ret2
      exact ⟨rfl, rfl⟩
    · have hz0 : (wid k == 0) = false := by simpa using hz
      have hpt := fun w => rpart_any (T.getD z.toNat ⟨#[]⟩) a (wid k) w ha (wf_i64 (by omega) (by omega)) (by omega)
      rw [h6] at hpt
      cases hi : inn a (wid k) 64
      · have e1 : wdE H z a k = 14 := by unfold wdE; rw [if_pos h0, if_neg hz, hi]; rfl
        have e2 : ldV H T z a k = 0 := by unfold ldV; rw [if_neg (by rw [e1]; decide)]
        rw [e1, e2]
        rw [show inn a (wid k) ((64 : Nat) : Int) = false from hi] at hpt
        have HP := Lib.hid hpt
        generalize partS (T.getD z.toNat ⟨#[]⟩) a (wid k) = y at *
        generalize T.getD z.toNat ⟨#[]⟩ = x at *
        generalize wid k = W at *
        clear h0 e1 e2 hg hz hr h6 hw hi hpt
        go_enter Tryd.func26, Tryd.ntmps26
        go_wp2_with (first
          | (go_at_call 20; refine HBy.out.mono ?_; rintro e w' ⟨rfl, rfl⟩)
          | (go_at_call 33; with_reducible refine (HW.out _).mono ?_; rintro e v1 ⟨rfl, rfl⟩)
          | (go_at_call 47; with_reducible refine (HP.out _).mono ?_; rintro e v1 ⟨rfl, rfl⟩))
        go_ret2
        exact ⟨rfl, rfl⟩
      · have e1 : wdE H z a k = 0 := by unfold wdE; rw [if_pos h0, if_neg hz, if_pos hi]
        have e2 : ldV H T z a k = readV k (partS (T.getD z.toNat ⟨#[]⟩) a (wid k)) := by unfold ldV; rw [if_pos e1]
        have hps : (partS (T.getD z.toNat ⟨#[]⟩) a (wid k)).size = (wid k).toNat := by
          obtain ⟨n, W, rfl, hW, hw, h1, h8⟩ := (wd_cases a k).resolve_left (fun h => by rcases h with h | h; exact hz h; rw [hi] at h; cases h)
          unfold partS
          rw [h6, if_pos (show inn (n : Int) (wid k) ((64 : Nat) : Int) = true from hi), hW, Int.toNat_natCast, Int.toNat_natCast, ext_size h6 hw]
        have hrd := fun w => rread_any k (partS (T.getD z.toNat ⟨#[]⟩) a (wid k)) w hk (by omega)
        rw [readE_in hz (by omega)] at hrd
        rw [e1, e2]
        rw [show inn a (wid k) ((64 : Nat) : Int) = true from hi] at hpt
        have HP := Lib.hid hpt
        have HD := Lib.hid hrd
        generalize readV k (partS (T.getD z.toNat ⟨#[]⟩) a (wid k)) = v at *
        generalize partS (T.getD z.toNat ⟨#[]⟩) a (wid k) = y at *
        generalize T.getD z.toNat ⟨#[]⟩ = x at *
        generalize wid k = W at *
        clear h0 e1 e2 hg hz hr h6 hw hi hpt hrd hps
        go_enter Tryd.func26, Tryd.ntmps26
        go_wp2_with (first
          | (go_at_call 20; refine HBy.out.mono ?_; rintro e w' ⟨rfl, rfl⟩)
          | (go_at_call 33; with_reducible refine (HW.out _).mono ?_; rintro e v1 ⟨rfl, rfl⟩)
          | (go_at_call 47; with_reducible refine (HP.out _).mono ?_; rintro e v1 ⟨rfl, rfl⟩)
          | (go_at_call 48; with_reducible refine (HD.out _).mono ?_; rintro e v1 ⟨rfl, rfl⟩))
        go_ret2
        exact ⟨rfl, rfl⟩
  · have hg : rgtS H T z = ⟨#[]⟩ := by unfold rgtS; rw [if_neg h0]
    have e1 : wdE H z a k = askE H z := wdE_far h0
    have e2 : ldV H T z a k = 0 := by unfold ldV; rw [if_neg (by rw [e1]; exact h0)]
    have hne : (askE H z != 0) = true := by simpa using h0
    rw [hg] at HBy
    rw [e1, e2]
    generalize askE H z = x at *
    clear h0 e1 e2 hg hw
    go_enter Tryd.func26, Tryd.ntmps26
    go_wp2_with (go_at_call 20; refine HBy.out.mono ?_; rintro e w' ⟨rfl, rfl⟩)
    go_ret2
    exact ⟨rfl, rfl⟩

def stT (H : List Int) (T : List ByteArray) (z a k n : Int) : List ByteArray := if wdE H z a k = 0 then T.set z.toNat (setS (T.getD z.toNat ⟨#[]⟩) a (wid k) n.toNat) else T
set_option maxHeartbeats 1600000 in
theorem rstore_any {w : World} {q h s : Nat} {H : List Int} {T : List ByteArray} (r : Rf w q h s H T) (hw : Whole H T) (z a k n : Int) (ha : (Lit.int .i64 a).wf = true) (hk : (Lit.int .i64 k).wf = true) (hn : (Lit.int .u64 n).wf = true) : Calls Tryd.prog 28 #[.pointer (some ⟨q, 0, none⟩), .int .i64 z, .int .i64 a, .int .i64 k, .int .u64 n] w fun e w' =>
    e = .returned (.int .i64 (wdE H z a k)) ∧ But (· = s) w w' ∧ Rf w' q h s H (stT H T z a k n) := by
  have hl := rload_any r hw z a k ha hk
  have HR := Lib.hid r
  by_cases h0 : wdE H z a k = 0
  · obtain ⟨h1, hz, hi⟩ := wdE_zero h0
    have h6 := hw.getD h1
    have e1 : stT H T z a k n = T.set z.toNat (setS (T.getD z.toNat ⟨#[]⟩) a (wid k) n.toNat) := by unfold stT; rw [if_pos h0]
    obtain ⟨j, rfl, hj, _⟩ := askE_zero h1
    have hjT : j < T.length := by rw [r.lenT]; exact hj
    have hr := wid_range k
    have hst := fun w => rset_any (T.getD ((j : Int)).toNat ⟨#[]⟩) a (wid k) n w ha (wf_i64 (by omega) (by omega)) hn (by omega)
    have HW := Lib.hid (fun w => rwidth_any k w hk)
    have e2 : T.getD ((j : Int)).toNat ⟨#[]⟩ = T[j] := by simp [List.getD, hjT]
    rw [h0] at hl
    rw [h0, e1, Int.toNat_natCast]
    rw [e2] at hst
    rw [show T.getD j ⟨#[]⟩ = T[j] by simp [List.getD, hjT]]
    have a0 := r.drew.head.at_ 1 _ rfl
    have a1 := r.drew.srow.at_ j _ (scells_at hjT)
    have HS := Lib.hid hst
    have HL := Lib.hid hl
    have jI : (j : Int) < (T.length : Int) := by omega
    have HJ := Lib.hid hjT
    have HD := Lib.hid r.drew
    have hqs := r.qs
    generalize setS T[j] a (wid k) n.toNat = y at *
    generalize T[j] = x at *
    generalize wid k = W at *
    generalize ldV H T j a k = lv at *
    generalize hol x.size a W = hb at *
    clear r hw hl h0 h1 hz hi h6 e1 e2 hst hr
    have HC := Lib.hid hjT
    go_enter Tryd.func28, Tryd.ntmps28
    go_wp2_with (go_at_call 26; refine HL.out.mono ?_; rintro e w' ⟨rfl, rfl⟩)
    go_region_law (first
      | (go_simp; go_at_call 33; with_reducible refine (HW.out _).mono ?_; rintro e v1 ⟨rfl, rfl⟩)
      | (go_simp; go_at_call 51; refine (HS.out _).mono ?_; rintro e v5 ⟨rfl, hb5⟩
         have hr5 := HD.out.on hb5
         have c5 := hr5.srow.at_ j _ (scells_at HC.out)
         have f5 := hr5.srow.frozen j
         have q5 := hr5.head.at_ 1 _ rfl
         have HB5 := Lib.hid hb5
         have HR5 := Lib.hid hr5
         clear hb5 hr5))
    all_goals
      go_wp2
      go_ret
      exact ⟨rfl, (((But.refl (· = s) w).drew).trans (But.of_below HB5.out)).setCell (p := ⟨s, j, none⟩) (.inl rfl) _, HR5.out.setT j y⟩
  · have e1 : stT H T z a k n = T := by unfold stT; rw [if_neg h0]
    have hne : (wdE H z a k != 0) = true := by simpa using h0
    rw [e1]
    have HL := Lib.hid hl
    generalize ldV H T z a k = lv at *
    generalize wdE H z a k = x at *
    clear r hw hl h0 e1
    go_enter Tryd.func28, Tryd.ntmps28
    go_wp2_with (go_at_call 26; refine HL.out.mono ?_; rintro e w' ⟨rfl, rfl⟩)
    go_ret
    exact ⟨rfl, But.refl _ _, HR.out⟩
end Go.Proofs.YtdelmhcbmlbojaaDoor
