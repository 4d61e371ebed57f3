/- Layer 11: what was written is read; what the laws share. -/
import Derived.Test.YtpkjaacklfiblaaZD
import Derived.Test.YtpkjaacklfiblaaZB
namespace Go.Proofs.Ytpkjaacklfiblaa
open Go.RowKit
set_option linter.unusedVariables false
set_option linter.unusedSimpArgs false

/-- What a program says of its relocations alone. -/
def dR (f z : Int) : Dyn := ⟨[], fun j => if j = 5 then f else if j = 6 then z else 0⟩
theorem dR_wf {f z : Int} (hf : (Lit.int .i64 f).wf = true) (hz : (Lit.int .i64 z).wf = true) : (dR f z).wf := ⟨by simp [dR], fun j => by
  unfold dR
  simp only
  split
  · exact hf
  · split
    · exact hz
    · decide⟩
theorem dR_cs (f z : Int) (v : Value) : (dR f z).cs v = #[v, .int .i64 0, .int .i64 0, .int .i64 0, .int .i64 0, .int .i64 f, .int .i64 z, .int .i64 0, .int .i64 0] := rfl
theorem relL_le (s : ByteArray) (f z : Int) : (relL s f z).length ≤ s.size := by
  unfold relL
  split
  · rename_i h
    rw [rlsAt_length]
    unfold relB at h
    simp only [Bool.or_eq_true, Bool.and_eq_true, decide_eq_true_eq] at h
    rcases h with h | h
    · subst h; exact Nat.zero_le _
    · obtain ⟨h1, h2, h3, h4⟩ := inn_iff.1 h.1.2
      omega
  · exact Nat.zero_le _

theorem getL_putLZ : ∀ W x, getL (putL x W) = x % 256 ^ W
  | 0, x => by simp [putL, getL, Nat.mod_one]
  | W + 1, x => by
    have hx : (UInt8.ofNat x).toNat = x % 256 := by simp
    rw [putL, getL, getL_putLZ W (x / 256), Nat.pow_succ, Nat.mul_comm (256 ^ W) 256, Nat.mod_mul, hx]
/-- A number within the part of a text that stands between P and Q. -/
theorem getN_midZ (P B Q : List UInt8) (a j w : Nat) (hP : P.length = a) (hw : 1 ≤ w) (hw8 : w ≤ 8) (hj : j + w ≤ B.length) :
    getN (mkb (P ++ B ++ Q)) ((a : Int) + (j : Int)) w = getL ((B.drop j).take w) := by
  have hV : (mkb (P ++ B ++ Q)).size = a + B.length + Q.length := by rw [mkb_size]; simp [hP]; omega
  unfold getN
  rw [if_pos (by rw [hol_iff, hV]; omega)]
  congr 2
  unfold partL
  rw [mkb_data, show ((a : Int) + (j : Int)).toNat = P.length + j by omega, Int.toNat_natCast, List.append_assoc, List.drop_length_add_append, List.drop_append_of_le_length (by omega), List.take_append_of_le_length (by simp; omega)]
theorem take_putZ (n k : Nat) (Q : List UInt8) : (putL n k ++ Q).take k = putL n k := by
  rw [List.take_append_of_le_length (by rw [putL_length]; exact Nat.le_refl _), List.take_of_length_le (by rw [putL_length]; exact Nat.le_refl _)]
theorem Rl.p0 (r : Rl) : (r.bytes.drop 0).take 8 = putL r.p.toNat 8 := by
  unfold Rl.bytes
  rw [List.drop_zero]
  simp only [List.append_assoc]
  exact take_putZ _ _ _
theorem Rl.p8 (r : Rl) : (r.bytes.drop 8).take 4 = putL r.k.toNat 4 := by
  have e : r.bytes = putL r.p.toNat 8 ++ (putL r.k.toNat 4 ++ (putL r.s.toNat 4 ++ putL (IntKind.u64.wrap r.a).toNat 8)) := by unfold Rl.bytes; simp only [List.append_assoc]
  rw [e, List.drop_left' (by simp [putL_length])]
  exact take_putZ _ _ _
theorem Rl.p12 (r : Rl) : (r.bytes.drop 12).take 4 = putL r.s.toNat 4 := by
  have e : r.bytes = (putL r.p.toNat 8 ++ putL r.k.toNat 4) ++ (putL r.s.toNat 4 ++ putL (IntKind.u64.wrap r.a).toNat 8) := by unfold Rl.bytes; simp only [List.append_assoc]
  rw [e, List.drop_left' (by simp [putL_length])]
  exact take_putZ _ _ _
theorem Rl.p16 (r : Rl) : (r.bytes.drop 16).take 8 = putL (IntKind.u64.wrap r.a).toNat 8 := by
  have e : r.bytes = (putL r.p.toNat 8 ++ putL r.k.toNat 4 ++ putL r.s.toNat 4) ++ putL (IntKind.u64.wrap r.a).toNat 8 := by unfold Rl.bytes; simp only [List.append_assoc]
  rw [e, List.drop_left' (by simp [putL_length]), List.take_of_length_le (by rw [putL_length]; exact Nat.le_refl _)]
/-- A relocation whose numbers fit. -/
structure Rl.fits (r : Rl) : Prop where
  p0 : 0 ≤ r.p
  p1 : r.p ≤ 9223372036854775807
  k0 : 0 ≤ r.k
  k1 : r.k < 4294967296
  s0 : 0 ≤ r.s
  s1 : r.s < 4294967296
  a : (Lit.int .i64 r.a).wf = true
theorem Rl.fits.wf {r : Rl} (h : r.fits) : r.wf := ⟨WalkArith.wf_i64 (by have := h.p0; have := h.p1; omega), WalkArith.wf_i64 (by have := h.k0; have := h.k1; omega), WalkArith.wf_i64 (by have := h.s0; have := h.s1; omega), h.a⟩
/-- What was written is read. -/
theorem rlAt_mid (P Q : List UInt8) (r : Rl) (a : Nat) (hP : P.length = a) (h : r.fits) : rlAt (mkb (P ++ r.bytes ++ Q)) (a : Int) = r := by
  have g0 := getN_midZ P r.bytes Q a 0 8 hP (by omega) (by omega) (by rw [r.bytes_length]; omega)
  have g8 := getN_midZ P r.bytes Q a 8 4 hP (by omega) (by omega) (by rw [r.bytes_length]; omega)
  have g12 := getN_midZ P r.bytes Q a 12 4 hP (by omega) (by omega) (by rw [r.bytes_length]; omega)
  have g16 := getN_midZ P r.bytes Q a 16 8 hP (by omega) (by omega) (by rw [r.bytes_length]; omega)
  rw [r.p0, getL_putLZ] at g0
  rw [r.p8, getL_putLZ] at g8
  rw [r.p12, getL_putLZ] at g12
  rw [r.p16, getL_putLZ] at g16
  obtain ⟨p, k, y, z⟩ := r
  obtain ⟨p0, p1, k0, k1, s0, s1, ha⟩ := h
  obtain ⟨a1, a2⟩ := bounds_i64 ha
  simp only at *
  rw [Nat.mod_eq_of_lt (show p.toNat < 256 ^ 8 by omega), Int.toNat_of_nonneg p0, show (a : Int) + ((0 : Nat) : Int) = a by omega] at g0
  rw [Nat.mod_eq_of_lt (show k.toNat < 256 ^ 4 by omega), Int.toNat_of_nonneg k0] at g8
  rw [Nat.mod_eq_of_lt (show y.toNat < 256 ^ 4 by omega), Int.toNat_of_nonneg s0] at g12
  have hu : 0 ≤ IntKind.u64.wrap z ∧ IntKind.u64.wrap z < 18446744073709551616 := by rw [IntKind.wrap_u64]; omega
  rw [Nat.mod_eq_of_lt (show (IntKind.u64.wrap z).toNat < 256 ^ 8 by omega), Int.toNat_of_nonneg hu.1] at g16
  have e1 : wrap64 p = p := IntWalk.wrap64_in _ (by omega)
  have e2 : wrap64 (IntKind.u64.wrap z) = z := by rw [IntKind.wrap_u64]; unfold wrap64; omega
  unfold rlAt
  have h0 : getN (mkb (P ++ (⟨p, k, y, z⟩ : Rl).bytes ++ Q)) (a : Int) 8 = p := g0
  have h8 : getN (mkb (P ++ (⟨p, k, y, z⟩ : Rl).bytes ++ Q)) ((a : Int) + 8) 4 = k := g8
  have h12 : getN (mkb (P ++ (⟨p, k, y, z⟩ : Rl).bytes ++ Q)) ((a : Int) + 12) 4 = y := g12
  have h16 : getN (mkb (P ++ (⟨p, k, y, z⟩ : Rl).bytes ++ Q)) ((a : Int) + 16) 8 = IntKind.u64.wrap z := g16
  rw [h0, h8, h12, h16, e1, e2]

/-- Their bytes, one behind the other. -/
def rlBytes (l : List Rl) : List UInt8 := l.flatMap Rl.bytes
theorem rlBytes_length : ∀ l, (rlBytes l).length = 24 * l.length
  | [] => rfl
  | r :: l => by
    have h := rlBytes_length l
    unfold rlBytes at *
    rw [List.flatMap_cons, List.length_append, h, r.bytes_length, List.length_cons]; omega
theorem rlBytes_append (l m : List Rl) : rlBytes (l ++ m) = rlBytes l ++ rlBytes m := by simp [rlBytes]
theorem rlBytes_snoc (l : List Rl) (r : Rl) : rlBytes (l ++ [r]) = rlBytes l ++ r.bytes := by simp [rlBytes]
/-- So many of those that were written are read. -/
theorem rlsAt_written (l : List Rl) (Q : List UInt8) (h : ∀ r ∈ l, r.fits) {k : Nat} (hk : k ≤ l.length) : rlsAt (mkb (rlBytes l ++ Q)) 0 k = l.take k := by
  apply List.ext_getElem
  · rw [rlsAt_length, List.length_take]; omega
  · intro i h1 h2
    rw [rlsAt_length] at h1
    have hi : i < l.length := by omega
    rw [List.getElem_take]
    have e : (rlsAt (mkb (rlBytes l ++ Q)) 0 k)[i]'(by rw [rlsAt_length]; exact h1) = rlAt (mkb (rlBytes l ++ Q)) (0 + (i : Int) * 24) := by unfold rlsAt; simp
    rw [e]
    have hs : rlBytes l ++ Q = rlBytes (l.take i) ++ l[i].bytes ++ (rlBytes (l.drop (i + 1)) ++ Q) := by
      have hd : rlBytes (l.drop i) = l[i].bytes ++ rlBytes (l.drop (i + 1)) := by rw [List.drop_eq_getElem_cons hi]; rfl
      conv => lhs; rw [← List.take_append_drop i l, rlBytes_append, hd]
      simp only [List.append_assoc]
    rw [hs, show (0 : Int) + (i : Int) * 24 = ((24 * i : Nat) : Int) by omega]
    exact rlAt_mid _ _ _ _ (by rw [rlBytes_length, List.length_take]; omega) (h _ (List.getElem_mem hi))
theorem fill_bytesZ (B : List UInt8) (n : Nat) (h : B.length ≤ n) : fillS (mkb B) (n : Int) = mkb (B ++ List.replicate (n - B.length) 0) := by
  unfold fillS
  rw [if_neg (by omega), Int.toNat_natCast, mkb_data]
  unfold fillL
  rw [List.take_of_length_le h]
theorem relE_of (s : ByteArray) (f z : Int) : relE s f z = 0 ∨ relE s f z = 17 := by
  unfold relE
  split
  · exact .inl rfl
  · exact .inr rfl
end Go.Proofs.Ytpkjaacklfiblaa
