/- Package files: what is read of a disk's sectors. -/
import Derived.Test.YtgkhgjihjbjfnaaDoorFD
import Derived.Deep.RegionLaw
namespace Go.Proofs.YtgkhgjihjbjfnaaDoor
open Go.RowKit Go.Shelf
set_option linter.unusedVariables false
set_option linter.unusedSimpArgs false

theorem getL_putL3 : ∀ W x, getL (putL x W) = x % 256 ^ W
  | 0, x => by rw [Nat.pow_zero, Nat.mod_one]; rfl
  | W + 1, x => by
    rw [putL, getL, getL_putL3 W (x / 256), Nat.pow_succ, Nat.mul_comm (256 ^ W) 256, Nat.mod_mul]
    simp
theorem infoExt : (Tryd.prog.info? 61).map (fun i => (i.zero, i.size, i.bytes)) = some (some (.agg #[.int .i64 0, .int .i64 0]), 2, 16) := by kernel_rfl

set_option maxHeartbeats 800000 in
/-- A number that stands in a text. -/
theorem number_any (a b : List UInt8) (v W : Nat) (w : World) (h1 : 1 ≤ W) (h8 : W ≤ 4) (hv : v < 256 ^ W) (hl : a.length + b.length ≤ 1000) (za zW : Int) (ha : za = a.length) (hW : zW = W) :
    Calls Tryd.prog 54 #[.string (mkb (a ++ putL v W ++ b)), .int .i64 za, .int .i64 zW] w fun e w' => e = .returned (.int .i64 v) ∧ w = w' := by
  subst ha hW
  have hsz : (mkb (a ++ putL v W ++ b)).size = a.length + W + b.length := by rw [mkb_size]; simp [putL_length]; omega
  have hg := fun w => get_any (mkb (a ++ putL v W ++ b)) a.length W w (WalkArith.wf_i64 (by omega)) (WalkArith.wf_i64 (by omega)) (by omega)
  have hh : hol (mkb (a ++ putL v W ++ b)).size a.length W = true := hol_iff.2 ⟨by omega, by omega, by omega, by omega, by omega⟩
  have hn : getN (mkb (a ++ putL v W ++ b)) a.length W = (v : Int) := by
    unfold getN
    rw [hh, if_pos rfl, Int.toNat_natCast, Int.toNat_natCast]
    unfold partL
    rw [mkb_data, List.append_assoc, List.drop_left, List.take_append_of_le_length (by rw [putL_length]; exact Nat.le_refl _), List.take_of_length_le (by rw [putL_length]; exact Nat.le_refl _), getL_putL3, Nat.mod_eq_of_lt hv]
  rw [hn, hh] at hg
  have hv2 : v < 4294967296 := by
    have : (256 : Nat) ^ W ≤ 256 ^ 4 := Nat.pow_le_pow_right (by omega) h8
    omega
  have H := Lib.hid hg
  clear hg hn hh hsz hv
  generalize mkb (a ++ putL v W ++ b) = S at *
  go_enter Tryd.func54, Tryd.ntmps54
  go_wp2_with (go_at_call 62; refine (H.out _).mono ?_; rintro e v1 ⟨rfl, rfl⟩)
  go_ret
  exact ⟨rfl, rfl⟩

set_option maxRecDepth 100000 in
set_option maxHeartbeats 800000 in
theorem trimRight_any (s : ByteArray) (j : Nat) (w : World) (h : (0 : UInt8) ∉ s.data.toList) (hp : 1 ≤ s.size) (hs : s.size + j ≤ 1000) :
    Calls Tryd.prog 56 #[.string (mkb (s.data.toList ++ List.replicate j 0)), .string ⟨#[0]⟩] w fun e w' => e = .returned (.string s) ∧ w = w' := by
  have hne : (mkb (s.data.toList ++ List.replicate j 0)).toList.isEmpty = false := by
    have e := Lib.toList_data (mkb (s.data.toList ++ List.replicate j 0))
    rw [e, mkb_data]
    cases hx : s.data.toList with
    | nil => have := len_data s; rw [hx] at this; simp at this; omega
    | cons => rfl
  have hne2 : ¬ (mkb (s.data.toList ++ List.replicate j 0)).toList = [] := fun e => by rw [e] at hne; cases hne
  have H := Lib.hid (fun w => trimbyte_any s j w h hs)
  generalize mkb (s.data.toList ++ List.replicate j 0) = T at *
  go_enter Tryd.func56, Tryd.ntmps56
  go_wp2_with (go_at_call 64; refine (H.out _).mono ?_; rintro e v1 ⟨rfl, rfl⟩)
  go_ret
  exact ⟨rfl, rfl⟩

/-- What follows behind a text's beginning. -/
theorem fillL_split (l m : List UInt8) (n : Nat) (h : (l ++ m).length ≤ n) : fillL (l ++ m) n = l ++ (m ++ List.replicate (n - (l ++ m).length) 0) := by
  unfold fillL
  rw [List.take_of_length_le h, List.append_assoc]

set_option maxHeartbeats 800000 in
theorem readHead_any (c u : Nat) (w : World) (hc : c < 65536) (hu : u < 4294967296) :
    Calls Tryd.prog 35 #[.string (headS c u)] w fun e w' => e = .returned (.tuple #[.int .i64 c, .int .i64 u, .bool true]) ∧ Below w.heap.size w w' := by
  have e1 : headS c u = mkb ([70, 76, 89, 49] ++ putL c 2 ++ (putL u 4 ++ List.replicate 54 0)) := by
    unfold headS headL
    rw [fillL_split _ _ _ (by simp [putL_length])]
    simp [putL_length]
  have e2 : headS c u = mkb ((([70, 76, 89, 49] : List UInt8) ++ putL c 2) ++ putL u 4 ++ List.replicate 54 0) := by rw [e1]; simp
  have h1 := fun w => number_any [70, 76, 89, 49] (putL u 4 ++ List.replicate 54 0) c 2 w (by omega) (by omega) (by omega) (by simp [putL_length]) 4 2 rfl rfl
  have h2 := fun w => number_any (([70, 76, 89, 49] : List UInt8) ++ putL c 2) (List.replicate 54 0) u 4 w (by omega) (by omega) (by omega) (by simp [putL_length]) 6 4 (by simp [putL_length]) rfl
  rw [← e1] at h1
  rw [← e2] at h2
  have h3 := fun w => headText_any c u w (by omega) (by omega)
  have h4 := fun w => fill_any (mkb (headL c u)) 64 w (by decide) (by rw [mkb_size, headL_length]; omega) (by omega)
  have e3 : fillS (mkb (headL c u)) 64 = headS c u := by unfold fillS headS; rw [if_neg (by decide), mkb_data]; rfl
  rw [e3] at h4
  generalize mkb (headL c u) = T at *
  generalize headS c u = S at *
  have H1 := Lib.hid h1
  have H2 := Lib.hid h2
  have H3 := Lib.hid h3
  have H4 := Lib.hid h4
  clear h1 h2 h3 h4 e1 e2 e3
  have hB := Below.refl w.heap.size w
  go_enter Tryd.func35, Tryd.ntmps35
  go_wp2_with (first
    | (go_at_call 54; with_reducible refine (H1.out _).mono ?_; rintro e v1 ⟨rfl, rfl⟩)
    | (go_at_call 54; with_reducible refine (H2.out _).mono ?_; rintro e v1 ⟨rfl, rfl⟩)
    | (go_at_call 48; with_reducible refine (H3.out _).mono ?_; rintro e v1 ⟨rfl, hb⟩; replace hB := hB.trans (hb.mono hB.size); clear hb)
    | (go_at_call 45; with_reducible refine (H4.out _).mono ?_; rintro e v1 ⟨rfl, hb⟩; replace hB := hB.trans (hb.mono hB.size); clear hb))
  go_ret3
  exact ⟨rfl, hB⟩
end Go.Proofs.YtgkhgjihjbjfnaaDoor
