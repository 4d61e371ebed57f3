/- Layer 17: awake; what the laws share. -/
import Derived.Test.YtafogipkbhglcaaJG
import Derived.Test.YtafogipkbhglcaaBits
import Derived.Deep.RegionHeld3
namespace Go.Proofs.Ytafogipkbhglcaa
open Go.RowKit
set_option linter.unusedVariables false
set_option linter.unusedSimpArgs false

theorem rest_nat17 (m N : Int) (hN : 0 < N) : ∃ r k : Int, m.tmod N = r ∧ -N < r ∧ r < N ∧ (r + N).tmod N = k ∧ 0 ≤ k ∧ k < N := by
  have h1 := Int.tmod_lt_of_pos m hN
  have h2 := Int.lt_tmod_of_pos m hN
  exact ⟨_, _, rfl, h2, h1, rfl, Int.tmod_nonneg _ (by omega), Int.tmod_lt_of_pos _ (by omega)⟩
/-- A call's own row of strings, read. -/
theorem strRow_own17 {w : World} {lo n : Nat} {v : Value} {l : List ByteArray} (h : w.ownsRow lo 9 1 v n (strs l)) (hw : ∀ z ∈ l, z.size ≤ maxLen) : n = l.length ∧ ∃ A c, v = .slice A l.length c ∧ StrRow w A l := by
  have hl := h.1
  rw [show (strs l).length = l.length by simp [strs]] at hl
  obtain rfl : n = l.length := by omega
  refine ⟨rfl, ?_⟩
  rcases h.2 with ⟨rfl, h0⟩ | ⟨g, cap, cur, rfl, hbg, hg, _, _, _, ht⟩
  · have : l = [] := List.length_eq_zero_iff.1 h0
    subst this
    exact ⟨none, 0, rfl, fun i hi => absurd hi (by simp)⟩
  · refine ⟨_, cap, rfl, fun i hi => ⟨⟨g, 0, none⟩, rfl, (show Blk w g _ cur from hg).lt, ?_, hw _ (List.getElem_mem hi)⟩⟩
    have h1 : (strs l)[i]? = some (.string l[i]) := by simp [strs, hi]
    rw [← ht, List.getElem?_take, if_pos (by omega)] at h1
    have e : (⟨g, 0, none⟩ : Addr).add i = ⟨g, i, none⟩ := by unfold Addr.add; split <;> simp_all
    rw [e, (show Blk w g _ cur from hg).cell]
    simpa using h1
theorem strs_snoc17 (l : List ByteArray) (n : ByteArray) : strs (l ++ [n]) = strs l ++ [.string n] := by simp [strs]
theorem strRow_one17 (w : World) (s : ByteArray) (hs : s.size ≤ maxLen) : StrRow (w.alloc (.cells #[.string s] 9)) (some ⟨w.heap.size, 0, none⟩) [s] := fun i hi => by
  obtain rfl : i = 0 := by simpa using hi
  exact ⟨_, rfl, by simp, (Blk.new w _ _).at_ 0 _ rfl, hs⟩
theorem cell_one17 (w : World) (x : Value) (t : TypeId) : ∀ j u, [x][j]? = some u → (w.alloc (.cells #[x] t)).cell? ((⟨w.heap.size, 0, none⟩ : Addr).add j) = some u := fun j u hj => by
  rw [show (⟨w.heap.size, 0, none⟩ : Addr).add j = ⟨w.heap.size, j, none⟩ by unfold Addr.add; split <;> simp_all]
  exact (Blk.new w _ _).at_ j u (by simpa using hj)
theorem ownNil17 (w : World) (B : Nat) (e : TypeId) (size : Nat) : w.ownsRow B e size (.slice none 0 0) 0 [] := ⟨by simp, .inl ⟨rfl, rfl⟩⟩
theorem tlen_one (s : ByteArray) : tlen [s] = s.size + 1 := by rw [tlen_cons, tlen_nil]
theorem plainB_of {ss : List ByteArray} (h : ∀ s ∈ ss, (0 : UInt8) ∉ s.data.toList) : plainB ss = true := by
  unfold plainB
  rw [List.all_eq_true]
  intro s hs
  simpa using h s hs
theorem buildS_size {top : Int} {args env : List ByteArray} {aux : List Pa} (h : buildE top args env aux = 0) : (buildS top args env aux).size = sizeN args env aux := by
  unfold buildS
  rw [h, if_pos rfl, mkb_size, builtL_length]

set_option maxRecDepth 100000 in
set_option maxHeartbeats 1600000 in
theorem awake17 (w : World) : Calls Try.prog 8 #[] w fun e w' => e = .returned (.bool true) ∧ Below w.heap.size w w' := by
  have hb : Below w.heap.size w (w.alloc (.cells #[.string ⟨#[97]⟩] 9)) := (Below.refl _ _).alloc (Nat.le_refl _) _
  have H := build_any 4096 (some ⟨w.heap.size, 0, none⟩) none none [⟨#[97]⟩] [] [] 1 0 0 (w.alloc (.cells #[.string ⟨#[97]⟩] 9)) (by decide) (strRow_one17 w _ (by decide)) (strRow_nil _ _) (PaRow.nil _ _) (by decide) (by decide) (by decide) (by decide +kernel) (by decide +kernel)
  have h1 : buildE 4096 [⟨#[97]⟩] [] [] = 0 := by decide +kernel
  have h2 : buildP 4096 [⟨#[97]⟩] [] [] = 4032 := by decide +kernel
  have h3 := buildS_size h1
  have h4 : sizeN [⟨#[97]⟩] [] [] = 64 := by decide +kernel
  rw [h4] at h3
  rw [h1, h2] at H
  generalize buildS 4096 [⟨#[97]⟩] [] [] = S at *
  have HC : Hid (Calls Try.prog 10 #[.int .i64 4096, .slice (some ⟨w.heap.size, 0, none⟩) 1 1, .slice none 0 0, .slice none 0 0] (w.alloc (.cells #[.string ⟨#[97]⟩] 9)) fun e w' => e = .returned (.tuple #[.int .i64 4032, .string S, .int .i64 0]) ∧ Below (w.alloc (.cells #[.string ⟨#[97]⟩] 9)).heap.size (w.alloc (.cells #[.string ⟨#[97]⟩] 9)) w') := Lib.hid H
  have HB := Lib.hid hb
  clear H h1 h2 h4 hb
  go_enter Try.func8, Try.ntmps8
  go_wp2_with (go_at_call 10; refine HC.out.mono ?_; rintro e v1 ⟨rfl, hb1⟩)
  go_ret
  exact ⟨by simp, HB.out.trans (hb1.mono (by simp))⟩
end Go.Proofs.Ytafogipkbhglcaa
