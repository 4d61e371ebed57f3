/- Layer 8: rows of bytes that are changed; Turn.of. -/
import Derived.Test.YtakmmphjdkapeaaDoorEZ
namespace Go.Proofs.YtakmmphjdkapeaaDoor
open Go.RowKit
set_option linter.unusedVariables false
set_option linter.unusedSimpArgs false

theorem fillS_size (n : Int) : (fillS ⟨#[]⟩ n).size = n.toNat := by
  unfold fillS
  split
  · show 0 = _
    omega
  · rw [mkb_size, fillL_length]
/-- A byte is set. -/
def setB (s : ByteArray) (k : Nat) (x : UInt8) : ByteArray := mkb (s.data.toList.set k x)
theorem setB_size (s : ByteArray) (k : Nat) (x : UInt8) : (setB s k x).size = s.size := by unfold setB; rw [mkb_size, List.length_set, len_data]
theorem RawB.set {w : World} {g k : Nat} {s : ByteArray} (h : RawB w g s) (hk : k < s.size) (x : UInt8) : RawB (w.setCell ⟨g, k, none⟩ (.int .u8 x.toNat)) g (setB s k x) := by
  refine ⟨Nat.lt_of_lt_of_le h.1 (But.setCell (S := (· = g)) (But.refl _ w) (p := ⟨g, k, none⟩) (.inl rfl) _).size, fun j hj => ?_⟩
  rw [setB_size] at hj
  rw [World.frozen?_setCell]
  refine ⟨?_, (h.2 j hj).2⟩
  have hl : s.data.toList.length = s.size := len_data _
  unfold setB
  rw [mkb_data]
  by_cases e : k = j
  · subst e
    rw [World.cell?_setCell_same w ⟨g, k, none⟩ _ (h.2 k hj).1]
    simp [List.getD_eq_getElem?_getD, hl, hj]
  · rw [World.cell?_setCell_other w ⟨g, k, none⟩ ⟨g, j, none⟩ _ (by intro h; injection h with _ h; exact e h), (h.2 j hj).1]
    simp [List.getD_eq_getElem?_getD, List.getElem?_set, e]
theorem RawB.take {w : World} {g : Nat} {s : ByteArray} (h : RawB w g s) {n : Nat} (hn : n ≤ s.size) : RawB w g (mkb (s.data.toList.take n)) := by
  refine ⟨h.1, fun j hj => ?_⟩
  have hl : s.data.toList.length = s.size := len_data _
  rw [mkb_size, List.length_take] at hj
  obtain ⟨h1, h2⟩ := h.2 j (by omega)
  refine ⟨?_, h2⟩
  rw [h1, mkb_data]
  simp [List.getD_eq_getElem?_getD, List.getElem?_take_of_lt (show j < n by omega)]
theorem u8_of {z : Int} (h : 0 ≤ z ∧ z < 256) : ∃ x : UInt8, (x.toNat : Int) = z := ⟨UInt8.ofNat z.toNat, by rw [UInt8.toNat_ofNat']; omega⟩
theorem xor_u8 (a b : Int) : ∃ x : UInt8, bits .xor .u8 a b = (x.toNat : Int) := by
  obtain ⟨x, hx⟩ := u8_of (z := bits .xor .u8 a b) (by
    have : bits .xor .u8 a b = IntKind.u8.wrap ((BitVec.ofInt 8 a ^^^ BitVec.ofInt 8 b).toNat : Int) := rfl
    rw [this, IntKind.wrap_u8]
    omega)
  exact ⟨x, hx.symm⟩
/-- A number by its rest, from 0 on. -/
theorem rest_nat (m N : Int) (hN : 0 < N) : ∃ r k : Int, m.tmod N = r ∧ -N < r ∧ r < N ∧ (r + N).tmod N = k ∧ 0 ≤ k ∧ k < N := by
  have h1 := Int.tmod_lt_of_pos m hN
  have h2 := Int.lt_tmod_of_pos m hN
  exact ⟨_, _, rfl, h2, h1, rfl, Int.tmod_nonneg _ (by omega), Int.tmod_lt_of_pos _ (by omega)⟩

set_option maxRecDepth 100000 in
set_option maxHeartbeats 400000 in
theorem turn_any (a b c m : Int) (s : ByteArray) (w : World) (ha : (Lit.int .i64 a).wf = true) (hb : (Lit.int .i64 b).wf = true) (hc : (Lit.int .i64 c).wf = true) (hm : (Lit.int .i64 m).wf = true) (h64 : 64 ≤ s.size) (h2 : s.size ≤ 2000) :
    Calls Tryd.prog 18 #[.agg #[.int .i64 a, .int .i64 b, .int .i64 c, .int .i64 m], .string s] w fun e w' => (∃ s2, e = .returned (.string s2) ∧ s2.size ≤ 2300) ∧ Below w.heap.size w w' := by
  obtain ⟨r, q, hr, hr1, hr2, hq, hq1, hq2⟩ := rest_nat m 300 (by omega)
  have hF := fun w => rfill_any ⟨#[]⟩ q w (i64_wf (by omega)) (by decide) (by omega)
  have hFs := fillS_size q
  obtain ⟨F, hFd⟩ : ∃ F, fillS ⟨#[]⟩ q = F := ⟨_, rfl⟩
  rw [hFd] at hF hFs
  obtain ⟨S, hS⟩ : ∃ S, s ++ F = S := ⟨_, rfl⟩
  obtain ⟨N, hN⟩ : ∃ N, S.size = N := ⟨_, rfl⟩
  have hNs : N = s.size + q.toNat := by rw [← hN, cat_of hS rfl hFs]
  obtain ⟨M, hM⟩ : ∃ M, q.toNat = M := ⟨_, rfl⟩
  rw [hM] at hFs hNs
  have hN2 : N ≤ 2299 := by omega
  have hov : Not (9223372036854775807 < s.size + M) := by omega
  obtain ⟨r2, k, hr', hr1', hr2', hk, hk1, hk2⟩ := rest_nat a N (by omega)
  obtain ⟨K, rfl⟩ : ∃ K : Nat, k = (K : Int) := ⟨k.toNat, by omega⟩
  have hKN : K < N := by omega
  have hwr : IntKind.i64.wrap (r2 + (N : Int)) = r2 + (N : Int) := IntWalk.i64_in _ (by omega)
  have hwr2 : wrap64 (r2 + (N : Int)) = r2 + (N : Int) := IntWalk.wrap64_in _ (by omega)
  have hand : bits .and .i64 c 63 = c % 64 := i64_and_mask c 6 63 (by omega) (by decide)
  obtain ⟨C, hC⟩ : ∃ C : Nat, c % 64 = (C : Int) := ⟨(c % 64).toNat, by omega⟩
  have hC63 : C < 64 := by omega
  rw [hC] at hand
  obtain ⟨L, hL⟩ : ∃ L, N - C = L := ⟨_, rfl⟩
  have hLN : (N : Int) - (C : Int) = (L : Int) := by omega
  have HF := Lib.hid hF
  have HCB := Lib.hid (fun w => Lib.run_convert_string_bytes (P := Tryd.prog) w 9 53 5 S Tryd.underlying9 Tryd.underlying53 Tryd.underlying5)
  obtain ⟨W, hW⟩ : ∃ W, w.alloc (.cells #[.int .i64 a, .int .i64 b, .int .i64 c, .int .i64 m] 33) = W := ⟨_, rfl⟩
  have hBW : Below w.heap.size w W := by rw [← hW]; exact (Below.refl _ _).alloc (Nat.le_refl _) _
  have hK1 : Blk W w.heap.size 33 #[.int .i64 a, .int .i64 b, .int .i64 c, .int .i64 m] := by rw [← hW]; exact Blk.new w _ _
  have HW := Lib.hid hW
  have x3 : W.cell? ⟨w.heap.size, 3, none⟩ = some (.int .i64 m) := hK1.at_ 3 _ rfl
  clear hW hF hFd hM hC
  go_enter Tryd.func18, Tryd.ntmps18
  go_upto_region 1 with fail
  rw [HW.out]
  go_upto_region 3 with (go_at_call 25; with_reducible refine (HF.out _).mono ?_; rintro e v1 ⟨rfl, hb1⟩; refine Hid.out ?_)
  refine Lib.hid ?_
  have hB1 := hBW.trans (hb1.mono hBW.size)
  have hK2 := hK1.below hb1 hK1.lt
  have hcb1 := HCB.out v1
  have hcap := grownCap_ge v1 S.size 0 5
  have hraw := rawB_new v1 5 S
  have hbw := below_bytesWorld v1 5 S
  obtain ⟨v2, hv2⟩ : ∃ v2, v2 = Lib.bytesWorld v1 5 S := ⟨_, rfl⟩
  rw [← hv2] at hcb1 hraw hbw
  generalize grownCap v1 S.size 0 5 = cap at *
  obtain ⟨g, hg⟩ : ∃ g, v1.heap.size = g := ⟨_, rfl⟩
  have hgw : w.heap.size < g := by rw [← hg]; exact hK2.lt
  have hB2 := hB1.trans (hbw.mono hB1.size)
  have hK3 := hK2.below hbw hK2.lt
  rw [hg] at hcb1 hraw
  rw [hN] at hcb1 hcap
  have y0 : v2.cell? ⟨w.heap.size, 0, none⟩ = some (.int .i64 a) := hK3.at_ 0 _ rfl
  have y1 : v2.cell? ⟨w.heap.size, 1, none⟩ = some (.int .i64 b) := hK3.at_ 1 _ rfl
  have HR := Lib.hid (show RawB v2 g S from hraw)
  obtain ⟨hc1, hf1⟩ := hraw.2 K (by omega)
  obtain ⟨x, hx⟩ : ∃ x, S.data.toList.getD K 0 = x := ⟨_, rfl⟩
  rw [hx] at hc1
  obtain ⟨z, hz⟩ := xor_u8 (x.toNat : Int) (b % 256)
  obtain ⟨v3, hv3⟩ : ∃ v3, v2.setCell ⟨g, K, none⟩ (.int .u8 z.toNat) = v3 := ⟨_, rfl⟩
  have hr3 : RawB v3 g (setB S K z) := by rw [← hv3]; exact (show RawB v2 g S from HR.out).set (by omega) z
  have hB3 : Below w.heap.size w v3 := by rw [← hv3]; exact hB2.setCell (p := ⟨g, K, none⟩) (Nat.le_of_lt hgw) _
  have hK4 : Blk v3 w.heap.size 33 #[.int .i64 a, .int .i64 b, .int .i64 c, .int .i64 m] := by rw [← hv3]; exact hK3.but ((But.refl (· = g) v2).setCell (p := ⟨g, K, none⟩) (.inl rfl) _) (by omega)
  have y2 : v3.cell? ⟨w.heap.size, 2, none⟩ = some (.int .i64 c) := hK4.at_ 2 _ rfl
  have hL1 : L ≤ cap := by omega
  have hL2 : (L : Int) ≤ (cap : Int) := by omega
  have hc0 : ¬ (cap = 0) := by omega
  have hC2 : ¬ ((N : Int) < (C : Int)) := by omega
  have hsz := setB_size S K z
  have hcv := run_string_raw (P := Tryd.prog) v3.drew 53 9 5 g cap _ Tryd.underlying53 Tryd.underlying5 Tryd.underlying9 ((hr3.below (Below.refl _ _).drew).take (n := L) (by omega)) L (by rw [mkb_size, List.length_take, len_data]; omega)
  obtain ⟨S2, hS2⟩ : ∃ S2, mkb ((setB S K z).data.toList.take L) = S2 := ⟨_, rfl⟩
  have hs2 : S2.size ≤ 2300 := by rw [← hS2, mkb_size, List.length_take, len_data]; omega
  rw [hS2] at hcv
  have HFIN := Lib.hid (And.intro hB3.drew hs2)
  have k1 : (K : Int) < (N : Int) := by omega
  clear hv2 hb1 hK1 hK2 hK3 hK4 x3 hbw hB1 hcap hraw hg hBW HF hr hq hsz hr3 hB3 hS2 hs2 HR hx HCB hNs
  go_upto_region 5 with fail
  go_region
  all_goals
    go_wp2
    go_ret
    exact ⟨⟨_, rfl, HFIN.out.2⟩, HFIN.out.1⟩
end Go.Proofs.YtakmmphjdkapeaaDoor
