/- Package place: set, liked. -/
import Derived.Test.YtfoapghjloblnabId
import Derived.Deep.RegionHeld3
namespace Go.Proofs.Ytfoapghjloblnab
open Go.RowKit Go.ChangeShapes Go.WideShapes Go.Deep
set_option linter.unusedVariables false
set_option linter.unusedSimpArgs false

theorem measI {q j : Nat} (h : q < j) : (intOf (Value.int .i64 (q : Int))).toNat < (intOf (Value.int .i64 (j : Int))).toNat := by simp [intOf]; exact h
/-- What set leaves. -/
structure SetR (w w' : World) (rb eb tb : Nat) (low high : Int) (m ce H : Nat) (E T T' : Nat → Int) (a : Nat) (v : Int) : Prop where
  room : Rm w' rb eb tb low high m ce H E T'
  tree : TreeP H T'
  leaf : ∀ x, H ≤ x → T' x = updT T a v x
  but : But (fun k => k = tb) w w'
set_option maxRecDepth 100000 in
set_option maxHeartbeats 3200000 in
theorem set_anyI (rb eb tb : Nat) (low high : Int) (m ce D : Nat) (E T : Nat → Int) (i : Nat) (v : Int) (w : World) (h : Rm w rb eb tb low high m ce (2 ^ D) E T) (hT : TreeP (2 ^ D) T) (hi : i < 2 ^ D) (hH : 2 ^ D ≤ 1000000) :
    Calls Try.prog 17 #[.pointer (some ⟨rb, 0, none⟩), .int .i64 i, .int .i64 v] w fun e w' => e = .returned (.tuple #[]) ∧ ∃ T', SetR w w' rb eb tb low high m ce (2 ^ D) E T T' (2 ^ D + i) v := by
  obtain ⟨H, hH0⟩ : ∃ H, 2 ^ D = H := ⟨_, rfl⟩
  have hpos : 0 < H := by rw [← hH0]; exact p2pos D
  rw [hH0] at h hT hi hH ⊢
  obtain ⟨a, ha⟩ : ∃ a : Nat, H + i = a := ⟨_, rfl⟩
  have hs := hT.set a v (by omega)
  have h0 := h.set (k := a) (by omega) v
  have hb0 : But (fun k => k = tb) w (w.setCell ⟨tb, a, none⟩ (.int .i64 v)) := (But.refl (fun k => k = tb) w).setCell (p := ⟨tb, a, none⟩) (.inl rfl) _
  have x3 := h.head.cell 3
  have x4 := h.head.cell 4
  have y0 := h.treeAt (k := a) (by omega)
  have f0 := h.tree.frozen a
  have e1 : (i : Int) + (H : Int) = (a : Int) := by omega
  have e0 : (0 : Int) ≤ (a : Int) := by omega
  have e3 : (a : Int) < ((2 * H : Nat) : Int) := by omega
  have hbd : (a : Int) ≤ 4611686018427387904 := by omega
  have e2 := (wrapsI e0 hbd).2
  rw [ha]
  have HS := Lib.hid hs
  have HB := Lib.hid hb0
  have HR0 := Lib.hid h0
  have HPOS := Lib.hid (And.intro hpos (And.intro hH (show H ≤ a ∧ a < 2 * H by omega)))
  obtain ⟨H2, hH2⟩ : ∃ n : Nat, 2 * H = n := ⟨_, rfl⟩
  rw [hH2] at x3 e3
  have HH2 := Lib.hid hH2
  have hH3 : H2 ≤ 2000000 := by omega
  clear h hT hs hb0 h0 hi hH hH0 ha hbd hpos hH2
  go_enter Try.func17, Try.ntmps17
  go_wp2_with fail
  generalize hV : w.setCell ⟨tb, a, none⟩ (.int .i64 v) = V at HB HR0 ⊢
  clear x3 x4 y0 f0 hV
  go_loopw [1] (fun z wr => ∃ (j : Nat) (T' : Nat → Int), z = .int .i64 j ∧ j < H2 ∧ 1 ≤ j ∧ Hid (Rm wr rb eb tb low high m ce H E T') ∧ Hid (TreeBut H T' j) ∧ Hid (∀ x, H ≤ x → T' x = updT T a v x) ∧ Hid (But (fun k => k = tb) w wr)) (fun z _ => (intOf z).toNat)
  case atStart => exact ⟨a, updT T a v, rfl, by omega, by have := HPOS.out; omega, HR0, HS, Lib.hid (fun _ _ => rfl), HB⟩
  case round =>
    obtain ⟨j, T', rfl, hj2, hj1, HR, HT, HL, HBW⟩ := hrel
    by_cases h1 : j = 1
    · subst h1
      have HTT := Lib.hid (HT.out.done (Nat.le_refl _))
      go_wp2_with fail
      go_end0
      exact ⟨rfl, T', HR.out, HTT.out, HL.out, HBW.out⟩
    · have hj0 : (0 : Int) ≤ (j : Int) := by omega
      have hj3 : (1 : Int) < (j : Int) := by omega
      have HU := Lib.hid (HT.out.up)
      obtain ⟨q, hq⟩ : ∃ q : Nat, j / 2 = q := ⟨_, rfl⟩
      rw [hq] at HU
      obtain ⟨k1, hk1⟩ : ∃ k : Nat, 2 * q = k := ⟨_, rfl⟩
      rw [hk1] at HU
      obtain ⟨k2, hk2⟩ : ∃ k : Nat, k1 + 1 = k := ⟨_, rfl⟩
      rw [hk2] at HU
      have hH2 := HH2.out
      have hqq : q < H ∧ 1 ≤ q := by omega
      have HSR := Lib.hid (fun x => HR.out.set (k := q) (by omega) x)
      have HLR := Lib.hid (fun x (z : Int) (hx : H ≤ x) => show updT T' q z x = updT T a v x from by
        have := HL.out x hx
        rw [← this]
        show (if x = q then z else T' x) = T' x
        rw [if_neg (by omega)])
      have HBS := Lib.hid (fun u => HBW.out.setCell (p := ⟨tb, q, none⟩) (.inl rfl) u)
      have x3 := HR.out.head.cell 3
      have y1 := HR.out.treeAt (k := k1) (by omega)
      have y2 := HR.out.treeAt (k := k2) (by omega)
      have y3 := HR.out.treeAt (k := q) (by omega)
      have f3 := HR.out.tree.frozen q
      have HM := Lib.hid (show q < j ∧ q < H2 ∧ 1 ≤ q by omega)
      have e4 : Int.tdiv (j : Int) 2 = (q : Int) := by rw [Int.tdiv_eq_ediv_of_nonneg hj0]; omega
      have e5 : (2 : Int) * (q : Int) = (k1 : Int) := by omega
      have e6 : (k1 : Int) + 1 = (k2 : Int) := by omega
      have c0 : (0 : Int) ≤ (q : Int) ∧ (q : Int) ≤ 4611686018427387904 ∧ (0 : Int) ≤ (k1 : Int) ∧ (k1 : Int) ≤ 4611686018427387904 ∧ (0 : Int) ≤ (k2 : Int) ∧ (k2 : Int) ≤ 4611686018427387904 := by omega
      obtain ⟨b1, b2, b3, b4, b5, b6⟩ := c0
      have d1 : (q : Int) < (H2 : Int) := by omega
      have d2 : (k1 : Int) < (H2 : Int) := by omega
      have d3 : (k2 : Int) < (H2 : Int) := by omega
      have n1 : (⟨tb, q, none⟩ : Addr) ≠ ⟨tb, k1, none⟩ := by simp <;> omega
      have n2 : (⟨tb, q, none⟩ : Addr) ≠ ⟨tb, k2, none⟩ := by simp <;> omega
      obtain ⟨w1, w2⟩ := wrapsI b1 b2
      obtain ⟨w3, w4⟩ := wrapsI b3 b4
      obtain ⟨w5, w6⟩ := wrapsI b5 b6
      rw [hH2] at x3
      generalize T' k1 = t1 at y1 HU
      generalize T' k2 = t2 at y2 HU
      generalize T' q = t3 at y3
      clear hq hk1 hk2 hH2 hqq HR HT HL b2 b4 b6 h1
      go_wp2_with fail
      go_region
      all_goals go_wp2_with fail
      all_goals go_roundw
      case rel => exact ⟨q, updT T' q (max t1 t2), by go_num, HM.out.2.1, HM.out.2.2, Lib.hid ((HSR.out _).drewN _), HU, Lib.hid (fun x hx => HLR.out x _ hx), Lib.hid ((HBS.out _).drewN _)⟩
      case measure => exact measI HM.out.1
end Go.Proofs.Ytfoapghjloblnab
