/- Package stack: the reader's texts and pairs. -/
import Derived.Test.YtafogipkbhglcaaJV
import Derived.Deep.LoopGhost
namespace Go.Proofs.Ytafogipkbhglcaa
open Go.RowKit Go.Deep
set_option linter.unusedVariables false
set_option linter.unusedSimpArgs false

theorem own_but17 {S : Nat → Prop} {w w' : World} {B e size n : Nat} {v : Value} {xs : List Value} (h : w.ownsRow B e size v n xs) (hb : But S w w') (hS : ∀ k, v.ownBlock = some k → ¬ S k) : w'.ownsRow B e size v n xs := by
  obtain ⟨h1, h2⟩ := h
  refine ⟨h1, ?_⟩
  rcases h2 with h2 | ⟨g, cap, cur, rfl, hB, hg, r⟩
  · exact .inl h2
  · exact .inr ⟨g, cap, cur, rfl, hB, (hb.block g (Array.getElem?_eq_some_iff.1 hg).1 (hS g rfl)).trans hg, r⟩
theorem strRow_but17 {S : Nat → Prop} {w w' : World} {A : Option Addr} {L : List ByteArray} (h : StrRow w A L) (hb : But S w w') (hne : ∀ ad, A = some ad → ¬ S ad.block) : StrRow w' A L := fun i hi => by
  obtain ⟨ad, h1, h2, h3, h4⟩ := h i hi
  have e : (ad.add i).block = ad.block := by unfold Addr.add; split <;> rfl
  have hk := hb.block ad.block h2 (hne ad h1)
  refine ⟨ad, h1, Nat.lt_of_lt_of_le h2 hb.size, ?_, h4⟩
  rw [← h3]
  unfold World.cell?
  rw [e, hk]
/-- From a place on stand places of texts, and a 0. -/
structure TxA (V : ByteArray) (F a : Nat) (ss : List ByteArray) : Prop where
  num : ∀ i (hi : i < ss.length), ∃ p : Nat, getN V ((a + 8 * i : Nat) : Int) 8 = (p : Int) ∧ hol V.size ((a + 8 * i : Nat) : Int) 8 = true ∧ 1 ≤ p ∧ p ≤ 1099511627776 ∧ textOk V ((p : Int) - (F : Int)) 1024 = true ∧ textS V ((p : Int) - (F : Int)) 1024 = ss[i]
  fin : getN V ((a + 8 * ss.length : Nat) : Int) 8 = ((0 : Nat) : Int) ∧ hol V.size ((a + 8 * ss.length : Nat) : Int) 8 = true

/-- A row of texts was told; the reader reads on. -/
def TxT (w : World) (r : Nat) (V : ByteArray) (F a : Nat) (ss : List ByteArray) (e : Ending) (w' : World) : Prop :=
  ∃ A c, e = .returned (.slice A ss.length c) ∧ StrRow w' A ss ∧ Rr w' r V F a ∧ But (· = r) w w' ∧ ∀ ad, A = some ad → w.heap.size ≤ ad.block

set_option maxRecDepth 100000 in
set_option maxHeartbeats 3200000 in
theorem texts17 (r F a : Nat) (V : ByteArray) (ss : List ByteArray) (w : World) (h : Rr w r V F a) (hs : V.size ≤ 100000) (ha : a ≤ 100000) (hF : F ≤ 1099511627776) (hl : ss.length ≤ 128) (hz : ∀ s ∈ ss, s.size ≤ 100000) (hx : TxA V F a ss) :
    Calls Try.prog 36 #[.pointer (some ⟨r, 0, none⟩)] w (TxT w r V F (a + 8 * (ss.length + 1)) ss) := by
  obtain ⟨R, hR⟩ : ∃ R, w.heap.size = R := ⟨_, rfl⟩
  obtain ⟨n, hn⟩ : ∃ n, ss.length = n := ⟨_, rfl⟩
  have hrR : r < R := by rw [← hR]; exact h.lt
  have HEND := Lib.hid (show ∀ e w' A c, e = .returned (.slice A n c) → StrRow w' A ss → Rr w' r V F (a + 8 * (n + 1)) → But (· = r) w w' → (∀ ad, A = some ad → R ≤ ad.block) → TxT w r V F (a + 8 * (ss.length + 1)) ss e w' from fun e w' A c q1 q2 q3 q4 q5 => ⟨A, c, by rw [hn]; exact q1, q2, by rw [hn]; exact q3, q4, by rw [hR]; exact q5⟩)
  rw [hn] at hl
  generalize TxT w r V F (a + 8 * (ss.length + 1)) ss = QQ at *
  have HN := Lib.hid hn
  have HZ := Lib.hid hz
  have HXA := Lib.hid hx
  have hS : But (· = r) w (w.alloc (.cells #[] 9)) := (But.refl _ _).alloc _
  have hO : (w.alloc (.cells #[] 9)).ownsRow R 9 1 (.slice (some ⟨R, 0, none⟩) 0 0) 0 (strs (ss.take 0)) := by
    have := World.ownsRow_lit (base := R) (e := 9) (size := 1) w #[] 0 (by rw [hR]; exact Nat.le_refl _) (by unfold maxLen; omega) rfl
    rw [hR] at this
    exact this
  have hRr : Rr (w.alloc (.cells #[] 9)) r V F a := h.below ((Below.refl _ _).alloc (Nat.le_refl _) _)
  have HS0 := Lib.hid (And.intro hS (And.intro hO hRr))
  have HRS := Lib.hid (show ∀ u, But (· = r) w u → R ≤ u.heap.size from fun u hu => by rw [← hR]; exact hu.size)
  have HM := Lib.hid must17
  obtain ⟨i0, hi, hz0, hz1, hz2⟩ := info_parts infoStr
  clear h hz hn hx hS hO hRr
  go_enter Try.func36, Try.ntmps36
  go_upto_region 1 with fail
  go_step3
  go_wp2_with fail
  try rw [hR]
  generalize w.alloc (.cells #[] 9) = W0 at *
  go_step3
  go_wp2_with fail
  go_loopg [3, 4] (n + 1) (fun gg v3 _ wr => ∃ k : Nat, k ≤ n ∧ n + 1 - k ≤ gg ∧ Hid (wr.ownsRow R 9 1 v3 k (strs (ss.take k))) ∧ Hid (Rr wr r V F (a + 8 * k)) ∧ Hid (But (· = r) w wr))
  case atStart => exact ⟨0, Nat.zero_le _, by omega, Lib.hid HS0.out.2.1, Lib.hid HS0.out.2.2, Lib.hid HS0.out.1⟩
  case round =>
    obtain ⟨k, hk, hg, HO, HR, HB⟩ := hrel
    by_cases hlt : k < n
    · have hkl : k < ss.length := by rw [HN.out]; exact hlt
      obtain ⟨p, g1, g2, p1, p2, t1, t2⟩ := HXA.out.num k hkl
      have hsb := HZ.out ss[k] (List.getElem_mem hkl)
      have htk : ss.take (k + 1) = ss.take k ++ [ss[k]] := List.take_succ_eq_append_getElem hkl
      generalize ss[k] = s at *
      have HL := Lib.hid (low17 r F (a + 8 * k) p V wr HR.out (by omega) (by omega) g1 g2 p2)
      have HT := Lib.hid (fun v1 (hv : Rr v1 r V F (a + 8 * k + 8)) => text17 r F (a + 8 * k + 8) p V s v1 hv (by omega) (by omega) p2 t1 t2)
      have HOW := Lib.hid (show ∀ v, But (· = r) wr v → v.ownsRow R 9 1 u3 k (strs (ss.take k)) from fun v hv => own_but17 HO.out hv (fun j e h => by have := (HO.out.lt j e).1; omega))
      obtain ⟨A3, c3, hu3⟩ := own_slice HO.out
      subst hu3
      have hpz : ((p : Int) == 0) = false := by simp; omega
      have hk128 : (k : Int) < 128 := by omega
      have HTK := Lib.hid htk
      clear g1 g2 t1 t2 htk hkl
      go_wp2_with (first
        | (go_at_call 47; with_reducible refine HL.out.mono ?_; rintro e v1 ⟨rfl, hr1, hb1⟩)
        | (go_at_call 37; with_reducible refine (HM.out _).mono ?_; rintro e v2 ⟨rfl, rfl⟩)
        | (go_at_call 48; with_reducible refine (HT.out _ hr1).mono ?_; rintro e v2 ⟨rfl, hb2⟩)
        | (at_builtin; refine Hid.out ?_))
      have ho1 := own_below (HOW.out _ hb1) hb2
      have hB2 := HB.out.trans (hb1.trans (But.of_below hb2))
      refine Lib.hid ?_
      refine wpList_append_own _ rfl _ _ 22 rfl R 9 i0 (.string ⟨#[]⟩) 1 16 Try.underlying22 hi hz0 hz1 hz2 rfl (by decide) (.slice A3 k c3) k (strs (ss.take k)) rfl (ho1.alloc _) ⟨v2.heap.size, 0, none⟩ 1 1 [.string s] rfl rfl (cell_one17 _ _ _) (fun u hu => by simp at hu; subst hu; rfl) (by unfold maxLen; omega) (by omega) (by have := HRS.out _ hB2; simp; omega) ?_
      intro v' w2 hown1 hgrow _
      have HO2 := Lib.hid (show w2.ownsRow R 9 1 v' (k + 1) (strs (ss.take (k + 1))) from by
        rw [HTK.out, strs_snoc17]
        exact hown1)
      have HB2 := Lib.hid ((hB2.alloc (.cells #[.string s] 9)).grown hgrow (fun j e => .inr (by rw [hR]; exact (ho1.lt j e).1)))
      have HR2 := Lib.hid (show Rr w2 r V F (a + 8 * (k + 1)) from by
        rw [show a + 8 * (k + 1) = a + 8 * k + 8 by omega]
        exact (Blk.alloc (Rr.below hr1 hb2) (.cells #[.string s] 9)).grown hgrow (fun e => by have := (ho1.lt _ e.symm).1; omega))
      clear hown1 hgrow ho1 HO HB HR hr1 hb1 hb2 hB2
      go_wp2_with fail
      go_roundg (n - k)
      case measure => omega
      case rel => exact ⟨k + 1, by omega, by omega, HO2, HR2, HB2⟩
    · obtain rfl : k = n := by omega
      obtain ⟨g1, g2⟩ := HXA.out.fin
      rw [HN.out] at g1 g2
      have HL := Lib.hid (low17 r F (a + 8 * k) 0 V wr HR.out (by omega) (by omega) g1 g2 (by omega))
      have hOO := HO.out
      rw [← HN.out, List.take_length, HN.out] at hOO
      obtain ⟨hlen, A', c', rfl, hrow⟩ := strRow_own17 hOO (fun x hx => by have := HZ.out x hx; unfold maxLen; omega)
      have HROW := Lib.hid hrow
      have HNEW := Lib.hid (show ∀ ad, A' = some ad → R < ad.block + 1 from fun ad e => by subst e; have := (hOO.lt ad.block rfl).1; omega)
      rw [HN.out]
      clear g1 g2 hlen hrow hOO HO
      go_wp2_with (go_at_call 47; with_reducible refine HL.out.mono ?_; rintro e v1 ⟨rfl, hr1, hb1⟩)
      exact HEND.out _ _ A' c' rfl (strRow_but17 HROW.out hb1 (fun ad e h => by have := HNEW.out ad e; omega)) (by rw [show a + 8 * (k + 1) = a + 8 * k + 8 by omega]; exact hr1) (HB.out.trans hb1) (fun ad e => by have := HNEW.out ad e; omega)
end Go.Proofs.Ytafogipkbhglcaa
