/- Package stack: the reader's pairs. -/
import Derived.Test.YtafogipkbhglcaaJW
namespace Go.Proofs.Ytafogipkbhglcaa
open Go.RowKit Go.Deep
set_option linter.unusedVariables false
set_option linter.unusedSimpArgs false

theorem cell_two17 (w : World) (x y : Value) (t : TypeId) : ∀ j u, [x, y][j]? = some u → (w.alloc (.cells #[x, y] t)).cell? ((⟨w.heap.size, 0, none⟩ : Addr).add j) = some u := fun j u hj => by
  rw [show (⟨w.heap.size, 0, none⟩ : Addr).add j = ⟨w.heap.size, j, none⟩ by unfold Addr.add; split <;> simp_all]
  exact (Blk.new w _ _).at_ j u (by simpa using hj)
theorem paRow_but17 {S : Nat → Prop} {w w' : World} {A : Option Addr} {L : List Pa} (h : PaRow w A L) (hb : But S w w') (hne : ∀ ad, A = some ad → ¬ S ad.block) : PaRow w' A L := fun i hi => by
  obtain ⟨ad, h1, h2, h3, h4⟩ := h i hi
  have e : ∀ j, (ad.add j).block = ad.block := fun j => by unfold Addr.add; split <;> rfl
  have hk := hb.block ad.block h2 (hne ad h1)
  refine ⟨ad, h1, Nat.lt_of_lt_of_le h2 hb.size, fun j hj => ?_, h4⟩
  rw [← h3 j hj]
  unfold World.cell?
  rw [e, hk]

/-- From a place on stand pairs, and a Tag 0, and one number more. -/
structure PrA (V : ByteArray) (a : Nat) (l : List Pa) : Prop where
  tag : ∀ i (hi : i < l.length), ∃ p : Nat, getN V ((a + 16 * i : Nat) : Int) 8 = (p : Int) ∧ hol V.size ((a + 16 * i : Nat) : Int) 8 = true ∧ 1 ≤ p ∧ p ≤ 1099511627776 ∧ l[i].t = (p : Int)
  val : ∀ i (hi : i < l.length), ∃ p : Nat, getN V ((a + 16 * i + 8 : Nat) : Int) 8 = (p : Int) ∧ hol V.size ((a + 16 * i + 8 : Nat) : Int) 8 = true ∧ p ≤ 1099511627776 ∧ l[i].v = (p : Int)
  fin : getN V ((a + 16 * l.length : Nat) : Int) 8 = ((0 : Nat) : Int) ∧ hol V.size ((a + 16 * l.length : Nat) : Int) 8 = true
  last : ∃ p : Nat, getN V ((a + 16 * l.length + 8 : Nat) : Int) 8 = (p : Int) ∧ hol V.size ((a + 16 * l.length + 8 : Nat) : Int) 8 = true

/-- A row of pairs was told. -/
def PrT (w : World) (r : Nat) (l : List Pa) (e : Ending) (w' : World) : Prop :=
  ∃ A c, e = .returned (.slice A l.length c) ∧ PaRow w' A l ∧ But (· = r) w w' ∧ ∀ ad, A = some ad → w.heap.size ≤ ad.block

set_option maxRecDepth 100000 in
set_option maxHeartbeats 3200000 in
theorem pairs17 (r F a : Nat) (V : ByteArray) (l : List Pa) (w : World) (h : Rr w r V F a) (hs : V.size ≤ 100000) (ha : a ≤ 100000) (hl : l.length ≤ 128) (hwf : ∀ p ∈ l, p.wf) (hx : PrA V a l) :
    Calls Try.prog 38 #[.pointer (some ⟨r, 0, none⟩)] w (PrT w r l) := by
  obtain ⟨R, hR⟩ : ∃ R, w.heap.size = R := ⟨_, rfl⟩
  obtain ⟨n, hn⟩ : ∃ n, l.length = n := ⟨_, rfl⟩
  have hrR : r < R := by rw [← hR]; exact h.lt
  have HEND := Lib.hid (show ∀ e w' A c, e = .returned (.slice A n c) → PaRow w' A l → But (· = r) w w' → (∀ ad, A = some ad → R ≤ ad.block) → PrT w r l e w' from fun e w' A c q1 q2 q4 q5 => ⟨A, c, by rw [hn]; exact q1, q2, q4, by rw [hR]; exact q5⟩)
  rw [hn] at hl
  generalize PrT w r l = QQ at *
  have HN := Lib.hid hn
  have HWF := Lib.hid hwf
  have HXA := Lib.hid hx
  have hS : But (· = r) w (w.alloc (.cells #[] 40)) := (But.refl _ _).alloc _
  have hO : (w.alloc (.cells #[] 40)).ownsRow R 40 2 (.slice (some ⟨R, 0, none⟩) 0 0) 0 (paCells (l.take 0)) := by
    have := World.ownsRow_lit (base := R) (e := 40) (size := 2) w #[] 0 (by rw [hR]; exact Nat.le_refl _) (by unfold maxLen; omega) rfl
    rw [hR] at this
    exact this
  have hRr : Rr (w.alloc (.cells #[] 40)) r V F a := h.below ((Below.refl _ _).alloc (Nat.le_refl _) _)
  have HS0 := Lib.hid (And.intro hS (And.intro hO hRr))
  have HRS := Lib.hid (show ∀ u, But (· = r) w u → R ≤ u.heap.size from fun u hu => by rw [← hR]; exact hu.size)
  have HM := Lib.hid must17
  obtain ⟨i0, hi, hz0, hz1, hz2⟩ := info_parts infoPa
  clear h hn hwf hx hS hO hRr
  go_enter Try.func38, Try.ntmps38
  go_upto_region 1 with fail
  go_step3
  go_wp2_with fail
  try rw [hR]
  generalize w.alloc (.cells #[] 40) = W0 at *
  go_step3
  go_wp2_with fail
  go_loopg [3, 4] (n + 1) (fun gg v3 _ wr => ∃ k : Nat, k ≤ n ∧ n + 1 - k ≤ gg ∧ Hid (wr.ownsRow R 40 2 v3 k (paCells (l.take k))) ∧ Hid (Rr wr r V F (a + 16 * k)) ∧ Hid (But (· = r) w wr))
  case atStart => exact ⟨0, Nat.zero_le _, by omega, Lib.hid HS0.out.2.1, Lib.hid HS0.out.2.2, Lib.hid HS0.out.1⟩
  case round =>
    obtain ⟨k, hk, hg, HO, HR, HB⟩ := hrel
    by_cases hlt : k < n
    · have hkl : k < l.length := by rw [HN.out]; exact hlt
      obtain ⟨p, g1, g2, p1, p2, t1⟩ := HXA.out.tag k hkl
      obtain ⟨q, g3, g4, q2, t2⟩ := HXA.out.val k hkl
      have htk : l.take (k + 1) = l.take k ++ [l[k]] := List.take_succ_eq_append_getElem hkl
      have hpa : l[k] = ⟨(p : Int), (q : Int)⟩ := by rw [← t1, ← t2]
      rw [hpa] at htk
      have HL1 := Lib.hid (low17 r F (a + 16 * k) p V wr HR.out (by omega) (by omega) g1 g2 p2)
      have HL2 := Lib.hid (fun v1 (hv : Rr v1 r V F (a + 16 * k + 8)) => low17 r F (a + 16 * k + 8) q V v1 hv (by omega) (by omega) g3 g4 q2)
      have HOW := Lib.hid (show ∀ v, But (· = r) wr v → v.ownsRow R 40 2 u3 k (paCells (l.take k)) from fun v hv => own_but17 HO.out hv (fun j e h => by have := (HO.out.lt j e).1; omega))
      obtain ⟨A3, c3, hu3⟩ : ∃ A c, u3 = .slice A k c := by
        rcases HO.out.2 with ⟨hv, h0⟩ | ⟨g, cap, cur, hv, _⟩
        · subst h0; exact ⟨_, _, hv⟩
        · exact ⟨_, _, hv⟩
      subst hu3
      have hpz : ((p : Int) == 0) = false := by simp; omega
      have hk128 : (k : Int) < 128 := by omega
      have HTK := Lib.hid htk
      clear g1 g2 g3 g4 t1 t2 htk hpa hkl
      go_wp2_with (first
        | (go_at_call 47; with_reducible refine HL1.out.mono ?_; rintro e v1 ⟨rfl, hr1, hb1⟩)
        | (go_at_call 37; with_reducible refine (HM.out _).mono ?_; rintro e v2 ⟨rfl, rfl⟩)
        | (go_at_call 47; with_reducible refine (HL2.out _ hr1).mono ?_; rintro e v2 ⟨rfl, hr2, hb2⟩)
        | (at_builtin; refine Hid.out ?_))
      have ho1 := HOW.out _ (hb1.trans hb2)
      have hB2 := HB.out.trans (hb1.trans hb2)
      refine Lib.hid ?_
      refine wpList_append_own _ rfl _ _ 23 rfl R 40 i0 (.agg #[.int .i64 0, .int .i64 0]) 2 16 Try.underlying23 hi hz0 hz1 hz2 rfl (by decide) (.slice A3 k c3) k (paCells (l.take k)) rfl (ho1.alloc _) ⟨v2.heap.size, 0, none⟩ 1 1 [.int .i64 (p : Int), .int .i64 (q : Int)] rfl rfl (cell_two17 _ _ _ _) (fun u hu => by simp at hu; rcases hu with rfl | rfl <;> rfl) (by unfold maxLen; omega) (by omega) (by have := HRS.out _ hB2; simp; omega) ?_
      intro v' w2 hown1 hgrow _
      have HO2 := Lib.hid (show w2.ownsRow R 40 2 v' (k + 1) (paCells (l.take (k + 1))) from by
        rw [HTK.out, paCells_snoc]
        exact hown1)
      have HB2 := Lib.hid ((hB2.alloc (.cells #[.int .i64 (p : Int), .int .i64 (q : Int)] 40)).grown hgrow (fun j e => .inr (by rw [hR]; exact (ho1.lt j e).1)))
      have HR2 := Lib.hid (show Rr w2 r V F (a + 16 * (k + 1)) from by
        rw [show a + 16 * (k + 1) = a + 16 * k + 8 + 8 by omega]
        exact (Blk.alloc hr2 (.cells #[.int .i64 (p : Int), .int .i64 (q : Int)] 40)).grown hgrow (fun e => by have := (ho1.lt _ e.symm).1; omega))
      clear hown1 hgrow ho1 HO HB HR hr1 hr2 hb1 hb2 hB2
      go_wp2_with fail
      go_roundg (n - k)
      case measure => omega
      case rel => exact ⟨k + 1, by omega, by omega, HO2, HR2, HB2⟩
    · obtain rfl : k = n := by omega
      obtain ⟨g1, g2⟩ := HXA.out.fin
      obtain ⟨q, g3, g4⟩ := HXA.out.last
      rw [HN.out] at g1 g2 g3 g4
      have HL1 := Lib.hid (low17 r F (a + 16 * k) 0 V wr HR.out (by omega) (by omega) g1 g2 (by omega))
      have HL2 := Lib.hid (fun v1 (hv : Rr v1 r V F (a + 16 * k + 8)) => number17 r F (a + 16 * k + 8) q V v1 hv (by omega) (by omega) g3 g4)
      have hOO := HO.out
      rw [← HN.out, List.take_length, HN.out] at hOO
      have hnew : ∀ ad c, u3 = .slice (some ad) k c → R < ad.block + 1 := fun ad c e => by subst e; have := (hOO.lt ad.block rfl).1; omega
      obtain ⟨hlen, A', c', hu3, hrow⟩ := PaRow.of_own hOO HWF.out
      have HROW := Lib.hid hrow
      have HNEW := Lib.hid (show ∀ ad, A' = some ad → R < ad.block + 1 from fun ad e => hnew ad c' (by rw [hu3, e, HN.out]))
      rw [HN.out] at hu3
      subst hu3
      clear g1 g2 g3 g4 hlen hrow hOO HO hnew
      go_wp2_with (first
        | (go_at_call 47; with_reducible refine HL1.out.mono ?_; rintro e v1 ⟨rfl, hr1, hb1⟩)
        | (go_at_call 35; with_reducible refine (HL2.out _ hr1).mono ?_; rintro e v2 ⟨rfl, hr2, hb2⟩))
      exact HEND.out _ _ A' c' rfl (paRow_but17 HROW.out (hb1.trans hb2) (fun ad e h => by have := HNEW.out ad e; omega)) (HB.out.trans (hb1.trans hb2)) (fun ad e => by have := HNEW.out ad e; omega)
end Go.Proofs.Ytafogipkbhglcaa
