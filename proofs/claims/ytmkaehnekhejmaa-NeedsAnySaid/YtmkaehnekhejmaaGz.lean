/- The reference of layer 12: Of. -/
import Derived.Test.YtmkaehnekhejmaaGy
namespace Go.Proofs.Ytmkaehnekhejmaa
open Go.RowKit
set_option linter.unusedVariables false
set_option linter.unusedSimpArgs false

theorem blk3 {w : World} {g : Nat} {t : TypeId} {x0 x1 x2 : Value} (h : Blk w g t #[x0, x1, x2]) (a0 a1 a2 : Value) :
    Blk (((w.setCell ⟨g, 0, none⟩ a0).setCell ⟨g, 1, none⟩ a1).setCell ⟨g, 2, none⟩ a2) g t #[a0, a1, a2] := by
  have h1 := (((h.set_ 0 a0).set_ 1 a1).set_ 2 a2)
  simpa only [List.setIfInBounds_toArray, List.set_cons_zero, List.set_cons_succ] using h1
theorem but3 (w : World) (g : Nat) (a0 a1 a2 : Value) : But (· = g) w (((w.setCell ⟨g, 0, none⟩ a0).setCell ⟨g, 1, none⟩ a1).setCell ⟨g, 2, none⟩ a2) :=
  (((But.refl (· = g) w).setCell (p := ⟨g, 0, none⟩) (.inl rfl) a0).setCell (p := ⟨g, 1, none⟩) (.inl rfl) a1).setCell (p := ⟨g, 2, none⟩) (.inl rfl) a2
/-- What Of tells. -/
def OfT (L : List Lb) (r : ByteArray) (w : World) (e : Ending) (w' : World) : Prop := ∃ A1 c1 A2 c2 A3 c3, e = .returned (.agg #[.slice A1 (cloW L r).N.length c1, .slice A2 (cloW L r).N.length c2, .slice A3 (cloW L r).M.length c3]) ∧
  StrRow w' A1 (cloW L r).N ∧ NRow w' A2 (cloW L r).D ∧ StrRow w' A3 (cloW L r).M ∧ Below w.heap.size w w'
/-- Where Of stands. -/
structure OfS (L : List Lb) (r : ByteArray) (s : Wk) (g : Nat) : Prop where
  run : ∃ k, runW L k (startW L r, 0) = (s, g)
  inv : Inv L r s g
  bd : Bd s g
def SzW (s : Wk) : Prop := (∀ z ∈ s.N, z.size ≤ maxLen) ∧ ∀ z ∈ s.M, z.size ≤ maxLen
section
variable {L : List Lb} {r x : ByteArray} {s : Wk} {g d : Nat}
theorem SzW.meet1 (h : SzW s) (hx : x.size ≤ maxLen) : SzW (meet1 L d s x) := by
  obtain ⟨h1, h2⟩ := h
  unfold Proofs.Ytmkaehnekhejmaa.meet1
  split <;> split
  · exact ⟨h1, h2⟩
  · exact ⟨fun z hz => by
      rcases List.mem_append.1 hz with h | h
      · exact h1 z h
      · simp at h; rw [h]; exact hx, h2⟩
  · exact ⟨h1, h2⟩
  · exact ⟨h1, fun z hz => by
      rcases List.mem_append.1 hz with h | h
      · exact h2 z h
      · simp at h; rw [h]; exact hx⟩
theorem SzW.meetL : ∀ (l : List ByteArray) (s : Wk), SzW s → (∀ x ∈ l, x.size ≤ maxLen) → SzW (meetL L d s l)
  | [], s, h, _ => h
  | x :: l, s, h, hl => SzW.meetL l _ (h.meet1 (hl x (by simp))) (fun y hy => hl y (List.mem_cons_of_mem _ hy))
theorem OfS.start (L : List Lb) (r : ByteArray) : OfS L r (startW L r) 0 := ⟨⟨0, rfl⟩, Inv.start L r, Bd.start L r⟩
theorem OfS.step (h : OfS L r s g) (hg : g < s.N.length) (hn : ∀ b ∈ L, b.need.length ≤ 100000) : OfS L r (stepW L (s, g)).1 (g + 1) := by
  obtain ⟨k, hk⟩ := h.run
  refine ⟨⟨k + 1, ?_⟩, h.inv.step hg, h.bd.step hn (by rw [h.inv.len]; exact hg)⟩
  rw [runW_add, hk]
  show (if g < s.N.length then runW L 0 (stepW L (s, g)) else (s, g)) = _
  rw [if_pos hg]
  rfl
theorem OfS.done (h : OfS L r s g) (hg : g = s.N.length) : cloW L r = s := by
  obtain ⟨k, hk⟩ := h.run
  have h1 := runW_add L k (L.length + 1) (startW L r, 0)
  rw [hk, run_clo L r (k + (L.length + 1)) (by omega), runW_stop (x := (s, g)) (by simp only; omega)] at h1
  exact congrArg Prod.fst h1
theorem startW_there (h : there L r = true) : startW L r = ⟨[r], [0], []⟩ := by
  unfold startW Proofs.Ytmkaehnekhejmaa.meet1
  rw [if_pos h, if_neg (by simp)]
  rfl
end
theorem own_one {W : World} {g lo : Nat} {t : TypeId} {x : Value} (h : Blk W g t #[x]) (hlo : lo ≤ g) : W.ownsRow lo t 1 (.slice (some ⟨g, 0, none⟩) 1 1) 1 [x] :=
  ⟨rfl, .inr ⟨g, 1, _, rfl, hlo, h, Nat.le_refl _, by decide, rfl, rfl⟩⟩
set_option maxRecDepth 100000 in
set_option maxHeartbeats 6400000 in
theorem of_any (L : List Lb) (r : ByteArray) (A : Option Addr) (c : Nat) (w : World) (h : LibRow w A L) (hL : L.length ≤ 255) (hr : r.size ≤ maxLen) :
    Calls Try.prog 13 #[.slice A L.length c, .string r] w (OfT L r w) := by
  obtain ⟨R, hR⟩ : ∃ R, w.heap.size = R := ⟨_, rfl⟩
  obtain ⟨n, hn⟩ : ∃ n, L.length = n := ⟨_, rfl⟩
  have hFI := fun x v (hv : Below R w v) => find_any w L x A c v h (by rw [hR]; exact hv) (by omega)
  have hsm := h.small
  have hnds := h.need
  rw [hn] at hFI hL ⊢
  have HFI := Lib.hid hFI
  have HN := Lib.hid (And.intro hn (And.intro hR (And.intro hsm hnds)))
  have H := Lib.hid h
  obtain ⟨W0, hW0⟩ : ∃ W0, (w.alloc (.cells #[.slice none 0 0, .slice none 0 0, .slice none 0 0] 35)).alloc (.cells #[.slice none 0 0, .slice none 0 0, .slice none 0 0] 35) = W0 := ⟨_, rfl⟩
  have HW := Lib.hid (show Blk W0 R 35 #[.slice none 0 0, .slice none 0 0, .slice none 0 0] ∧ Blk W0 (R + 1) 35 #[.slice none 0 0, .slice none 0 0, .slice none 0 0] ∧ Below R w W0 ∧ W0.heap.size = R + 2 from by
    rw [← hW0, ← hR]
    exact ⟨(Blk.new w _ _).alloc _, blk_two w _ _ _, ((Below.refl _ _).alloc (Nat.le_refl _) _).alloc (by simp) _, by simp⟩)
  have HE := Lib.hid hW0
  clear hFI hn h hW0 hsm hnds
  go_enter Try.func13, Try.ntmps13
  go_upto_region 3 with (first
    | (rw [HE.out])
    | (go_at_call 20; (with_reducible refine (HFI.out _ _ HW.out.2.2.1).mono ?_); rintro e v1 ⟨A1, c1, rfl, hr1, rfl⟩))
  clear hR
  cases hth : there L r with
  | false =>
    have hcn : (cloW L r).N = [] ∧ (cloW L r).M = [r] := (clo_inv L r).noroot hth
    have hcd : (cloW L r).D = [] := List.length_eq_zero_iff.1 (by rw [(clo_inv L r).len, hcn.1]; rfl)
    have y2 := (HW.out.2.1.alloc (.cells #[.string r] 9)).cell 2
    have f2 := (HW.out.2.1.alloc (.cells #[.string r] 9)).frozen 2
    have HS := Lib.hid (show ∀ W2, (v1.setCell ⟨R + 1, 2, none⟩ (.slice (some ⟨R + 2, 0, none⟩) 1 1)).alloc (.cells #[.string r] 9) = W2 → Blk W2 R 35 #[.slice none 0 0, .slice none 0 0, .slice none 0 0] ∧ Blk W2 (R + 1) 35 #[.slice none 0 0, .slice none 0 0, .slice (some ⟨R + 2, 0, none⟩) 1 1] ∧ Blk W2 (R + 2) 9 #[.string r] ∧ Below R w W2 from fun W2 h => by
      subst h
      obtain ⟨a1, a2, a3, a4⟩ := HW.out
      have hs : But (· = R + 1) v1 (v1.setCell ⟨R + 1, 2, none⟩ (.slice (some ⟨R + 2, 0, none⟩) 1 1)) := (But.refl (· = R + 1) v1).setCell (p := ⟨R + 1, 2, none⟩) (.inl rfl) _
      have b := Blk.new (v1.setCell ⟨R + 1, 2, none⟩ (.slice (some ⟨R + 2, 0, none⟩) 1 1)) 9 #[.string r]
      rw [World.size_setCell, a4] at b
      exact ⟨(a1.but hs (fun h => by have h : R = R + 1 := h; omega)).alloc _, (a2.set_ 2 _).alloc _, b, (a3.trans (hs.below (by omega) (fun k hk => by have hk : k = R + 1 := hk; omega))).alloc (by rw [World.size_setCell]; omega) _⟩)
    have hsz := HW.out.2.2.2
    go_upto_region 5 with fail
    generalize hW2 : World.alloc _ _ = W2
    obtain ⟨b0, b1, b2, b3⟩ := HS.out W2 hW2
    clear y2 f2 hsz HS hW2
    have k0 := b1.cell 0
    have k1 := b1.cell 1
    have k2 := b1.cell 2
    have e0 := b0.cell 0
    have e1 := b0.cell 1
    have e2 := b0.cell 2
    have f0 := b0.frozen 0
    have f1 := b0.frozen 1
    have f2 := b0.frozen 2
    have HB := Lib.hid (blk3 b0 (.slice none 0 0) (.slice none 0 0) (.slice (some ⟨R + 2, 0, none⟩) 1 1))
    have HRT := Lib.hid (b2.but (but3 W2 R (.slice none 0 0) (.slice none 0 0) (.slice (some ⟨R + 2, 0, none⟩) 1 1)) (fun h => by have h : R + 2 = R := h; omega))
    have HBF := Lib.hid (b3.trans ((but3 W2 R (.slice none 0 0) (.slice none 0 0) (.slice (some ⟨R + 2, 0, none⟩) 1 1)).below (by have := b3.size; have := HN.out.2.1; omega) (fun k hk => by have hk : k = R := hk; omega)))
    clear b0 b1 b2 b3
    go_wp2_with fail
    have HB2 := HB.out
    have HRT2 := HRT.out
    have HBF2 := HBF.out
    generalize World.setCell _ _ _ = W9 at *
    refine bodyPost_ret (results_cell_row rfl _ _ R 35 _ (0, 0) _ rfl HB2 Try.underlying35 rfl (by kernel_rfl)) rfl ?_
    refine ⟨none, 0, none, 0, some ⟨R + 2, 0, none⟩, 1, by rw [hcn.1, hcn.2]; rfl, by rw [hcn.1]; exact fun i hi => absurd hi (by simp), by rw [hcd]; exact fun i hi => absurd hi (by simp), ?_, by rw [HN.out.2.1]; exact HBF2⟩
    rw [hcn.2]
    intro i hi
    obtain rfl : i = 0 := by simp at hi; omega
    exact ⟨_, rfl, HRT2.lt, HRT2.cell 0, hr⟩
  | true =>
    have y0 := (HW.out.2.1.alloc (.cells #[.string r] 9)).cell 0
    have f0 := (HW.out.2.1.alloc (.cells #[.string r] 9)).frozen 0
    have hsz := HW.out.2.2.2
    go_upto_region 7 with fail
    have HS := Lib.hid (show ∀ W2, (v1.setCell ⟨R + 1, 0, none⟩ (.slice (some ⟨R + 2, 0, none⟩) 1 1)).alloc (.cells #[.string r] 9) = W2 → Blk W2 R 35 #[.slice none 0 0, .slice none 0 0, .slice none 0 0] ∧ Blk W2 (R + 1) 35 #[.slice (some ⟨R + 2, 0, none⟩) 1 1, .slice none 0 0, .slice none 0 0] ∧ Blk W2 (R + 2) 9 #[.string r] ∧ Below R w W2 ∧ W2.heap.size = R + 3 from fun W2 h => by
      subst h
      obtain ⟨a1, a2, a3, a4⟩ := HW.out
      have hs : But (· = R + 1) v1 (v1.setCell ⟨R + 1, 0, none⟩ (.slice (some ⟨R + 2, 0, none⟩) 1 1)) := (But.refl (· = R + 1) v1).setCell (p := ⟨R + 1, 0, none⟩) (.inl rfl) _
      have b := Blk.new (v1.setCell ⟨R + 1, 0, none⟩ (.slice (some ⟨R + 2, 0, none⟩) 1 1)) 9 #[.string r]
      rw [World.size_setCell, a4] at b
      exact ⟨(a1.but hs (fun h => by have h : R = R + 1 := h; omega)).alloc _, (a2.set_ 0 _).alloc _, b, (a3.trans (hs.below (by omega) (fun k hk => by have hk : k = R + 1 := hk; omega))).alloc (by rw [World.size_setCell]; omega) _, by rw [World.size_alloc, World.size_setCell, a4]⟩)
    clear y0 f0
    generalize hW2 : World.alloc _ _ = W2
    obtain ⟨b0, b1, b2, b3, b4⟩ := HS.out W2 hW2
    clear hsz HS hW2 HW HE
    have y1 := (b1.alloc (.cells #[.int .i64 0] 3)).cell 1
    have f1 := (b1.alloc (.cells #[.int .i64 0] 3)).frozen 1
    go_upto_region 8 with fail
    clear y1 f1
    have HS := Lib.hid (show ∀ W3, (W2.setCell ⟨R + 1, 1, none⟩ (.slice (some ⟨R + 2 + 1, 0, none⟩) 1 1)).alloc (.cells #[.int .i64 0] 3) = W3 → Blk W3 R 35 #[.slice none 0 0, .slice none 0 0, .slice none 0 0] ∧ Ow (R + 2) (R + 1) (.slice (some ⟨R + 2, 0, none⟩) 1 1) (.slice (some ⟨R + 2 + 1, 0, none⟩) 1 1) (.slice none 0 0) [r] [0] [] W3 ∧ Below R w W3 from fun W3 h => by
      subst h
      have hs : But (· = R + 1) W2 (W2.setCell ⟨R + 1, 1, none⟩ (.slice (some ⟨R + 2 + 1, 0, none⟩) 1 1)) := (But.refl (· = R + 1) W2).setCell (p := ⟨R + 1, 1, none⟩) (.inl rfl) _
      have b := Blk.new (W2.setCell ⟨R + 1, 1, none⟩ (.slice (some ⟨R + 2 + 1, 0, none⟩) 1 1)) 3 #[.int .i64 0]
      rw [World.size_setCell, b4] at b
      exact ⟨(b0.but hs (fun h => by have h : R = R + 1 := h; omega)).alloc _, ⟨(b1.set_ 1 _).alloc _, ⟨own_one ((b2.but hs (fun h => by have h : R + 2 = R + 1 := h; omega)).alloc _) (Nat.le_refl _), own_one b (by omega), World.ownsRow_nil _ _ _ _, (fun g h e => by injection h with h; injection e with e; simp at h e; omega), (fun g h e => by cases e), (fun g h e => by cases e)⟩, by rw [World.size_alloc, World.size_setCell, b4]; omega⟩, (b3.trans (hs.below (by omega) (fun k hk => by have hk : k = R + 1 := hk; omega))).alloc (by rw [World.size_setCell]; omega) _⟩)
    generalize hW3 : World.alloc _ _ = W3
    obtain ⟨d0, d1, d2⟩ := HS.out W3 hW3
    clear HS hW3 b0 b1 b2 b3 b4
    have HW3 := Lib.hid (And.intro d0 d2)
    have hst := startW_there hth
    have HST := Lib.hid (show Ow (R + 2) (R + 1) (.slice (some ⟨R + 2, 0, none⟩) 1 1) (.slice (some ⟨R + 2 + 1, 0, none⟩) 1 1) (.slice none 0 0) (startW L r).N (startW L r).D (startW L r).M W3 from by rw [hst]; exact d1)
    have HSZ := Lib.hid (show SzW (startW L r) from by rw [hst]; exact ⟨fun z hz => by simp at hz; rw [hz]; exact hr, fun z hz => by cases hz⟩)
    clear hr1 d0 d1 d2 hst
    obtain ⟨i0, hi, hz0, hz1, hz2⟩ := info_parts infoInt
    obtain ⟨s0, hj, hs0, hs1, hs2⟩ := info_parts infoStr
    have HBEL := Lib.hid (fun v (hv : But (OS (R + 2) (R + 1)) W3 v) => show Below R w v from HW3.out.2.trans (hv.below (by have := HW3.out.1.lt; omega) (fun k hk => by rcases hk with h | h <;> omega)))
    go_wp2_with fail
    go_loopw [8] (fun i wr => ∃ (g : Nat) (s : Wk) (u1 u2 u3 : Value), i = .int .i64 g ∧ g ≤ s.N.length ∧ Hid (Ow (R + 2) (R + 1) u1 u2 u3 s.N s.D s.M wr) ∧ Hid (But (OS (R + 2) (R + 1)) W3 wr) ∧ Hid (OfS L r s g) ∧ Hid (SzW s)) (fun i _ => 255 - (intOf i).toNat)
    case atStart => exact ⟨0, startW L r, _, _, _, rfl, Nat.zero_le _, HST, Lib.hid (But.refl _ _), Lib.hid (OfS.start L r), HSZ⟩
    case round =>
      obtain ⟨g, s, u1, u2, u3, rfl, hgl, HOW, HBT, HOF, HSW⟩ := hrel
      have hmany := HOF.out.inv.many
      rw [HN.out.1] at hmany
      obtain ⟨q, hq⟩ : ∃ q, s.N.length = q := ⟨_, rfl⟩
      obtain ⟨A2, cc2, hu1, hr1⟩ := own_atG HOW.out.rows.a
      rw [strs_length, hq] at hu1
      rw [hq] at hgl hmany
      have HQ := Lib.hid hq
      have x0 := HOW.out.blk.cell 0
      subst hu1
      by_cases hlt : g < q
      · have hgs : g < s.N.length := by rw [hq]; exact hlt
        obtain ⟨ad, rfl, -, -, hrg⟩ := hr1 g (by rw [strs_length]; exact hgs)
        have hsg : (strs s.N)[g]'(by rw [strs_length]; exact hgs) = .string s.N[g] := by simp [strs]
        rw [hsg] at hrg
        have hg0 : (0 : Int) ≤ (g : Int) := by omega
        have hg2 : (g : Int) < (q : Int) := by omega
        obtain ⟨nm, hnm⟩ : ∃ nm, s.N[g] = nm := ⟨_, rfl⟩
        rw [hnm] at hrg
        obtain ⟨dg, hdg⟩ : ∃ dg, s.D[g]'(by rw [HOF.out.inv.len]; exact hgs) = dg := ⟨_, rfl⟩
        have HD := Lib.hid (show s.D[g]? = some dg from by rw [← hdg]; exact List.getElem?_eq_getElem _)
        have HNM := Lib.hid (show s.N[g]? = some nm from by rw [← hnm]; exact List.getElem?_eq_getElem _)
        have hdle : dg ≤ 255 := by
          have := HOF.out.bd.d _ (List.getElem_mem (show g < s.D.length by rw [HOF.out.inv.len]; exact hgs))
          rw [hdg] at this
          omega
        have HBW := Lib.hid (HBEL.out wr HBT.out)
        clear hq hr1 hsg hnm hdg hgs
        go_upto_region 12 with (go_at_call 20; (with_reducible refine (HFI.out _ _ HBW.out).mono ?_); rintro e v5 ⟨A5, c5, rfl, hr5, rfl⟩)
        obtain ⟨m, hm⟩ : ∃ m, (needOf L nm).length = m := ⟨_, rfl⟩
        have hml : m ≤ 100000 := by rw [← hm]; exact need_le HN.out.2.2.1.1 nm
        have HM := Lib.hid hm
        rw [hm]
        have HR5 := Lib.hid hr5
        have H0 := Lib.hid (show Ow (R + 2) (R + 1) (.slice (some ad) q cc2) u2 u3 (meetL L (dg + 1) s ((needOf L nm).take 0)).N (meetL L (dg + 1) s ((needOf L nm).take 0)).D (meetL L (dg + 1) s ((needOf L nm).take 0)).M v5 from HOW.out)
        clear hr5 hm x0 hrg HOW
        go_wp2_with fail
        go_loopw [11] (fun i wr => ∃ (k : Nat) (u1 u2 u3 : Value), i = .int .i64 k ∧ k ≤ m ∧ Hid (Ow (R + 2) (R + 1) u1 u2 u3 (meetL L (dg + 1) s ((needOf L nm).take k)).N (meetL L (dg + 1) s ((needOf L nm).take k)).D (meetL L (dg + 1) s ((needOf L nm).take k)).M wr) ∧ Hid (But (OS (R + 2) (R + 1)) W3 wr)) (fun i _ => m - (intOf i).toNat)
        case atStart => exact ⟨0, _, _, _, rfl, Nat.zero_le _, H0, HBT⟩
        case round =>
          obtain ⟨k, u1, u2, u3, rfl, hk, HOW, HBT⟩ := hrel
          by_cases hlk : k < m
          · have hk1 : k < (needOf L nm).length := by rw [HM.out]; exact hlk
            have hk0 : (0 : Int) ≤ (k : Int) := by omega
            have hk2 : (k : Int) < (m : Int) := by omega
            have HBW := Lib.hid (HBEL.out wr HBT.out)
            obtain ⟨ad5, rfl, -, c0, hxs⟩ := strRow_belowG HR5.out HN.out.2.1.symm HBW.out k hk1
            have hsn : meetL L (dg + 1) s ((needOf L nm).take (k + 1)) = meet1 L (dg + 1) (meetL L (dg + 1) s ((needOf L nm).take k)) (needOf L nm)[k] := by rw [List.take_succ_eq_append_getElem hk1, meetL_snoc]
            obtain ⟨b1, -, b3, -, -, -⟩ := Inv.meets ((needOf L nm).take k) s HOF.out.inv HNM.out HD.out (fun z hz => List.mem_of_mem_take hz)
            have hsw := HSW.out.meetL (L := L) (d := dg + 1) ((needOf L nm).take k) s (fun z hz => by
              obtain ⟨i, hi, rfl⟩ := List.getElem_of_mem (List.mem_of_mem_take hz)
              obtain ⟨_, _, _, _, h⟩ := HR5.out i hi
              exact h)
            have hsz := (meetL_size L (dg + 1) ((needOf L nm).take k) s).1
            rw [List.length_take, HM.out] at hsz
            have hsb := HOF.out.bd.nm
            obtain ⟨x, hx⟩ : ∃ x, (needOf L nm)[k] = x := ⟨_, rfl⟩
            obtain ⟨S, hS⟩ : ∃ S, meetL L (dg + 1) s ((needOf L nm).take k) = S := ⟨_, rfl⟩
            rw [hx] at c0 hxs hsn
            rw [hS] at hsn HOW b1 b3 hsw hsz
            have hlN : S.N.length ≤ 100000000 := by omega
            have hlM : S.M.length ≤ 100000000 := by omega
            obtain ⟨-, A1, e1, hu1, hr1⟩ := strRow_ownG HOW.out.rows.a hsw.1
            obtain ⟨-, A3, e3, hu3, hr3⟩ := strRow_ownG HOW.out.rows.c hsw.2
            obtain ⟨n1, hn1⟩ : ∃ n1, S.N.length = n1 := ⟨_, rfl⟩
            obtain ⟨n3, hn3⟩ : ∃ n3, S.M.length = n3 := ⟨_, rfl⟩
            have hh1 := fun q => has_any S.N x A1 e1 (wr.drewN q) hr1 hlN
            have hh3 := fun q => has_any S.M x A3 e3 (wr.drewN q) hr3 hlM
            rw [hn1] at hu1 hlN hh1
            rw [hn3] at hu3 hlM hh3
            subst hu1 hu3
            have y0 := HOW.out.blk.cell 0
            have y2 := HOW.out.blk.cell 2
            obtain ⟨o1, ho1⟩ : ∃ o, decide (x ∈ S.N) = o := ⟨_, rfl⟩
            obtain ⟨o3, ho3⟩ : ∃ o, decide (x ∈ S.M) = o := ⟨_, rfl⟩
            obtain ⟨th, hth⟩ : ∃ o, there L x = o := ⟨_, rfl⟩
            rw [ho1] at hh1
            rw [ho3] at hh3
            have HH1 := Lib.hid hh1
            have HH3 := Lib.hid hh3
            have HX := Lib.hid (And.intro hsn (And.intro b1 (And.intro b3 hsw)))
            have HO := Lib.hid (And.intro ho1 (And.intro ho3 hth))
            have HL := Lib.hid (And.intro hn1 hn3)
            have HC0 := Lib.hid c0
            clear hsn b1 b3 hsw hsz hsb hS hx hh1 hh3 ho1 ho3 hth hr1 hr3 hn1 hn3 hk1
            go_upto_region 16 with (go_at_call 20; (with_reducible refine (HFI.out _ _ HBW.out).mono ?_); rintro e v6 ⟨A6, c6, rfl, -, rfl⟩)
            rw [HO.out.2.2]
            go_quiet ((go_at_call 21; with_reducible exact Calls.quiet_of_same (HH1.out _)))
            have HQ3 := Lib.hid (fun q => show ∀ W5, v6.drewN q = W5 → W5.cell? ⟨R + 1, 2, none⟩ = some (.slice A3 n3 e3) ∧ W5.cell? (ad5.add k) = some (.string x) ∧ (∀ p, Calls Try.prog 21 #[.slice A3 n3 e3, .string x] (W5.drewN p) fun e w' => e = .returned (.bool o3) ∧ w' = W5.drewN p) ∧ (∀ p, W5.drewN p = v6.drewN (q + p)) from fun W5 h => by
              subst h
              refine ⟨y2, c0, fun p => ?_, fun p => by simp⟩
              have := HH3.out (q + p)
              rw [show v6.drewN (q + p) = (v6.drewN q).drewN p by simp] at this
              exact this)
            go_upto_region 17 with fail
            generalize hW5 : World.drewN _ _ = W5
            obtain ⟨z2, z3, hz4, hz5⟩ := HQ3.out _ W5 hW5
            have HZ4 := Lib.hid hz4
            have HZ5 := Lib.hid hz5
            clear y0 y2 c0 hz4 hz5 HQ3 hW5 HH1 HH3
            go_quiet ((go_at_call 21; with_reducible exact Calls.quiet_of_same (HZ4.out _)))
            rename_i np
            rw [HZ5.out]
            clear z2 z3 HZ4 HZ5
            have HO2 := Lib.hid (fun q => show ∀ W5, v6.drewN q = W5 → Ow (R + 2) (R + 1) (.slice A1 n1 e1) u2 (.slice A3 n3 e3) S.N S.D S.M W5 ∧ But (OS (R + 2) (R + 1)) W3 W5 ∧ W5.cell? (ad5.add k) = some (.string x) from fun W5 h => by
              subst h
              exact ⟨HOW.out.drewN q, HBT.out.drewN q, HC0.out⟩)
            have hn1b : n1 ≤ 100000000 := hlN
            have hn3b : n3 ≤ 100000000 := hlM
            cases th with
            | true =>
              cases o1 with
              | true =>
                have hsn := HX.out.1
                have HS := Lib.hid (show ∀ q, Ow (R + 2) (R + 1) (.slice A1 n1 e1) u2 (.slice A3 n3 e3) (meetL L (dg + 1) s ((needOf L nm).take (k + 1))).N (meetL L (dg + 1) s ((needOf L nm).take (k + 1))).D (meetL L (dg + 1) s ((needOf L nm).take (k + 1))).M (v6.drewN q) ∧ But (OS (R + 2) (R + 1)) W3 (v6.drewN q) from fun q => by
                  rw [hsn, show meet1 L (dg + 1) S x = S from by unfold meet1; rw [if_pos HO.out.2.2, if_pos (of_decide_eq_true HO.out.1)]]
                  exact ⟨HOW.out.drewN q, HBT.out.drewN q⟩)
                clear hsn
                go_wp2_with fail
                go_roundw
                case rel => exact ⟨k + 1, _, u2, _, by go_num, by omega, Lib.hid (HS.out _).1, Lib.hid (HS.out _).2⟩
                case measure => simp [intOf]; omega
              | false =>
                go_upto_region 19 with fail
                generalize hW5 : World.drewN _ _ = W5
                obtain ⟨how5, hbt5, z0⟩ := HO2.out _ W5 hW5
                clear HO2 hW5
                have y0 := how5.blk.cell 0
                have y0a := cellA y0 (.cells #[.string x] 9)
                have HOW5 := Lib.hid how5
                have HBT5 := Lib.hid hbt5
                have HOA := Lib.hid (show W5.ownsRow (R + 2) 9 1 (.slice A1 n1 e1) n1 (strs S.N) from by have := how5.rows.a; rw [strs_length, HL.out.1] at this; exact this)
                have HLA := Lib.hid how5.lt
                clear how5 hbt5
                go_region_law (first
              | (refine step_append_lies _ (by rfl) _ _ _ (by rfl) (R + 2) 9 s0 _ 1 16 Try.underlying25 hj hs0 hs1 hs2 rfl (by decide) (.slice A1 n1 e1) n1 (strs S.N) (by rfl) (HOA.out.alloc (.cells #[.string x] 9)) ⟨W5.heap.size, 0, none⟩ 1 1 [.string x] (by rfl) (by rfl) (World.news_of_block (cs := #[.string x]) (t := 9) (fr := (0, 0)) (heap_alloc_new W5 (.cells #[.string x] 9))) (by simp [Value.oneCell']) (by omega) (by unfold maxLen; omega) (by omega) (by have := HLA.out; simp; omega) (W5.heap.size + 1) (by simp) ?_
                 intro gg cap w1 hown1 hgrow hat hlt1
                 obtain ⟨p1, p2, p3, p4⟩ := HOW5.out.pushN (v' := .slice (some ⟨gg, 0, none⟩) (n1 + 1) cap) (by omega) (by rw [HL.out.1]; exact hown1) hgrow (by
                   rcases hat with h | h
                   · exact .inl h.symm
                   · exact .inr (by rw [h]; rfl))
                 have HPU := Lib.hid (And.intro p1 p2)
                 clear p1 p2 hown1 hgrow hat))
                all_goals
                  have HW6 := Lib.hid (fun W6 (h : w1.setCell ⟨R + 1, 0, none⟩ (.slice (some ⟨gg, 0, none⟩) (n1 + 1) cap) = W6) => show Ow (R + 2) (R + 1) (.slice (some ⟨gg, 0, none⟩) (n1 + 1) cap) u2 (.slice A3 n3 e3) (S.N ++ [x]) S.D S.M W6 ∧ But (OS (R + 2) (R + 1)) W3 W6 from by
                    rw [← h]
                    exact ⟨HPU.out.1, HBT5.out.trans HPU.out.2⟩)
                  clear HPU p3 p4 HOW5 HBT5 HOA HLA y0 y0a z0
                  go_upto_region 20 with fail
                  generalize hW6 : World.setCell _ _ _ = W6
                  obtain ⟨how6, hbt6⟩ := HW6.out W6 hW6
                  clear HW6 hW6
                  obtain ⟨A2, e2, hu2, hr2⟩ := own_atG how6.rows.b
                  rw [nints_length, HX.out.2.1.len, HL.out.1] at hu2
                  subst hu2
                  obtain ⟨hgD, hgE⟩ := List.getElem?_eq_some_iff.1 HX.out.2.2.1
                  obtain ⟨ad2, rfl, -, -, hcg⟩ := hr2 g (by rw [nints_length]; exact hgD)
                  rw [show (nints S.D)[g]'(by rw [nints_length]; exact hgD) = .int .i64 (dg : Int) by simp [nints, hgE]] at hcg
                  have hgn : (g : Int) < (n1 : Int) := by have := HL.out.1; have := HX.out.2.1.len; omega
                  obtain ⟨D1, hD1⟩ : ∃ D1, dg + 1 = D1 := ⟨_, rfl⟩
                  have hd1 : IntKind.i64.wrap ((dg : Int) + 1) = (D1 : Int) := by rw [show (dg : Int) + 1 = (D1 : Int) by omega]; exact IntWalk.i64_in _ (by omega)
                  have HD1 := Lib.hid hD1
                  have y1 := how6.blk.cell 1
                  have y1a := cellA y1 (.cells #[.int .i64 (D1 : Int)] 3)
                  have HOW6 := Lib.hid how6
                  have HBT6 := Lib.hid hbt6
                  have HOB := Lib.hid (show W6.ownsRow (R + 2) 3 1 (.slice (some ad2) n1 e2) n1 (nints S.D) from by have := how6.rows.b; rw [nints_length, HX.out.2.1.len, HL.out.1] at this; exact this)
                  have HLB := Lib.hid how6.lt
                  have HLD := Lib.hid (show S.D.length = n1 from by rw [HX.out.2.1.len, HL.out.1])
                  clear how6 hbt6 hr2 hgD hgE hD1
                  rename_i g1 c1'
                  go_region_law (first
                    | (refine step_append_lies _ (by rfl) _ _ _ (by rfl) (R + 2) 3 i0 _ 1 8 Try.underlying33 hi hz0 hz1 hz2 rfl (by decide) (.slice (some ad2) n1 e2) n1 (nints S.D) (by rfl) (HOB.out.alloc (.cells #[.int .i64 (D1 : Int)] 3)) ⟨W6.heap.size, 0, none⟩ 1 1 [.int .i64 (D1 : Int)] (by rfl) (by rfl) (World.news_of_block (cs := #[.int .i64 (D1 : Int)]) (t := 3) (fr := (0, 0)) (heap_alloc_new W6 (.cells #[.int .i64 (D1 : Int)] 3))) (by simp [Value.oneCell']) (by omega) (by unfold maxLen; omega) (by omega) (by have := HLB.out; simp; omega) (W6.heap.size + 1) (by simp) ?_
                       intro g2 cap2 w2 hown2 hgrow2 hat2 hlt2
                       obtain ⟨p1, p2, p3, p4⟩ := HOW6.out.pushD (d := D1) (v' := .slice (some ⟨g2, 0, none⟩) (n1 + 1) cap2) (by omega) (by rw [HLD.out]; exact hown2) hgrow2 (by
                         rcases hat2 with h | h
                         · exact .inl h.symm
                         · exact .inr (by rw [h]; rfl))
                       have HPU := Lib.hid (And.intro p1 p2)
                       clear p1 p2 hown2 hgrow2 hat2))
                  all_goals
                    have hsn := HX.out.1
                    have hsn2 : meet1 L (dg + 1) S x = ⟨S.N ++ [x], S.D ++ [D1], S.M⟩ := by rw [HD1.out]; unfold meet1; rw [if_pos HO.out.2.2, if_neg (of_decide_eq_false HO.out.1)]
                    rw [hsn2] at hsn
                    have hs6 := HPU.out
                    have HS := Lib.hid (show ∀ W7, w2.setCell ⟨R + 1, 1, none⟩ (.slice (some ⟨g2, 0, none⟩) (n1 + 1) cap2) = W7 → ∃ u1 u2 u3, Ow (R + 2) (R + 1) u1 u2 u3 (meetL L (dg + 1) s ((needOf L nm).take (k + 1))).N (meetL L (dg + 1) s ((needOf L nm).take (k + 1))).D (meetL L (dg + 1) s ((needOf L nm).take (k + 1))).M W7 ∧ But (OS (R + 2) (R + 1)) W3 W7 from fun W7 h => by
                      rw [h] at hs6
                      rw [hsn]
                      exact ⟨_, _, _, hs6.1, HBT6.out.trans hs6.2⟩)
                    clear hsn hsn2 HPU hs6
                    go_wp2_with fail
                    obtain ⟨v1', v2', v3', h7, h8⟩ := HS.out _ rfl
                    go_roundw
                    case rel => exact ⟨k + 1, v1', v2', v3', by go_num, by omega, Lib.hid h7, Lib.hid h8⟩
                    case measure => simp [intOf]; omega
            | false =>
              cases o3 with
              | true =>
                have hsn := HX.out.1
                have HS := Lib.hid (show ∀ q, Ow (R + 2) (R + 1) (.slice A1 n1 e1) u2 (.slice A3 n3 e3) (meetL L (dg + 1) s ((needOf L nm).take (k + 1))).N (meetL L (dg + 1) s ((needOf L nm).take (k + 1))).D (meetL L (dg + 1) s ((needOf L nm).take (k + 1))).M (v6.drewN q) ∧ But (OS (R + 2) (R + 1)) W3 (v6.drewN q) from fun q => by
                  rw [hsn, show meet1 L (dg + 1) S x = S from by unfold meet1; rw [if_neg (by rw [HO.out.2.2]; decide), if_pos (of_decide_eq_true HO.out.2.1)]]
                  exact ⟨HOW.out.drewN q, HBT.out.drewN q⟩)
                clear hsn
                go_wp2_with fail
                go_roundw
                case rel => exact ⟨k + 1, _, u2, _, by go_num, by omega, Lib.hid (HS.out _).1, Lib.hid (HS.out _).2⟩
                case measure => simp [intOf]; omega
              | false =>
                go_upto_region 22 with fail
                generalize hW5 : World.drewN _ _ = W5
                obtain ⟨how5, hbt5, z0⟩ := HO2.out _ W5 hW5
                clear HO2 hW5
                have y0 := how5.blk.cell 2
                have y0a := cellA y0 (.cells #[.string x] 9)
                have HOW5 := Lib.hid how5
                have HBT5 := Lib.hid hbt5
                have HOA := Lib.hid (show W5.ownsRow (R + 2) 9 1 (.slice A3 n3 e3) n3 (strs S.M) from by have := how5.rows.c; rw [strs_length, HL.out.2] at this; exact this)
                have HLA := Lib.hid how5.lt
                clear how5 hbt5
                go_region_law (first
              | (refine step_append_lies _ (by rfl) _ _ _ (by rfl) (R + 2) 9 s0 _ 1 16 Try.underlying25 hj hs0 hs1 hs2 rfl (by decide) (.slice A3 n3 e3) n3 (strs S.M) (by rfl) (HOA.out.alloc (.cells #[.string x] 9)) ⟨W5.heap.size, 0, none⟩ 1 1 [.string x] (by rfl) (by rfl) (World.news_of_block (cs := #[.string x]) (t := 9) (fr := (0, 0)) (heap_alloc_new W5 (.cells #[.string x] 9))) (by simp [Value.oneCell']) (by omega) (by unfold maxLen; omega) (by omega) (by have := HLA.out; simp; omega) (W5.heap.size + 1) (by simp) ?_
                 intro gg cap w1 hown1 hgrow hat hlt1
                 obtain ⟨p1, p2, p3, p4⟩ := HOW5.out.pushM (v' := .slice (some ⟨gg, 0, none⟩) (n3 + 1) cap) (by omega) (by rw [HL.out.2]; exact hown1) hgrow (by
                   rcases hat with h | h
                   · exact .inl h.symm
                   · exact .inr (by rw [h]; rfl))
                 have HPU := Lib.hid (And.intro p1 p2)
                 clear p1 p2 hown1 hgrow hat))
                all_goals
                  have hsn := HX.out.1
                  have hsn2 : meet1 L (dg + 1) S x = ⟨S.N, S.D, S.M ++ [x]⟩ := by unfold meet1; rw [if_neg (by rw [HO.out.2.2]; decide), if_neg (of_decide_eq_false HO.out.2.1)]
                  rw [hsn2] at hsn
                  have HS := Lib.hid (show Ow (R + 2) (R + 1) (.slice A1 n1 e1) u2 (.slice (some ⟨gg, 0, none⟩) (n3 + 1) cap) (meetL L (dg + 1) s ((needOf L nm).take (k + 1))).N (meetL L (dg + 1) s ((needOf L nm).take (k + 1))).D (meetL L (dg + 1) s ((needOf L nm).take (k + 1))).M (w1.setCell ⟨R + 1, 2, none⟩ (.slice (some ⟨gg, 0, none⟩) (n3 + 1) cap)) ∧ But (OS (R + 2) (R + 1)) W3 (w1.setCell ⟨R + 1, 2, none⟩ (.slice (some ⟨gg, 0, none⟩) (n3 + 1) cap)) from by
                    rw [hsn]
                    exact ⟨HPU.out.1, HBT5.out.trans HPU.out.2⟩)
                  clear hsn hsn2 HPU
                  go_wp2_with fail
                  go_roundw
                  case rel => exact ⟨k + 1, _, u2, _, by go_num, by omega, Lib.hid HS.out.1, Lib.hid HS.out.2⟩
                  case measure => simp [intOf]; omega
          · obtain rfl : k = m := by omega
            have hstp : (stepW L (s, g)).1 = meetL L (dg + 1) s (needOf L nm) := by
              unfold stepW
              simp only
              rw [List.getD_eq_getElem?_getD, HD.out, List.getD_eq_getElem?_getD, HNM.out]
              rfl
            have hof := HOF.out.step (by rw [HQ.out]; exact hlt) HN.out.2.2.1.1
            rw [hstp] at hof
            have how := HOW.out
            rw [List.take_of_length_le (by rw [HM.out]; exact Nat.le_refl _)] at how
            have HOF2 := Lib.hid hof
            have HOW2 := Lib.hid how
            have HSW2 := Lib.hid (HSW.out.meetL (L := L) (d := dg + 1) (needOf L nm) s (fun z hz => by
              obtain ⟨i, hi, rfl⟩ := List.getElem_of_mem hz
              obtain ⟨_, _, _, _, h⟩ := HR5.out i hi
              exact h))
            clear hof how hstp
            have hg255 : g < 255 := by omega
            go_wp2_with fail
            go_roundw
            case rel => exact ⟨g + 1, _, u1, u2, u3, by go_num, HOF2.out.inv.le, HOW2, HBT, HOF2, HSW2⟩
            case measure => simp [intOf]; omega
      · obtain rfl : g = q := by omega
        have hcl := HOF.out.done HQ.out.symm
        obtain ⟨A3, c3, hu2⟩ := own_slice HOW.out.rows.b
        obtain ⟨A4, c4, hu3⟩ := own_slice HOW.out.rows.c
        obtain ⟨n2, hn2⟩ : ∃ n2, (nints s.D).length = n2 := ⟨_, rfl⟩
        obtain ⟨n3, hn3⟩ : ∃ n3, (strs s.M).length = n3 := ⟨_, rfl⟩
        rw [hn2] at hu2
        rw [hn3] at hu3
        subst hu2 hu3
        have b0 := HW3.out.1.but HBT.out (fun h => by rcases h with h | h <;> omega)
        have x1 := HOW.out.blk.cell 1
        have x2 := HOW.out.blk.cell 2
        have e0 := b0.cell 0
        have e1 := b0.cell 1
        have e2 := b0.cell 2
        have f0 := b0.frozen 0
        have f1 := b0.frozen 1
        have f2 := b0.frozen 2
        have HFIN := Lib.hid (show ∀ W9, ((wr.setCell ⟨R, 0, none⟩ (.slice A2 g cc2)).setCell ⟨R, 1, none⟩ (.slice A3 n2 c3)).setCell ⟨R, 2, none⟩ (.slice A4 n3 c4) = W9 → OfT L r w (.returned (.agg #[.slice A2 g cc2, .slice A3 n2 c3, .slice A4 n3 c4])) W9 ∧ Blk W9 R 35 #[.slice A2 g cc2, .slice A3 n2 c3, .slice A4 n3 c4] from fun W9 h => by
          have hb3 := but3 wr R (.slice A2 g cc2) (.slice A3 n2 c3) (.slice A4 n3 c4)
          have hbl := blk3 b0 (.slice A2 g cc2) (.slice A3 n2 c3) (.slice A4 n3 c4)
          rw [h] at hb3 hbl
          have hrw := HOW.out.rows.but hb3 (fun k hk => by have hk : k = R := hk; omega)
          have hlow := HOW.out.lt
          have hbw : Below R wr W9 := hb3.below (by omega) (fun k hk => by have hk : k = R := hk; omega)
          refine ⟨?_, hbl⟩
          obtain ⟨-, A2', c2', hv1, r1⟩ := strRow_ownG hrw.a HSW.out.1
          obtain ⟨A3', c3', hv2, r2⟩ := nrow_own hrw.b
          obtain ⟨-, A4', c4', hv3, r3⟩ := strRow_ownG hrw.c HSW.out.2
          rw [hv1, hv2, hv3, HOF.out.inv.len]
          refine ⟨A2', c2', A3', c3', A4', c4', by rw [hcl], by rw [hcl]; exact r1, by rw [hcl]; exact r2, by rw [hcl]; exact r3, ?_⟩
          rw [HN.out.2.1]
          exact (HBEL.out wr HBT.out).trans hbw)
        clear b0 hcl hr1 hn2 hn3
        go_wp2_with fail
        generalize hW9 : World.setCell _ _ _ = W9
        obtain ⟨h9, hb9⟩ := HFIN.out W9 hW9
        exact bodyPost_ret (results_cell_row rfl _ _ R 35 _ (0, 0) _ rfl hb9 Try.underlying35 rfl (by kernel_rfl)) rfl h9
end Go.Proofs.Ytmkaehnekhejmaa
