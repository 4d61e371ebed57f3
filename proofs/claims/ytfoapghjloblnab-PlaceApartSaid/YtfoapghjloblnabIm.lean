/- Package place: All's closure try. -/
import Derived.Test.YtfoapghjloblnabIl
namespace Go.Proofs.Ytfoapghjloblnab
open Go.RowKit Go.ChangeShapes Go.WideShapes Go.Deep
set_option linter.unusedVariables false
set_option linter.unusedSimpArgs false

/-- All, while it places. -/
structure AllS (w0 W : World) (B rc tc yc rb eb tb : Nat) (low high : Int) (m ce D : Nat) (E : Nat → Int) (P : List (Int × Int)) (T G : Nat → Int) (A : Option Addr) (c : Nat) (L : List Int) : Prop where
  room : RoomS W rb eb tb low high m ce D E P T G
  cells : TcI W B rc tc yc rb A c L
  lo : rb < rc ∧ eb < rc ∧ tb < rc
  old : w0.heap.size ≤ rb ∧ w0.heap.size ≤ eb ∧ w0.heap.size ≤ tb
  bel : Below w0.heap.size w0 W
section
variable {w0 W W' : World} {B rc tc yc rb eb tb : Nat} {low high : Int} {m ce D : Nat} {E : Nat → Int} {P : List (Int × Int)} {T G : Nat → Int} {A : Option Addr} {c : Nat} {L : List Int}
theorem AllS.below (h : AllS w0 W B rc tc yc rb eb tb low high m ce D E P T G A c L) (hb : Below W.heap.size W W') : AllS w0 W' B rc tc yc rb eb tb low high m ce D E P T G A c L :=
  ⟨h.room.below rfl hb, h.cells.below hb, h.lo, h.old, h.bel.trans (hb.mono h.bel.size)⟩
theorem RoomS.belowB {n : Nat} (h : RoomS W rb eb tb low high m ce D E P T G) (hn : rb < n ∧ eb < n ∧ tb < n) (hb : Below n W W') : RoomS W' rb eb tb low high m ce D E P T G := by
  obtain ⟨cs, e1, e2⟩ := h.room.ends
  exact ⟨⟨h.room.head.below hb hn.1, ⟨cs, e1.below hb hn.2.1, e2⟩, h.room.tree.below hb hn.2.2, h.room.ne1, h.room.ne2, h.room.ne3⟩, h.tree, h.gap, h.leaf, h.zero⟩
end
/-- What try leaves. -/
def TryR (w0 W W' : World) (B rc tc yc rb eb tb : Nat) (low high : Int) (m ce D : Nat) (E : Nat → Int) (P : List (Int × Int)) (L : List Int) (a n : Int) (e : Ending) : Prop :=
  (fitP P low high a n = true ∧ e = .returned (.bool true) ∧ (∃ T G A c, AllS w0 W' B rc tc yc rb eb tb low high m ce D E (P ++ [(a, n)]) T G A c (L ++ [a])) ∧ KeepsFrom 0 W W') ∨
  (fitP P low high a n = false ∧ e = .returned (.bool false) ∧ ∃ q, W' = W.drewN q)
set_option maxRecDepth 100000 in
set_option maxHeartbeats 3200000 in
theorem try_any (w0 W : World) (B rc tc yc rb eb tb : Nat) (low high : Int) (m ce D : Nat) (E : Nat → Int) (P : List (Int × Int)) (T G : Nat → Int) (A : Option Addr) (c : Nat) (L : List Int) (h : AllS w0 W B rc tc yc rb eb tb low high m ce D E P T G A c L)
    (hb : BndI low high) (hm : m ≤ 2 ^ D) (hH : 2 ^ D ≤ 1000000) (hL : L.length ≤ 1000) (a n : Int) (hn : 0 < n) (hn2 : n ≤ 1099511627776) (hnn : n % 64 = 0) (ha : a % 64 = 0) (ha0 : 0 ≤ a) (ha1 : a < high) (hat : (∃ k, k < m ∧ E k = a) ∨ ∃ k, k < m ∧ 0 < G k ∧ a = E k - G k) :
    Calls Try.prog 10 #[.int .i64 a, .int .i64 n, .pointer (some ⟨rc, 0, none⟩), .pointer (some ⟨tc, 0, none⟩)] W fun e w' => TryR w0 W w' B rc tc yc rb eb tb low high m ce D E P L a n e := by
  have HT := take_anyI rb eb tb low high m ce D E P T G a n W h.room hb hm hH hn hn2 hnn ha ha0 ha1 hat
  have x0 := h.cells.bc.cell 0
  by_cases hf : fitP P low high a n = true
  · have HT1 := Lib.hid (show Calls Try.prog 11 #[.pointer (some ⟨rb, 0, none⟩), .int .i64 a, .int .i64 n] W fun e w' => e = .returned (.bool true) ∧ But (fun k => k = tb) W w' ∧ ∃ T G, RoomS w' rb eb tb low high m ce D E (P ++ [(a, n)]) T G from
      HT.mono fun e w' hh => by
        obtain ⟨h1, h2⟩ := hh
        rcases h2 with ⟨_, h3, h4⟩ | ⟨h3, _⟩
        · exact ⟨h3, h1, h4⟩
        · rw [hf] at h3; cases h3)
    obtain ⟨i0, hi, hz0, hz1, hz2⟩ := info_parts infoInt
    have HS := Lib.hid h
    have HF := Lib.hid hf
    obtain ⟨ln, hln⟩ : ∃ ln, L.length = ln := ⟨_, rfl⟩
    have HLN := Lib.hid hln
    rw [hln] at hL
    clear HT h hat hf hln
    go_enter Try.func10, Try.ntmps10
    go_upto_region 3 with (go_at_call 11; refine HT1.out.mono ?_; rintro e v ⟨rfl, hbut, T2, G2, hroom⟩)
    have hc2 := HS.out.cells.but hbut HS.out.lo.2.2
    have hbel2 : Below w0.heap.size w0 v := HS.out.bel.trans (hbut.below HS.out.bel.size (fun k hk => by have hk : k = tb := hk; have := HS.out.old; omega))
    have hkp : KeepsFrom 0 W v := ⟨hbut.size, fun k u _ hk hu => (hbut.block k (Array.getElem?_eq_some_iff.1 hk).1 (fun e => by
      have e : k = tb := e
      subst e
      have := HS.out.room.room.tree
      unfold Blk at this
      rw [this] at hk
      cases hk
      cases hu)).trans hk⟩
    have HC := Lib.hid hc2
    have HB := Lib.hid (And.intro hbel2 (And.intro hkp hroom))
    have y0 := hc2.bt.cell 0
    rw [HLN.out] at y0
    have y0a := cellAI y0 (.cells #[.int .i64 a] 3)
    have HOW := Lib.hid (show v.ownsRow B 3 1 (.slice A ln c) ln (L.map (Value.int .i64)) from by have := hc2.row; rw [HLN.out] at this; exact this)
    have hbt := hc2.bt.lt
    have hlo := hc2.lo
    clear hc2 hbel2 hkp hroom hbut x0
    go_upto_region 4 with (at_builtin; refine wpList_append_own_at _ rfl _ _ 28 rfl B 3 i0 (.int .i64 0) 1 8 Try.underlying28 hi hz0 hz1 hz2 rfl (by decide) (.slice A ln c) ln (L.map (Value.int .i64)) rfl (HOW.out.alloc _) ⟨v.heap.size, 0, none⟩ 1 1 [.int .i64 a] rfl rfl (cell_oneI _ _ _) (ints_oneCell .i64 [a]) (by unfold maxLen; omega) (by omega) (by simp; omega) ?_; intro v' w4 hown4 hgrow4 _ hat4
                           obtain ⟨⟨A', c', hv', hp1⟩, hp2, hp3, hp4, hp5⟩ := HC.out.push (x := a) (o := .cells #[.int .i64 a] 3) (v' := v') (by rw [HLN.out]; exact hown4) (by rw [HLN.out]; exact hgrow4) (by rw [HLN.out]; exact hat4)
                           rw [HLN.out] at hp2
                           have hv2 : v' = .slice A' (ln + 1) c' := by rw [hv', List.length_append, HLN.out]; rfl
                           clear hv'
                           subst hv2)
    have HP := Lib.hid (And.intro hp1 (And.intro hp4 hp5))
    clear hp1 hp4 hp5 hown4 hgrow4 hat4 HOW
    generalize hW5 : World.setCell _ _ _ = W5
    rw [hW5] at HP
    clear hW5 hp2 hp3 y0 y0a
    go_wp2_with fail
    go_ret
    refine .inl ⟨HF.out, rfl, ⟨T2, G2, A', c', ?_⟩, HB.out.2.1.trans HP.out.2.2⟩
    have l1 := HS.out.lo
    have l2 := HS.out.cells.lo
    exact ⟨HB.out.2.2.belowB (n := B) (by omega) HP.out.2.1, HP.out.1, l1, HS.out.old, HB.out.1.trans (HP.out.2.1.mono (by have := HS.out.old; omega))⟩
  · have HT1 := Lib.hid (show Calls Try.prog 11 #[.pointer (some ⟨rb, 0, none⟩), .int .i64 a, .int .i64 n] W fun e w' => e = .returned (.bool false) ∧ ∃ q, w' = W.drewN q from
      HT.mono fun e w' hh => by
        obtain ⟨h1, h2⟩ := hh
        rcases h2 with ⟨h3, _⟩ | ⟨_, h3, h4⟩
        · exact absurd h3 hf
        · exact ⟨h3, h4⟩)
    have HF := Lib.hid (show fitP P low high a n = false from by simpa using hf)
    clear HT h hat hf
    go_enter Try.func10, Try.ntmps10
    go_wp2_with (go_at_call 11; refine HT1.out.mono ?_; rintro e v ⟨rfl, q, rfl⟩)
    go_ret
    exact .inr ⟨HF.out, rfl, q, rfl⟩
end Go.Proofs.Ytfoapghjloblnab
