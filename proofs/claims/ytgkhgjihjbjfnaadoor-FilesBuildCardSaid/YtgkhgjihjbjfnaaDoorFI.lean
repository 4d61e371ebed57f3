/- Package files: Lookup, Pages, Inode, Page. -/
import Derived.Test.YtgkhgjihjbjfnaaDoorFH
namespace Go.Proofs.YtgkhgjihjbjfnaaDoor
open Go.RowKit Go.Shelf Go.Maps
set_option linter.unusedVariables false
set_option linter.unusedSimpArgs false

theorem lookup_nil (s : ByteArray) (w : World) : Calls Tryd.prog 20 #[.pointer none, .string s] w fun e w' => e = .returned (.tuple #[.int .i64 0, .int .i64 12]) ∧ w = w' := by
  go_enter Tryd.func20, Tryd.ntmps20
  go_wp2
  go_ret2
  exact ⟨rfl, rfl⟩
set_option maxHeartbeats 800000 in
theorem lookup_zero (p : Nat) (s : ByteArray) (w : World) (h : w.cell? ⟨p, 3, none⟩ = some (.map none)) (hs : s.size ≤ maxLen) :
    Calls Tryd.prog 20 #[.pointer (some ⟨p, 0, none⟩), .string s] w fun e w' => e = .returned (.tuple #[.int .i64 0, .int .i64 12]) ∧ w = w' := by
  have hk := keyOk hs
  have hl := fun w => Maps.look_nil (w := w) true keyLaw Tryd.underlying50 (zeroInt w) hk
  simp only [if_true] at hl
  clear hk
  go_enter Tryd.func20, Tryd.ntmps20
  go_wp2
  go_ret2
  exact ⟨rfl, rfl⟩
set_option maxHeartbeats 800000 in
theorem lookup_yes {B p pd used : Nat} {xs : List Ino} (k : Nat) (hk : k < xs.length) (w : World) (h : Fs w B p pd used xs) (hn : (xs.map Ino.name).Nodup) (hs : xs[k].name.size ≤ maxLen) :
    Calls Tryd.prog 20 #[.pointer (some ⟨p, 0, none⟩), .string xs[k].name] w fun e w' => e = .returned (.tuple #[.int .i64 k, .int .i64 0]) ∧ w = w' := by
  obtain ⟨A, c, mb, _, _, _, h3, _, hm⟩ := h.cells
  have hkey := keyOk hs
  have hh := (numD_has (xs.map Ino.name) xs[k].name).2 (List.mem_map.2 ⟨_, List.getElem_mem hk, rfl⟩)
  have hat0 := numD_at (xs.map Ino.name) hn k (by simpa using hk) (.lit (.int .i64 0))
  rw [List.getElem_map] at hat0
  have HM := Lib.hid hm
  have HK := Lib.hid hkey
  have HH := Lib.hid hh
  have HA := Lib.hid hat0
  clear hm hkey hh hat0 h hn hs
  generalize xs[k].name = s at *
  go_enter Tryd.func20, Tryd.ntmps20
  go_wp2_with (at_lookup; refine wpList_lookup_own_ok_int _ rfl _ _ 50 rfl 9 3 .i64 keyLaw Tryd.underlying50 Tryd.underlying3 (zeroInt _) mb _ _ rfl HM.out _ _ rfl HK.out ?_; intro c hat hwc; rw [HH.out]; have hce : (k : Int) = c := (by rw [HA.out] at hat; simpa using hat); subst hce; clear hat hwc)
  go_ret2
  exact ⟨rfl, rfl⟩
set_option maxHeartbeats 800000 in
theorem lookup_no {B p pd used : Nat} {xs : List Ino} (s : ByteArray) (w : World) (h : Fs w B p pd used xs) (hn : s ∉ xs.map Ino.name) (hs : s.size ≤ maxLen) :
    Calls Tryd.prog 20 #[.pointer (some ⟨p, 0, none⟩), .string s] w fun e w' => e = .returned (.tuple #[.int .i64 0, .int .i64 12]) ∧ w = w' := by
  obtain ⟨A, c, mb, _, _, _, h3, _, hm⟩ := h.cells
  have hkey := keyOk hs
  have hh := numD_has_no hn
  have HM := Lib.hid hm
  have HK := Lib.hid hkey
  have HH := Lib.hid hh
  clear hm hkey hh h hn hs
  go_enter Tryd.func20, Tryd.ntmps20
  go_wp2_with (at_lookup; refine wpList_lookup_own_ok_int _ rfl _ _ 50 rfl 9 3 .i64 keyLaw Tryd.underlying50 Tryd.underlying3 (zeroInt _) mb _ _ rfl HM.out _ _ rfl HK.out ?_; intro c hat hwc; rw [HH.out]; clear hat hwc)
  go_ret2
  exact ⟨rfl, rfl⟩

set_option maxHeartbeats 800000 in
theorem pages_no (f : Value) (i : Int) (w : World) (h : NoFile w f i) : Calls Tryd.prog 22 #[f, .int .i64 i] w fun e w' => e = .returned (.int .i64 0) ∧ Below w.heap.size w w' := by
  have h1 := inode_no f i w h
  have h2 := fun w => pages_any 0 w (by omega)
  unfold zeroIno at h1
  have e0 : ((pgs 0 : Nat) : Int) = 0 := by decide
  rw [e0] at h2
  have H1 := Lib.hid h1
  have H2 := Lib.hid (show ∀ w, Calls Tryd.prog 42 #[.int .i64 0] w _ from h2)
  clear h1 h2 h e0
  go_enter Tryd.func22, Tryd.ntmps22
  go_wp2_with (first
    | (go_at_call 41; with_reducible refine H1.out.mono ?_; rintro e v1 ⟨rfl, hb⟩)
    | (go_at_call 42; with_reducible refine (H2.out _).mono ?_; rintro e v2 ⟨rfl, rfl⟩))
  go_ret
  exact ⟨rfl, hb.alloc hb.size _⟩
set_option maxHeartbeats 800000 in
theorem fpages_yes {B p pd used : Nat} {xs : List Ino} (k : Nat) (hk : k < xs.length) (hl : xs.length ≤ 64) (hz : xs[k].size ≤ 1048576) (w : World) (h : Fs w B p pd used xs) :
    Calls Tryd.prog 22 #[.pointer (some ⟨p, 0, none⟩), .int .i64 k] w fun e w' => e = .returned (.int .i64 (pgs xs[k].size : Nat)) ∧ Below w.heap.size w w' := by
  have h1 := inode_yes k hk hl w h
  have h2 := fun w => pages_any xs[k].size w (by omega)
  unfold ToldIno at h1
  generalize xs[k] = x at *
  obtain ⟨nm, sz, ext⟩ := x
  simp only at *
  have H1 := Lib.hid h1
  have H2 := Lib.hid h2
  clear h1 h2 h
  go_enter Tryd.func22, Tryd.ntmps22
  go_wp2_with (first
    | (go_at_call 41; with_reducible refine H1.out.mono ?_; rintro e v1 ⟨A, c, rfl, hv, hvb, hb⟩)
    | (go_at_call 42; with_reducible refine (H2.out _).mono ?_; rintro e v2 ⟨rfl, rfl⟩))
  go_ret
  exact ⟨rfl, hb.alloc hb.size _⟩

/-- A copy of these extents was made. -/
def Cloned (w : World) (l : List (Nat × Nat)) (e : Ending) (w' : World) : Prop :=
  ∃ A c, e = .returned (.slice A l.length c) ∧ ExtRow w' (.slice A l.length c) l ∧ (∀ g, (Value.slice A l.length c).ownBlock = some g → w.heap.size ≤ g) ∧ Below w.heap.size w w'
set_option maxRecDepth 100000 in
set_option maxHeartbeats 1600000 in
theorem clone_any (v : Value) (l : List (Nat × Nat)) (w : World) (hl : l.length ≤ 1000) (h : ExtRow w v l) : Calls Tryd.prog 46 #[v] w (Cloned w l) := by
  have q22 : ∀ (w : World) (a : Option Addr) (n c n' c' : Nat), (binOp .eql 53 (.slice a n c) (.slice none n' c')).run Tryd.prog w = .ok (.bool a.isNone) w := fun w a n c n' c' => Lib.run_eql_slice_nil w _ _ a n c n' c' Tryd.underlying53
  obtain ⟨i0, hi, hz0, hz1, hz2⟩ := info_parts infoExt
  rcases h with ⟨rfl, rfl⟩ | ⟨g, cap, cur, rfl, hb, hc⟩
  · go_enter Tryd.func46, Tryd.ntmps46
    go_wp2
    go_ret
    exact ⟨none, 0, rfl, .inl ⟨rfl, rfl⟩, fun g hg => by simp [Value.ownBlock] at hg, Below.refl _ _⟩
  · have hcl := extCells_length l
    have hcell : ∀ j u, (extCells l)[j]? = some u → w.cell? ⟨g, j, none⟩ = some u := fun j u hj => by
      have hjl : j < l.length * 2 := by
        rcases Nat.lt_or_ge j (l.length * 2) with h1 | h1
        · exact h1
        · rw [List.getElem?_eq_none (by omega)] at hj; cases hj
      rw [← hc, List.getElem?_take, if_pos hjl] at hj
      exact hb.at_ _ _ (by simpa using hj)
    have hone : ∀ u ∈ extCells l, u.oneCell' = true := fun u hu => by
      unfold extCells at hu
      obtain ⟨e, _, he⟩ := List.mem_flatMap.1 hu
      simp at he
      rcases he with rfl | rfl <;> rfl
    have HC := Lib.hid hcell
    have H1 := Lib.hid hone
    have hgl := hb.lt
    clear hb hc hcell hone
    go_enter Tryd.func46, Tryd.ntmps46
    go_wp2_with (at_builtin; refine wpList_append_own _ rfl _ _ 53 rfl w.heap.size 61 i0 _ 2 16 Tryd.underlying53 hi hz0 hz1 hz2 rfl (by decide) _ _ _ rfl (World.ownsRow_made w #[] 0 (Nat.le_refl _) (Nat.zero_le _) (by simp)) ⟨g, 0, none⟩ l.length cap (extCells l) rfl ?qc1 ?qc2 ?qc3 ?qc4 ?qc5 ?qc6 ?_)
    case qc1 => exact hcl
    case qc2 =>
      intro j u hj
      rw [show (⟨g, 0, none⟩ : Addr).add j = ⟨g, j, none⟩ by unfold Addr.add; split <;> simp_all]
      exact ((Below.refl w.heap.size w).alloc (Nat.le_refl _) _).cell (p := ⟨g, j, none⟩) hgl |>.trans (HC.out j u hj)
    case qc3 => exact H1.out
    case qc4 => rw [Nat.zero_add]; unfold maxLen; omega
    case qc5 => rw [Nat.zero_add]; omega
    case qc6 => simp
    intro v' w1 hown hgrow hnil
    have hx : ExtRow w1 v' l := ExtRow.of_own (n := l.length) (by simpa using hown)
    have hxb : ∀ g, v'.ownBlock = some g → w.heap.size ≤ g := fun g hg => own_ge hown hg
    have hB : Below w.heap.size w w1 := ((Below.refl _ w).alloc (Nat.le_refl _) _).grown hgrow (by simp) (by intro k hk; simp [Value.ownBlock] at hk; omega)
    obtain ⟨A, c, rfl⟩ := hx.slice
    clear hown hgrow hnil
    go_wp2
    go_ret
    exact ⟨A, c, rfl, hx, hxb, hB⟩
end Go.Proofs.YtgkhgjihjbjfnaaDoor
