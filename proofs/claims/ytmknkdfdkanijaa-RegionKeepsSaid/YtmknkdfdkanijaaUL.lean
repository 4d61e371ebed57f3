/- Package region: row. -/
import Derived.Test.YtmknkdfdkanijaaUK
namespace Go.Proofs.Ytmknkdfdkanijaa
open Go.RowKit Go.ChangeShapes Go.WideShapes Go.Deep
set_option linter.unusedVariables false
set_option linter.unusedSimpArgs false

/-- A slice of regions. -/
structure RS (w : World) (A : Option Addr) (n c : Nat) (l : List Rg) : Prop where
  row : RgRow w A l
  len : l.length = n
  cap : n ≤ c
  max : c ≤ maxLen
  lt : ∀ ad, A = some ad → ad.block < w.heap.size
theorem RS.nil (w : World) : RS w none 0 0 [] := ⟨RgRow.nil _ _, rfl, Nat.le_refl _, by decide, fun ad e => by cases e⟩
theorem RS.below {w w' : World} {A : Option Addr} {n c : Nat} {l : List Rg} (h : RS w A n c l) (hb : Below w.heap.size w w') : RS w' A n c l :=
  ⟨h.row.below rfl hb, h.len, h.cap, h.max, fun ad e => by have := h.lt ad e; have := hb.size; omega⟩
/-- What tells a row. -/
def RowR (w : World) (l : List Rg) (e : Ending) (w' : World) : Prop := ∃ A, e = .returned (.slice A l.length l.length) ∧ RS w' A l.length l.length l ∧ Below w.heap.size w w'

theorem own_capU {w : World} {B e size n c : Nat} {A : Option Addr} {xs : List Value} (h : w.ownsRow B e size (.slice A n c) n xs) : n ≤ c ∧ c ≤ maxLen := by
  rcases h.2 with ⟨h0, h1⟩ | ⟨g', cap, cur, hv, hbg, hh, h3, h4, _⟩
  · injection h0 with h2 h3 h4
    subst h4
    exact ⟨by omega, by decide⟩
  · injection hv with h5 h6 h7
    subst h7
    exact ⟨h3, h4⟩
theorem told_new (w : World) : Told ((w.alloc (.cells #[] 29)).alloc (.cells #[.slice (some ⟨w.heap.size, 0, none⟩) 0 0] 25)) w.heap.size (w.heap.size + 1) (some ⟨w.heap.size, 0, none⟩) 0 [] :=
  ⟨blk_twoU w _ _ _, ⟨rfl, .inr ⟨w.heap.size, 0, #[], rfl, Nat.le_refl _, (Blk.new w 29 #[]).alloc _, Nat.le_refl _, by decide, rfl, rfl⟩⟩, fun g e => by cases e; show w.heap.size ≠ w.heap.size + 1; omega, Nat.le_succ _, fun r hr => by simp at hr⟩

set_option maxRecDepth 100000 in
set_option maxHeartbeats 3200000 in
theorem row_cut (w : World) (bl bf bt : Nat) (M : List Rg) (hM : M.length ≤ 100000)
    (h : ∀ v tb A c, Told v w.heap.size tb A c [] → Below w.heap.size w v → Calls Try.prog 32 #[putVal tb, .pointer (some ⟨bl, 0, none⟩), .pointer (some ⟨bf, 0, none⟩), .pointer (some ⟨bt, 0, none⟩)] v (Filled v w.heap.size tb M)) :
    Calls Try.prog 31 #[.func (.func 32) #[] #[.pointer (some ⟨bl, 0, none⟩), .pointer (some ⟨bf, 0, none⟩), .pointer (some ⟨bt, 0, none⟩)]] w (RowR w (rowOf M)) := by
  have hb0 : Below w.heap.size w ((w.alloc (.cells #[] 29)).alloc (.cells #[.slice (some ⟨w.heap.size, 0, none⟩) 0 0] 25)) := ((Below.refl _ _).alloc (Nat.le_refl _) _).alloc (by simp) _
  have H := Lib.hid (h _ _ _ _ (told_new w) hb0)
  have HB := Lib.hid hb0
  clear h hb0
  go_enter Try.func31, Try.ntmps31
  go_upto_region 4 with (go_at_call 32; refine H.out.mono ?_; rintro e x ⟨rfl, A', c', hT, hb⟩)
  obtain ⟨n, hn⟩ : ∃ n, (putAll [] M).length = n := ⟨_, rfl⟩
  have hc := own_capU hT.row
  have t0 := hT.box.cell 0
  have hl := putAll_length [] M
  rw [hn] at hc t0 hl
  have t0 : x.cell? ⟨w.heap.size + 1, 0, none⟩ = some (.slice A' n c') := t0
  have HT := Lib.hid hT
  have HN := Lib.hid hn
  have HBB := Lib.hid (HB.out.trans hb)
  have HMX := Lib.hid (show (rowOf M).length ≤ maxLen from by
    have : (rowOf M).length = n := hn
    omega)
  obtain ⟨hc1, hc2⟩ := hc
  simp at hl
  have i0 : (0 : Int) ≤ (n : Int) := by omega
  have i1 : (n : Int) ≤ (c' : Int) := by omega
  clear hT hn hb hl hc2
  go_wp2_with fail
  go_ret
  refine ⟨A', ?_, ⟨HT.out.rg, rfl, Nat.le_refl _, HMX.out, fun ad e => (HT.out.block e).2.2.1⟩, HBB.out⟩
  unfold rowOf
  rw [HN.out]
  rfl

set_option maxRecDepth 100000 in
set_option maxHeartbeats 3200000 in
theorem row_pro (w : World) (bl bf bt bp : Nat) (M : List Rg) (hM : M.length ≤ 100000)
    (h : ∀ v tb A c, Told v w.heap.size tb A c [] → Below w.heap.size w v → Calls Try.prog 35 #[putVal tb, .pointer (some ⟨bl, 0, none⟩), .pointer (some ⟨bf, 0, none⟩), .pointer (some ⟨bt, 0, none⟩), .pointer (some ⟨bp, 0, none⟩)] v (Filled v w.heap.size tb M)) :
    Calls Try.prog 31 #[.func (.func 35) #[] #[.pointer (some ⟨bl, 0, none⟩), .pointer (some ⟨bf, 0, none⟩), .pointer (some ⟨bt, 0, none⟩), .pointer (some ⟨bp, 0, none⟩)]] w (RowR w (rowOf M)) := by
  have hb0 : Below w.heap.size w ((w.alloc (.cells #[] 29)).alloc (.cells #[.slice (some ⟨w.heap.size, 0, none⟩) 0 0] 25)) := ((Below.refl _ _).alloc (Nat.le_refl _) _).alloc (by simp) _
  have H := Lib.hid (h _ _ _ _ (told_new w) hb0)
  have HB := Lib.hid hb0
  clear h hb0
  go_enter Try.func31, Try.ntmps31
  go_upto_region 4 with (go_at_call 35; refine H.out.mono ?_; rintro e x ⟨rfl, A', c', hT, hb⟩)
  obtain ⟨n, hn⟩ : ∃ n, (putAll [] M).length = n := ⟨_, rfl⟩
  have hc := own_capU hT.row
  have t0 := hT.box.cell 0
  have hl := putAll_length [] M
  rw [hn] at hc t0 hl
  have t0 : x.cell? ⟨w.heap.size + 1, 0, none⟩ = some (.slice A' n c') := t0
  have HT := Lib.hid hT
  have HN := Lib.hid hn
  have HBB := Lib.hid (HB.out.trans hb)
  have HMX := Lib.hid (show (rowOf M).length ≤ maxLen from by
    have : (rowOf M).length = n := hn
    omega)
  obtain ⟨hc1, hc2⟩ := hc
  simp at hl
  have i0 : (0 : Int) ≤ (n : Int) := by omega
  have i1 : (n : Int) ≤ (c' : Int) := by omega
  clear hT hn hb hl hc2
  go_wp2_with fail
  go_ret
  refine ⟨A', ?_, ⟨HT.out.rg, rfl, Nat.le_refl _, HMX.out, fun ad e => (HT.out.block e).2.2.1⟩, HBB.out⟩
  unfold rowOf
  rw [HN.out]
  rfl

set_option maxRecDepth 100000 in
set_option maxHeartbeats 3200000 in
theorem row_add (w : World) (bl bf bt : Nat) (M : List Rg) (hM : M.length ≤ 100000)
    (h : ∀ v tb A c, Told v w.heap.size tb A c [] → Below w.heap.size w v → Calls Try.prog 37 #[putVal tb, .pointer (some ⟨bl, 0, none⟩), .pointer (some ⟨bf, 0, none⟩), .pointer (some ⟨bt, 0, none⟩)] v (Filled v w.heap.size tb M)) :
    Calls Try.prog 31 #[.func (.func 37) #[] #[.pointer (some ⟨bl, 0, none⟩), .pointer (some ⟨bf, 0, none⟩), .pointer (some ⟨bt, 0, none⟩)]] w (RowR w (rowOf M)) := by
  have hb0 : Below w.heap.size w ((w.alloc (.cells #[] 29)).alloc (.cells #[.slice (some ⟨w.heap.size, 0, none⟩) 0 0] 25)) := ((Below.refl _ _).alloc (Nat.le_refl _) _).alloc (by simp) _
  have H := Lib.hid (h _ _ _ _ (told_new w) hb0)
  have HB := Lib.hid hb0
  clear h hb0
  go_enter Try.func31, Try.ntmps31
  go_upto_region 4 with (go_at_call 37; refine H.out.mono ?_; rintro e x ⟨rfl, A', c', hT, hb⟩)
  obtain ⟨n, hn⟩ : ∃ n, (putAll [] M).length = n := ⟨_, rfl⟩
  have hc := own_capU hT.row
  have t0 := hT.box.cell 0
  have hl := putAll_length [] M
  rw [hn] at hc t0 hl
  have t0 : x.cell? ⟨w.heap.size + 1, 0, none⟩ = some (.slice A' n c') := t0
  have HT := Lib.hid hT
  have HN := Lib.hid hn
  have HBB := Lib.hid (HB.out.trans hb)
  have HMX := Lib.hid (show (rowOf M).length ≤ maxLen from by
    have : (rowOf M).length = n := hn
    omega)
  obtain ⟨hc1, hc2⟩ := hc
  simp at hl
  have i0 : (0 : Int) ≤ (n : Int) := by omega
  have i1 : (n : Int) ≤ (c' : Int) := by omega
  clear hT hn hb hl hc2
  go_wp2_with fail
  go_ret
  refine ⟨A', ?_, ⟨HT.out.rg, rfl, Nat.le_refl _, HMX.out, fun ad e => (HT.out.block e).2.2.1⟩, HBB.out⟩
  unfold rowOf
  rw [HN.out]
  rfl

end Go.Proofs.Ytmknkdfdkanijaa
