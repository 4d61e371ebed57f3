/- Package frames: with, its closures; Take, Hold, Drop, Bytes, Fill, Copy. -/
import Derived.Test.YtmbjflcmbenbdaaDoorPA
import Derived.Test.YtmbjflcmbenbdaaDoorRowJ
namespace Go.Proofs.YtmbjflcmbenbdaaDoor
open Go.RowKit
set_option linter.unusedVariables false

set_option maxHeartbeats 400000 in
theorem pwith_nil (s : Int) (f : Value) (w : World) : Calls Tryd.prog 38 #[.pointer none, .int .i64 s, f] w fun e w' => e = .returned (.int .i64 1) ∧ w = w' := by
  go_enter Tryd.func38, Tryd.ntmps38
  go_wp2
  go_ret
  exact ⟨rfl, rfl⟩

set_option maxHeartbeats 400000 in
theorem pwith_far (p : Nat) (A : Option Addr) (n c : Nat) (w : World) (hc : w.cell? ⟨p, 0, none⟩ = some (.slice A n c)) (s : Int) (hs : s < 0 ∨ (n : Int) ≤ s) (f : Value) :
    Calls Tryd.prog 38 #[.pointer (some ⟨p, 0, none⟩), .int .i64 s, f] w fun e w' => e = .returned (.int .i64 14) ∧ w = w' := by
  by_cases h0 : s < 0
  · go_enter Tryd.func38, Tryd.ntmps38
    go_wp2
    go_ret
    exact ⟨rfl, rfl⟩
  · have h1 : (n : Int) ≤ s := by omega
    clear hs
    go_enter Tryd.func38, Tryd.ntmps38
    go_wp2
    go_ret
    exact ⟨rfl, rfl⟩

set_option maxHeartbeats 400000 in
theorem pwith_no {w : World} {p h g : Nat} {X : Pol} (a : Pl w p h g X) (s : Int) (f : Value) (r : Int) (hr : r = askE X.H s) (h0 : r ≠ 0) :
    Calls Tryd.prog 38 #[.pointer (some ⟨p, 0, none⟩), .int .i64 s, f] w fun e w' => e = .returned (.int .i64 r) ∧ w = w' := by
  have hc := a.head.at_ 0 _ rfl
  by_cases hin : 0 ≤ s ∧ s < X.H.length
  · obtain ⟨h1, h2⟩ := hin
    obtain ⟨k, rfl⟩ : ∃ k : Nat, s = k := ⟨s.toNat, by omega⟩
    have hk : k < X.H.length := by omega
    have c1 := a.row.at_ k _ (icells_at hk)
    rw [askE_in hk] at hr
    have hz : X.H[k] = 0 := by
      by_cases hz : X.H[k] = 0
      · exact hz
      · rw [if_neg hz] at hr; exact absurd hr h0
    rw [if_pos hz] at hr
    rw [hz] at c1
    subst hr
    have d2 : ¬ ((X.H.length : Int) ≤ (k : Int)) := by omega
    clear a hz h0 h2
    go_enter Tryd.func38, Tryd.ntmps38
    go_wp2
    go_ret
    exact ⟨rfl, rfl⟩
  · have e : askE X.H s = 14 := by unfold askE; rw [if_neg hin]
    rw [e] at hr
    subst hr
    exact pwith_far p _ _ _ w hc s (by omega) f


set_option maxHeartbeats 400000 in
theorem pwith_hold {w : World} {p h g : Nat} {X : Pol} (a : Pl w p h g X) (k : Nat) (hk : k < X.H.length) (hx : X.H[k] ≠ 0) (b c : Nat) (r : Int) (R : World → Prop)
    (hK : Hid (Calls Tryd.prog 71 #[.slice (some ⟨g, 64 * k, none⟩) 64 64, .pointer (some ⟨b, 0, none⟩), .pointer (some ⟨c, 0, none⟩)] w fun e w' => e = .returned (.int .i64 r) ∧ R w')) :
    Calls Tryd.prog 38 #[.pointer (some ⟨p, 0, none⟩), .int .i64 k, .func (.func 71) #[] #[.pointer (some ⟨b, 0, none⟩), .pointer (some ⟨c, 0, none⟩)]] w fun e w' => e = .returned (.int .i64 r) ∧ R w' := by
  have hc := a.head.at_ 0 _ rfl
  have c1 := a.row.at_ k _ (icells_at hk)
  have hne : (X.H[k] == 0) = false := by simpa using hx
  have HB := Lib.hid (pbytes_any a k hk)
  generalize X.H[k] = x at *
  clear a hx
  go_enter Tryd.func38, Tryd.ntmps38
  go_wp2_with (first
    | (go_at_call 57; refine HB.out.mono ?_; rintro e w' ⟨rfl, rfl⟩)
    | (go_at_call 71; refine hK.out.mono ?_; rintro e w' ⟨rfl, hR⟩))
  go_ret
  exact ⟨rfl, hR⟩


set_option maxHeartbeats 400000 in
theorem pwith_drop {w : World} {p h g : Nat} {X : Pol} (a : Pl w p h g X) (k : Nat) (hk : k < X.H.length) (hx : X.H[k] ≠ 0) (b c : Nat) (r : Int) (R : World → Prop)
    (hK : Hid (Calls Tryd.prog 40 #[.slice (some ⟨g, 64 * k, none⟩) 64 64, .pointer (some ⟨b, 0, none⟩), .pointer (some ⟨c, 0, none⟩)] w fun e w' => e = .returned (.int .i64 r) ∧ R w')) :
    Calls Tryd.prog 38 #[.pointer (some ⟨p, 0, none⟩), .int .i64 k, .func (.func 40) #[] #[.pointer (some ⟨b, 0, none⟩), .pointer (some ⟨c, 0, none⟩)]] w fun e w' => e = .returned (.int .i64 r) ∧ R w' := by
  have hc := a.head.at_ 0 _ rfl
  have c1 := a.row.at_ k _ (icells_at hk)
  have hne : (X.H[k] == 0) = false := by simpa using hx
  have HB := Lib.hid (pbytes_any a k hk)
  generalize X.H[k] = x at *
  clear a hx
  go_enter Tryd.func38, Tryd.ntmps38
  go_wp2_with (first
    | (go_at_call 57; refine HB.out.mono ?_; rintro e w' ⟨rfl, rfl⟩)
    | (go_at_call 40; refine hK.out.mono ?_; rintro e w' ⟨rfl, hR⟩))
  go_ret
  exact ⟨rfl, hR⟩


set_option maxHeartbeats 400000 in
theorem pwith_bytes {w : World} {p h g : Nat} {X : Pol} (a : Pl w p h g X) (k : Nat) (hk : k < X.H.length) (hx : X.H[k] ≠ 0) (b : Nat) (r : Int) (R : World → Prop)
    (hK : Hid (Calls Tryd.prog 39 #[.slice (some ⟨g, 64 * k, none⟩) 64 64, .pointer (some ⟨b, 0, none⟩)] w fun e w' => e = .returned (.int .i64 r) ∧ R w')) :
    Calls Tryd.prog 38 #[.pointer (some ⟨p, 0, none⟩), .int .i64 k, .func (.func 39) #[] #[.pointer (some ⟨b, 0, none⟩)]] w fun e w' => e = .returned (.int .i64 r) ∧ R w' := by
  have hc := a.head.at_ 0 _ rfl
  have c1 := a.row.at_ k _ (icells_at hk)
  have hne : (X.H[k] == 0) = false := by simpa using hx
  have HB := Lib.hid (pbytes_any a k hk)
  generalize X.H[k] = x at *
  clear a hx
  go_enter Tryd.func38, Tryd.ntmps38
  go_wp2_with (first
    | (go_at_call 57; refine HB.out.mono ?_; rintro e w' ⟨rfl, rfl⟩)
    | (go_at_call 39; refine hK.out.mono ?_; rintro e w' ⟨rfl, hR⟩))
  go_ret
  exact ⟨rfl, hR⟩


set_option maxHeartbeats 400000 in
theorem pwith_fill {w : World} {p h g : Nat} {X : Pol} (a : Pl w p h g X) (k : Nat) (hk : k < X.H.length) (hx : X.H[k] ≠ 0) (b : Nat) (r : Int) (R : World → Prop)
    (hK : Hid (Calls Tryd.prog 86 #[.slice (some ⟨g, 64 * k, none⟩) 64 64, .pointer (some ⟨b, 0, none⟩)] w fun e w' => e = .returned (.int .i64 r) ∧ R w')) :
    Calls Tryd.prog 38 #[.pointer (some ⟨p, 0, none⟩), .int .i64 k, .func (.func 86) #[] #[.pointer (some ⟨b, 0, none⟩)]] w fun e w' => e = .returned (.int .i64 r) ∧ R w' := by
  have hc := a.head.at_ 0 _ rfl
  have c1 := a.row.at_ k _ (icells_at hk)
  have hne : (X.H[k] == 0) = false := by simpa using hx
  have HB := Lib.hid (pbytes_any a k hk)
  generalize X.H[k] = x at *
  clear a hx
  go_enter Tryd.func38, Tryd.ntmps38
  go_wp2_with (first
    | (go_at_call 57; refine HB.out.mono ?_; rintro e w' ⟨rfl, rfl⟩)
    | (go_at_call 86; refine hK.out.mono ?_; rintro e w' ⟨rfl, hR⟩))
  go_ret
  exact ⟨rfl, hR⟩






/-- The pool, of which a frame is held n times more. -/
def Pol.addX (X : Pol) (s n : Int) : Pol := if askE X.H s = 0 then { X with H := X.H.set s.toNat (wrap64 (X.H.getD s.toNat 0 + n)) } else X
theorem Pol.addX_in {X : Pol} {k : Nat} (hk : k < X.H.length) (hx : X.H[k] ≠ 0) (n : Int) : X.addX k n = { X with H := X.H.set k (wrap64 (X.H[k] + n)) } := by
  unfold Pol.addX
  rw [if_pos (by rw [askE_in hk, if_neg hx])]
  simp [hk]
theorem Pol.addX_no {X : Pol} {s : Int} (h : askE X.H s ≠ 0) (n : Int) : X.addX s n = X := by unfold Pol.addX; rw [if_neg h]
theorem Pol.addX_H (X : Pol) (s n : Int) : (X.addX s n).H = addH X.H s n := by unfold Pol.addX addH; split <;> rfl
theorem Pol.addX_S (X : Pol) (s n : Int) : (X.addX s n).S = X.S := by unfold Pol.addX; split <;> rfl


set_option maxHeartbeats 800000 in
theorem pclo_hold {w : World} {p h g : Nat} {X : Pol} (a : Pl w p h g X) (k : Nat) (hk : k < X.H.length) (v : Value) (b c : Nat) (hb : w.cell? ⟨b, 0, none⟩ = some (.pointer (some ⟨p, 0, none⟩))) (hd : w.cell? ⟨c, 0, none⟩ = some (.int .i64 k)) :
    Calls Tryd.prog 71 #[v, .pointer (some ⟨b, 0, none⟩), .pointer (some ⟨c, 0, none⟩)] w fun e w' => e = .returned (.int .i64 0) ∧ ∃ n, w' = (w.drewN n).setCell ⟨h, k, none⟩ (.int .i64 (wrap64 (X.H[k] + 1))) := by
  have hc := a.head.at_ 0 _ rfl
  have c1 := a.row.at_ k _ (icells_at hk)
  have f1 := a.row.frozen k
  generalize X.H[k] = x at *
  clear a
  go_enter Tryd.func71, Tryd.ntmps71
  go_wp2
  go_region
  all_goals
    go_wp2
    go_ret
    exact ⟨rfl, 1, rfl⟩

theorem pwith_hold_any {w : World} {p h g : Nat} {X : Pol} (a : Pl w p h g X) (s : Int) :
    Calls Tryd.prog 38 #[.pointer (some ⟨p, 0, none⟩), .int .i64 s, .func (.func 71) #[] #[.pointer (some ⟨w.heap.size, 0, none⟩), .pointer (some ⟨w.heap.size + 1, 0, none⟩)]]
      ((w.alloc (.cells #[.pointer (some ⟨p, 0, none⟩)] 26)).alloc (.cells #[.int .i64 s] 3)) fun e w' => e = .returned (.int .i64 (askE X.H s)) ∧ But (· = h) w w' ∧ Pl w' p h g (X.addX s 1) := by
  have a2 := (a.alloc (.cells #[.pointer (some ⟨p, 0, none⟩)] 26)).alloc (.cells #[.int .i64 s] 3)
  have hb := ((But.refl (· = h) w).alloc (.cells #[.pointer (some ⟨p, 0, none⟩)] 26)).alloc (.cells #[.int .i64 s] 3)
  obtain ⟨c1, c2⟩ := two_cells w (.pointer (some ⟨p, 0, none⟩)) (.int .i64 s) 26 3
  generalize (w.alloc (.cells #[.pointer (some ⟨p, 0, none⟩)] 26)).alloc (.cells #[.int .i64 s] 3) = v at *
  by_cases h0 : askE X.H s = 0
  · obtain ⟨k, rfl, hk, hx⟩ := askE_zero h0
    rw [Pol.addX_in hk hx, h0]
    exact pwith_hold a2 k hk hx _ _ 0 _ (Lib.hid ((pclo_hold a2 k hk _ _ _ c1 c2).mono fun e w' ⟨he, n, hw⟩ => by
      subst hw
      exact ⟨he, (hb.drewN n).setCell (p := ⟨h, k, none⟩) (.inl rfl) _, (a2.drewN n).setH k _⟩))
  · rw [Pol.addX_no h0]
    exact (pwith_no a2 s _ _ rfl h0).mono fun e w' ⟨he, hw⟩ => by subst hw; exact ⟨he, hb, a2⟩

set_option maxHeartbeats 400000 in
theorem phold_any {w : World} {p h g : Nat} {X : Pol} (a : Pl w p h g X) (s : Int) :
    Calls Tryd.prog 54 #[.pointer (some ⟨p, 0, none⟩), .int .i64 s] w fun e w' => e = .returned (.int .i64 (askE X.H s)) ∧ But (· = h) w w' ∧ Pl w' p h g (X.addX s 1) := by
  have hmf : ∀ (fn : Fn) (first cap : Array Value) (w : World), (Instr.makeFunc fn first cap).run Tryd.prog w = .ok (.func fn first cap) w := fun _ _ _ _ => rfl
  have HU := Lib.hid (pwith_hold_any a s)
  clear a
  go_enter Tryd.func54, Tryd.ntmps54
  go_wp2_with (go_at_call 38; refine HU.out.mono ?_; rintro e w4 ⟨rfl, hb, ha⟩)
  go_ret
  exact ⟨rfl, hb, ha⟩

set_option maxHeartbeats 400000 in
theorem phold_nil (s : Int) (w : World) : Calls Tryd.prog 54 #[.pointer none, .int .i64 s] w fun e w' => e = .returned (.int .i64 1) ∧ Below w.heap.size w w' := by
  have hmf : ∀ (fn : Fn) (first cap : Array Value) (w : World), (Instr.makeFunc fn first cap).run Tryd.prog w = .ok (.func fn first cap) w := fun _ _ _ _ => rfl
  have HU := Lib.hid (fun f w => pwith_nil s f w)
  go_enter Tryd.func54, Tryd.ntmps54
  go_wp2_with (go_at_call 38; refine (HU.out _ _).mono ?_; rintro e w4 ⟨rfl, rfl⟩)
  go_ret
  exact ⟨rfl, ((Below.refl _ w).alloc (Nat.le_refl _) _).alloc (by simp) _⟩

set_option maxHeartbeats 400000 in
theorem phold_zero (q c : Nat) (w : World) (hc : w.cell? ⟨q, 0, none⟩ = some (.slice none 0 c)) (hq : q < w.heap.size) (s : Int) : Calls Tryd.prog 54 #[.pointer (some ⟨q, 0, none⟩), .int .i64 s] w fun e w' => e = .returned (.int .i64 14) ∧ Below w.heap.size w w' := by
  have hmf : ∀ (fn : Fn) (first cap : Array Value) (w : World), (Instr.makeFunc fn first cap).run Tryd.prog w = .ok (.func fn first cap) w := fun _ _ _ _ => rfl
  have hb : ∀ o1 o2 : Obj, ((w.alloc o1).alloc o2).cell? ⟨q, 0, none⟩ = some (.slice none 0 c) := fun o1 o2 => by
    rw [World.cell?_alloc_lt (h := by simp <;> omega), World.cell?_alloc_lt (h := by simpa using hq)]
    exact hc
  have HU := Lib.hid (fun o1 o2 f => pwith_far q none 0 c _ (hb o1 o2) s (by omega) f)
  clear hb hc
  go_enter Tryd.func54, Tryd.ntmps54
  go_wp2_with (go_at_call 38; refine (HU.out _ _ _).mono ?_; rintro e w4 ⟨rfl, rfl⟩)
  go_ret
  exact ⟨rfl, ((Below.refl _ w).alloc (Nat.le_refl _) _).alloc (by simp) _⟩


set_option maxHeartbeats 800000 in
theorem pclo_drop {w : World} {p h g : Nat} {X : Pol} (a : Pl w p h g X) (k : Nat) (hk : k < X.H.length) (v : Value) (b c : Nat) (hb : w.cell? ⟨b, 0, none⟩ = some (.pointer (some ⟨p, 0, none⟩))) (hd : w.cell? ⟨c, 0, none⟩ = some (.int .i64 k)) :
    Calls Tryd.prog 40 #[v, .pointer (some ⟨b, 0, none⟩), .pointer (some ⟨c, 0, none⟩)] w fun e w' => e = .returned (.int .i64 0) ∧ ∃ n, w' = (w.drewN n).setCell ⟨h, k, none⟩ (.int .i64 (wrap64 (X.H[k] - 1))) := by
  have hc := a.head.at_ 0 _ rfl
  have c1 := a.row.at_ k _ (icells_at hk)
  have f1 := a.row.frozen k
  generalize X.H[k] = x at *
  clear a
  go_enter Tryd.func40, Tryd.ntmps40
  go_wp2
  go_region
  all_goals
    go_wp2
    go_ret
    exact ⟨rfl, 1, rfl⟩

theorem pwith_drop_any {w : World} {p h g : Nat} {X : Pol} (a : Pl w p h g X) (s : Int) :
    Calls Tryd.prog 38 #[.pointer (some ⟨p, 0, none⟩), .int .i64 s, .func (.func 40) #[] #[.pointer (some ⟨w.heap.size, 0, none⟩), .pointer (some ⟨w.heap.size + 1, 0, none⟩)]]
      ((w.alloc (.cells #[.pointer (some ⟨p, 0, none⟩)] 26)).alloc (.cells #[.int .i64 s] 3)) fun e w' => e = .returned (.int .i64 (askE X.H s)) ∧ But (· = h) w w' ∧ Pl w' p h g (X.addX s (-1)) := by
  have a2 := (a.alloc (.cells #[.pointer (some ⟨p, 0, none⟩)] 26)).alloc (.cells #[.int .i64 s] 3)
  have hb := ((But.refl (· = h) w).alloc (.cells #[.pointer (some ⟨p, 0, none⟩)] 26)).alloc (.cells #[.int .i64 s] 3)
  obtain ⟨c1, c2⟩ := two_cells w (.pointer (some ⟨p, 0, none⟩)) (.int .i64 s) 26 3
  generalize (w.alloc (.cells #[.pointer (some ⟨p, 0, none⟩)] 26)).alloc (.cells #[.int .i64 s] 3) = v at *
  by_cases h0 : askE X.H s = 0
  · obtain ⟨k, rfl, hk, hx⟩ := askE_zero h0
    rw [Pol.addX_in hk hx, h0]
    exact pwith_drop a2 k hk hx _ _ 0 _ (Lib.hid ((pclo_drop a2 k hk _ _ _ c1 c2).mono fun e w' ⟨he, n, hw⟩ => by
      subst hw
      exact ⟨he, (hb.drewN n).setCell (p := ⟨h, k, none⟩) (.inl rfl) _, (a2.drewN n).setH k _⟩))
  · rw [Pol.addX_no h0]
    exact (pwith_no a2 s _ _ rfl h0).mono fun e w' ⟨he, hw⟩ => by subst hw; exact ⟨he, hb, a2⟩

set_option maxHeartbeats 400000 in
theorem pdrop_any {w : World} {p h g : Nat} {X : Pol} (a : Pl w p h g X) (s : Int) :
    Calls Tryd.prog 15 #[.pointer (some ⟨p, 0, none⟩), .int .i64 s] w fun e w' => e = .returned (.int .i64 (askE X.H s)) ∧ But (· = h) w w' ∧ Pl w' p h g (X.addX s (-1)) := by
  have hmf : ∀ (fn : Fn) (first cap : Array Value) (w : World), (Instr.makeFunc fn first cap).run Tryd.prog w = .ok (.func fn first cap) w := fun _ _ _ _ => rfl
  have HU := Lib.hid (pwith_drop_any a s)
  clear a
  go_enter Tryd.func15, Tryd.ntmps15
  go_wp2_with (go_at_call 38; refine HU.out.mono ?_; rintro e w4 ⟨rfl, hb, ha⟩)
  go_ret
  exact ⟨rfl, hb, ha⟩

set_option maxHeartbeats 400000 in
theorem pdrop_nil (s : Int) (w : World) : Calls Tryd.prog 15 #[.pointer none, .int .i64 s] w fun e w' => e = .returned (.int .i64 1) ∧ Below w.heap.size w w' := by
  have hmf : ∀ (fn : Fn) (first cap : Array Value) (w : World), (Instr.makeFunc fn first cap).run Tryd.prog w = .ok (.func fn first cap) w := fun _ _ _ _ => rfl
  have HU := Lib.hid (fun f w => pwith_nil s f w)
  go_enter Tryd.func15, Tryd.ntmps15
  go_wp2_with (go_at_call 38; refine (HU.out _ _).mono ?_; rintro e w4 ⟨rfl, rfl⟩)
  go_ret
  exact ⟨rfl, ((Below.refl _ w).alloc (Nat.le_refl _) _).alloc (by simp) _⟩

set_option maxHeartbeats 400000 in
theorem pdrop_zero (q c : Nat) (w : World) (hc : w.cell? ⟨q, 0, none⟩ = some (.slice none 0 c)) (hq : q < w.heap.size) (s : Int) : Calls Tryd.prog 15 #[.pointer (some ⟨q, 0, none⟩), .int .i64 s] w fun e w' => e = .returned (.int .i64 14) ∧ Below w.heap.size w w' := by
  have hmf : ∀ (fn : Fn) (first cap : Array Value) (w : World), (Instr.makeFunc fn first cap).run Tryd.prog w = .ok (.func fn first cap) w := fun _ _ _ _ => rfl
  have hb : ∀ o1 o2 : Obj, ((w.alloc o1).alloc o2).cell? ⟨q, 0, none⟩ = some (.slice none 0 c) := fun o1 o2 => by
    rw [World.cell?_alloc_lt (h := by simp <;> omega), World.cell?_alloc_lt (h := by simpa using hq)]
    exact hc
  have HU := Lib.hid (fun o1 o2 f => pwith_far q none 0 c _ (hb o1 o2) s (by omega) f)
  clear hb hc
  go_enter Tryd.func15, Tryd.ntmps15
  go_wp2_with (go_at_call 38; refine (HU.out _ _ _).mono ?_; rintro e w4 ⟨rfl, rfl⟩)
  go_ret
  exact ⟨rfl, ((Below.refl _ w).alloc (Nat.le_refl _) _).alloc (by simp) _⟩


/-- What Bytes tells. -/
def Pol.byS (X : Pol) (s : Int) : ByteArray := if askE X.H s = 0 then X.S.getD s.toNat ⟨#[]⟩ else ⟨#[]⟩
theorem Pl.at_S {w : World} {p h g : Nat} {X : Pol} (a : Pl w p h g X) {k : Nat} (hk : k < X.H.length) : k < X.S.length := by rw [a.lenS]; exact hk

set_option maxHeartbeats 400000 in
theorem pclo_bytes {w : World} {p h g : Nat} {X : Pol} (a : Pl w p h g X) (k : Nat) (hk : k < X.H.length) (b : Nat) (u : Value) (hb : Blk w b 9 #[u]) :
    Calls Tryd.prog 39 #[.slice (some ⟨g, 64 * k, none⟩) 64 64, .pointer (some ⟨b, 0, none⟩)] w fun e w' => e = .returned (.int .i64 0) ∧ w' = w.setCell ⟨b, 0, none⟩ (.string (X.S[k]'(a.at_S hk))) := by
  have hcv := run_string_sec (P := Tryd.prog) w 74 9 5 g k 5 X.S a.all (a.at_S hk) Tryd.underlying74 Tryd.underlying5 Tryd.underlying9 a.byt
  have c1 := hb.at_ 0 _ rfl
  have f1 := hb.frozen 0
  generalize X.S[k]'(a.at_S hk) = x at *
  clear a hb
  go_enter Tryd.func39, Tryd.ntmps39
  go_wp2
  go_ret
  exact ⟨rfl, rfl⟩

theorem pwith_bytes_any {w : World} {p h g : Nat} {X : Pol} (a : Pl w p h g X) (s : Int) :
    Calls Tryd.prog 38 #[.pointer (some ⟨p, 0, none⟩), .int .i64 s, .func (.func 39) #[] #[.pointer (some ⟨w.heap.size, 0, none⟩)]]
      (w.alloc (.cells #[.string ⟨#[]⟩] 9)) fun e w' => e = .returned (.int .i64 (askE X.H s)) ∧ Below w.heap.size w w' ∧ w'.cell? ⟨w.heap.size, 0, none⟩ = some (.string (X.byS s)) := by
  have a2 := a.alloc (.cells #[.string ⟨#[]⟩] 9)
  have hb := (Below.refl w.heap.size w).alloc (Nat.le_refl _) (.cells #[.string ⟨#[]⟩] 9)
  have k1 := Blk.new w 9 #[.string ⟨#[]⟩]
  generalize w.alloc (.cells #[.string ⟨#[]⟩] 9) = v at *
  by_cases h0 : askE X.H s = 0
  · obtain ⟨k, rfl, hk, hx⟩ := askE_zero h0
    have e : X.byS k = X.S[k]'(a.at_S hk) := by unfold Pol.byS; rw [if_pos h0]; simp [List.getD, a.at_S hk]
    rw [h0, e]
    exact pwith_bytes a2 k hk hx _ 0 _ (Lib.hid ((pclo_bytes a2 k hk _ _ k1).mono fun e w' ⟨he, hw⟩ => by
      subst hw
      exact ⟨he, hb.setCell (p := ⟨w.heap.size, 0, none⟩) (Nat.le_refl _) _, (k1.set_ 0 _).at_ 0 _ (by simp)⟩))
  · have e : X.byS s = ⟨#[]⟩ := by unfold Pol.byS; rw [if_neg h0]
    rw [e]
    exact (pwith_no a2 s _ _ rfl h0).mono fun e w' ⟨he, hw⟩ => by subst hw; exact ⟨he, hb, k1.at_ 0 _ rfl⟩

set_option maxHeartbeats 400000 in
theorem pgbytes_any {w : World} {p h g : Nat} {X : Pol} (a : Pl w p h g X) (s : Int) :
    Calls Tryd.prog 14 #[.pointer (some ⟨p, 0, none⟩), .int .i64 s] w fun e w' => e = .returned (.tuple #[.string (X.byS s), .int .i64 (askE X.H s)]) ∧ Below w.heap.size w w' := by
  have hmf : ∀ (fn : Fn) (first cap : Array Value) (w : World), (Instr.makeFunc fn first cap).run Tryd.prog w = .ok (.func fn first cap) w := fun _ _ _ _ => rfl
  have HU := Lib.hid (pwith_bytes_any a s)
  clear a
  go_enter Tryd.func14, Tryd.ntmps14
  go_wp2_with (go_at_call 38; refine HU.out.mono ?_; rintro e w4 ⟨rfl, hb, hc⟩)
  go_ret2
  exact ⟨rfl, hb⟩

set_option maxHeartbeats 400000 in
theorem pgbytes_nil (s : Int) (w : World) : Calls Tryd.prog 14 #[.pointer none, .int .i64 s] w fun e w' => e = .returned (.tuple #[.string ⟨#[]⟩, .int .i64 1]) ∧ Below w.heap.size w w' := by
  have hmf : ∀ (fn : Fn) (first cap : Array Value) (w : World), (Instr.makeFunc fn first cap).run Tryd.prog w = .ok (.func fn first cap) w := fun _ _ _ _ => rfl
  have HU := Lib.hid (fun f w => pwith_nil s f w)
  go_enter Tryd.func14, Tryd.ntmps14
  go_wp2_with (go_at_call 38; refine (HU.out _ _).mono ?_; rintro e w4 ⟨rfl, rfl⟩)
  go_ret2
  exact ⟨rfl, (Below.refl _ w).alloc (Nat.le_refl _) _⟩

/-- What Fill tells, and what the pool is then. -/
def Pol.flE (X : Pol) (s : Int) (t : ByteArray) : Int := if askE X.H s = 0 then (if t.size = 64 then 0 else 1) else askE X.H s
def Pol.flX (X : Pol) (s : Int) (t : ByteArray) : Pol := if X.flE s t = 0 then { X with S := X.S.set s.toNat t } else X
theorem Pol.flX_H (X : Pol) (s : Int) (t : ByteArray) : (X.flX s t).H = X.H := by unfold Pol.flX; split <;> rfl
set_option maxHeartbeats 800000 in
theorem pclo_fill {w : World} {p h g : Nat} {X : Pol} (a : Pl w p h g X) (k : Nat) (hk : k < X.H.length) (b : Nat) (t : ByteArray) (hb : w.cell? ⟨b, 0, none⟩ = some (.string t)) (ht : t.size ≤ 281474976710656) :
    Calls Tryd.prog 86 #[.slice (some ⟨g, 64 * k, none⟩) 64 64, .pointer (some ⟨b, 0, none⟩)] w fun e w' => e = .returned (.int .i64 (if t.size = 64 then 0 else 1)) ∧ But (· = g) w w' ∧ Pl w' p h g (if t.size = 64 then { X with S := X.S.set k t } else X) := by
  have HP := Lib.hid a
  have hkS := a.at_S hk
  by_cases h6 : t.size = 64
  · rw [if_pos h6, if_pos h6]
    have h2 : ((t.size : Int) != 64) = false := by simp [h6]
    have e1 := over_whole (a.all _ (List.getElem_mem hkS)) h6
    have hmin : Hid (Nat.min t.size 64 = 64) := by show Nat.min _ _ = _; rw [h6]; rfl
    have HE := Lib.hid (And.intro h6 e1)
    clear a h6 e1
    go_enter Tryd.func86, Tryd.ntmps86
    go_wp2_with (
      (refine wpList_copy_sec rfl (.tmp 7) (.tmp 8) _ _ rfl 5 Tryd.underlying74 sizeU8 g k 5 X.S t rfl rfl HP.out.all hkS HP.out.byt ?_
       intro w5 hb5 hg5
       have HB5 := Lib.hid hb5
       have HG5 := Lib.hid hg5
       clear hb5 hg5))
    go_ret
    obtain ⟨h6, e1⟩ := HE.out
    have hb5 := HB5.out
    rw [e1] at hb5
    exact ⟨rfl, (But.refl (· = g) w).grown HG5.out (fun j e => by injection e with e; exact .inl e.symm), HP.out.setS hb5 HG5.out (by simp) (HP.out.all.set_ h6)⟩
  · rw [if_neg h6, if_neg h6]
    have h2 : ((t.size : Int) != 64) = true := by simp; omega
    clear a h6
    go_enter Tryd.func86, Tryd.ntmps86
    go_wp2
    go_ret
    exact ⟨rfl, But.refl _ _, HP.out⟩

theorem pwith_fill_any {w : World} {p h g : Nat} {X : Pol} (a : Pl w p h g X) (s : Int) (t : ByteArray) (ht : t.size ≤ 281474976710656) :
    Calls Tryd.prog 38 #[.pointer (some ⟨p, 0, none⟩), .int .i64 s, .func (.func 86) #[] #[.pointer (some ⟨w.heap.size, 0, none⟩)]]
      (w.alloc (.cells #[.string t] 9)) fun e w' => e = .returned (.int .i64 (X.flE s t)) ∧ But (· = g) w w' ∧ Pl w' p h g (X.flX s t) := by
  have a2 := a.alloc (.cells #[.string t] 9)
  have hb := (But.refl (· = g) w).alloc (.cells #[.string t] 9)
  have k1 := (Blk.new w 9 #[.string t]).at_ 0 _ rfl
  generalize w.alloc (.cells #[.string t] 9) = v at *
  by_cases h0 : askE X.H s = 0
  · obtain ⟨k, rfl, hk, hx⟩ := askE_zero h0
    have e1 : X.flE k t = if t.size = 64 then 0 else 1 := by unfold Pol.flE; rw [if_pos h0]
    have e2 : X.flX k t = if t.size = 64 then { X with S := X.S.set k t } else X := by
      unfold Pol.flX
      rw [e1]
      by_cases h6 : t.size = 64
      · simp [h6]
      · simp [h6]
    rw [e1, e2]
    exact pwith_fill a2 k hk hx _ _ _ (Lib.hid ((pclo_fill a2 k hk _ t k1 ht).mono fun e w' ⟨he, hb2, ha⟩ => ⟨he, hb.trans hb2, ha⟩))
  · have e1 : X.flE s t = askE X.H s := by unfold Pol.flE; rw [if_neg h0]
    have e2 : X.flX s t = X := by unfold Pol.flX; rw [e1, if_neg h0]
    rw [e1, e2]
    exact (pwith_no a2 s _ _ rfl h0).mono fun e w' ⟨he, hw⟩ => by subst hw; exact ⟨he, hb, a2⟩

set_option maxHeartbeats 400000 in
theorem pfill_any {w : World} {p h g : Nat} {X : Pol} (a : Pl w p h g X) (s : Int) (t : ByteArray) (ht : t.size ≤ 281474976710656) :
    Calls Tryd.prog 74 #[.pointer (some ⟨p, 0, none⟩), .int .i64 s, .string t] w fun e w' => e = .returned (.int .i64 (X.flE s t)) ∧ But (· = g) w w' ∧ Pl w' p h g (X.flX s t) := by
  have hmf : ∀ (fn : Fn) (first cap : Array Value) (w : World), (Instr.makeFunc fn first cap).run Tryd.prog w = .ok (.func fn first cap) w := fun _ _ _ _ => rfl
  have HU := Lib.hid (pwith_fill_any a s t ht)
  clear a
  go_enter Tryd.func74, Tryd.ntmps74
  go_wp2_with (go_at_call 38; refine HU.out.mono ?_; rintro e w4 ⟨rfl, hb, ha⟩)
  go_ret
  exact ⟨rfl, hb, ha⟩

set_option maxHeartbeats 400000 in
theorem pfill_nil (s : Int) (t : ByteArray) (w : World) : Calls Tryd.prog 74 #[.pointer none, .int .i64 s, .string t] w fun e w' => e = .returned (.int .i64 1) ∧ Below w.heap.size w w' := by
  have hmf : ∀ (fn : Fn) (first cap : Array Value) (w : World), (Instr.makeFunc fn first cap).run Tryd.prog w = .ok (.func fn first cap) w := fun _ _ _ _ => rfl
  have HU := Lib.hid (fun f w => pwith_nil s f w)
  go_enter Tryd.func74, Tryd.ntmps74
  go_wp2_with (go_at_call 38; refine (HU.out _ _).mono ?_; rintro e w4 ⟨rfl, rfl⟩)
  go_ret
  exact ⟨rfl, (Below.refl _ w).alloc (Nat.le_refl _) _⟩
end Go.Proofs.YtmbjflcmbenbdaaDoor

/- Package frames: Take, Copy. -/
namespace Go.Proofs.YtmbjflcmbenbdaaDoor
open Go.RowKit
set_option linter.unusedVariables false

/-- What Take tells, and what the pool is then. -/
def tkE (H : List Int) : Int := if freeAt H < H.length then 0 else 18
def tkV (H : List Int) : Int := if freeAt H < H.length then freeAt H else 0
def Pol.tkX (X : Pol) : Pol := if freeAt X.H < X.H.length then ⟨X.H.set (freeAt X.H) 1, X.S.set (freeAt X.H) zsec⟩ else X
set_option maxHeartbeats 400000 in
theorem ptake_nil (w : World) : Calls Tryd.prog 72 #[.pointer none] w fun e w' => e = .returned (.tuple #[.int .i64 0, .int .i64 1]) ∧ w = w' := by
  go_enter Tryd.func72, Tryd.ntmps72
  go_wp2
  go_ret2
  exact ⟨rfl, rfl⟩

set_option maxHeartbeats 400000 in
theorem ptake_zero (p c : Nat) (w : World) (hc : w.cell? ⟨p, 0, none⟩ = some (.slice none 0 c)) : Calls Tryd.prog 72 #[.pointer (some ⟨p, 0, none⟩)] w fun e w' => e = .returned (.tuple #[.int .i64 0, .int .i64 18]) ∧ w = w' := by
  have HF := Lib.hid (pfree_zero p c w hc)
  clear hc
  go_enter Tryd.func72, Tryd.ntmps72
  go_wp2_with (go_at_call 84; refine HF.out.mono ?_; rintro e w4 ⟨rfl, rfl⟩)
  go_ret2
  exact ⟨rfl, rfl⟩

set_option maxHeartbeats 800000 in
theorem ptake_any {w : World} {p h g : Nat} {X : Pol} (a : Pl w p h g X) : Calls Tryd.prog 72 #[.pointer (some ⟨p, 0, none⟩)] w fun e w' =>
    e = .returned (.tuple #[.int .i64 (tkV X.H), .int .i64 (tkE X.H)]) ∧ But (fun j => j = h ∨ j = g) w w' ∧ Pl w' p h g X.tkX := by
  have hf := pfree_any a
  by_cases hlt : freeAt X.H < X.H.length
  · have e1 : tkV X.H = freeAt X.H := by unfold tkV; rw [if_pos hlt]
    have e2 : tkE X.H = 0 := by unfold tkE; rw [if_pos hlt]
    have e3 : X.tkX = ⟨X.H.set (freeAt X.H) 1, X.S.set (freeAt X.H) zsec⟩ := by unfold Pol.tkX; rw [if_pos hlt]
    rw [if_pos hlt, show decide (freeAt X.H < X.H.length) = true by simpa using hlt] at hf
    rw [e1, e2, e3]
    have hb := pbytes_any a _ hlt
    have hkS := a.at_S hlt
    have hle := a.len
    generalize freeAt X.H = k at *
    have HF := Lib.hid hf
    have HB := Lib.hid hb
    have HA := Lib.hid a
    clear hf hb a e1 e2 e3
    go_enter Tryd.func72, Tryd.ntmps72
    go_wp2_with (first
      | (go_at_call 84; refine HF.out.mono ?_; rintro e w4 ⟨rfl, rfl⟩)
      | (go_at_call 57; refine HB.out.mono ?_; rintro e w4 ⟨rfl, rfl⟩)
      | (refine wpList_clear_sec rfl (.tmp 17) _ rfl 5 Tryd.underlying74 zeroU8 g k 64 5 X.S rfl HA.out.all hkS HA.out.byt ?_
         intro w5 hb5 hg5
         have a5 := HA.out.setS hb5 hg5 (by simp) (HA.out.all.set_ zsec_size)
         have c5 := a5.head.at_ 0 _ rfl
         have c6 := a5.row.at_ k _ (icells_at hlt)
         have f6 := a5.row.frozen k
         have HA5 := Lib.hid a5
         have HG5 := Lib.hid hg5
         simp only at c5 c6
         clear hb5 hg5 a5))
    go_ret2
    exact ⟨rfl, ((But.refl (fun j => j = h ∨ j = g) w).grown HG5.out (fun j e => by injection e with e; exact .inl (.inr e.symm))).setCell (p := ⟨h, k, none⟩) (.inl (.inl rfl)) _, HA5.out.setH k 1⟩
  · have e1 : tkV X.H = 0 := by unfold tkV; rw [if_neg hlt]
    have e2 : tkE X.H = 18 := by unfold tkE; rw [if_neg hlt]
    have e3 : X.tkX = X := by unfold Pol.tkX; rw [if_neg hlt]
    rw [if_neg hlt, show decide (freeAt X.H < X.H.length) = false by simpa using hlt] at hf
    rw [e1, e2, e3]
    have HF := Lib.hid hf
    have HA := Lib.hid a
    clear hf a e1 e2 e3 hlt
    go_enter Tryd.func72, Tryd.ntmps72
    go_wp2_with (go_at_call 84; refine HF.out.mono ?_; rintro e w4 ⟨rfl, rfl⟩)
    go_ret2
    exact ⟨rfl, But.refl _ _, HA.out⟩

/-- What Copy tells, and what the pool is then. -/
def cpE (H : List Int) (s : Int) : Int := if askE H s = 0 then tkE H else askE H s
def cpV (H : List Int) (s : Int) : Int := if askE H s = 0 then tkV H else 0
def Pol.cpX (X : Pol) (s : Int) : Pol := if cpE X.H s = 0 then ⟨X.H.set (freeAt X.H) 1, X.S.set (freeAt X.H) (X.S.getD s.toNat ⟨#[]⟩)⟩ else X
theorem free_ne {H : List Int} {k : Nat} (hk : k < H.length) (hx : H[k] ≠ 0) (hf : freeAt H < H.length) : freeAt H ≠ k := by
  rintro rfl
  exact hx (freeAt_zero hf)
theorem cpE_zero {H : List Int} {s : Int} (h : cpE H s = 0) : askE H s = 0 ∧ freeAt H < H.length := by
  unfold cpE at h
  split at h
  · refine ⟨by assumption, ?_⟩
    unfold tkE at h
    split at h
    · assumption
    · cases h
  · exact absurd h (by assumption)



end Go.Proofs.YtmbjflcmbenbdaaDoor
