/- Package swap: Hold, Free, Get, Put. -/
import Derived.Test.YtibhebfkgjklpaaSB
namespace Go.Proofs.Ytibhebfkgjklpaa
open Go.RowKit
set_option linter.unusedVariables false

theorem Swp.len_first {w : World} {p g q h : Nat} {X : Swp} (a : Ar w p g q h X) {k : Nat} (hk : k < X.H.length) : 0 ≤ X.first + k ∧ X.first + k < X.D.S.length ∧ X.first + k ≤ 16384 ∧ X.first ≤ 16384 :=
  ⟨by have := a.f0; omega, by have := a.f1; omega, by have := a.f1; have := a.dk.len; omega, by have := a.f1; have := a.dk.len; omega⟩

/-- The area, of which a slot is held n times more. -/
def Swp.addX (X : Swp) (s n : Int) : Swp := if askE X.H s = 0 then { X with H := X.H.set s.toNat (wrap64 (X.H.getD s.toNat 0 + n)) } else X
theorem Ar.row_set {w : World} {p g q h : Nat} {X : Swp} (a : Ar w p g q h X) (k : Nat) (x : Int) (n : Nat) : Ar ((w.drewN n).setCell ⟨h, k, none⟩ (.int .i64 x)) p g q h { X with H := X.H.set k x } := by
  refine ⟨⟨a.dk.ne, (a.dk.head.drewN n).far (p := ⟨h, k, none⟩) (fun e => a.hp e.symm) _, (a.dk.row.drewN n).far (p := ⟨h, k, none⟩) (fun e => a.hg e.symm) _, a.dk.all, a.dk.len⟩, ?_, ?_, a.qp, a.qg, a.hp, a.hg, a.qh, by simpa using a.len, a.f0, by simpa using a.f1⟩
  · have := (a.head.drewN n).far (p := ⟨h, k, none⟩) a.qh (.int .i64 x)
    simp only [List.length_set]
    exact this
  · have := (a.row.drewN n).set_ k (.int .i64 x)
    rw [icells_set] at this
    exact this
theorem Swp.addX_in {X : Swp} {k : Nat} (hk : k < X.H.length) (hx : X.H[k] ≠ 0) (n : Int) : X.addX k n = { X with H := X.H.set k (wrap64 (X.H[k] + n)) } := by
  unfold Swp.addX
  rw [if_pos (by rw [askE_in hk, if_neg hx])]
  simp [hk]
theorem Swp.addX_no {X : Swp} {s : Int} (h : askE X.H s ≠ 0) (n : Int) : X.addX s n = X := by unfold Swp.addX; rw [if_neg h]

theorem two_cells (w : World) (u v : Value) (t1 t2 : TypeId) : ((w.alloc (.cells #[u] t1)).alloc (.cells #[v] t2)).cell? ⟨w.heap.size, 0, none⟩ = some u ∧ ((w.alloc (.cells #[u] t1)).alloc (.cells #[v] t2)).cell? ⟨w.heap.size + 1, 0, none⟩ = some v := by
  constructor
  · rw [World.cell?_alloc_lt (h := by simp)]
    exact World.cell?_alloc_new w _ t1 0
  · have := World.cell?_alloc_new (w.alloc (.cells #[u] t1)) #[v] t2 0
    rw [World.size_alloc] at this
    exact this

theorem with_hold_any {w : World} {p g q h : Nat} {X : Swp} (a : Ar w p g q h X) (s : Int) :
    Calls Try.prog 32 #[.pointer (some ⟨q, 0, none⟩), .int .i64 s, .func (.func 35) #[] #[.pointer (some ⟨w.heap.size, 0, none⟩), .pointer (some ⟨w.heap.size + 1, 0, none⟩)]]
      ((w.alloc (.cells #[.pointer (some ⟨q, 0, none⟩)] 24)).alloc (.cells #[.int .i64 s] 3)) fun e w' => e = .returned (.int .i64 (askE X.H s)) ∧ But (· = h) w w' ∧ Ar w' p g q h (X.addX s 1) := by
  have a2 := (a.alloc (.cells #[.pointer (some ⟨q, 0, none⟩)] 24)).alloc (.cells #[.int .i64 s] 3)
  have hb := ((But.refl (· = h) w).alloc (.cells #[.pointer (some ⟨q, 0, none⟩)] 24)).alloc (.cells #[.int .i64 s] 3)
  obtain ⟨c1, c2⟩ := two_cells w (.pointer (some ⟨q, 0, none⟩)) (.int .i64 s) 24 3
  generalize (w.alloc (.cells #[.pointer (some ⟨q, 0, none⟩)] 24)).alloc (.cells #[.int .i64 s] 3) = v at *
  by_cases h0 : askE X.H s = 0
  · obtain ⟨k, rfl, hk, hx⟩ := askE_zero h0
    rw [Swp.addX_in hk hx, h0]
    exact with_hold a2 k hk hx _ _ 0 _ (Lib.hid ((clo_hold a2 k hk _ _ c1 c2).mono fun e w' ⟨he, n, hw⟩ => by
      subst hw
      exact ⟨he, (hb.drewN n).setCell (p := ⟨h, k, none⟩) (.inl rfl) _, a2.row_set k _ n⟩))
  · rw [Swp.addX_no h0]
    exact (with_no a2 s _ _ rfl h0).mono fun e w' ⟨he, hw⟩ => by subst hw; exact ⟨he, hb, a2⟩

set_option maxHeartbeats 400000 in
theorem hold_any {w : World} {p g q h : Nat} {X : Swp} (a : Ar w p g q h X) (s : Int) :
    Calls Try.prog 18 #[.pointer (some ⟨q, 0, none⟩), .int .i64 s] w fun e w' => e = .returned (.int .i64 (askE X.H s)) ∧ But (· = h) w w' ∧ Ar w' p g q h (X.addX s 1) := by
  have hmf : ∀ (fn : Fn) (first cap : Array Value) (w : World), (Instr.makeFunc fn first cap).run Try.prog w = .ok (.func fn first cap) w := fun _ _ _ _ => rfl
  have HU := Lib.hid (with_hold_any a s)
  clear a
  go_enter Try.func18, Try.ntmps18
  go_wp2_with (go_at_call 32; refine HU.out.mono ?_; rintro e w4 ⟨rfl, hb, ha⟩)
  go_ret
  exact ⟨rfl, hb, ha⟩

set_option maxHeartbeats 400000 in
theorem hold_nil (s : Int) (w : World) : Calls Try.prog 18 #[.pointer none, .int .i64 s] w fun e w' => e = .returned (.int .i64 1) ∧ Below w.heap.size w w' := by
  have hmf : ∀ (fn : Fn) (first cap : Array Value) (w : World), (Instr.makeFunc fn first cap).run Try.prog w = .ok (.func fn first cap) w := fun _ _ _ _ => rfl
  have HU := Lib.hid (fun f w => with_nil s f w)
  go_enter Try.func18, Try.ntmps18
  go_wp2_with (go_at_call 32; refine (HU.out _ _).mono ?_; rintro e w4 ⟨rfl, rfl⟩)
  go_ret
  exact ⟨rfl, ((Below.refl _ w).alloc (Nat.le_refl _) _).alloc (by simp) _⟩

theorem with_free_any {w : World} {p g q h : Nat} {X : Swp} (a : Ar w p g q h X) (s : Int) :
    Calls Try.prog 32 #[.pointer (some ⟨q, 0, none⟩), .int .i64 s, .func (.func 36) #[] #[.pointer (some ⟨w.heap.size, 0, none⟩), .pointer (some ⟨w.heap.size + 1, 0, none⟩)]]
      ((w.alloc (.cells #[.pointer (some ⟨q, 0, none⟩)] 24)).alloc (.cells #[.int .i64 s] 3)) fun e w' => e = .returned (.int .i64 (askE X.H s)) ∧ But (· = h) w w' ∧ Ar w' p g q h (X.addX s (-1)) := by
  have a2 := (a.alloc (.cells #[.pointer (some ⟨q, 0, none⟩)] 24)).alloc (.cells #[.int .i64 s] 3)
  have hb := ((But.refl (· = h) w).alloc (.cells #[.pointer (some ⟨q, 0, none⟩)] 24)).alloc (.cells #[.int .i64 s] 3)
  obtain ⟨c1, c2⟩ := two_cells w (.pointer (some ⟨q, 0, none⟩)) (.int .i64 s) 24 3
  generalize (w.alloc (.cells #[.pointer (some ⟨q, 0, none⟩)] 24)).alloc (.cells #[.int .i64 s] 3) = v at *
  by_cases h0 : askE X.H s = 0
  · obtain ⟨k, rfl, hk, hx⟩ := askE_zero h0
    rw [Swp.addX_in hk hx, h0]
    exact with_free a2 k hk hx _ _ 0 _ (Lib.hid ((clo_free a2 k hk _ _ c1 c2).mono fun e w' ⟨he, n, hw⟩ => by
      subst hw
      exact ⟨he, (hb.drewN n).setCell (p := ⟨h, k, none⟩) (.inl rfl) _, a2.row_set k _ n⟩))
  · rw [Swp.addX_no h0]
    exact (with_no a2 s _ _ rfl h0).mono fun e w' ⟨he, hw⟩ => by subst hw; exact ⟨he, hb, a2⟩

set_option maxHeartbeats 400000 in
theorem free_any {w : World} {p g q h : Nat} {X : Swp} (a : Ar w p g q h X) (s : Int) :
    Calls Try.prog 20 #[.pointer (some ⟨q, 0, none⟩), .int .i64 s] w fun e w' => e = .returned (.int .i64 (askE X.H s)) ∧ But (· = h) w w' ∧ Ar w' p g q h (X.addX s (-1)) := by
  have hmf : ∀ (fn : Fn) (first cap : Array Value) (w : World), (Instr.makeFunc fn first cap).run Try.prog w = .ok (.func fn first cap) w := fun _ _ _ _ => rfl
  have HU := Lib.hid (with_free_any a s)
  clear a
  go_enter Try.func20, Try.ntmps20
  go_wp2_with (go_at_call 32; refine HU.out.mono ?_; rintro e w4 ⟨rfl, hb, ha⟩)
  go_ret
  exact ⟨rfl, hb, ha⟩

set_option maxHeartbeats 400000 in
theorem free_zero (q c : Nat) (w : World) (hc : w.cell? ⟨q, 2, none⟩ = some (.slice none 0 c)) (hq : q < w.heap.size) (s : Int) : Calls Try.prog 20 #[.pointer (some ⟨q, 0, none⟩), .int .i64 s] w fun e w' => e = .returned (.int .i64 14) ∧ Below w.heap.size w w' := by
  have hmf : ∀ (fn : Fn) (first cap : Array Value) (w : World), (Instr.makeFunc fn first cap).run Try.prog w = .ok (.func fn first cap) w := fun _ _ _ _ => rfl
  have hb : ∀ o1 o2 : Obj, ((w.alloc o1).alloc o2).cell? ⟨q, 2, none⟩ = some (.slice none 0 c) := fun o1 o2 => by
    rw [World.cell?_alloc_lt (h := by simp <;> omega), World.cell?_alloc_lt (h := by simpa using hq)]
    exact hc
  have HU := Lib.hid (fun o1 o2 f => with_far q none 0 c _ (hb o1 o2) s (by omega) f)
  clear hb hc
  go_enter Try.func20, Try.ntmps20
  go_wp2_with (go_at_call 32; refine (HU.out _ _ _).mono ?_; rintro e w4 ⟨rfl, rfl⟩)
  go_ret
  exact ⟨rfl, ((Below.refl _ w).alloc (Nat.le_refl _) _).alloc (by simp) _⟩

/-- What Get tells, and what the area is then. -/
def Swp.gtS (X : Swp) (s : Int) : ByteArray := if askE X.H s = 0 then X.D.rdS (X.first + s) else ⟨#[]⟩
def Swp.gtE (X : Swp) (s : Int) : Int := if askE X.H s = 0 then X.D.rdE (X.first + s) else askE X.H s
def Swp.gtX (X : Swp) (s : Int) : Swp := if askE X.H s = 0 then { X with D := X.D.rdD (X.first + s) } else X

set_option maxHeartbeats 800000 in
theorem clo_get {w : World} {p g q h : Nat} {X : Swp} (a : Ar w p g q h X) (k : Nat) (hk : k < X.H.length) (b c d : Nat) (hb : Blk w b 24 #[.pointer (some ⟨q, 0, none⟩)]) (hc : Blk w c 3 #[.int .i64 k])
    (u : Value) (hd : Blk w d 9 #[u]) (b1 : b ≠ p) (b2 : b ≠ d) (c1 : c ≠ p) (c2 : c ≠ d) (d1 : d ≠ p) (d2 : d ≠ g) (d3 : d ≠ q) (d4 : d ≠ h) :
    Calls Try.prog 33 #[.pointer (some ⟨b, 0, none⟩), .pointer (some ⟨c, 0, none⟩), .pointer (some ⟨d, 0, none⟩)] w fun e w' =>
      e = .returned (.int .i64 (X.D.rdE (X.first + k))) ∧ But (fun j => j = p ∨ j = d) w w' ∧ w'.cell? ⟨d, 0, none⟩ = some (.string (X.D.rdS (X.first + k))) ∧ Ar w' p g q h { X with D := X.D.rdD (X.first + k) } := by
  obtain ⟨m1, m2, m3, m4⟩ := Swp.len_first a hk
  have m0 := a.f0
  have hp := a.hp
  have qp := a.qp
  have hwr : IntKind.i64.wrap (X.first + (k : Int)) = X.first + k := IntWalk.i64_in _ (by omega)
  have HR := Lib.hid (read_any a.dk.drew (X.first + k))
  have HA := Lib.hid a.drew
  have HB := Lib.hid ((But.refl (fun j => j = p ∨ j = d) w).drew)
  have KB := Lib.hid hb.drew
  have KC := Lib.hid hc.drew
  have KD := Lib.hid hd.drew
  have KQ := Lib.hid a.drew.head
  have a0 := hb.drew.at_ 0 _ rfl
  have a1 := a.drew.head.at_ 0 _ rfl
  have a2 := a.drew.head.at_ 1 _ rfl
  have a3 := hc.drew.at_ 0 _ rfl
  have HS := Lib.hid (rdD_S X.D (X.first + k))
  clear a hb hc hd m1 m2
  generalize X.D.rdE (X.first + k) = E at *
  generalize X.D.rdS (X.first + k) = F at *
  go_enter Try.func33, Try.ntmps33
  go_wp2
  go_region_held3 (fun w' => w'.cell? ⟨b, 0, none⟩ = some (.pointer (some ⟨q, 0, none⟩)) ∧ w'.cell? ⟨q, 0, none⟩ = some (.pointer (some ⟨p, 0, none⟩)) ∧ w'.cell? ⟨q, 1, none⟩ = some (.int .i64 X.first) ∧ w'.cell? ⟨c, 0, none⟩ = some (.int .i64 k))
    (first | exact ⟨a0, a1, a2, a3⟩ | exact ⟨(KB.out.far (p := ⟨d, 0, none⟩) b2 _).at_ 0 _ rfl, (KQ.out.far (p := ⟨d, 0, none⟩) (fun e => d3 e.symm) _).at_ 0 _ rfl, (KQ.out.far (p := ⟨d, 0, none⟩) (fun e => d3 e.symm) _).at_ 1 _ rfl, (KC.out.far (p := ⟨d, 0, none⟩) c2 _).at_ 0 _ rfl⟩)
    (first
    | (go_at_call 27; refine HR.out.mono ?_; rintro e v ⟨rfl, hb3, hd3⟩; have kb3 := Lib.hid (KB.out.but hb3 b1); have kc3 := Lib.hid (KC.out.but hb3 c1); have kd3 := Lib.hid (KD.out.but hb3 d1); have kq3 := Lib.hid (KQ.out.but hb3 qp); clear a0 a1 a2 a3 KB KC KD KQ; have KB := kb3; have KC := kc3; have KD := kd3; have KQ := kq3; clear kb3 kc3 kd3 kq3; have a0 := KB.out.at_ 0 _ rfl; have a1 := KQ.out.at_ 0 _ rfl; have a2 := KQ.out.at_ 1 _ rfl; have a3 := KC.out.at_ 0 _ rfl; have f3 := KD.out.frozen 0; have c3 := KD.out.at_ 0 _ rfl; have HB3 := Lib.hid hb3; have HD3 := Lib.hid hd3; clear hb3 hd3))
  go_wp2
  go_ret
  refine ⟨rfl, (HB.out.trans (HB3.out.mono fun j e => .inl e)).setCell (p := ⟨d, 0, none⟩) (.inl (.inr rfl)) _, ?_, ⟨HD3.out.ne, HD3.out.head.far (p := ⟨d, 0, none⟩) (fun e => d1 e.symm) _, HD3.out.row.far (p := ⟨d, 0, none⟩) (fun e => d2 e.symm) _, HD3.out.all, HD3.out.len⟩, (HA.out.head.but HB3.out qp).far (p := ⟨d, 0, none⟩) (fun e => d3 e.symm) _, (HA.out.row.but HB3.out hp).far (p := ⟨d, 0, none⟩) (fun e => d4 e.symm) _, qp, HA.out.qg, hp, HA.out.hg, HA.out.qh, HA.out.len, HA.out.f0, by rw [HS.out]; exact HA.out.f1⟩
  exact (KD.out.set_ 0 (.string F)).at_ 0 _ (by simp)

theorem But.thru {S T : Nat → Prop} {a w w' : World} (h : But S a w) (k : But T w w') (ht : ∀ j, T j → S j ∨ a.heap.size ≤ j) : But S a w' :=
  ⟨k.os.trans h.os, k.tape.trans h.tape, k.output.trans h.output, Nat.le_trans h.size k.size, fun i hi hn => (k.block i (Nat.lt_of_lt_of_le hi h.size) (fun e => by
    rcases ht i e with h1 | h1
    · exact hn h1
    · omega)).trans (h.block i hi hn)⟩

theorem with_get_any {w : World} {p g q h : Nat} {X : Swp} (a : Ar w p g q h X) (s : Int) :
    Calls Try.prog 32 #[.pointer (some ⟨q, 0, none⟩), .int .i64 s, .func (.func 33) #[] #[.pointer (some ⟨w.heap.size, 0, none⟩), .pointer (some ⟨w.heap.size + 1, 0, none⟩), .pointer (some ⟨w.heap.size + 1 + 1, 0, none⟩)]]
      (((w.alloc (.cells #[.pointer (some ⟨q, 0, none⟩)] 24)).alloc (.cells #[.int .i64 s] 3)).alloc (.cells #[.string ⟨#[]⟩] 9)) fun e w' =>
        e = .returned (.int .i64 (X.gtE s)) ∧ But (· = p) w w' ∧ w'.cell? ⟨w.heap.size + 1 + 1, 0, none⟩ = some (.string (X.gtS s)) ∧ Ar w' p g q h (X.gtX s) := by
  have a2 := ((a.alloc (.cells #[.pointer (some ⟨q, 0, none⟩)] 24)).alloc (.cells #[.int .i64 s] 3)).alloc (.cells #[.string ⟨#[]⟩] 9)
  have hb := (((But.refl (· = p) w).alloc (.cells #[.pointer (some ⟨q, 0, none⟩)] 24)).alloc (.cells #[.int .i64 s] 3)).alloc (.cells #[.string ⟨#[]⟩] 9)
  have k1 := ((Blk.new w 24 #[.pointer (some ⟨q, 0, none⟩)]).alloc (.cells #[.int .i64 s] 3)).alloc (.cells #[.string ⟨#[]⟩] 9)
  have k2 := (Blk.new (w.alloc (.cells #[.pointer (some ⟨q, 0, none⟩)] 24)) 3 #[.int .i64 s]).alloc (.cells #[.string ⟨#[]⟩] 9)
  have k3 := Blk.new ((w.alloc (.cells #[.pointer (some ⟨q, 0, none⟩)] 24)).alloc (.cells #[.int .i64 s] 3)) 9 #[.string ⟨#[]⟩]
  simp only [World.size_alloc] at k2 k3
  generalize ((w.alloc (.cells #[.pointer (some ⟨q, 0, none⟩)] 24)).alloc (.cells #[.int .i64 s] 3)).alloc (.cells #[.string ⟨#[]⟩] 9) = v at *
  have l1 := a.dk.head.lt
  have l2 := a.dk.row.lt
  have l3 := a.head.lt
  have l4 := a.row.lt
  by_cases h0 : askE X.H s = 0
  · obtain ⟨k, rfl, hk, hx⟩ := askE_zero h0
    have e1 : X.gtE k = X.D.rdE (X.first + k) := by unfold Swp.gtE; rw [if_pos h0]
    have e2 : X.gtS k = X.D.rdS (X.first + k) := by unfold Swp.gtS; rw [if_pos h0]
    have e3 : X.gtX k = { X with D := X.D.rdD (X.first + k) } := by unfold Swp.gtX; rw [if_pos h0]
    rw [e1, e2, e3]
    exact with_get a2 k hk hx _ _ _ _ _ (Lib.hid ((clo_get a2 k hk w.heap.size (w.heap.size + 1) (w.heap.size + 1 + 1) k1 k2 _ k3 (by omega) (by omega) (by omega) (by omega) (by omega) (by omega) (by omega) (by omega)).mono fun e w' ⟨he, hb2, hc, ha⟩ =>
      ⟨he, hb.thru hb2 (fun j e => by omega), hc, ha⟩))
  · have e1 : X.gtE s = askE X.H s := by unfold Swp.gtE; rw [if_neg h0]
    have e2 : X.gtS s = ⟨#[]⟩ := by unfold Swp.gtS; rw [if_neg h0]
    have e3 : X.gtX s = X := by unfold Swp.gtX; rw [if_neg h0]
    rw [e1, e2, e3]
    exact (with_no a2 s _ _ rfl h0).mono fun e w' ⟨he, hw⟩ => by subst hw; exact ⟨he, hb, k3.at_ 0 _ rfl, a2⟩

set_option maxHeartbeats 400000 in
theorem get_any {w : World} {p g q h : Nat} {X : Swp} (a : Ar w p g q h X) (s : Int) :
    Calls Try.prog 16 #[.pointer (some ⟨q, 0, none⟩), .int .i64 s] w fun e w' => e = .returned (.tuple #[.string (X.gtS s), .int .i64 (X.gtE s)]) ∧ But (· = p) w w' ∧ Ar w' p g q h (X.gtX s) := by
  have hmf : ∀ (fn : Fn) (first cap : Array Value) (w : World), (Instr.makeFunc fn first cap).run Try.prog w = .ok (.func fn first cap) w := fun _ _ _ _ => rfl
  have HU := Lib.hid (with_get_any a s)
  clear a
  go_enter Try.func16, Try.ntmps16
  go_wp2_with (go_at_call 32; refine HU.out.mono ?_; rintro e w4 ⟨rfl, hb, hc, ha⟩)
  go_ret2
  exact ⟨rfl, hb, ha⟩

set_option maxHeartbeats 400000 in
theorem get_nil (s : Int) (w : World) : Calls Try.prog 16 #[.pointer none, .int .i64 s] w fun e w' => e = .returned (.tuple #[.string ⟨#[]⟩, .int .i64 1]) ∧ Below w.heap.size w w' := by
  have hmf : ∀ (fn : Fn) (first cap : Array Value) (w : World), (Instr.makeFunc fn first cap).run Try.prog w = .ok (.func fn first cap) w := fun _ _ _ _ => rfl
  have HU := Lib.hid (fun f w => with_nil s f w)
  go_enter Try.func16, Try.ntmps16
  go_wp2_with (go_at_call 32; refine (HU.out _ _).mono ?_; rintro e w4 ⟨rfl, rfl⟩)
  go_ret2
  exact ⟨rfl, (((Below.refl _ w).alloc (Nat.le_refl _) _).alloc (by simp) _).alloc (by simp; omega) _⟩

set_option maxHeartbeats 400000 in
theorem get_zero (q c : Nat) (w : World) (hc : w.cell? ⟨q, 2, none⟩ = some (.slice none 0 c)) (hq : q < w.heap.size) (s : Int) : Calls Try.prog 16 #[.pointer (some ⟨q, 0, none⟩), .int .i64 s] w fun e w' => e = .returned (.tuple #[.string ⟨#[]⟩, .int .i64 14]) ∧ Below w.heap.size w w' := by
  have hmf : ∀ (fn : Fn) (first cap : Array Value) (w : World), (Instr.makeFunc fn first cap).run Try.prog w = .ok (.func fn first cap) w := fun _ _ _ _ => rfl
  have hb : ∀ o1 o2 o3 : Obj, (((w.alloc o1).alloc o2).alloc o3).cell? ⟨q, 2, none⟩ = some (.slice none 0 c) := fun o1 o2 o3 => by
    rw [World.cell?_alloc_lt (h := by simp <;> omega), World.cell?_alloc_lt (h := by simp <;> omega), World.cell?_alloc_lt (h := by simpa using hq)]
    exact hc
  have HU := Lib.hid (fun o1 o2 o3 f => with_far q none 0 c _ (hb o1 o2 o3) s (by omega) f)
  clear hb hc
  go_enter Try.func16, Try.ntmps16
  go_wp2_with (go_at_call 32; refine (HU.out _ _ _ _).mono ?_; rintro e w4 ⟨rfl, rfl⟩)
  go_ret2
  exact ⟨rfl, (((Below.refl _ w).alloc (Nat.le_refl _) _).alloc (by simp) _).alloc (by simp; omega) _⟩

/-- What Put tells, and what the area is then. -/
def Swp.ptK (X : Swp) (s : ByteArray) : Prop := s.size = 64 ∧ freeAt X.H < X.H.length ∧ X.D.wrE (X.first + freeAt X.H) s = 0
def Swp.ptE (X : Swp) (s : ByteArray) : Int := if s.size = 64 then (if freeAt X.H < X.H.length then X.D.wrE (X.first + freeAt X.H) s else 15) else 1
def Swp.ptV (X : Swp) (s : ByteArray) : Int := if X.ptE s = 0 then freeAt X.H else 0
def Swp.ptX (X : Swp) (s : ByteArray) : Swp := if X.ptE s = 0 then { X with D := X.D.wrD (X.first + freeAt X.H) s, H := X.H.set (freeAt X.H) 1 } else X

set_option maxHeartbeats 400000 in
theorem put_nil (s : ByteArray) (w : World) : Calls Try.prog 14 #[.pointer none, .string s] w fun e w' => e = .returned (.tuple #[.int .i64 0, .int .i64 1]) ∧ w = w' := by
  go_enter Try.func14, Try.ntmps14
  go_wp2
  go_ret2
  exact ⟨rfl, rfl⟩

set_option maxHeartbeats 400000 in
theorem put_zero (q c : Nat) (w : World) (hc : w.cell? ⟨q, 2, none⟩ = some (.slice none 0 c)) (s : ByteArray) (hs : s.size = 64) : Calls Try.prog 14 #[.pointer (some ⟨q, 0, none⟩), .string s] w fun e w' => e = .returned (.tuple #[.int .i64 0, .int .i64 15]) ∧ w = w' := by
  have HF := Lib.hid (sfree_zero q c w hc)
  have h2 : ((s.size : Int) != 64) = false := by simp [hs]
  clear hc hs
  go_enter Try.func14, Try.ntmps14
  go_wp2_with (go_at_call 30; refine HF.out.mono ?_; rintro e w4 ⟨rfl, rfl⟩)
  go_ret2
  exact ⟨rfl, rfl⟩

theorem Ar.dk_set {w w' : World} {p g q h : Nat} {X : Swp} (a : Ar w p g q h X) (hb : But (fun j => j = p ∨ j = g) w w') {D : Dsk} (hd : Dk w' p g D) (hS : D.S.length = X.D.S.length) : Ar w' p g q h { X with D := D } :=
  ⟨hd, a.head.but hb (by rintro (e | e); exact a.qp e; exact a.qg e), a.row.but hb (by rintro (e | e); exact a.hp e; exact a.hg e), a.qp, a.qg, a.hp, a.hg, a.qh, a.len, a.f0, by rw [hS]; exact a.f1⟩

set_option maxHeartbeats 800000 in
theorem put_any {w : World} {p g q h : Nat} {X : Swp} (a : Ar w p g q h X) (s : ByteArray) (hs : s.size ≤ 281474976710656) :
    Calls Try.prog 14 #[.pointer (some ⟨q, 0, none⟩), .string s] w fun e w' => e = .returned (.tuple #[.int .i64 (X.ptV s), .int .i64 (X.ptE s)]) ∧ But (fun j => j = p ∨ j = g ∨ j = h) w w' ∧ Ar w' p g q h (X.ptX s) := by
  by_cases h64 : s.size = 64
  · have h2 : ((s.size : Int) != 64) = false := by simp [h64]
    have hf := sfree_any a
    by_cases hlt : freeAt X.H < X.H.length
    · rw [if_pos hlt, show decide (freeAt X.H < X.H.length) = true by simpa using hlt] at hf
      obtain ⟨k, hk⟩ : ∃ k, k = freeAt X.H := ⟨_, rfl⟩
      have hE : X.ptE s = X.D.wrE (X.first + k) s := by unfold Swp.ptE; rw [if_pos h64, if_pos hlt, hk]
      rw [← hk] at hf hlt
      obtain ⟨m1, m2, m3, m4⟩ := Swp.len_first a hlt
      have m0 := a.f0
      have hwr : IntKind.i64.wrap (X.first + (k : Int)) = X.first + k := IntWalk.i64_in _ (by omega)
      have HW := Lib.hid (write_any a.dk.drew (X.first + k) s hs)
      have HF := Lib.hid hf
      have HA := Lib.hid a.drew
      have HB := Lib.hid ((But.refl (fun j => j = p ∨ j = g ∨ j = h) w).drew)
      have a1 := a.head.at_ 0 _ rfl
      have a2 := a.head.at_ 1 _ rfl
      have hL := Lib.hid (wrD_len X.D (X.first + k) s)
      by_cases hz : X.D.wrE (X.first + k) s = 0
      · have e1 : X.ptE s = 0 := by rw [hE, hz]
        have e2 : X.ptV s = k := by unfold Swp.ptV; rw [if_pos e1, hk]
        have e3 : X.ptX s = { X with D := X.D.wrD (X.first + k) s, H := X.H.set k 1 } := by unfold Swp.ptX; rw [if_pos e1, hk]
        rw [hz] at HW
        rw [e1, e2, e3]
        clear e1 e2 e3 hE hz h64 m1 m2 a hf hk
        go_enter Try.func14, Try.ntmps14
        go_wp2_with (go_at_call 30; refine HF.out.mono ?_; rintro e w4 ⟨rfl, rfl⟩)
        go_still_tail 11, (by kernel_rfl)
        change wpList _ _ _ _ _ w.drew
        generalize w.drew = w2 at *
        go_wp2_with (go_at_call 31; refine HW.out.mono ?_; rintro e v ⟨rfl, hb3, hd3⟩; have a5 := HA.out.dk_set hb3 hd3 hL.out; have c5 := a5.head.at_ 2 _ rfl; have c6 := a5.row.at_ k _ (icells_at hlt); have f6 := a5.row.frozen k; have HA5 := Lib.hid a5; have HB5 := Lib.hid (HB.out.trans (hb3.mono fun j e => by rcases e with e | e; exact .inl e; exact .inr (.inl e))); clear hb3 hd3 a5)
        go_ret2
        exact ⟨rfl, HB5.out.setCell (p := ⟨h, k, none⟩) (.inl (.inr (.inr rfl))) _, by simpa [World.drewN_zero] using HA5.out.row_set k 1 0⟩
      · have e2 : X.ptV s = 0 := by unfold Swp.ptV; rw [if_neg (by rw [hE]; exact hz)]
        have e3 : X.ptX s = X := by unfold Swp.ptX; rw [if_neg (by rw [hE]; exact hz)]
        have e4 : X.D.wrD (X.first + k) s = X.D := by unfold Dsk.wrD; rw [if_neg hz]
        have hne : (X.D.wrE (X.first + k) s != 0) = true := by simpa using hz
        rw [e4] at HW
        rw [hE, e2, e3]
        generalize X.D.wrE (X.first + k) s = r at *
        clear e2 e3 e4 hE hz h64 m1 m2 a hf hk
        go_enter Try.func14, Try.ntmps14
        go_wp2_with (go_at_call 30; refine HF.out.mono ?_; rintro e w4 ⟨rfl, rfl⟩)
        go_still_tail 11, (by kernel_rfl)
        change wpList _ _ _ _ _ w.drew
        generalize w.drew = w2 at *
        go_wp2_with (go_at_call 31; refine HW.out.mono ?_; rintro e v ⟨rfl, hb3, hd3⟩; have a5 := HA.out.dk_set hb3 hd3 rfl; have HA5 := Lib.hid a5; have HB5 := Lib.hid (HB.out.trans (hb3.mono fun j e => by rcases e with e | e; exact .inl e; exact .inr (.inl e))); clear hb3 hd3 a5)
        go_ret2
        exact ⟨rfl, HB5.out, HA5.out⟩
    · have e1 : X.ptE s = 15 := by unfold Swp.ptE; rw [if_pos h64, if_neg hlt]
      have e2 : X.ptV s = 0 := by unfold Swp.ptV; rw [if_neg (by rw [e1]; decide)]
      have e3 : X.ptX s = X := by unfold Swp.ptX; rw [if_neg (by rw [e1]; decide)]
      rw [if_neg hlt, show decide (freeAt X.H < X.H.length) = false by simpa using hlt] at hf
      rw [e1, e2, e3]
      have HF := Lib.hid hf
      have HA := Lib.hid a
      clear hf a e1 e2 e3 hlt h64
      go_enter Try.func14, Try.ntmps14
      go_wp2_with (go_at_call 30; refine HF.out.mono ?_; rintro e w4 ⟨rfl, rfl⟩)
      go_ret2
      exact ⟨rfl, But.refl _ _, HA.out⟩
  · have h2 : ((s.size : Int) != 64) = true := by simp; omega
    have e1 : X.ptE s = 1 := by unfold Swp.ptE; rw [if_neg h64]
    have e2 : X.ptV s = 0 := by unfold Swp.ptV; rw [if_neg (by rw [e1]; decide)]
    have e3 : X.ptX s = X := by unfold Swp.ptX; rw [if_neg (by rw [e1]; decide)]
    rw [e1, e2, e3]
    have HA := Lib.hid a
    clear e1 e2 e3 h64 a
    go_enter Try.func14, Try.ntmps14
    go_wp2
    go_ret2
    exact ⟨rfl, But.refl _ _, HA.out⟩
end Go.Proofs.Ytibhebfkgjklpaa
