/- Layer 5: what the laws share: page, awake; an area that may be written. -/
import Derived.Test.YtibhebfkgjklpaaSC
import Derived.Test.YtibhebfkgjklpaaOctE
namespace Go.Proofs.Ytibhebfkgjklpaa
open Go.RowKit
set_option linter.unusedVariables false

/-- A page by a number. -/
def pageS (n : Int) : ByteArray := fillS (mkb (putL (IntKind.u64.wrap n).toNat 8)) 64
theorem pageS_size (n : Int) : (pageS n).size = 64 := by
  unfold pageS fillS
  rw [if_neg (by decide), mkb_size, fillL_length]
  rfl
theorem u64_wrap_wf (n : Int) : (Lit.int .u64 (IntKind.u64.wrap n)).wf = true := WalkArith.wf_u64 (by rw [IntKind.wrap_u64]; omega)

set_option maxHeartbeats 400000 in
theorem page_any (n : Int) (w : World) : Calls Try.prog 13 #[.int .i64 n] w fun e w' => e = .returned (.string (pageS n)) ∧ Below w.heap.size w w' := by
  have hp := fun w => rput_any (IntKind.u64.wrap n) 8 w (u64_wrap_wf n) (by decide)
  rw [show wide 8 = 8 from rfl] at hp
  have hf := fun w => rfill_any (mkb (putL (IntKind.u64.wrap n).toNat 8)) 64 w (by decide) (by rw [mkb_size, putL_length]; omega) (by omega)
  rw [show fillS (mkb (putL (IntKind.u64.wrap n).toNat 8)) 64 = pageS n from rfl] at hf
  generalize pageS n = F at *
  generalize mkb (putL (IntKind.u64.wrap n).toNat 8) = P at *
  have HP := Lib.hid hp
  have HF := Lib.hid hf
  clear hp hf
  go_enter Try.func13, Try.ntmps13
  go_wp2_with (first
    | (go_at_call 29; refine (HP.out _).mono ?_; rintro e v1 ⟨rfl, hb1⟩)
    | (go_at_call 28; refine (HF.out _).mono ?_; rintro e v2 ⟨rfl, hb2⟩))
  go_ret
  exact ⟨rfl, hb1.trans (hb2.mono hb1.size)⟩

/-- An area that may be written: nothing of its sectors is sealed. -/
structure Fit (X : Swp) : Prop where
  f0 : 0 ≤ X.first
  f1 : X.first + X.H.length ≤ X.D.S.length
  low : X.D.low ≤ X.first
theorem Fit.has {X : Swp} (f : Fit X) {k : Nat} (hk : k < X.H.length) : X.D.has (X.first + k) = true := has_of (by have := f.f0; omega) (by have := f.f1; omega)
theorem Fit.wrE {X : Swp} (f : Fit X) {k : Nat} (hk : k < X.H.length) {s : ByteArray} (hs : s.size = 64) : X.D.wrE (X.first + k) s = 0 := by
  rw [wrE_in (f.has hk) hs, if_neg (by have := f.low; omega)]
def rptE (H : List Int) (s : ByteArray) : Int := if s.size = 64 then (if freeAt H < H.length then 0 else 15) else 1
theorem Fit.ptE {X : Swp} (f : Fit X) (s : ByteArray) : X.ptE s = rptE X.H s := by
  unfold Swp.ptE rptE
  split
  · split
    · rw [f.wrE (by assumption) (by assumption)]
    · rfl
  · rfl
theorem rptE_zero {H : List Int} {s : ByteArray} (h : rptE H s = 0) : s.size = 64 ∧ freeAt H < H.length := by
  unfold rptE at h
  split at h
  · split at h
    · exact ⟨by assumption, by assumption⟩
    · cases h
  · cases h
theorem rptE_free {H : List Int} {s : ByteArray} (hs : s.size = 64) (hf : freeAt H < H.length) : rptE H s = 0 := by unfold rptE; rw [if_pos hs, if_pos hf]
/-- The area behind a Put that is OK. -/
structure Putted (X : Swp) (s : ByteArray) (Y : Swp) : Prop where
  fit : Fit Y
  first : Y.first = X.first
  H : Y.H = X.H.set (freeAt X.H) 1
  S : Y.D.S = X.D.S.set (X.first + freeAt X.H).toNat s
theorem Fit.put {X : Swp} (f : Fit X) {s : ByteArray} (hs : s.size = 64) (hf : freeAt X.H < X.H.length) : X.ptE s = 0 ∧ X.ptV s = freeAt X.H ∧ Putted X s (X.ptX s) := by
  have h0 : X.ptE s = 0 := by rw [f.ptE, rptE_free hs hf]
  have e : X.ptX s = { X with D := X.D.wrD (X.first + freeAt X.H) s, H := X.H.set (freeAt X.H) 1 } := by unfold Swp.ptX; rw [if_pos h0]
  refine ⟨h0, by unfold Swp.ptV; rw [if_pos h0], ?_⟩
  rw [e]
  refine ⟨⟨f.f0, by simpa [wrD_len] using f.f1, by simpa [wrD_low] using f.low⟩, rfl, rfl, ?_⟩
  show (X.D.wrD _ _).S = _
  unfold Dsk.wrD
  rw [if_pos (f.wrE hf hs)]
theorem Fit.rd {X : Swp} (f : Fit X) {k : Nat} (hk : k < X.H.length) : X.D.rdE (X.first + k) = 0 := by unfold Dsk.rdE; rw [if_pos (f.has hk)]
theorem Fit.gtE {X : Swp} (f : Fit X) (s : Int) : X.gtE s = askE X.H s := by
  unfold Swp.gtE
  split
  · rename_i h
    obtain ⟨k, rfl, hk, _⟩ := askE_zero h
    rw [f.rd hk, h]
  · rfl
theorem Fit.gt {X : Swp} (f : Fit X) (s : Int) : Fit (X.gtX s) ∧ (X.gtX s).first = X.first ∧ (X.gtX s).H = X.H ∧ (X.gtX s).D.S = X.D.S := by
  unfold Swp.gtX
  split
  · exact ⟨⟨f.f0, by simpa [rdD_S] using f.f1, by simpa [rdD_low] using f.low⟩, rfl, rfl, rdD_S _ _⟩
  · exact ⟨f, rfl, rfl, rfl⟩
theorem Fit.add {X : Swp} (f : Fit X) (s n : Int) : Fit (X.addX s n) ∧ (X.addX s n).first = X.first ∧ (X.addX s n).D = X.D := by
  unfold Swp.addX
  split
  · exact ⟨⟨f.f0, by simpa using f.f1, f.low⟩, rfl, rfl⟩
  · exact ⟨f, rfl, rfl⟩
def addH (H : List Int) (s n : Int) : List Int := if askE H s = 0 then H.set s.toNat (wrap64 (H.getD s.toNat 0 + n)) else H
theorem addX_H (X : Swp) (s n : Int) : (X.addX s n).H = addH X.H s n := by unfold Swp.addX addH; split <;> rfl
theorem addH_len (H : List Int) (s n : Int) : (addH H s n).length = H.length := by unfold addH; split <;> simp
theorem newX_fit {n first k : Nat} (h : first + k ≤ n) : Fit (newX (newD n) first k) := ⟨by simp [newX], by simp [newX, newD]; omega, by simp [newX, newD]⟩

/-- What a call to an area leaves: nothing of w but the area has turned. -/
structure Sw (w cur : World) (p g q h : Nat) (X : Swp) : Prop where
  wp : w.heap.size ≤ p
  wg : w.heap.size ≤ g
  wq : w.heap.size ≤ q
  wh : w.heap.size ≤ h
  bel : Below w.heap.size w cur
  ar : Ar cur p g q h X
section
variable {w cur nxt : World} {p g q h : Nat} {X Y : Swp}
theorem Sw.on (s : Sw w cur p g q h X) (hb : Below cur.heap.size cur nxt) : Sw w nxt p g q h X := ⟨s.wp, s.wg, s.wq, s.wh, s.bel.trans (hb.mono s.bel.size), s.ar.on hb⟩
theorem Sw.but (s : Sw w cur p g q h X) (hb : But (fun j => j = p ∨ j = g ∨ j = h) cur nxt) (ha : Ar nxt p g q h Y) : Sw w nxt p g q h Y :=
  ⟨s.wp, s.wg, s.wq, s.wh, s.bel.trans (hb.below s.bel.size (fun j e => by have := s.wp; have := s.wg; have := s.wh; omega)), ha⟩
theorem Sw.but1 (s : Sw w cur p g q h X) (hb : But (· = p) cur nxt) (ha : Ar nxt p g q h Y) : Sw w nxt p g q h Y := s.but (hb.mono fun _ e => .inl e) ha
theorem Sw.buth (s : Sw w cur p g q h X) (hb : But (· = h) cur nxt) (ha : Ar nxt p g q h Y) : Sw w nxt p g q h Y := s.but (hb.mono fun _ e => .inr (.inr e)) ha
theorem Sw.drew (s : Sw w cur p g q h X) : Sw w cur.drew p g q h X := ⟨s.wp, s.wg, s.wq, s.wh, s.bel.drew, s.ar.drew⟩
theorem Sw.drewN (s : Sw w cur p g q h X) (n : Nat) : Sw w (cur.drewN n) p g q h X := ⟨s.wp, s.wg, s.wq, s.wh, Below.drewN s.bel n, s.ar.drewN n⟩
theorem Sw.alloc (s : Sw w cur p g q h X) (o : Obj) : Sw w (cur.alloc o) p g q h X := s.on ((Below.refl _ _).alloc (Nat.le_refl _) o)
end

/-- swap.New(block.New(n), first, k), step by step. -/
def MadeS (w : World) (p g : Nat) (X : Swp) (e : Ending) (w' : World) : Prop :=
  ∃ q h, e = .returned (.tuple #[.pointer (some ⟨q, 0, none⟩), .int .i64 0]) ∧ w.heap.size ≤ q ∧ w.heap.size ≤ h ∧ Below w.heap.size w w' ∧ Ar w' p g q h X
theorem snew_made {w : World} {p g : Nat} {D : Dsk} (d : Dk w p g D) (f : Int) (n : Nat) (h : mayNew D f n) : Calls Try.prog 10 #[.pointer (some ⟨p, 0, none⟩), .int .i64 f, .int .i64 n] w (MadeS w p g (newX D f n)) :=
  snew_yes d f n h

/-- Put to an area whose slots are held as H says, of which k is the least free one. -/
def PutTo (w : World) (p g q h : Nat) (first : Int) (S : List ByteArray) (H : List Int) (k : Nat) (s : ByteArray) (e : Ending) (w' : World) : Prop :=
  ∃ Y : Swp, e = .returned (.tuple #[.int .i64 k, .int .i64 0]) ∧ But (fun j => j = p ∨ j = g ∨ j = h) w w' ∧ Ar w' p g q h Y ∧ Fit Y ∧ Y.first = first ∧ Y.H = H.set k 1 ∧ Y.D.S = S.set (first + k).toNat s
theorem put_to {w : World} {p g q h : Nat} {X : Swp} (a : Ar w p g q h X) (f : Fit X) {first : Int} {S : List ByteArray} {H : List Int} {k : Nat} {s : ByteArray} (e1 : X.first = first) (e2 : X.D.S = S) (e3 : X.H = H) (hk : freeAt H = k) (hlt : k < H.length) (hs : s.size = 64) :
    Calls Try.prog 14 #[.pointer (some ⟨q, 0, none⟩), .string s] w (PutTo w p g q h first S H k s) := by
  subst e1 e2 e3 hk
  obtain ⟨e1, e2, e3⟩ := f.put hs hlt
  have := put_any a s (by omega)
  rw [e1, e2] at this
  exact this.mono fun e w' ⟨he, hb, ha⟩ => ⟨_, he, hb, ha, e3.fit, e3.first, e3.H, e3.S⟩
theorem put_full {w : World} {p g q h : Nat} {X : Swp} (a : Ar w p g q h X) (f : Fit X) {s : ByteArray} (hf : freeAt X.H = X.H.length) (hs : s.size = 64) :
    Calls Try.prog 14 #[.pointer (some ⟨q, 0, none⟩), .string s] w fun e w' => e = .returned (.tuple #[.int .i64 0, .int .i64 15]) ∧ But (fun j => j = p ∨ j = g ∨ j = h) w w' ∧ Ar w' p g q h X := by
  have e1 : X.ptE s = 15 := by unfold Swp.ptE; rw [if_pos hs, if_neg (by omega)]
  have e2 : X.ptV s = 0 := by unfold Swp.ptV; rw [if_neg (by rw [e1]; decide)]
  have e3 : X.ptX s = X := by unfold Swp.ptX; rw [if_neg (by rw [e1]; decide)]
  have := put_any a s (by omega)
  rw [e1, e2, e3] at this
  exact this

set_option maxHeartbeats 1600000 in
theorem awake5_any (w : World) : Calls Try.prog 9 #[] w fun e w' => e = .returned (.bool true) ∧ Below w.heap.size w w' := by
  have HN := Lib.hid (fun w => new_made 10 w (by omega) (by omega))
  have HS := Lib.hid (fun (w : World) p g (d : Dk w p g (newD 10)) => snew_made d 2 4 ⟨by omega, by omega, by omega, by simp [newD]⟩)
  have HP := Lib.hid (fun n w => page_any n w)
  have HF := Lib.hid (fun (w : World) p g q h (X : Swp) (a : Ar w p g q h X) (e : X.H = [1, 1, 0, 0]) => (free_any a 0).mono (R' := fun e w' => e = .returned (.int .i64 0) ∧ But (· = h) w w' ∧ ∃ Y, Ar w' p g q h Y ∧ (Fit X → Fit Y) ∧ Y.H = [0, 1, 0, 0]) fun e' w' ⟨he, hb, ha⟩ => ⟨by rw [he, show askE X.H 0 = 0 by rw [e]; decide], hb, _, ha, fun f => (f.add 0 (-1)).1, by rw [addX_H, e]; decide +kernel⟩)
  have hs := pageS_size
  have HZ := Lib.hid hs
  clear hs
  go_enter Try.func9, Try.ntmps9
  go_wp2_with (first
    | (go_at_call 11; refine (HN.out _).mono ?_; rintro e v1 ⟨p, g, rfl, hp, hg, hb, hd⟩)
    | (go_at_call 10; refine (HS.out _ _ _ hd).mono ?_; rintro e v2 ⟨q, h, rfl, hq, hh, hb2, ha⟩
       have hS : Sw w v2 p g q h (newX (newD 10) 2 4) := ⟨hp, hg, Nat.le_trans hb.size hq, Nat.le_trans hb.size hh, hb.trans (hb2.mono hb.size), ha⟩
       have hT : Fit (newX (newD 10) (2 : Nat) 4) := newX_fit (by omega)
       have h0 : (newX (newD 10) 2 4).H = [0, 0, 0, 0] := rfl
       clear hp hg hb hd hq hh hb2 ha)
    | (go_at_call 13; refine (HP.out _ _).mono ?_; rintro e v3 ⟨rfl, hb3⟩; replace hS := hS.on hb3; clear hb3)
    | (go_at_call 14; refine (put_to hS.ar hT rfl rfl h0 (k := 0) rfl (by simp) (HZ.out _)).mono ?_; rintro e v4 ⟨Y1, rfl, hb4, ha4, hf4, -, h1, -⟩; replace hS := hS.but hb4 ha4; clear hb4 ha4 h0 hT)
    | (go_at_call 14; refine (put_to hS.ar hf4 rfl rfl h1 (k := 1) rfl (by simp) (HZ.out _)).mono ?_; rintro e v5 ⟨Y2, rfl, hb5, ha5, hf5, -, h2, -⟩; replace hS := hS.but hb5 ha5; clear hb5 ha5 h1 hf4)
    | (go_at_call 20; refine (HF.out _ _ _ _ _ _ hS.ar h2).mono ?_; rintro e v6 ⟨rfl, hb6, Y3, ha6, hf6, h3⟩; replace hf6 := hf6 hf5; replace hS := hS.buth hb6 ha6; clear hb6 ha6 h2 hf5)
    | (go_at_call 14; refine (put_to hS.ar hf6 rfl rfl h3 (k := 0) rfl (by simp) (HZ.out _)).mono ?_; rintro e v7 ⟨Y4, rfl, hb7, ha7, -, -, -, -⟩; replace hS := hS.but hb7 ha7; clear hb7 ha7 h3 hf6))
  go_ret
  exact ⟨rfl, hS.bel⟩
end Go.Proofs.Ytibhebfkgjklpaa
