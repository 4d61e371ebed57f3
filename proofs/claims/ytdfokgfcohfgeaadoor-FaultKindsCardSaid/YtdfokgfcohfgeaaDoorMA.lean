/- Layer 16, pure: what is allowed, what is decided, what a page has behind an act, all acts one behind the other; bits of a Perm. -/
import Derived.Test.YtdfokgfcohfgeaaDoorRg
import Derived.Test.YtdfokgfcohfgeaaDoorSl
namespace Go.Proofs.YtdfokgfcohfgeaaDoor
set_option linter.unusedVariables false
set_option linter.unusedSimpArgs false

/-- Has a Perm any of these bits? -/
def hasM (p m : Int) : Bool := bits .and .i64 p m != 0
def allowM (p u : Int) : Bool := if u = 1 then hasM p 4 else if u = 2 then hasM p 2 else if u = 3 then hasM p 1 else false
/-- What is decided of a page that is here. -/
def handM (s : Sl) (u n : Int) : Int := if u ≠ 2 ∨ s.w = true then 1 else if s.c = true ∧ n ≤ 1 then 7 else 6
/-- What is decided: al is whether the use is allowed, and there is a region; k the region's kind. -/
def actM (al : Bool) (k : Int) (s : Sl) (u n : Int) : Int := if al = false then 2 else if s.o = true then 5 else if s.h = true then handM s u n else if k = 1 then 3 else 4
/-- What a page has behind an act; w is whether it may be written. -/
def entM (w : Bool) (a n : Int) : Sl := if a = 3 then ⟨true, false, false, false, n⟩ else if a = 4 ∨ a = 5 ∨ a = 6 ∨ a = 7 then ⟨true, w, !w, false, n⟩ else Sl.zero
def nextM (a : Int) : Int := if a = 3 then 2 else 1
def endM (a : Int) : Bool := a == 1 || a == 2
/-- The acts, one behind the other, of m at most. -/
def stepsM (al w : Bool) (k u : Int) : Nat → Sl → Int → List Int
  | 0, _, _ => []
  | m + 1, s, n => let a := actM al k s u n; a :: if endM a = true then [] else stepsM al w k u m (entM w a 0) (nextM a)
/-- Whether there is a region, and the use is allowed. -/
def alM (r : Rg) (th : Bool) (u : Int) : Bool := th && allowM r.p u
def seqM (r : Rg) (th : Bool) (s : Sl) (u n : Int) : List Int := stepsM (alM r th u) (hasM r.p 2) r.k u 4 s n

theorem allow_store {r : Rg} {th : Bool} {u : Int} (h : alM r th u = true) (hu : u = 2) : hasM r.p 2 = true := by
  subst hu
  unfold alM allowM at h
  simpa using (Bool.and_eq_true_iff.1 h).2

theorem act_range (al : Bool) (k : Int) (s : Sl) (u n : Int) : 1 ≤ actM al k s u n ∧ actM al k s u n ≤ 7 := by
  unfold actM handM
  (repeat' split) <;> omega
theorem stepsM_len (al w : Bool) (k u : Int) : ∀ m s n, (stepsM al w k u m s n).length ≤ m
  | 0, _, _ => by simp [stepsM]
  | m + 1, s, n => by
    have := stepsM_len al w k u m (entM w (actM al k s u n) 0) (nextM (actM al k s u n))
    unfold stepsM
    simp only
    split <;> simp <;> omega
theorem stepsM_range (al w : Bool) (k u : Int) : ∀ m s n, ∀ a ∈ stepsM al w k u m s n, 1 ≤ a ∧ a ≤ 7
  | 0, _, _, a, h => by simp [stepsM] at h
  | m + 1, s, n, a, h => by
    unfold stepsM at h
    simp only [List.mem_cons] at h
    rcases h with rfl | h
    · exact act_range ..
    · split at h
      · simp at h
      · exact stepsM_range al w k u m _ _ a h
theorem seqM_len (r : Rg) (th : Bool) (s : Sl) (u n : Int) : (seqM r th s u n).length ≤ 4 := stepsM_len ..
theorem seqM_pos (r : Rg) (th : Bool) (s : Sl) (u n : Int) : 0 < (seqM r th s u n).length := by unfold seqM stepsM; simp
theorem seqM_range (r : Rg) (th : Bool) (s : Sl) (u n : Int) : ∀ a ∈ seqM r th s u n, 1 ≤ a ∧ a ≤ 7 := stepsM_range _ _ _ _ _ _ _

/-- A use that is not allowed takes one step. -/
theorem seqM_no {r : Rg} {th : Bool} {s : Sl} {u n : Int} (h : alM r th u = false) : seqM r th s u n = [2] := by
  unfold seqM; rw [h]; simp [stepsM, actM, endM]

/-- What the acts of a use that is allowed are: some that bring the page, then ActGo; a store goes to a page that may be written. -/
structure Goes (L : List Int) (u : Int) (s : Sl) : Prop where
  len : L.length ≤ 4
  pos : 0 < L.length
  last : L[L.length - 1]? = some 1
  mid : ∀ i, i + 1 < L.length → ∃ a, L[i]? = some a ∧ 3 ≤ a ∧ a ≤ 7
  store : u = 2 → 1 < L.length ∨ s.w = true
theorem Goes.one {u : Int} {s : Sl} (h : u = 2 → s.w = true) : Goes [1] u s := ⟨by simp, by simp, rfl, fun i hi => by simp at hi, fun hu => .inr (h hu)⟩
theorem Goes.two {u a : Int} {s : Sl} (h : 3 ≤ a ∧ a ≤ 7) : Goes [a, 1] u s := ⟨by simp, by simp, rfl, fun i hi => by
  obtain rfl : i = 0 := by simp at hi; omega
  exact ⟨a, rfl, h⟩, fun hu => .inl (by simp)⟩
theorem Goes.three {u a b : Int} {s : Sl} (h : 3 ≤ a ∧ a ≤ 7) (h2 : 3 ≤ b ∧ b ≤ 7) : Goes [a, b, 1] u s := ⟨by simp, by simp, rfl, fun i hi => by
  rcases (show i = 0 ∨ i = 1 by simp at hi; omega) with rfl | rfl
  · exact ⟨a, rfl, h⟩
  · exact ⟨b, rfl, h2⟩, fun hu => .inl (by simp)⟩
theorem stepsM_succ (al w : Bool) (k u : Int) (m : Nat) (s : Sl) (n : Int) : stepsM al w k u (m + 1) s n = actM al k s u n :: if endM (actM al k s u n) = true then [] else stepsM al w k u m (entM w (actM al k s u n) 0) (nextM (actM al k s u n)) := rfl
theorem stepsM_stop {al w : Bool} {k u n a : Int} {m : Nat} {s : Sl} (h : actM al k s u n = a) (e : endM a = true) : stepsM al w k u (m + 1) s n = [a] := by
  rw [stepsM_succ, h, if_pos e]
theorem stepsM_go {al w : Bool} {k u n a : Int} {m : Nat} {s : Sl} (h : actM al k s u n = a) (e : endM a = false) : stepsM al w k u (m + 1) s n = a :: stepsM al w k u m (entM w a 0) (nextM a) := by
  rw [stepsM_succ, h, if_neg (by rw [e]; decide)]
theorem act_own {w : Bool} {k u n : Int} (hw : u = 2 → w = true) : actM true k ⟨true, w, !w, false, 0⟩ u n = 1 := by
  unfold actM handM
  rw [if_neg (by decide), if_neg (by simp), if_pos rfl, if_pos]
  by_cases hu : u = 2
  · exact .inr (hw hu)
  · exact .inl hu
theorem stepsM_own {w : Bool} {k u a n : Int} {m : Nat} (hw : u = 2 → w = true) (h0 : 4 ≤ a) (h1 : a ≤ 7) : stepsM true w k u (m + 1) (entM w a 0) n = [1] := by
  unfold entM
  rw [if_neg (by omega), if_pos (by omega)]
  exact stepsM_stop (act_own hw) rfl
/-- All acts, written out. -/
theorem stepsM_all {w : Bool} {k u : Int} (hw : u = 2 → w = true) (s : Sl) (n : Int) : stepsM true w k u 4 s n =
    if s.o = true then [5, 1] else if s.h = true then (if u ≠ 2 ∨ s.w = true then [1] else if s.c = true ∧ n ≤ 1 then [7, 1] else [6, 1]) else if k = 1 then (if u = 2 then [3, 6, 1] else [3, 1]) else [4, 1] := by
  have hA : actM true k s u n = if s.o = true then 5 else if s.h = true then handM s u n else if k = 1 then 3 else 4 := by unfold actM; rw [if_neg (by decide)]
  by_cases ho : s.o = true
  · rw [if_pos ho] at hA ⊢
    rw [stepsM_go hA rfl, stepsM_own hw (by omega) (by omega)]
  rw [if_neg ho] at hA ⊢
  by_cases hh : s.h = true
  · rw [if_pos hh] at hA ⊢
    unfold handM at hA
    by_cases h1 : u ≠ 2 ∨ s.w = true
    · rw [if_pos h1] at hA ⊢
      exact stepsM_stop hA rfl
    rw [if_neg h1] at hA ⊢
    by_cases h2 : s.c = true ∧ n ≤ 1
    · rw [if_pos h2] at hA ⊢
      rw [stepsM_go hA rfl, stepsM_own hw (by omega) (by omega)]
    · rw [if_neg h2] at hA ⊢
      rw [stepsM_go hA rfl, stepsM_own hw (by omega) (by omega)]
  rw [if_neg hh] at hA ⊢
  by_cases hk : k = 1
  · rw [if_pos hk] at hA ⊢
    rw [stepsM_go hA rfl]
    have hB : actM true k (entM w 3 0) u (nextM 3) = if u = 2 then 6 else 1 := by
      show actM true k ⟨true, false, false, false, 0⟩ u 2 = _
      unfold actM handM
      by_cases hu : u = 2 <;> simp [hu]
    by_cases hu : u = 2
    · rw [if_pos hu] at hB ⊢
      rw [stepsM_go hB rfl, stepsM_own hw (by omega) (by omega)]
    · rw [if_neg hu] at hB ⊢
      rw [stepsM_stop hB rfl]
  · rw [if_neg hk] at hA ⊢
    rw [stepsM_go hA rfl, stepsM_own hw (by omega) (by omega)]
theorem seqM_goes {r : Rg} {th : Bool} {s : Sl} {u n : Int} (h : alM r th u = true) : Goes (seqM r th s u n) u s := by
  unfold seqM
  rw [h, stepsM_all fun hu => allow_store h hu]
  split
  · exact Goes.two (by omega)
  split
  · split
    · rename_i h1
      exact Goes.one fun hu => h1.resolve_left (fun h2 => h2 hu)
    split
    · exact Goes.two (by omega)
    · exact Goes.two (by omega)
  split
  · split
    · exact Goes.three (by omega) (by omega)
    · exact Goes.two (by omega)
  · exact Goes.two (by omega)

/-- The last act lets it go on, or denies it. -/
theorem seqM_last (r : Rg) (th : Bool) (s : Sl) (u n : Int) : ∃ a, (seqM r th s u n)[(seqM r th s u n).length - 1]? = some a ∧ endM a = true := by
  cases h : alM r th u
  · rw [seqM_no h]; exact ⟨2, rfl, rfl⟩
  · exact ⟨1, (seqM_goes h).last, rfl⟩

/-- To be read, or fetched, a page is not copied, nor made its own. -/
theorem seqM_reads {r : Rg} {th : Bool} {s : Sl} {u n : Int} (hu : u ≠ 2) : ∀ a ∈ seqM r th s u n, a ≠ 6 ∧ a ≠ 7 := by
  intro a ha
  cases h : alM r th u
  · rw [seqM_no h] at ha
    simp at ha; omega
  · unfold seqM at ha
    rw [h, stepsM_all fun h2 => absurd h2 hu] at ha
    simp only [hu, ne_eq, not_false_eq_true, true_or, if_true, if_false] at ha
    (repeat' split at ha) <;> simp at ha <;> omega
theorem seqM_reads_len {r : Rg} {th : Bool} {s : Sl} {u n : Int} (hu : u ≠ 2) (h : alM r th u = true) (hs : s.Ok) : (seqM r th s u n).length = if s.h = true then 1 else 2 := by
  unfold seqM
  rw [h, stepsM_all fun h2 => absurd h2 hu]
  have hho : s.h = true → s.o = false := fun h1 => by
    rcases hs with rfl | hs
    · rfl
    · have := (Sl.may_iff.1 hs).1
      cases h2 : s.o
      · rfl
      · rw [h1, h2] at this; exact absurd rfl this
  simp only [hu, ne_eq, not_false_eq_true, true_or, if_true, if_false]
  cases h1 : s.h
  · cases s.o
    · by_cases hk : r.k = 1 <;> simp [hk]
    · simp
  · rw [hho h1]; simp

theorem ent_may (w : Bool) {a : Int} (h0 : 3 ≤ a) (h1 : a ≤ 7) : (entM w a 5).may = true ∧ (entM w a 5).h = true ∧ (entM w a 5).n = 5 := by
  unfold entM
  by_cases h3 : a = 3
  · rw [if_pos h3]; decide
  · rw [if_neg h3, if_pos (by omega)]
    cases w <;> decide

/-- Bits. -/
theorem ofInt_wrap64 (x : Int) : BitVec.ofInt 64 (IntKind.i64.wrap x) = BitVec.ofInt 64 x := by
  apply BitVec.eq_of_toInt_eq
  rw [BitVec.toInt_ofInt, BitVec.toInt_ofInt, IntKind.wrap_i64]
  simp only [Int.bmod_def]
  omega
theorem ofInt_toNat64 (a : BitVec 64) : BitVec.ofInt 64 (a.toNat : Int) = a := by
  rw [BitVec.ofInt_natCast, BitVec.ofNat_toNat]; simp
theorem bits_zero {op : BinOp} {x y : Int} {c : BitVec 64} (h : bits op .i64 x y = IntKind.i64.wrap (c.toNat : Int)) : (bits op .i64 x y != 0) = (c != 0#64) := by
  rw [h]
  have h1 : IntKind.i64.wrap (c.toNat : Int) = 0 ↔ c = 0#64 := by
    constructor
    · intro h2
      have := congrArg (BitVec.ofInt 64) h2
      rw [ofInt_wrap64, ofInt_toNat64] at this
      simpa using this
    · rintro rfl; decide
  rw [Bool.eq_iff_iff, bne_iff_ne, bne_iff_ne, Ne, Ne, h1]
theorem hasM_bv (p m : Int) : hasM p m = (BitVec.ofInt 64 p &&& BitVec.ofInt 64 m != 0#64) := bits_zero (op := .and) rfl
theorem or_bv (p m : Int) : BitVec.ofInt 64 (bits .or .i64 p m) = BitVec.ofInt 64 p ||| BitVec.ofInt 64 m := by
  show BitVec.ofInt 64 (IntKind.i64.wrap ((BitVec.ofInt 64 p ||| BitVec.ofInt 64 m).toNat : Int)) = _
  rw [ofInt_wrap64, ofInt_toNat64]
theorem andNot_bv (p m : Int) : BitVec.ofInt 64 (bits .andNot .i64 p m) = BitVec.ofInt 64 p &&& ~~~ BitVec.ofInt 64 m := by
  show BitVec.ofInt 64 (IntKind.i64.wrap ((BitVec.ofInt 64 p &&& ~~~ BitVec.ofInt 64 m).toNat : Int)) = _
  rw [ofInt_wrap64, ofInt_toNat64]
theorem hasM_or {p m : Int} (hm : BitVec.ofInt 64 m ≠ 0#64) : hasM (bits .or .i64 p m) m = true := by
  rw [hasM_bv, or_bv]
  have : (BitVec.ofInt 64 p ||| BitVec.ofInt 64 m) &&& BitVec.ofInt 64 m = BitVec.ofInt 64 m := by
    apply BitVec.eq_of_getLsbD_eq
    intro i hi
    rw [BitVec.getLsbD_and, BitVec.getLsbD_or]
    cases (BitVec.ofInt 64 m).getLsbD i <;> simp
  rw [this]
  simpa using hm
theorem hasM_andNot (p m : Int) : hasM (bits .andNot .i64 p m) m = false := by
  rw [hasM_bv, andNot_bv]
  have : (BitVec.ofInt 64 p &&& ~~~ BitVec.ofInt 64 m) &&& BitVec.ofInt 64 m = 0#64 := by
    apply BitVec.eq_of_getLsbD_eq
    intro i hi
    rw [BitVec.getLsbD_and, BitVec.getLsbD_and, BitVec.getLsbD_not]
    cases (BitVec.ofInt 64 m).getLsbD i <;> simp
  rw [this]
  rfl
end Go.Proofs.YtdfokgfcohfgeaaDoor
