/- Layer 12: a list of libraries as it lies; a map of numbers by names; rows of the call's own. -/
import Derived.Test.YtmkaehnekhejmaaRowI
import Derived.Test.YtmkaehnekhejmaaOpen
import Derived.Test.YtmkaehnekhejmaaLaw
import Derived.Test.YtmkaehnekhejmaaBits
import Derived.Test.YtmkaehnekhejmaaGb
import Derived.Maps.Views
import Derived.Maps.OwnSet
import Derived.Maps.OwnOps
import Derived.Deep.AppendLies
import Derived.Deep.RegionHeld3
import Derived.Deep.RegionLaw
import Derived.BigRegion
import Derived.Deep.CutRange
import Derived.Deep.CutBlock
import Derived.RegionTactic
namespace Go.Proofs.Ytmkaehnekhejmaa
open Go.RowKit
open Go.Maps (Keyed string_keyed IsMap)
set_option linter.unusedVariables false
set_option linter.unusedSimpArgs false

theorem addr_blockG (ad : Addr) (i : Nat) : (ad.add i).block = ad.block := by unfold Addr.add; split <;> rfl
theorem strRow_belowG {w w' : World} {A : Option Addr} {l : List ByteArray} (h : StrRow w A l) {n : Nat} (hn : n = w.heap.size) (hb : Below n w w') : StrRow w' A l := fun i hi => by
  obtain ⟨ad, h1, h2, h3, h4⟩ := h i hi
  refine ⟨ad, h1, Nat.lt_of_lt_of_le h2 hb.size, (hb.cell ?_).trans h3, h4⟩
  have := addr_blockG ad i
  omega
/-- A library's two cells lie so. -/
structure LbAt (w : World) (ad : Addr) (i : Nat) (b : Lb) (An : Option Addr) (cn : Nat) : Prop where
  c0 : w.cell? (ad.add (i * 2)) = some (.string b.name)
  c1 : w.cell? ⟨(ad.add (i * 2)).block, (ad.add (i * 2)).off + 1, none⟩ = some (.slice An b.need.length cn)
  row : StrRow w An b.need
  nm : b.name.size ≤ maxLen
  len : b.need.length ≤ 100000
/-- A list of libraries. -/
def LibRow (w : World) (A : Option Addr) (L : List Lb) : Prop := ∀ i (hi : i < L.length), ∃ ad An cn, A = some ad ∧ ad.block < w.heap.size ∧ LbAt w ad i L[i] An cn
theorem LibRow.below {w w' : World} {A : Option Addr} {L : List Lb} (h : LibRow w A L) {n : Nat} (hn : n = w.heap.size) (hb : Below n w w') : LibRow w' A L := fun i hi => by
  obtain ⟨ad, An, cn, h1, h2, h3⟩ := h i hi
  refine ⟨ad, An, cn, h1, Nat.lt_of_lt_of_le h2 hb.size, ⟨(hb.cell ?_).trans h3.c0, (hb.cell ?_).trans h3.c1, strRow_belowG h3.row hn hb, h3.nm, h3.len⟩⟩
  · rw [addr_blockG]; omega
  · show (ad.add (i * 2)).block < n
    rw [addr_blockG]; omega

/-- A map of numbers by names. -/
theorem lawStrG : Keyed Try.prog 9 := string_keyed Try.underlying9
theorem zeroIntG (w : World) : (zeroValue 3).run Try.prog w = .ok (.int .i64 0) w := by kernel_rfl
def MapS (M n : Nat) (f : ByteArray → Option Int) (w : World) : Prop := ∃ D : DataW Unit, w.ownsMap Try.prog 9 (plainElem Try.prog 3) M n D ∧ IsMap D ∧ ∀ x : ByteArray, x.size ≤ maxLen → Maps.has D (.string x.data.toList) = (f x).isSome ∧ D.atKey (.string x.data.toList) (.lit (.int .i64 0)) = .lit (.int .i64 ((f x).getD 0))
def updM (f : ByteArray → Option Int) (x : ByteArray) (v : Int) : ByteArray → Option Int := fun y => if y = x then some v else f y
section
variable {M n : Nat} {f g : ByteArray → Option Int} {w w' : World} {x : ByteArray}
theorem MapS.congr (h : MapS M n f w) (e : ∀ y, f y = g y) : MapS M n g w := by
  have : f = g := funext e
  rw [← this]; exact h
theorem MapS.ok (h : MapS M n f w) (hx : x.size ≤ maxLen) : (Instr.lookup 47 (.map (some M)) (.string x) true).run Try.prog w = .ok (.tuple #[.int .i64 ((f x).getD 0), .bool (f x).isSome]) w := by
  obtain ⟨D, hown, _, hat⟩ := h
  obtain ⟨h1, h2⟩ := hat x hx
  obtain ⟨v, ps, hrun, hv⟩ := hown.look_ok lawStrG Try.underlying47 (zeroIntG w) (plainElem_int (H := Unit) Try.underlying3 (by decide)) (WideMaps.keyOf_string_mk Try.underlying9 hx)
  obtain ⟨c, rfl, hc, _⟩ := plainElem_int_inv Try.underlying3 hv
  have hc := congrArg Prod.fst hc
  simp only at hc
  rw [h2] at hc
  injection hc with hc
  injection hc with _ hc
  rw [hrun, h1, hc]
theorem MapS.look (h : MapS M n f w) (hx : x.size ≤ maxLen) : (Instr.lookup 47 (.map (some M)) (.string x) false).run Try.prog w = .ok (.int .i64 ((f x).getD 0)) w := by
  obtain ⟨D, hown, _, hat⟩ := h
  obtain ⟨h1, h2⟩ := hat x hx
  obtain ⟨c, hrun, hc, _⟩ := hown.lookup_int lawStrG Try.underlying47 Try.underlying3 (zeroIntG _) (WideMaps.keyOf_string_mk Try.underlying9 hx)
  rw [h2] at hc
  injection hc with hc
  injection hc with _ hc
  rw [hrun, ← hc]
theorem MapS.made (w : World) : MapS w.heap.size 0 (fun _ => none) (w.alloc (.map #[] 0)) :=
  ⟨.map [], World.ownsMap_made _ _ _ _, ⟨[], rfl⟩, fun t _ => ⟨rfl, rfl⟩⟩
theorem MapS.but {S : Nat → Prop} (h : MapS M n f w) (hb : But S w w') (hS : ¬ S M) : MapS M n f w' := by
  obtain ⟨D, ⟨es, clock, hm, F, hs, hD⟩, h2⟩ := h
  exact ⟨D, ⟨es, clock, (hb.block M (Array.getElem?_eq_some_iff.1 hm).1 hS).trans hm, F, hs, hD⟩, h2⟩
theorem MapS.lt (h : MapS M n f w) : M < w.heap.size := by
  obtain ⟨D, hown, _⟩ := h
  exact hown.lt
theorem MapS.below {B : Nat} (h : MapS M n f w) (hb : Below B w w') (hM : M < B) : MapS M n f w' := by
  obtain ⟨D, ⟨es, clock, hm, F, hs, hD⟩, h2⟩ := h
  exact ⟨D, ⟨es, clock, (hb.block M hM).trans hm, F, hs, hD⟩, h2⟩
theorem MapS.put (h : MapS M n f w) (hn : n < maxLen) (hx : x.size ≤ maxLen) {v : Int} (hv : (Lit.int .i64 v).wf = true) :
    ∃ w', (Instr.mapUpdate 47 (.map (some M)) (.string x) (.int .i64 v)).run Try.prog w = .ok () w' ∧ MapS M (n + 1) (updM f x v) w' ∧ w.grownBy w' (some M) := by
  obtain ⟨D, hown, hD, hat⟩ := h
  obtain ⟨w', hrun, r1, r2⟩ := hown.update lawStrG Try.underlying47 hn (WideMaps.keyOf_string_mk Try.underlying9 hx) (plainElem_int (H := Unit) Try.underlying3 hv)
  refine ⟨w', hrun, ⟨_, r1, hD.put _ _, fun y hy => ?_⟩, r2⟩
  unfold updM
  by_cases e : y = x
  · subst e
    rw [if_pos rfl]
    exact ⟨Go.Maps.has_put_same hD (by trivial) _, Go.Maps.atKey_put_same hD (by trivial) _ _⟩
  · rw [if_neg e]
    have hne : (Lit.string y.data.toList) ≠ .string x.data.toList := fun e' => e (by
      injection e' with e'
      rw [← mkb_of y, e', mkb_of])
    exact ⟨(Go.Maps.has_put_other hne _).trans (hat y hy).1, (Go.Maps.atKey_put_other hne _ _).trans (hat y hy).2⟩
end

/-- Rows of the call's own. -/
def nints (l : List Nat) : List Value := l.map fun (n : Nat) => Value.int .i64 ((n : Nat) : Int)
theorem nints_length (l : List Nat) : (nints l).length = l.length := by simp [nints]
theorem nints_snoc (l : List Nat) (n : Nat) : nints (l ++ [n]) = nints l ++ [.int .i64 (n : Int)] := by simp [nints]
theorem strs_length (l : List ByteArray) : (strs l).length = l.length := by simp [strs]
theorem strs_snoc (l : List ByteArray) (n : ByteArray) : strs (l ++ [n]) = strs l ++ [.string n] := by simp [strs]
theorem own_atG {w : World} {lo e n : Nat} {v : Value} {xs : List Value} (h : w.ownsRow lo e 1 v n xs) : ∃ A c, v = .slice A n c ∧ ∀ i (hi : i < xs.length), ∃ ad, A = some ad ∧ lo ≤ ad.block ∧ ad.block < w.heap.size ∧ w.cell? (ad.add i) = some xs[i] := by
  have hl := h.1
  rcases h.2 with ⟨rfl, h0⟩ | ⟨g, cap, cur, rfl, hbg, hg, _, _, _, ht⟩
  · subst h0
    exact ⟨none, 0, rfl, fun i hi => absurd hi (by omega)⟩
  · refine ⟨_, cap, rfl, fun i hi => ⟨⟨g, 0, none⟩, rfl, hbg, (show Blk w g _ cur from hg).lt, ?_⟩⟩
    have h1 : xs[i]? = some xs[i] := List.getElem?_eq_getElem hi
    conv at h1 => lhs; rw [← ht]
    rw [List.getElem?_take, if_pos (by omega)] at h1
    have e : (⟨g, 0, none⟩ : Addr).add i = ⟨g, i, none⟩ := by unfold Addr.add; split <;> simp_all
    rw [e, (show Blk w g _ cur from hg).cell]
    simpa using h1
theorem strRow_ownG {w : World} {lo n : Nat} {v : Value} {l : List ByteArray} (h : w.ownsRow lo 9 1 v n (strs l)) (hw : ∀ z ∈ l, z.size ≤ maxLen) : n = l.length ∧ ∃ A c, v = .slice A l.length c ∧ StrRow w A l := by
  have hl := h.1
  rw [strs_length] at hl
  obtain rfl : n = l.length := by omega
  obtain ⟨A, c, hv, hr⟩ := own_atG h
  refine ⟨rfl, A, c, hv, fun i hi => ?_⟩
  obtain ⟨ad, h1, _, h2, h3⟩ := hr i (by rw [strs_length]; exact hi)
  exact ⟨ad, h1, h2, by rw [h3]; simp [strs], hw _ (List.getElem_mem hi)⟩
theorem cell_oneG (w : World) (x : Value) (t : TypeId) : ∀ j u, [x][j]? = some u → (w.alloc (.cells #[x] t)).cell? ((⟨w.heap.size, 0, none⟩ : Addr).add j) = some u := fun j u hj => by
  rw [show (⟨w.heap.size, 0, none⟩ : Addr).add j = ⟨w.heap.size, j, none⟩ by unfold Addr.add; split <;> simp_all]
  exact (Blk.new w _ _).at_ j u (by simpa using hj)
theorem own_butG {S : Nat → Prop} {w w' : World} {B e size n : Nat} {v : Value} {xs : List Value} (h : w.ownsRow B e size v n xs) (hb : But S w w') (hS : ∀ k, v.ownBlock = some k → ¬ S k) : w'.ownsRow B e size v n xs := by
  obtain ⟨h1, h2⟩ := h
  refine ⟨h1, ?_⟩
  rcases h2 with h2 | ⟨g, cap, cur, rfl, hB, hg, r⟩
  · exact .inl h2
  · exact .inr ⟨g, cap, cur, rfl, hB, (hb.block g (Array.getElem?_eq_some_iff.1 hg).1 (hS g rfl)).trans hg, r⟩
theorem own_setG {w : World} {B e size n : Nat} {v : Value} {xs : List Value} (h : w.ownsRow B e size v n xs) {p : Addr} (hp : p.block < B) (u : Value) : (w.setCell p u).ownsRow B e size v n xs :=
  own_butG h ((But.refl (· = p.block) w).setCell (.inl rfl) u) (fun k hk e => by have := (h.lt k hk).1; omega)

/-- The places of the first ones of their names. -/
def firstF (L : List Lb) (x : ByteArray) : Option Int := if there L x = true then some (posL L x : Nat) else none
theorem there_snoc (L : List Lb) (b : Lb) (x : ByteArray) : there (L ++ [b]) x = (there L x || decide (b.name = x)) := by
  unfold there findL
  rw [List.find?_append, Option.isSome_or]
  congr 1
  by_cases e : b.name = x <;> simp [e]
theorem firstF_snoc (L : List Lb) (b : Lb) (y : ByteArray) : firstF (L ++ [b]) y = if (firstF L b.name).isSome then firstF L y else updM (firstF L) b.name (L.length : Nat) y := by
  unfold firstF updM
  rw [there_snoc]
  have hpos : ∀ z, there L z = true → posL (L ++ [b]) z = posL L z := fun z hz => by
    obtain ⟨hp, _⟩ := there_pos hz
    unfold posL at *
    rw [List.findIdx_append, if_pos hp]
  by_cases h : there L y = true
  · rw [hpos y h]
    by_cases h2 : there L b.name = true
    · simp [h, h2]
    · have : y ≠ b.name := fun e => h2 (e ▸ h)
      simp [h, h2, this]
  · have h' : there L y = false := by simpa using h
    by_cases e : b.name = y
    · subst e
      simp only [h', Bool.false_or, decide_true]
      simp only [Bool.false_eq_true, if_true, if_false, Option.isSome_none]
      congr 2
      unfold posL
      rw [List.findIdx_append, if_neg (by
        rw [List.findIdx_lt_length]
        rintro ⟨z, hz, hz2⟩
        exact there_no h' z hz (by simpa using hz2))]
      simp
    · simp only [h', Bool.false_or]
      rw [if_neg (by simpa using e)]
      by_cases h2 : there L b.name = true
      · simp [h2]
      · have h3 : ¬ y = b.name := fun e' => e e'.symm
        simp [h2, h3]
end Go.Proofs.Ytmkaehnekhejmaa
