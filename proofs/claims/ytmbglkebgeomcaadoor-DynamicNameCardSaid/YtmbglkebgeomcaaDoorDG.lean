/- Package dynamic: Names. -/
import Derived.Test.YtmbglkebgeomcaaDoorDF
namespace Go.Proofs.YtmbglkebgeomcaaDoor
open Go.RowKit
set_option linter.unusedVariables false
set_option linter.unusedSimpArgs false

/-- A call's own row of strings, read. -/
theorem strRow_own {w : World} {lo n : Nat} {v : Value} {l : List ByteArray} (h : w.ownsRow lo 9 1 v n (strs l)) (hw : ∀ z ∈ l, z.size ≤ maxLen) : n = l.length ∧ ∃ A c, v = .slice A l.length c ∧ StrRow w A l := by
  have hl := h.1
  rw [show (strs l).length = l.length by simp [strs]] at hl
  obtain rfl : n = l.length := by omega
  refine ⟨rfl, ?_⟩
  rcases h.2 with ⟨rfl, h0⟩ | ⟨g, cap, cur, rfl, hbg, hg, _, _, _, ht⟩
  · have : l = [] := List.length_eq_zero_iff.1 h0
    subst this
    exact ⟨none, 0, rfl, fun i hi => absurd hi (by simp)⟩
  · refine ⟨_, cap, rfl, fun i hi => ⟨⟨g, 0, none⟩, rfl, (show Blk w g _ cur from hg).lt, ?_, hw _ (List.getElem_mem hi)⟩⟩
    have h1 : (strs l)[i]? = some (.string l[i]) := by simp [strs, hi]
    rw [← ht, List.getElem?_take, if_pos (by omega)] at h1
    have e : (⟨g, 0, none⟩ : Addr).add i = ⟨g, i, none⟩ := by unfold Addr.add; split <;> simp_all
    rw [e, (show Blk w g _ cur from hg).cell]
    simpa using h1
theorem strRow_below {w w' : World} {A : Option Addr} {zs : List ByteArray} (h : StrRow w A zs) {n : Nat} (hn : n = w.heap.size) (hb : Below n w w') : StrRow w' A zs := fun i hi => by
  obtain ⟨ad, h1, h2, h3, h4⟩ := h i hi
  refine ⟨ad, h1, Nat.lt_of_lt_of_le h2 hb.size, (hb.cell ?_).trans h3, h4⟩
  have : (ad.add i).block = ad.block := by unfold Addr.add; split <;> rfl
  omega
theorem strs_snoc (l : List ByteArray) (n : ByteArray) : strs (l ++ [n]) = strs l ++ [.string n] := by simp [strs]

/-- The names of those that are needed; none, if one of them is empty. -/
def namesB (view : ByteArray) (d : Dyn) : Bool := d.needed.all fun a => decide (nameS view d a ≠ ⟨#[]⟩)
def namesL (view : ByteArray) (d : Dyn) : List ByteArray := if namesB view d then d.needed.map (nameS view d) else []
def namesE (view : ByteArray) (d : Dyn) : Int := if namesB view d then 0 else 17
/-- A row of texts and an error were told. -/
def TextsT (w : World) (L : List ByteArray) (er : Int) (e : Ending) (w' : World) : Prop := ∃ A c, e = .returned (.tuple #[.slice A L.length c, .int .i64 er]) ∧ StrRow w' A L ∧ Below w.heap.size w w'

set_option maxRecDepth 100000 in
set_option maxHeartbeats 1600000 in
theorem names_any (view : ByteArray) (d : Dyn) (A : Option Addr) (c : Nat) (w : World) (hd : d.wf) (hr : IntRow w A d.needed) (hl : d.needed.length ≤ 1000) (hs : view.size ≤ 1000000) :
    Calls Tryd.prog 13 #[.string view, .agg (d.cs (.slice A d.needed.length c))] w (TextsT w (namesL view d) (namesE view d)) := by
  obtain ⟨n, hn⟩ : ∃ n, d.needed.length = n := ⟨_, rfl⟩
  have hN := fun a (ha : (Lit.int .i64 a).wf = true) u => name_any view d (.slice A n c) a u hd ha hs
  have hsz := fun a => nameS_size view d a
  rw [hn]
  rw [hn] at hl
  obtain ⟨R, hR⟩ : ∃ R, w.heap.size = R := ⟨_, rfl⟩
  have HW := Lib.hid (fun (W0 : World) (hW0 : (w.alloc (.cells (d.cs (.slice A n c)) 26)).alloc (.cells #[] 9) = W0) =>
    show Blk W0 R 26 (d.cs (.slice A n c)) ∧ W0.ownsRow (R + 1) 9 1 (.slice (some ⟨R + 1, 0, none⟩) 0 0) 0 (strs []) ∧ Below R w W0 ∧ R + 1 ≤ W0.heap.size from by
    subst hW0
    subst hR
    refine ⟨(Blk.new w _ _).alloc _, ⟨rfl, .inr ⟨w.heap.size + 1, 0, #[], rfl, Nat.le_refl _, ?_, Nat.le_refl _, by unfold maxLen; omega, rfl, rfl⟩⟩, ((Below.refl _ _).alloc (Nat.le_refl _) _).alloc (by simp) _, by simp⟩
    have := Blk.new (w.alloc (.cells (d.cs (.slice A n c)) 26)) 9 #[]
    simpa [Blk] using this)
  have HB := Lib.hid (show (∀ a ∈ d.needed, nameS view d a ≠ ⟨#[]⟩) → namesL view d = d.needed.map (nameS view d) ∧ namesE view d = 0 from fun h => by
    have : namesB view d = true := by unfold namesB; rw [List.all_eq_true]; intro a ha; exact decide_eq_true (h a ha)
    unfold namesL namesE
    rw [this]
    exact ⟨rfl, rfl⟩)
  have HB2 := Lib.hid (show ∀ a ∈ d.needed, nameS view d a = ⟨#[]⟩ → namesL view d = [] ∧ namesE view d = 17 from fun a ha h => by
    have : namesB view d = false := by
      cases hq : namesB view d
      · rfl
      · unfold namesB at hq
        rw [List.all_eq_true] at hq
        exact absurd h (of_decide_eq_true (hq a ha))
    unfold namesL namesE
    rw [this]
    exact ⟨rfl, rfl⟩)
  have HV := Lib.hid (fun v (hb : Blk v R 26 (d.cs (.slice A n c))) => dyn_vals d hb)
  have HROW := Lib.hid hr
  have HNL := Lib.hid hn
  have HNM := Lib.hid hN
  have HSZ := Lib.hid hsz
  have hrow : ∀ v, Below R w v → IntRow v A d.needed := fun v hv => intRow_below hr hR.symm hv
  have HRW := Lib.hid hrow
  clear hN hr hn hsz hrow hd
  unfold Dyn.cs at HW HV HNM ⊢
  obtain ⟨i0, hi, hz0, hz1, hz2⟩ := info_parts infoStr
  go_enter Tryd.func13, Tryd.ntmps13
  go_upto_region 2 with fail
  generalize hW0 : (w.alloc (.cells #[.slice A n c, .int .i64 (d.f 1), .int .i64 (d.f 2), .int .i64 (d.f 3), .int .i64 (d.f 4), .int .i64 (d.f 5), .int .i64 (d.f 6), .int .i64 (d.f 7), .int .i64 (d.f 8)] 26)).alloc (.cells #[] 9) = W0
  obtain ⟨hb0, ho0, hB0, hs0⟩ := HW.out W0 hW0
  have k0 := (HV.out W0 hb0).1
  have HB0 := Lib.hid hb0
  have HO0 := Lib.hid ho0
  have HBe0 := Lib.hid hB0
  clear HW hW0 hb0 ho0 hB0
  go_wp2_with fail
  clear k0
  go_loopw [6, 15] (fun l i wr => ∃ k : Nat, k ≤ n ∧ i = .int .i64 k ∧ Hid (wr.ownsRow (R + 1) 9 1 l k (strs ((d.needed.take k).map (nameS view d)))) ∧ Hid (∀ a ∈ d.needed.take k, nameS view d a ≠ ⟨#[]⟩) ∧ Hid (Blk wr R 26 #[.slice A n c, .int .i64 (d.f 1), .int .i64 (d.f 2), .int .i64 (d.f 3), .int .i64 (d.f 4), .int .i64 (d.f 5), .int .i64 (d.f 6), .int .i64 (d.f 7), .int .i64 (d.f 8)]) ∧ Hid (Below R w wr) ∧ R + 1 ≤ wr.heap.size) (fun _ i _ => n - (intOf i).toNat)
  case atStart => exact ⟨0, Nat.zero_le _, rfl, HO0, Lib.hid (by simp), HB0, HBe0, hs0⟩
  case round =>
    obtain ⟨k, hk, rfl, HO, HA, HK, HBE, hws⟩ := hrel
    by_cases hlt : k < n
    · have hkn : k < d.needed.length := by rw [HNL.out]; exact hlt
      obtain ⟨ad, rfl, hblt, d0, hwf⟩ := HRW.out wr HBE.out k hkn
      obtain ⟨z, hz⟩ : ∃ z, d.needed[k] = z := ⟨_, rfl⟩
      rw [hz] at d0 hwf
      obtain ⟨x0, x1, x2, x3, x4, x5, x6, x7, x8⟩ := HV.out wr HK.out
      have hname := HNM.out z hwf
      have htk : d.needed.take (k + 1) = d.needed.take k ++ [z] := by rw [List.take_succ_eq_append_getElem hkn, hz]
      have hmem : z ∈ d.needed := by rw [← hz]; exact List.getElem_mem hkn
      obtain ⟨s, hs2⟩ : ∃ s, nameS view d z = s := ⟨_, rfl⟩
      have hs24 : s.size ≤ 24 := by rw [← hs2]; exact HSZ.out z
      generalize nameOk view d z = ok at *
      rw [hs2] at hname
      have HC := Lib.hid (hname wr)
      have k0 : (0 : Int) ≤ (k : Int) := by omega
      have k1 : (k : Int) < (n : Int) := by omega
      clear hname hwf
      by_cases he : s = ⟨#[]⟩
      · have HNO := Lib.hid (HB2.out z hmem (hs2.trans he))
        subst he
        go_wp2_with (go_at_call 15; refine HC.out.mono ?_; rintro e v1 ⟨rfl, hb⟩)
        go_ret2
        obtain ⟨q1, q2⟩ := HNO.out
        rw [q1, q2]
        exact ⟨none, 0, rfl, fun i hi => absurd hi (by simp), by rw [hR]; exact HBE.out.trans (hb.mono (by omega))⟩
      · have hsb : s.toList.isEmpty = false := by
          rw [List.isEmpty_eq_false_iff]
          intro e
          rw [Lib.toList_data] at e
          exact he (by rw [← mkb_of s, e]; rfl)
        have HTK := Lib.hid htk
        have HS2 := Lib.hid hs2
        clear htk hs2 hmem
        go_wp2_with (first
          | (go_at_call 15; refine HC.out.mono ?_; rintro e v1 ⟨rfl, hb⟩
             have HO1 := Lib.hid (own_below HO.out hb)
             have HK1 := Lib.hid (HK.out.below hb HK.out.lt)
             have HBE1 := Lib.hid (HBE.out.trans (hb.mono (by omega)))
             have hws1 := hb.size
             clear hb)
          | (at_builtin; refine Hid.out ?_))
        have ho1 := HO1.out
        refine Lib.hid ?_
        refine wpList_append_own _ rfl _ _ 34 rfl (R + 1) 9 i0 (.string ⟨#[]⟩) 1 16 Tryd.underlying34 hi hz0 hz1 hz2 rfl (by decide) u6 k (strs ((d.needed.take k).map (nameS view d))) rfl (ho1.alloc _) ⟨v1.heap.size, 0, none⟩ 1 1 [.string s] rfl rfl (cell_one _ _ _) (fun u hu => by simp at hu; subst hu; rfl) (by unfold maxLen; omega) (by omega) (by simp; omega) ?_
        intro v' w1 hown1 hgrow _
        have HO2 := Lib.hid (show w1.ownsRow (R + 1) 9 1 v' (k + 1) (strs ((d.needed.take (k + 1)).map (nameS view d))) from by
          rw [HTK.out, List.map_append, List.map_cons, List.map_nil, HS2.out, strs_snoc]
          exact hown1)
        have HA2 := Lib.hid (show ∀ a ∈ d.needed.take (k + 1), nameS view d a ≠ ⟨#[]⟩ from fun a ha => by
          rw [HTK.out] at ha
          rcases List.mem_append.1 ha with h | h
          · exact HA.out a h
          · rw [List.mem_singleton.1 h, HS2.out]; exact he)
        have HK2 := Lib.hid ((HK1.out.alloc _).grown hgrow (fun e => by have := (ho1.lt _ e.symm).1; omega))
        have HBE2 := Lib.hid ((HBE1.out.alloc (by omega) (.cells #[.string s] 9)).grown hgrow (by simp; omega) (fun j e => by have := (ho1.lt _ e).1; omega))
        have hws2 : R + 1 ≤ w1.heap.size := by have := hgrow.size; simp at this; omega
        clear hown1 hgrow ho1 HO HK HBE HO1 HK1 HBE1 HO0 HB0 HBe0 x0 x1 x2 x3 x4 x5 x6 x7 x8
        go_wp2_with fail
        go_roundw
        case rel => exact ⟨k + 1, by omega, by go_num, HO2, HA2, HK2, HBE2, hws2⟩
        case measure => simp [intOf]; omega
    · obtain rfl : k = n := by omega
      have htk : d.needed.take k = d.needed := List.take_of_length_le (by rw [HNL.out]; exact Nat.le_refl _)
      rw [htk] at HO HA
      have HYES := Lib.hid (HB.out HA.out)
      obtain ⟨hlen, A', c', rfl, hrow⟩ := strRow_own HO.out (fun x hx => by
        obtain ⟨a, _, rfl⟩ := List.mem_map.1 hx
        have := HSZ.out a
        unfold maxLen
        omega)
      have HRO := Lib.hid hrow
      have HLEN := Lib.hid hlen
      clear htk hrow hlen
      go_wp2
      go_ret2
      obtain ⟨q1, q2⟩ := HYES.out
      rw [q1, q2]
      exact ⟨A', c', by first | rfl | (rw [← HLEN.out]), HRO.out, by rw [hR]; exact HBE.out⟩
end Go.Proofs.YtmbglkebgeomcaaDoor
