/- The reference of layer 4: Build, where no disk can be made. -/
import Derived.Test.YtmbjflcmbenbdaaDoorFRa
import Derived.Test.YtmbjflcmbenbdaaDoorFNo
import Derived.Test.YtmbjflcmbenbdaaDoorFFew
import Derived.Test.YtmbjflcmbenbdaaDoorFOp
import Derived.Test.YtmbjflcmbenbdaaDoorOwnB
namespace Go.Proofs.YtmbjflcmbenbdaaDoor
open Go.RowKit Go.Shelf
set_option linter.unusedVariables false
set_option linter.unusedSimpArgs false

theorem beq_no4 {a b : ByteArray} (h : a ≠ b) : (a.toList == b.toList) = false := by
  have h2 : a.toList ≠ b.toList := fun e => h (by
    have h3 : a.data.toList = b.data.toList := by rw [← ByteArray.toList_eq, e, ByteArray.toList_eq]
    rw [← mkb_of a, h3, mkb_of])
  simpa using h2
theorem take_ok {fs : List Fl} {k : Nat} (hk : k < fs.length) (h : namesOk (fs.take k)) (h1 : nameOk fs[k].name = true) (h2 : ∀ i (hi : i < fs.length), i < k → fs[i].name ≠ fs[k].name) : namesOk (fs.take (k + 1)) := by
  rw [List.take_succ_eq_append_getElem hk, namesOk_snoc]
  refine ⟨h, h1, fun hm => ?_⟩
  obtain ⟨f, hf, e⟩ := List.mem_map.1 hm
  obtain ⟨i, hi, rfl⟩ := List.getElem_of_mem hf
  have hi1 : i < k := by rw [List.length_take] at hi; omega
  rw [List.getElem_take] at e
  exact h2 i (by omega) hi1 e

set_option maxRecDepth 100000 in
set_option maxHeartbeats 1600000 in
theorem rbuild_low (v : Value) (s : Int) (w : World) (h : s < 1) : Calls Tryd.prog 6 #[v, .int .i64 s] w (NotBuilt w) := by
  unfold NotBuilt
  go_enter Tryd.func6, Tryd.ntmps6
  go_wp2
  go_ret2
  exact ⟨rfl, Below.refl _ _⟩
set_option maxRecDepth 100000 in
set_option maxHeartbeats 4000000 in
theorem rbuild_bad (A : Option Addr) (c n : Nat) (fs : List Fl) (s : Int) (w : World) (hn : fs.length = n) (hf : FileRow w (.slice A n c) fs) (hm : n ≤ 8) (hsm : Small8 fs) (hbad : ¬ namesOk fs) (h1 : 1 ≤ s) :
    Calls Tryd.prog 6 #[.slice A n c, .int .i64 s] w (NotBuilt w) := by
  unfold NotBuilt
  have HAT := Lib.hid (fun k hk => hf.at_ k hk)
  have HSM := Lib.hid hsm
  have HN := Lib.hid hn
  have HBD := Lib.hid hbad
  clear hf hsm hn hbad
  go_enter Tryd.func6, Tryd.ntmps6
  go_wp2
  go_loopw [6, 7] (fun a i wr => ∃ k q S : Nat, k ≤ n ∧ i = .int .i64 k ∧ a = .int .i64 S ∧ S ≤ 9 + 16 * k ∧ Hid (namesOk (fs.take k)) ∧ wr = w.drewN q) (fun _ i _ => n - (intOf i).toNat)
  case atStart => exact ⟨0, 0, 1 + n, Nat.zero_le _, rfl, by go_num, by omega, Lib.hid namesOk_nil, (World.drewN_zero w).symm⟩
  case round =>
    obtain ⟨k, q, S, hk, rfl, rfl, hS, hok, rfl⟩ := hrel
    by_cases hlt : k < n
    · have hkl : k < fs.length := by rw [HN.out]; exact hlt
      obtain ⟨g, rfl, hg, d0, d1⟩ := HAT.out k hkl
      have hsz := HSM.out _ (List.getElem_mem hkl)
      have HCK := Lib.hid (fun v => rcheck_any fs[k].name v (by unfold maxLen; omega))
      have HPG := Lib.hid (fun v => rpages_any fs[k].data.size v (by omega))
      have hpg : pgs fs[k].data.size ≤ 16 := by unfold pgs; omega
      have HOTH := Lib.hid (fun j (hj : j < fs.length) => show w.cell? ⟨g, j * 2, none⟩ = some (.string fs[j].name) from by
        obtain ⟨g', e, _, h, _⟩ := HAT.out j hj
        cases e
        exact h)
      have k0 : (0 : Int) ≤ (k : Int) := by omega
      have k1 : (k : Int) < (n : Int) := by omega
      by_cases hgood : nameOk fs[k].name = true
      · have HGD := Lib.hid hgood
        rw [hgood] at HCK
        clear hgood
        go_wp2_with (go_at_call 24; refine (HCK.out _).mono ?_; rintro e v1 ⟨rfl, rfl⟩)
        go_loopw [9] (fun j wr => ∃ t r : Nat, t ≤ k ∧ j = .int .i64 t ∧ Hid (∀ i (hi : i < fs.length), i < t → fs[i].name ≠ fs[k].name) ∧ wr = w.drewN r) (fun j _ => k - (intOf j).toNat)
        case atStart => exact ⟨0, q, Nat.zero_le _, rfl, Lib.hid (fun i _ h => by omega), rfl⟩
        case round =>
          obtain ⟨t, r, ht, rfl, hno, rfl⟩ := hrel
          by_cases hlt2 : t < k
          · have htl : t < fs.length := by omega
            have c1 := HOTH.out t htl
            have t0 : (0 : Int) ≤ (t : Int) := by omega
            have t1 : (t : Int) < (n : Int) := by omega
            by_cases heq : fs[t].name = fs[k].name
            · rw [heq] at c1
              generalize fs[k].name = nk at *
              clear heq
              go_wp2
              go_quiet (fail)
              go_wp2
              go_ret2
              exact ⟨rfl, Go.Proofs.YtmbjflcmbenbdaaDoor.Below.drewN (Go.Proofs.YtmbjflcmbenbdaaDoor.Below.drewN (Below.refl _ w) _) _⟩
            · have HNO := Lib.hid (fun i (hi : i < fs.length) (h : i < t + 1) => show fs[i].name ≠ fs[k].name from by
                rcases Nat.lt_or_ge i t with h1 | h1
                · exact hno.out i hi h1
                · have : i = t := by omega
                  subst this
                  exact heq)
              have hx := beq_no4 heq
              clear heq hno
              generalize fs[t].name = nt at *
              go_wp2
              go_quiet (fail)
              go_wp2
              go_roundw
              case rel => exact ⟨t + 1, _, by omega, by go_num, Lib.hid HNO.out, rfl⟩
              case measure => simp [intOf]; omega
          · obtain rfl : t = k := by omega
            have HK := Lib.hid (take_ok hkl hok.out HGD.out hno.out)
            have hpg2 := hpg
            generalize pgs fs[t].data.size = pg at *
            clear hno
            go_wp2_with (go_at_call 25; refine (HPG.out _).mono ?_; rintro e v1 ⟨rfl, rfl⟩)
            go_roundw
            case rel => exact ⟨t + 1, r, S + pg, by omega, by go_num, by go_num, by omega, HK, rfl⟩
            case measure => simp [intOf]; omega
      · have hbd : nameOk fs[k].name = false := by simpa using hgood
        rw [hbd] at HCK
        clear hgood hbd
        go_wp2_with (go_at_call 24; refine (HCK.out _).mono ?_; rintro e v1 ⟨rfl, rfl⟩)
        go_ret2
        exact ⟨rfl, Go.Proofs.YtmbjflcmbenbdaaDoor.Below.drewN (Below.refl _ w) _⟩
    · obtain rfl : k = n := by omega
      have h := hok.out
      rw [← HN.out, List.take_length] at h
      exact absurd h HBD.out
end Go.Proofs.YtmbjflcmbenbdaaDoor

/- The reference of layer 4: what lies while Build runs. -/
namespace Go.Proofs.YtmbjflcmbenbdaaDoor
open Go.RowKit Go.Shelf
set_option linter.unusedVariables false
set_option linter.unusedSimpArgs false

/-- How they lie: a row of inodes, and a row of sectors. -/
structure RSt (W : World) (B gi : Nat) (fs : List Fl) (ex : List (List (Nat × Nat))) (vs : List Value) (dv : Value) (dat : List ByteArray) : Prop where
  bi : Blk W gi 67 (inoCells (inosOf fs ex) vs).toArray
  lenv : vs.length = fs.length
  lenx : ex.length = fs.length
  own : ∀ j (h : j < ex.length) (h' : j < vs.length), W.ownsRow B 70 2 vs[j] ex[j].length (extCells ex[j])
  apart : ∀ i j (hi : i < vs.length) (hj : j < vs.length) g, vs[i].ownBlock = some g → vs[j].ownBlock = some g → i = j
  dat : W.ownsRow B 9 1 dv dat.length (strs dat)
section
variable {W W' : World} {B gi : Nat} {fs : List Fl} {ex : List (List (Nat × Nat))} {vs : List Value} {dv : Value} {dat : List ByteArray}
theorem RSt.below (h : RSt W B gi fs ex vs dv dat) (hb : Below W.heap.size W W') : RSt W' B gi fs ex vs dv dat :=
  ⟨h.bi.below hb h.bi.lt, h.lenv, h.lenx, fun j hj hj' => own_by (h.own j hj hj') (fun g cur _ _ hg => hg.below hb hg.lt), h.apart, own_by h.dat (fun g cur _ _ hg => hg.below hb hg.lt)⟩
theorem RSt.alloc (h : RSt W B gi fs ex vs dv dat) (o : Obj) : RSt (W.alloc o) B gi fs ex vs dv dat := h.below ((Below.refl _ _).alloc (Nat.le_refl _) o)
theorem RSt.drew (h : RSt W B gi fs ex vs dv dat) : RSt W.drew B gi fs ex vs dv dat := h.below (Below.refl _ _).drew
theorem RSt.ext_at (h : RSt W B gi fs ex vs dv dat) (i : Nat) (hi : i < fs.length) (hv : i < vs.length) : W.cell? ⟨gi, i * 3 + 2, none⟩ = some vs[i] := by
  obtain ⟨_, _, e⟩ := inoCells_at (inosOf fs ex) vs i (by rw [inosOf_length h.lenx]; exact hi) hv
  exact h.bi.at_ _ _ (by simpa using e)
theorem own_type {B e size n g : Nat} {v : Value} {xs : List Value} {t : TypeId} {cs : Array Value} (h : W.ownsRow B e size v n xs) (hg : v.ownBlock = some g) (hb : Blk W g t cs) : t = e := by
  obtain ⟨_, cur, hc⟩ := own_blk h hg
  exact hb.two hc
/-- One more extent of file i. -/
theorem RSt.push (h : RSt W B gi fs ex vs dv dat) (i : Nat) (hi : i < fs.length) (hx : i < ex.length) (hv : i < vs.length) (e : Nat × Nat) (v' : Value) (hg : W.grownBy W' vs[i].ownBlock)
    (ho : W'.ownsRow B 70 2 v' (ex[i].length + 1) (extCells ex[i] ++ [.int .i64 e.1, .int .i64 e.2])) (hat : v'.ownBlock = vs[i].ownBlock ∨ v'.ownBlock = some W.heap.size) :
    RSt (W'.setCell ⟨gi, i * 3 + 2, none⟩ v') B gi fs (ex.set i (ex[i] ++ [e])) (vs.set i v') dv dat := by
  have hi1 : Blk W' gi 67 (inoCells (inosOf fs ex) vs).toArray := h.bi.grown hg (fun e => h.bi.not_row (by decide) (h.own i hx hv) e.symm)
  have hil : i < (inosOf fs ex).length := by rw [inosOf_length h.lenx]; exact hi
  have hlt : ∀ j (hj : j < vs.length) (hjx : j < ex.length) g, vs[j].ownBlock = some g → g < W.heap.size := fun j hj hjx g hgb => by
    have := (h.own j hjx hj).lt g hgb
    exact this.2
  refine ⟨?_, by simpa using h.lenv, by simpa using h.lenx, fun j hj hj' => ?_, fun a b ha hb g ga gb => ?_, ?_⟩
  · have := hi1.set_ (i * 3 + 2) v'
    rw [inosOf_set _ hil, inoCells_set_ext _ _ _ _ _ hil hv]
    simpa using this
  · simp only [List.getElem_set]
    simp only [List.length_set] at hj hj'
    by_cases hji : i = j
    · subst hji
      simp only [if_true]
      have hne := hi1.not_row (by decide) ho
      rw [List.length_append, List.length_cons, List.length_nil, Nat.zero_add, extCells_snoc]
      exact own_far ho hne _
    · simp only [if_neg hji]
      have h1 : W'.ownsRow B 70 2 vs[j] ex[j].length (extCells ex[j]) := (h.own j hj hj').kept hg (by
        cases hb : vs[j].ownBlock with
        | none => exact .inl rfl
        | some g => exact .inr (fun e => hji (h.apart i j hv hj' g e.symm hb)))
      exact own_far h1 (hi1.not_row (by decide) h1) _
  · simp only [List.length_set] at ha hb
    simp only [List.getElem_set] at ga gb
    by_cases h1 : i = a
    · by_cases h2 : i = b
      · omega
      · rw [if_pos h1] at ga
        rw [if_neg h2] at gb
        have := hlt b hb (by have := h.lenv; have := h.lenx; omega) g gb
        rcases hat with e | e
        · rw [e] at ga
          have := h.apart i b hv hb g ga gb
          omega
        · rw [e] at ga
          simp at ga
          omega
    · rw [if_neg h1] at ga
      by_cases h2 : i = b
      · rw [if_pos h2] at gb
        have := hlt a ha (by have := h.lenv; have := h.lenx; omega) g ga
        rcases hat with e | e
        · rw [e] at gb
          have := h.apart i a hv ha g gb ga
          omega
        · rw [e] at gb
          simp at gb
          omega
      · rw [if_neg h2] at gb
        exact h.apart a b ha hb g ga gb
  · refine own_by h.dat (fun g cur hgd _ hb => ?_)
    have hb1 : Blk W' g 9 cur := hb.grown hg (fun e => by
      have h2 := own_type (h.own i hx hv) e.symm hb
      revert h2
      decide)
    refine hb1.far (p := ⟨gi, i * 3 + 2, none⟩) (fun e => ?_) _
    have e' : g = gi := e
    subst e'
    have h2 := hb1.two hi1
    revert h2
    decide
/-- One more sector. -/
theorem RSt.app (h : RSt W B gi fs ex vs dv dat) (x : ByteArray) (dv' : Value) (hg : W.grownBy W' dv.ownBlock) (ho : W'.ownsRow B 9 1 dv' (dat.length + 1) (strs dat ++ [.string x])) : RSt W' B gi fs ex vs dv' (dat ++ [x]) := by
  refine ⟨h.bi.grown hg (fun e => by have h2 := own_type h.dat e.symm h.bi; revert h2; decide), h.lenv, h.lenx, fun j hj hj' => own_by (h.own j hj hj') (fun g cur _ _ hb => hb.grown hg (fun e => by have h2 := own_type h.dat e.symm hb; revert h2; decide)), h.apart, ?_⟩
  rw [List.length_append]
  unfold strs at *
  rw [List.map_append]
  exact ho
end
theorem strs_snoc (l : List ByteArray) (x : ByteArray) : strs (l ++ [x]) = strs l ++ [.string x] := by simp [strs]
theorem pagesL_snoc (d : ByteArray) (a n : Nat) : pagesL d a (n + 1) = pagesL d a n ++ [pageOf d (a + n)] := by
  unfold pagesL
  rw [List.range_succ, List.map_append]
  rfl
/-- A page of the reference. -/
theorem fillS_page (d : ByteArray) (q : Nat) : fillS (d.extract (64 * q) d.size) 64 = pageOf d q := by
  unfold fillS pageOf
  rw [if_neg (by decide), extract_mkb, mkb_data]
  rw [List.take_of_length_le (by rw [List.length_drop, len_data]; omega)]
  rfl
theorem cuts_at2 {n s t : Nat} {C : Nat} (h : (cutsL n s)[t]? = some C) : (cutsL n s).getD t 0 = C := by rw [List.getD, h]; rfl
end Go.Proofs.YtmbjflcmbenbdaaDoor
