/- Package files: names, the map of names, pages, Clone, trimming. -/
import Derived.Test.YtmbjflcmbenbdaaDoorBA
import Derived.Test.YtmbjflcmbenbdaaDoorOctE
import Derived.Maps.OwnSet
import Derived.Lib.Bytealg
import Derived.Laws.Externs
namespace Go.Proofs.YtmbjflcmbenbdaaDoor
open Go.RowKit Go.Maps Go.WideMaps
set_option linter.unusedVariables false
set_option linter.unusedSimpArgs false

@[go_sem] theorem call_indexByteString (s : ByteArray) (c : Int) (w : World) : (callFunc 95 #[.string s, .int .u8 c]).run Tryd.prog w = .ok (.value (.int .i64 (Lib.indexByte s.data.toList c.toNat.toUInt8))) w := by
  rw [run_callFunc_extern (e := Extern.BytealgIndexByte.indexByte) Tryd.func95 (by kernel_rfl) (by kernel_rfl) (by kernel_rfl) (by kernel_rfl), Lib.run_indexByteString]
  rfl

theorem indexByte_neg : ∀ (l : List UInt8) (c : UInt8), Lib.indexByte l c < 0 ↔ c ∉ l
  | [], c => by simp [Lib.indexByte]
  | b :: l, c => by
    have ih := indexByte_neg l c
    have hg := Lib.indexByte_ge l c
    unfold Lib.indexByte
    by_cases hb : b = c
    · subst hb; simp
    · have hbc : (b == c) = false := by simpa using hb
      simp only [hbc, Bool.false_eq_true, if_false, List.mem_cons, not_or]
      by_cases h1 : Lib.indexByte l c = -1
      · simp [h1]
        exact ⟨fun e => hb e.symm, ih.1 (by omega)⟩
      · have : (Lib.indexByte l c == -1) = false := by simpa using h1
        simp only [this, Bool.false_eq_true, if_false]
        constructor
        · intro h; omega
        · intro h; exact absurd (ih.2 h.2) (by omega)

theorem sindexbyte_any (s : ByteArray) (w : World) : Calls Tryd.prog 91 #[.string s, .int .u8 0] w fun e w' => e = .returned (.int .i64 (Lib.indexByte s.data.toList 0)) ∧ w = w' := by
  go_enter Tryd.func91, Tryd.ntmps91
  go_wp2
  go_ret
  exact ⟨rfl, rfl⟩
theorem indexbyte_any (s : ByteArray) (w : World) : Calls Tryd.prog 83 #[.string s, .int .u8 0] w fun e w' => e = .returned (.int .i64 (Lib.indexByte s.data.toList 0)) ∧ w = w' := by
  have H := Lib.hid (sindexbyte_any s)
  go_enter Tryd.func83, Tryd.ntmps83
  go_wp2_with (go_at_call 91; refine (H.out _).mono ?_; rintro e v1 ⟨rfl, rfl⟩)
  go_ret
  exact ⟨rfl, rfl⟩

/-- May this be a name? -/
def nameOk (s : ByteArray) : Bool := decide (1 ≤ s.size) && decide (s.size ≤ 24) && !s.data.toList.contains 0
theorem nameOk_iff {s : ByteArray} : nameOk s = true ↔ 1 ≤ s.size ∧ s.size ≤ 24 ∧ (0 : UInt8) ∉ s.data.toList := by
  simp [nameOk, and_assoc]

set_option maxHeartbeats 400000 in
theorem check_any (s : ByteArray) (w : World) : Calls Tryd.prog 68 #[.string s] w fun e w' => e = .returned (.bool (nameOk s)) ∧ w = w' := by
  have hi := indexByte_neg s.data.toList 0
  have H := Lib.hid (indexbyte_any s)
  by_cases h1 : 1 ≤ s.size
  · by_cases h2 : s.size ≤ 24
    · by_cases h3 : (0 : UInt8) ∈ s.data.toList
      · have e : nameOk s = false := by simp [nameOk, h3]
        have hx : decide (Lib.indexByte s.data.toList 0 < 0) = false := decide_eq_false fun h => hi.1 h h3
        rw [e]; clear e hi h3
        generalize Lib.indexByte s.data.toList 0 = z at *
        go_enter Tryd.func68, Tryd.ntmps68
        go_wp2_with (go_at_call 83; refine (H.out _).mono ?_; rintro e v1 ⟨rfl, rfl⟩)
        go_ret
        exact ⟨rfl, rfl⟩
      · have e : nameOk s = true := nameOk_iff.2 ⟨h1, h2, h3⟩
        have hx : decide (Lib.indexByte s.data.toList 0 < 0) = true := decide_eq_true (hi.2 h3)
        rw [e]; clear e hi h3
        generalize Lib.indexByte s.data.toList 0 = z at *
        go_enter Tryd.func68, Tryd.ntmps68
        go_wp2_with (go_at_call 83; refine (H.out _).mono ?_; rintro e v1 ⟨rfl, rfl⟩)
        go_ret
        exact ⟨rfl, rfl⟩
    · have e : nameOk s = false := by simp [nameOk, h2]
      rw [e]; clear e hi H
      go_enter Tryd.func68, Tryd.ntmps68
      go_wp2
      go_ret
      exact ⟨rfl, rfl⟩
  · have e : nameOk s = false := by simp [nameOk, h1]
    rw [e]; clear e hi H
    go_enter Tryd.func68, Tryd.ntmps68
    go_wp2
    go_ret
    exact ⟨rfl, rfl⟩

theorem snocInd {α : Type} {p : List α → Prop} (h0 : p []) (h1 : ∀ l x, p l → p (l ++ [x])) (l : List α) : p l := by
  have key : ∀ r : List α, p r.reverse := by
    intro r
    induction r with
    | nil => exact h0
    | cons x r ih => rw [List.reverse_cons]; exact h1 _ _ ih
  have := key l.reverse
  rwa [List.reverse_reverse] at this

/-- The map of names: each one's number. -/
def keyOfS (s : ByteArray) : Lit := .string s.data.toList
def numD (ns : List ByteArray) : DataW Unit := ns.zipIdx.foldl (fun D p => D.put (keyOfS p.1) (.lit (.int .i64 (p.2 : Int)))) (.map [])
theorem numD_snoc (ns : List ByteArray) (s : ByteArray) : numD (ns ++ [s]) = (numD ns).put (keyOfS s) (.lit (.int .i64 (ns.length : Int))) := by
  unfold numD
  rw [List.zipIdx_append, List.foldl_append]
  simp
theorem keyOfS_inj {a b : ByteArray} (h : keyOfS a = keyOfS b) : a = b := by
  have h1 : a.data.toList = b.data.toList := by simpa [keyOfS] using h
  rw [← mkb_of a, h1, mkb_of]
theorem numD_isMap (ns : List ByteArray) : IsMap (numD ns) := by
  have key : ∀ (l : List (ByteArray × Nat)) (D : DataW Unit), IsMap D → IsMap (l.foldl (fun D p => D.put (keyOfS p.1) (.lit (.int .i64 (p.2 : Int)))) D) := by
    intro l
    induction l with
    | nil => exact fun D h => h
    | cons x l ih => exact fun D h => ih _ (h.put _ _)
  exact key _ _ isMap_empty
theorem numD_has (ns : List ByteArray) (s : ByteArray) : Maps.has (numD ns) (keyOfS s) = true ↔ s ∈ ns := by
  refine snocInd (p := fun ns => Maps.has (numD ns) (keyOfS s) = true ↔ s ∈ ns) ?_ ?_ ns
  · simp [numD, Maps.has]
  · intro l t ih
    rw [numD_snoc]
    by_cases h : s = t
    · subst h
      rw [has_put_same (numD_isMap l) (by simp [keyOfS, WideAt.IsKeyLit])]
      simp
    · rw [has_put_other (fun e => h (keyOfS_inj e)), ih]
      simp [h]
theorem numD_has_no {ns : List ByteArray} {s : ByteArray} (h : s ∉ ns) : Maps.has (numD ns) (keyOfS s) = false := by
  cases e : Maps.has (numD ns) (keyOfS s) with
  | false => rfl
  | true => exact absurd ((numD_has ns s).1 e) h
theorem numD_at (ns : List ByteArray) (hn : ns.Nodup) (i : Nat) (hi : i < ns.length) (z : DataW Unit) : (numD ns).atKey (keyOfS ns[i]) z = .lit (.int .i64 (i : Int)) := by
  revert i
  refine snocInd (p := fun ns => ns.Nodup → ∀ i (hi : i < ns.length), (numD ns).atKey (keyOfS ns[i]) z = .lit (.int .i64 (i : Int))) ?_ ?_ ns hn
  · intro _ i hi
    simp at hi
  · intro l t ih hn i hi
    rw [numD_snoc]
    rw [List.nodup_append] at hn
    by_cases h : i = l.length
    · subst h
      rw [List.getElem_append_right (Nat.le_refl _)]
      simp only [Nat.sub_self, List.getElem_cons_zero]
      exact atKey_put_same (numD_isMap l) (by simp [keyOfS, WideAt.IsKeyLit]) _ _
    · have hl : i < l.length := by simp at hi; omega
      rw [List.getElem_append_left hl, atKey_put_other (fun e => ?_), ih hn.1 i hl]
      have := keyOfS_inj e
      exact hn.2.2 _ (List.getElem_mem hl) t (by simp) this
theorem numD_none (ns : List ByteArray) (s : ByteArray) (h : s ∉ ns) (z : DataW Unit) : (numD ns).atKey (keyOfS s) z = z := atKey_of_not_has (numD_has_no h) z

/-- The map of these names lies at b. -/
def NumMap (w : World) (b : Nat) (ns : List ByteArray) : Prop := w.ownsMap Tryd.prog 9 (plainElem (H := Unit) Tryd.prog 3) b ns.length (numD ns)
theorem NumMap.but {S : Nat → Prop} {w w' : World} {b : Nat} {ns : List ByteArray} (h : NumMap w b ns) (hb : But S w w') (hS : ¬ S b) : NumMap w' b ns := by
  obtain ⟨es, clock, h1, r⟩ := h
  exact ⟨es, clock, (hb.block b (Array.getElem?_eq_some_iff.1 h1).1 hS).trans h1, r⟩
theorem NumMap.below {B : Nat} {w w' : World} {b : Nat} {ns : List ByteArray} (h : NumMap w b ns) (hb : Below B w w') (hS : b < B) : NumMap w' b ns := by
  obtain ⟨es, clock, h1, r⟩ := h
  exact ⟨es, clock, (hb.block b hS).trans h1, r⟩
theorem NumMap.made (w : World) : NumMap (w.alloc (.map #[] 0)) w.heap.size [] := World.ownsMap_made _ _ _ _
theorem keyLaw : Keyed Tryd.prog 9 := string_keyed Tryd.underlying9
theorem zeroInt (w : World) : (zeroValue 3).run Tryd.prog w = .ok (.int .i64 0) w := by kernel_rfl
theorem keyOk {s : ByteArray} (h : s.size ≤ maxLen) : keyOf Tryd.prog 9 (.string s) = some (keyOfS s) := keyOf_string_mk Tryd.underlying9 h

set_option maxHeartbeats 800000 in
theorem enter_no (b : Nat) (ns : List ByteArray) (s : ByteArray) (i : Int) (w : World) (h : NumMap w b ns) (hs : s.size ≤ maxLen) (hn : s ∈ ns ∨ nameOk s = false) :
    Calls Tryd.prog 47 #[.map (some b), .string s, .int .i64 i] w fun e w' => e = .returned (.bool false) ∧ w = w' := by
  have hkey := keyOk hs
  have hc := fun w => check_any s w
  by_cases h1 : s ∈ ns
  · have hh := (numD_has ns s).2 h1
    have HO := Lib.hid h
    have HK := Lib.hid hkey
    have HH := Lib.hid hh
    clear h hkey hh hc
    go_enter Tryd.func47, Tryd.ntmps47
    go_wp2_with (at_lookup; refine wpList_lookup_own_ok_int _ rfl _ _ 98 rfl 9 3 .i64 keyLaw Tryd.underlying98 Tryd.underlying3 (zeroInt _) b ns.length _ rfl HO.out _ _ rfl HK.out ?_; intro c hat hwc; rw [HH.out]; clear hat)
    go_ret
    exact ⟨rfl, rfl⟩
  · have hh := numD_has_no h1
    rcases hn with hn | hn
    · exact absurd hn h1
    rw [hn] at hc
    have HO := Lib.hid h
    have HK := Lib.hid hkey
    have HH := Lib.hid hh
    have HC := Lib.hid hc
    clear h hkey hh hc
    go_enter Tryd.func47, Tryd.ntmps47
    go_wp2_with (first
      | (at_lookup; refine wpList_lookup_own_ok_int _ rfl _ _ 98 rfl 9 3 .i64 keyLaw Tryd.underlying98 Tryd.underlying3 (zeroInt _) b ns.length _ rfl HO.out _ _ rfl HK.out ?_; intro c hat hwc; rw [HH.out]; clear hat)
      | (go_at_call 68; refine (HC.out _).mono ?_; rintro e v1 ⟨rfl, rfl⟩))
    go_ret
    exact ⟨rfl, rfl⟩

set_option maxRecDepth 100000 in
set_option maxHeartbeats 800000 in
theorem enter_yes (b : Nat) (ns : List ByteArray) (s : ByteArray) (w : World) (h : NumMap w b ns) (hl : ns.length < 100000) (hs : nameOk s = true) (hn : s ∉ ns) :
    Calls Tryd.prog 47 #[.map (some b), .string s, .int .i64 ns.length] w fun e w' => e = .returned (.bool true) ∧ But (· = b) w w' ∧ NumMap w' b (ns ++ [s]) := by
  have hsz : s.size ≤ 24 := (nameOk_iff.1 hs).2.1
  have hkey := keyOk (s := s) (by unfold maxLen; omega)
  have hh := numD_has_no hn
  have hc := fun w => check_any s w
  rw [hs] at hc
  have hfin : ∀ w1, w1.ownsMap Tryd.prog 9 (plainElem (H := Unit) Tryd.prog 3) b (ns.length + 1) ((numD ns).put (keyOfS s) (.lit (.int .i64 (ns.length : Int)))) → NumMap w1 b (ns ++ [s]) := fun w1 h1 => by
    unfold NumMap
    rw [numD_snoc, List.length_append]
    exact h1
  have HO := Lib.hid h
  have HK := Lib.hid hkey
  have HH := Lib.hid hh
  have HC := Lib.hid hc
  have HF := Lib.hid hfin
  clear h hkey hh hc hs hn hsz hfin
  go_enter Tryd.func47, Tryd.ntmps47
  go_wp2_with (first
    | (at_lookup; refine wpList_lookup_own_ok_int _ rfl _ _ 98 rfl 9 3 .i64 keyLaw Tryd.underlying98 Tryd.underlying3 (zeroInt _) b ns.length _ rfl HO.out _ _ rfl HK.out ?_; intro c hat hwc; rw [HH.out]; clear hat)
    | (go_at_call 68; refine (HC.out _).mono ?_; rintro e v1 ⟨rfl, rfl⟩)
    | (at_mapUpdate; refine wpList_mapUpdate_own _ rfl _ _ _ 98 rfl 9 3 keyLaw Tryd.underlying98 _ b ns.length _ rfl HO.out (by unfold maxLen; omega) _ _ _ rfl rfl HK.out _ [] (plainElem_int Tryd.underlying3 (WalkArith.wf_i64 (by omega))) ?_; intro w1 hown1 hgrow1; have HW := Lib.hid hown1; have HG := Lib.hid hgrow1; clear hown1 hgrow1))
  go_ret
  exact ⟨rfl, (But.refl _ w).grown HG.out (fun k e => by injection e with e; exact .inl e.symm), HF.out _ HW.out⟩

/-- How many pages so many bytes take. -/
def pgs (n : Nat) : Nat := (n + 63) / 64
set_option maxHeartbeats 400000 in
theorem pages_any (n : Nat) (w : World) (hn : n ≤ 2147483648) : Calls Tryd.prog 53 #[.int .i64 n] w fun e w' => e = .returned (.int .i64 (pgs n)) ∧ w = w' := by
  have h := fun w => round_any n 64 w (WalkArith.wf_i64 (by omega)) (by decide)
  obtain ⟨M, hM, hM2⟩ : ∃ M : Nat, rndTo n 64 = M ∧ M / 64 = pgs n ∧ M ≤ 2147483712 := by
    unfold rndTo rndOk pgs
    by_cases hz : (n : Int) % 64 = 0
    · refine ⟨n, ?_, by omega, by omega⟩
      simp only [hz]
      rw [if_pos (by simp; omega)]
      simp
    · refine ⟨n + (64 - n % 64), ?_, by omega, by omega⟩
      rw [if_pos (by simp [hz]; omega), if_neg hz]
      omega
  obtain ⟨hM2, hM3⟩ := hM2
  rw [hM] at h
  have hq : (pgs n : Int) = (M : Int) / 64 := by omega
  rw [hq]
  generalize rndOk n 64 = ok at *
  clear hM hq hM2
  have H := Lib.hid h
  clear h
  go_enter Tryd.func53, Tryd.ntmps53
  go_wp2_with (go_at_call 70; refine (H.out _).mono ?_; rintro e v1 ⟨rfl, rfl⟩)
  go_ret
  exact ⟨rfl, rfl⟩

/-- strings.trimRightByte at a text without bytes 0, and bytes 0 behind. -/
theorem trim_step (l : List UInt8) : ∃ N, (mkb (l ++ [0])).size = N + 1 ∧ (mkb (l ++ [0])).extract 0 N = mkb l ∧ ∀ h, (mkb (l ++ [0]))[N]'h = 0 := by
  refine ⟨l.length, by rw [mkb_size]; simp, ?_, fun h => ?_⟩
  · rw [extract_mkb, mkb_data]; simp
  · rw [ByteArray.getElem_eq_getElem_data]
    simp [mkb]
set_option maxHeartbeats 800000 in
theorem trimbyte_any (s : ByteArray) (j : Nat) (w : World) (h : (0 : UInt8) ∉ s.data.toList) (hs : s.size + j ≤ 1000) :
    Calls Tryd.prog 78 #[.string (mkb (s.data.toList ++ List.replicate j 0)), .int .u8 0] w fun e w' => e = .returned (.string s) ∧ w = w' := by
  have hend : ∀ N (hp : s.size = N + 1), (s[N]'(by omega)) ≠ 0 := fun N hp e => h (by
    rw [← e, ByteArray.getElem_eq_getElem_data]
    exact Array.mem_toList_iff.2 (Array.getElem_mem _))
  go_enter Tryd.func78, Tryd.ntmps78
  go_wp2
  go_loop [0] (fun v => ∃ k : Nat, k ≤ j ∧ v = .string (mkb (s.data.toList ++ List.replicate k 0))) (fun v => match v with | .string b => b.size | _ => 0)
  case atStart => exact ⟨j, Nat.le_refl _, rfl⟩
  case round =>
    obtain ⟨k, hk, rfl⟩ := hrel
    cases k with
    | zero =>
      simp only [List.replicate_zero, List.append_nil, mkb_of]
      rcases Nat.eq_zero_or_pos s.size with hp | hp
      · go_wp2
        go_ret
        exact ⟨rfl, rfl⟩
      · obtain ⟨N, hN⟩ : ∃ N, s.size = N + 1 := ⟨s.size - 1, by omega⟩
        have hx : (((s[N]'(by omega)).toNat : Int) == 0) = false := by
          have := hend N hN
          have h2 : (s[N]'(by omega)).toNat ≠ 0 := fun e => this (UInt8.toNat_inj.1 (by simpa using e))
          simpa using h2
        have hw : wrap64 (N : Int) = N := by unfold wrap64; omega
        clear hend
        go_wp2
        go_ret
        exact ⟨rfl, rfl⟩
    | succ k =>
      obtain ⟨N, hN, hX, hZ⟩ := trim_step (s.data.toList ++ List.replicate k 0)
      rw [List.replicate_succ', ← List.append_assoc]
      have hNs : N + 1 = (s.data.toList ++ List.replicate k 0).length + 1 := by rw [← hN, mkb_size]; simp; omega
      have hM : (mkb (s.data.toList ++ List.replicate k 0)).size = N := by rw [mkb_size]; omega
      have hNl : N ≤ 1000 := by have := len_data s; simp at hNs; omega
      clear hNs
      generalize mkb (s.data.toList ++ List.replicate k 0 ++ [0]) = t at *
      have hx : ((t[N]'(by omega)).toNat : Int) = 0 := by rw [hZ]; rfl
      have hw : wrap64 (N : Int) = N := by unfold wrap64; omega
      clear hend hZ
      go_wp2
      go_round
      case rel => exact ⟨k, by omega, rfl⟩
      case measure => show (mkb _).size < t.size; omega
end Go.Proofs.YtmbjflcmbenbdaaDoor
