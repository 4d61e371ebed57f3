/- Package place: areThings; a room as it lies; from, find. -/
import Derived.Test.YtfoapghjloblnabIb
import Derived.Test.YtfoapghjloblnabIc
import Derived.Deep.CutRange
namespace Go.Proofs.Ytfoapghjloblnab
open Go.RowKit Go.ChangeShapes Go.WideShapes Go.Deep
set_option linter.unusedVariables false
set_option linter.unusedSimpArgs false

theorem all_takeI {α : Type} {f : α → Bool} {l : List α} {k : Nat} (hk : k < l.length) (h : (l.take k).all f = true) (h1 : f l[k] = true) : (l.take (k + 1)).all f = true := by
  rw [List.take_succ_eq_append_getElem hk, List.all_append, h]
  simp [h1]
theorem all_noI {α : Type} {f : α → Bool} {l : List α} {k : Nat} (hk : k < l.length) (h1 : f l[k] = false) : l.all f = false := by
  rw [List.all_eq_false]
  exact ⟨_, List.getElem_mem hk, by rw [h1]; decide⟩

set_option maxRecDepth 100000 in
set_option maxHeartbeats 3200000 in
theorem things_any (l : List (Int × Int)) (A : Option Addr) (c : Nat) (w : World) (hr : WRow w A l) (hl : l.length ≤ maxLen) :
    Calls Try.prog 8 #[.slice A l.length c] w fun e w' => e = .returned (.bool (l.all thingP)) ∧ Below w.heap.size w w' := by
  unfold maxLen at hl
  have HR := Lib.hid hr
  obtain ⟨n, hn⟩ : ∃ n, l.length = n := ⟨_, rfl⟩
  obtain ⟨rv, hrv⟩ : ∃ rv, l.all thingP = rv := ⟨_, rfl⟩
  rw [hn] at hl ⊢
  rw [hrv]
  have HN := Lib.hid hn
  have HRV := Lib.hid hrv
  clear hr hn hrv
  go_enter Try.func8, Try.ntmps8
  go_wp2_with fail
  go_loopw [7] (fun z wr => ∃ k : Nat, k ≤ n ∧ z = .int .i64 k ∧ Hid ((l.take k).all thingP = true) ∧ Hid (Below w.heap.size w wr)) (fun z _ => n - (intOf z).toNat)
  case atStart => exact ⟨0, Nat.zero_le _, rfl, Lib.hid (by simp), Lib.hid (Below.refl _ _)⟩
  case round =>
    obtain ⟨k, hk, rfl, HS, HW⟩ := hrel
    by_cases hlt : k < n
    · have hk1 : k < l.length := by rw [HN.out]; exact hlt
      obtain ⟨ad, rfl, -, -, -, c0, c1⟩ := (HR.out.below rfl HW.out).at_ hk1
      have hk0 : (0 : Int) ≤ (k : Int) := by omega
      have hk2 : (k : Int) < (n : Int) := by omega
      have HT := Lib.hid (fun (h : thingP l[k] = true) => all_takeI hk1 HS.out h)
      have HF := Lib.hid (fun (h : thingP l[k] = false) => show rv = false from by rw [← HRV.out]; exact all_noI hk1 h)
      have HB2 := Lib.hid (fun (o : Obj) => HW.out.alloc HW.out.size o)
      generalize l[k] = x at c0 c1 HT HF
      clear hk1
      have HX := Lib.hid (show thingP x = (decide (1 ≤ x.1) && decide (x.1 ≤ 1099511627776) && decide (0 ≤ x.2) && decide (x.2 ≤ 1099511627776)) from rfl)
      by_cases h1 : x.1 < 1
      · obtain rfl := HF.out (by rw [HX.out]; simp; omega)
        go_wp2_with fail
        go_ret
        exact ⟨rfl, HB2.out _⟩
      · by_cases h2 : 1099511627776 < x.1
        · obtain rfl := HF.out (by rw [HX.out]; simp; omega)
          go_wp2_with fail
          go_ret
          exact ⟨rfl, HB2.out _⟩
        · by_cases h3 : x.2 < 0
          · obtain rfl := HF.out (by rw [HX.out]; simp; omega)
            go_wp2_with fail
            go_ret
            exact ⟨rfl, HB2.out _⟩
          · by_cases h4 : 1099511627776 < x.2
            · obtain rfl := HF.out (by rw [HX.out]; simp; omega)
              go_wp2_with fail
              go_ret
              exact ⟨rfl, HB2.out _⟩
            · have HTT := Lib.hid (HT.out (by rw [HX.out]; simp; omega))
              go_wp2_with fail
              go_roundw
              case rel => exact ⟨k + 1, by omega, by go_num, HTT, Lib.hid (HB2.out _)⟩
              case measure => simp [intOf]; omega
    · have hkn : k = n := by omega
      have hr1 : rv = true := by
        have h := HS.out
        rw [hkn, ← HN.out, List.take_length] at h
        rw [← HRV.out, h]
      clear HS
      subst hr1
      go_wp2_with fail
      go_ret
      exact ⟨rfl, HW.out⟩

/-- Cells of numbers. -/
def tcells (n : Nat) (T : Nat → Int) : Array Value := ((List.range n).map fun k => Value.int .i64 (T k)).toArray
theorem tcells_at {n : Nat} (T : Nat → Int) {k : Nat} (h : k < n) : (tcells n T)[k]? = some (.int .i64 (T k)) := by simp [tcells, h]
theorem tcells_set {n : Nat} (T : Nat → Int) {k : Nat} (h : k < n) (v : Int) : (tcells n T).setIfInBounds k (.int .i64 v) = tcells n (updT T k v) := by
  apply Array.ext_getElem?
  intro i
  rw [Array.getElem?_setIfInBounds]
  by_cases hi : i < n
  · rw [tcells_at T hi, tcells_at _ hi]
    unfold updT
    by_cases e : k = i
    · subst e
      rw [if_pos rfl, if_pos rfl, if_pos (by simp [tcells]; exact h)]
    · rw [if_neg e, if_neg (Ne.symm e)]
  · rw [if_neg (by omega)]
    simp [tcells, hi]
/-- A room as it lies: its ends, its tree. -/
structure Rm (w : World) (rb eb tb : Nat) (low high : Int) (m ce : Nat) (H : Nat) (E T : Nat → Int) : Prop where
  head : Blk w rb 42 #[.int .i64 low, .int .i64 high, .slice (some ⟨eb, 0, none⟩) m ce, .slice (some ⟨tb, 0, none⟩) (2 * H) (2 * H), .int .i64 H]
  ends : ∃ cs, Blk w eb 3 cs ∧ ∀ k, k < m → cs[k]? = some (.int .i64 (E k))
  tree : Blk w tb 3 (tcells (2 * H) T)
  ne1 : rb ≠ eb
  ne2 : rb ≠ tb
  ne3 : eb ≠ tb
section
variable {w w' : World} {rb eb tb : Nat} {low high : Int} {m ce H : Nat} {E T : Nat → Int}
theorem Rm.below {n : Nat} (h : Rm w rb eb tb low high m ce H E T) (hn : n = w.heap.size) (hb : Below n w w') : Rm w' rb eb tb low high m ce H E T := by
  subst hn
  obtain ⟨cs, h1, h2⟩ := h.ends
  exact ⟨h.head.below hb h.head.lt, ⟨cs, h1.below hb h1.lt, h2⟩, h.tree.below hb h.tree.lt, h.ne1, h.ne2, h.ne3⟩
theorem Rm.endAt (h : Rm w rb eb tb low high m ce H E T) {k : Nat} (hk : k < m) : w.cell? ⟨eb, k, none⟩ = some (.int .i64 (E k)) := by
  obtain ⟨cs, h1, h2⟩ := h.ends
  exact (h1.cell k).trans (h2 k hk)
theorem Rm.treeAt (h : Rm w rb eb tb low high m ce H E T) {k : Nat} (hk : k < 2 * H) : w.cell? ⟨tb, k, none⟩ = some (.int .i64 (T k)) := (h.tree.cell k).trans (tcells_at T hk)
theorem Rm.set {k : Nat} (h : Rm w rb eb tb low high m ce H E T) (hk : k < 2 * H) (v : Int) : Rm (w.setCell ⟨tb, k, none⟩ (.int .i64 v)) rb eb tb low high m ce H E (updT T k v) := by
  obtain ⟨cs, h1, h2⟩ := h.ends
  refine ⟨h.head.far (p := ⟨tb, k, none⟩) h.ne2 _, ⟨cs, h1.far (p := ⟨tb, k, none⟩) h.ne3 _, h2⟩, ?_, h.ne1, h.ne2, h.ne3⟩
  have := h.tree.set_ k (.int .i64 v)
  rwa [tcells_set T hk] at this
theorem Rm.drew (h : Rm w rb eb tb low high m ce H E T) : Rm w.drew rb eb tb low high m ce H E T := ⟨h.head, h.ends, h.tree, h.ne1, h.ne2, h.ne3⟩
theorem Rm.drewN (h : Rm w rb eb tb low high m ce H E T) (n : Nat) : Rm (w.drewN n) rb eb tb low high m ce H E T := ⟨h.head, h.ends, h.tree, h.ne1, h.ne2, h.ne3⟩
end

set_option maxHeartbeats 800000 in
theorem from_any (rb eb tb : Nat) (low high : Int) (m ce H : Nat) (E T : Nat → Int) (i : Nat) (w : World) (h : Rm w rb eb tb low high m ce H E T) (hi : i < m) (hm : m ≤ H) (hH : H ≤ 1000000) (hE : 0 ≤ E i - T (H + i) ∧ E i - T (H + i) ≤ 1099511627776) :
    Calls Try.prog 20 #[.pointer (some ⟨rb, 0, none⟩), .int .i64 i] w fun e w' => e = .returned (.int .i64 (E i - T (H + i))) ∧ ∃ q, w' = w.drewN q := by
  have x2 := h.head.cell 2
  have x3 := h.head.cell 3
  have x4 := h.head.cell 4
  have y0 := h.endAt hi
  have y1 := h.treeAt (k := H + i) (by omega)
  obtain ⟨j, hj⟩ : ∃ j : Nat, H + i = j := ⟨_, rfl⟩
  rw [hj] at y1 hE ⊢
  have e1 : (H : Int) + (i : Int) = (j : Int) := by omega
  have e2 : IntKind.i64.wrap (j : Int) = (j : Int) := IntWalk.i64_in _ (by omega)
  have e0 : (0 : Int) ≤ (i : Int) := by omega
  have e3 : (i : Int) < (m : Int) := by omega
  have e4 : (0 : Int) ≤ (j : Int) := by omega
  have e5 : (j : Int) < ((2 * H : Nat) : Int) := by omega
  generalize E i = ei at y0 hE ⊢
  generalize T j = tj at y1 hE ⊢
  have e6 : IntKind.i64.wrap (ei - tj) = ei - tj := IntWalk.i64_in _ (by omega)
  obtain ⟨H2, hH2⟩ : ∃ n : Nat, 2 * H = n := ⟨_, rfl⟩
  rw [hH2] at x3 e5
  clear h hj hE hm hH hi hH2
  go_enter Try.func20, Try.ntmps20
  go_wp2_with fail
  go_region
  all_goals go_wp2_with fail
  all_goals go_ret
  all_goals exact ⟨rfl, _, rfl⟩

theorem wrapsI {n : Int} (h0 : 0 ≤ n) (h1 : n ≤ 4611686018427387904) : wrap64 n = n ∧ IntKind.i64.wrap n = n := ⟨IntWalk.wrap64_in _ (by omega), IntWalk.i64_in _ (by omega)⟩
/-- What find tells. -/
def FindR (H : Nat) (T : Nat → Int) (i : Nat) (s : Int) (e : Ending) : Prop :=
  (∃ k : Nat, e = .returned (.tuple #[.int .i64 k, .bool true]) ∧ i ≤ k ∧ k < H ∧ s ≤ T (H + k) ∧ ∀ x, i ≤ x → x < k → T (H + x) < s) ∨
  (e = .returned (.tuple #[.int .i64 0, .bool false]) ∧ ∀ x, i ≤ x → x < H → T (H + x) < s)
set_option maxRecDepth 100000 in
set_option maxHeartbeats 3200000 in
theorem find_anyI (rb eb tb : Nat) (low high : Int) (m ce D : Nat) (E T : Nat → Int) (i : Nat) (s : Int) (w : World) (h : Rm w rb eb tb low high m ce (2 ^ D) E T) (hT : TreeP (2 ^ D) T) (hi : i < 2 ^ D) (hH : 2 ^ D ≤ 1000000) :
    Calls Try.prog 19 #[.pointer (some ⟨rb, 0, none⟩), .int .i64 i, .int .i64 s] w fun e w' => FindR (2 ^ D) T i s e ∧ w' = w := by
  have HD := Lib.hid (show (2 : Nat) ^ (D + 1) = 2 * 2 ^ D from p2 D)
  have hst := At1.start (D := D) T s (2 ^ D + i) (by omega) (by rw [HD.out]; omega)
  have HT := Lib.hid hT
  have x3 := h.head.cell 3
  have x4 := h.head.cell 4
  have HR := Lib.hid (fun k (hk : k < 2 * 2 ^ D) => h.treeAt hk)
  obtain ⟨H, hH0⟩ : ∃ H, 2 ^ D = H := ⟨_, rfl⟩
  obtain ⟨a, ha⟩ : ∃ a : Nat, H + i = a := ⟨_, rfl⟩
  have HS := Lib.hid hH0
  have HQ := Lib.hid (show ∀ j n, At1 D T s a j n → 1 ≤ j ∧ j < 2 * H ∧ n < 2 * H from fun j n hj => by
    have := hj.lt
    rw [HD.out, hH0] at this
    exact this)
  have HQ2 := Lib.hid (show ∀ j n, At2 D T s a j n → j < 2 * H from fun j n hj => by
    have := hj.lt
    rw [HD.out, hH0] at this
    exact this)
  rw [hH0] at hst x3 x4 HR hi hH ⊢
  rw [ha] at hst
  have HST := Lib.hid hst
  have e1 : (i : Int) + (H : Int) = (a : Int) := by omega
  have e2 : IntKind.i64.wrap (a : Int) = (a : Int) := IntWalk.i64_in _ (by omega)
  have HA := Lib.hid ha
  obtain ⟨H2, hH2⟩ : ∃ n : Nat, 2 * H = n := ⟨_, rfl⟩
  rw [hH2] at x3 HQ HQ2 HR
  have HH2 := Lib.hid hH2
  have hH3 : H2 ≤ 2000000 := by omega
  clear h hT hst hH0 ha hi hH2
  go_enter Try.func19, Try.ntmps19
  go_wp2_with fail
  go_loopw [1] (fun z wr => wr = w ∧ ∃ j n : Nat, z = .int .i64 j ∧ Hid (At1 D T s a j n)) (fun z _ => H2 - lfI D (intOf z).toNat)
  case atStart => exact ⟨rfl, a, a, rfl, HST⟩
  case round =>
    obtain ⟨rfl, j, n, rfl, HJ⟩ := hrel
    have hj := HQ.out _ _ HJ.out
    have y0 := HR.out j hj.2.1
    have hj0 : (0 : Int) ≤ (j : Int) := by omega
    have hj1 : (j : Int) < (H2 : Int) := by omega
    have HTJ := Lib.hid (fun (hlt : T j < s) => by
      exact HJ.out.fall HT.out hlt)
    have HLF := Lib.hid (show n < H2 from hj.2.2)
    have HLE := Lib.hid (HJ.out.lf)
    obtain ⟨tj, htj⟩ : ∃ t, T j = t := ⟨_, rfl⟩
    rw [htj] at y0 HTJ
    have HTV := Lib.hid htj
    clear htj hj
    by_cases hlt : tj < s
    · obtain ⟨m', hnm, hA2⟩ := HTJ.out hlt
      have HA2 := Lib.hid hA2
      have HNM := Lib.hid hnm
      clear hA2 hnm HJ HTJ
      go_wp2_with fail
      go_loopw [1] (fun z wr' => wr' = wr ∧ ∃ q : Nat, z = .int .i64 q ∧ Hid (At2 D T s a q m')) (fun z _ => (intOf z).toNat)
      case atStart => exact ⟨rfl, j, rfl, HA2⟩
      case round =>
        obtain ⟨rfl, q, rfl, HQ3⟩ := hrel
        have hq := HQ2.out _ _ HQ3.out
        have hq0 : (0 : Int) ≤ (q : Int) := by omega
        by_cases ho : q % 2 = 1
        · have HU := Lib.hid (HQ3.out.up ho)
          have e3 : Int.tmod (q : Int) 2 = 1 := by rw [Int.tmod_eq_emod_of_nonneg hq0]; omega
          obtain ⟨q2, hq2⟩ : ∃ q2 : Nat, q / 2 = q2 := ⟨_, rfl⟩
          rw [hq2] at HU
          have hq3 : 2 * q2 + 1 = q := by omega
          have HM := Lib.hid (show q2 < q from by omega)
          have e4 : Int.tdiv (q : Int) 2 = (q2 : Int) := by rw [Int.tdiv_eq_ediv_of_nonneg hq0]; omega
          have hb : (0 : Int) ≤ (q2 : Int) ∧ (q2 : Int) ≤ 4611686018427387904 := by omega
          obtain ⟨e5, e6⟩ := wrapsI hb.1 hb.2
          clear hq2 hq3
          go_wp2_with fail
          go_roundw
          case rel => exact ⟨by simp, q2, rfl, HU⟩
          case measure => have := HM.out; simp [intOf]; omega
        · have e3 : Int.tmod (q : Int) 2 = 0 := by rw [Int.tmod_eq_emod_of_nonneg hq0]; omega
          by_cases hz : q = 0
          · subst hz
            have HN := Lib.hid HQ3.out.none
            go_wp2_with fail
            go_ret2
            refine ⟨.inr ⟨rfl, fun x h1 h2 => HN.out.2 _ ?_ ?_⟩, rfl⟩
            · have := HA.out; omega
            · have := HD.out; have := HS.out; omega
          · have HNX := Lib.hid (HQ3.out.next (by omega) hz)
            have hzi : ((q : Int) == 0) = false := by simp; omega
            have hb : (0 : Int) ≤ (q : Int) + 1 ∧ (q : Int) + 1 ≤ 4611686018427387904 := by omega
            obtain ⟨e5, e6⟩ := wrapsI hb.1 hb.2
            go_wp2_with fail
            go_roundw
            case rel => exact ⟨by simp, q + 1, m', by go_num, HNX⟩
            case measure =>
              have h1 := HNX.out.lf
              have h2 := HLE.out
              have h3 := HNM.out
              have h4 := HLF.out
              have h5 : (intOf (Value.int IntKind.i64 ((q : Int) + 1))).toNat = q + 1 := by simp [intOf] <;> omega
              have h6 : (intOf (Value.int IntKind.i64 (j : Int))).toNat = j := by simp [intOf]
              rw [h5, h6, h1, h2]
              omega
    · have HLE2 := Lib.hid (show s ≤ T j from by rw [HTV.out]; omega)
      clear HTJ HLF HLE
      go_wp2_with fail
      go_loopw [1] (fun z wr' => wr' = wr ∧ ∃ j n : Nat, z = .int .i64 j ∧ Hid (At1 D T s a j n) ∧ Hid (s ≤ T j)) (fun z _ => H2 - (intOf z).toNat)
      case atStart => exact ⟨rfl, j, n, rfl, HJ, HLE2⟩
      case round =>
        obtain ⟨rfl, j, n, rfl, HJ, HL⟩ := hrel
        have hj := HQ.out _ _ HJ.out
        have hj0 : (0 : Int) ≤ (j : Int) := by omega
        by_cases hlt : j < H
        · obtain ⟨hA, hB⟩ := HJ.out.down HT.out HL.out (by rw [HS.out]; exact hlt)
          have HA1 := Lib.hid hA
          have HB1 := Lib.hid hB
          have HTD := Lib.hid (show T j = max (T (2 * j)) (T (2 * j + 1)) from HT.out j hj.1 (by rw [HS.out]; exact hlt))
          have HM := Lib.hid hj
          obtain ⟨k, hk⟩ : ∃ k : Nat, 2 * j = k := ⟨_, rfl⟩
          rw [hk] at HA1 HB1 HTD
          have hk2 : k < H2 := HQ.out _ _ HA1.out |>.2.1
          have y1 := HR.out k hk2
          have hlt' : (j : Int) < (H : Int) := by omega
          have e3 : (j : Int) * 2 = (k : Int) := by omega
          have hk0 : (0 : Int) ≤ (k : Int) := by omega
          have hk1 : (k : Int) < (H2 : Int) := by omega
          have hb : (k : Int) ≤ 4611686018427387904 ∧ (0 : Int) ≤ (k : Int) + 1 ∧ (k : Int) + 1 ≤ 4611686018427387904 := by omega
          have HK := Lib.hid hk
          obtain ⟨tk, htk⟩ : ∃ t, T k = t := ⟨_, rfl⟩
          rw [htk] at y1 HB1 HTD
          have HTK := Lib.hid htk
          clear hA hB hk htk hj
          by_cases hs : tk < s
          · obtain ⟨⟨n', h1⟩, h2⟩ := HB1.out hs
            have H1 := Lib.hid h1
            have H2' := Lib.hid h2
            obtain ⟨e4, e5⟩ := wrapsI hk0 hb.1
            obtain ⟨e6, e7⟩ := wrapsI hb.2.1 hb.2.2
            clear h1 h2 hb
            go_wp2_with fail
            go_roundw
            case rel => exact ⟨by simp, k + 1, n', by go_num, H1, H2'⟩
            case measure =>
              have h1 := HK.out
              have h2 := HM.out
              simp [intOf]
              omega
          · have H2' := Lib.hid (show s ≤ T k from by rw [HTK.out]; omega)
            obtain ⟨e4, e5⟩ := wrapsI hk0 hb.1
            clear hb
            go_wp2_with fail
            go_roundw
            case rel => exact ⟨by simp, k, n, by go_num, HA1, H2'⟩
            case measure =>
              have h1 := HK.out
              have h2 := HM.out
              simp [intOf]
              omega
        · have HG := Lib.hid (HJ.out.ground (by rw [HS.out]; omega))
          obtain ⟨k, hk⟩ : ∃ k : Nat, j - H = k := ⟨_, rfl⟩
          have hk1 : H + k = j := by omega
          have HF := Lib.hid (show FindR H T i s (.returned (.tuple #[.int .i64 k, .bool true])) from by
            have h1 := HA.out
            refine .inl ⟨k, rfl, ?_, ?_, by rw [hk1]; exact HL.out, fun x h2 h3 => HG.out.2 _ (by omega) (by omega)⟩
            · have := HG.out.1
              omega
            · have := hj.2.1
              have := HH2.out
              omega)
          have e3 : (j : Int) - (H : Int) = (k : Int) := by omega
          have hb : (0 : Int) ≤ (k : Int) ∧ (k : Int) ≤ 4611686018427387904 := by omega
          obtain ⟨e4, e5⟩ := wrapsI hb.1 hb.2
          clear hk hk1 hb
          go_wp2_with fail
          go_ret2
          exact ⟨HF.out, rfl⟩
end Go.Proofs.Ytfoapghjloblnab
