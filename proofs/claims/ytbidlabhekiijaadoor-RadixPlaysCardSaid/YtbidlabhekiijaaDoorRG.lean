/- Package radix: seek. -/
import Derived.Test.YtbidlabhekiijaaDoorRF
import Derived.Deep.CutBlock
import Derived.Deep.CutRange
namespace Go.Proofs.YtbidlabhekiijaaDoor
open Go.RowKit
set_option linter.unusedVariables false
set_option linter.unusedSimpArgs false

/-- A page's digits, and its prefixes. -/
def dig (p i : Nat) : Nat := p / 8 ^ (3 - i) % 8
def pre (p i : Nat) : Nat := p / 8 ^ (4 - i)
theorem dig_lt (p i : Nat) : dig p i < 8 := Nat.mod_lt _ (by omega)
theorem pre_succ (p i : Nat) (hi : i < 4) : pre p (i + 1) = 8 * pre p i + dig p i := by
  have h := div_step p i hi
  unfold pre dig
  rw [show 3 - i = 4 - (i + 1) by omega]
  omega
theorem pre_four (p : Nat) : pre p 4 = p := by unfold pre; simp
theorem pre_zero {p : Nat} (h : p < 4096) : pre p 0 = 0 := by unfold pre; exact Nat.div_eq_of_lt (by simpa using h)
theorem pre_div (p i : Nat) (hi : i < 4) : pre p (i + 1) / 8 = pre p i := div_step p i hi
open Classical in
/-- How many tables of a page's way there are. -/
noncomputable def kn (M : Nat → Sl) (p : Nat) : Nat := if live M 1 (pre p 1) then (if live M 2 (pre p 2) then (if live M 3 (pre p 3) then 4 else 3) else 2) else 1
theorem live_pre {M : Nat → Sl} {p i : Nat} (hi : i < 4) (h : live M (i + 1) (pre p (i + 1))) : live M i (pre p i) := by
  have := live_up hi h
  rwa [pre_div p i hi] at this
theorem kn_range (M : Nat → Sl) (p : Nat) : 1 ≤ kn M p ∧ kn M p ≤ 4 := by unfold kn; (repeat' split) <;> omega
theorem kn_live {M : Nat → Sl} {p i : Nat} (h : i < kn M p) (h0 : 0 < i) : live M i (pre p i) := by
  unfold kn at h
  split at h
  · rename_i h1
    split at h
    · rename_i h2
      split at h
      · rename_i h3
        obtain rfl | rfl | rfl : i = 1 ∨ i = 2 ∨ i = 3 := by omega
        · exact h1
        · exact h2
        · exact h3
      · obtain rfl | rfl : i = 1 ∨ i = 2 := by omega
        · exact h1
        · exact h2
    · obtain rfl : i = 1 := by omega
      exact h1
  · omega
theorem kn_dead {M : Nat → Sl} {p i : Nat} (h : kn M p ≤ i) (h4 : i < 4) : ¬ live M i (pre p i) := by
  intro hl
  have d3 : i = 3 → live M 2 (pre p 2) := fun e => live_pre (by omega) (by subst e; exact hl)
  unfold kn at h
  split at h
  · rename_i h1
    split at h
    · rename_i h2
      split at h
      · omega
      · rename_i h3
        obtain rfl : i = 3 := by omega
        exact h3 hl
    · rename_i h2
      obtain rfl | rfl : i = 2 ∨ i = 3 := by omega
      · exact h2 hl
      · exact h2 (d3 rfl)
  · rename_i h1
    obtain rfl | rfl | rfl : i = 1 ∨ i = 2 ∨ i = 3 := by have := (kn_range M p).1; omega
    · exact h1 hl
    · exact h1 (live_pre (by omega) hl)
    · exact h1 (live_pre (by omega) (d3 rfl))
theorem kn_of {M : Nat → Sl} {p k : Nat} (h1 : 1 ≤ k) (h4 : k ≤ 4) (hl : ∀ i, 0 < i → i < k → live M i (pre p i)) (hd : k < 4 → ¬ live M k (pre p k)) : kn M p = k := by
  have hr := kn_range M p
  rcases Nat.lt_trichotomy (kn M p) k with h | h | h
  · exact absurd (hl _ (by omega) h) (kn_dead (Nat.le_refl _) (by omega))
  · exact h
  · exact absurd (kn_live h (by omega)) (hd (by omega))
theorem kn_four {M : Nat → Sl} {p : Nat} (h : M p ≠ Sl.zero) : kn M p = 4 :=
  kn_of (by omega) (by omega) (fun i _ _ => ⟨p, rfl, h⟩) (fun h => by omega)

/-- The cells of a way. -/
def wayC (T D : Nat → Int) : Array Value := #[.int .i64 (T 0), .int .i64 (D 0), .int .i64 (T 1), .int .i64 (D 1), .int .i64 (T 2), .int .i64 (D 2), .int .i64 (T 3), .int .i64 (D 3)]
def wayV (T D : Nat → Int) : Value := .agg (wayC T D)
/-- The tables of a page's way, as far as there are so many. -/
def wayT (F : Nat → Nat → Nat) (p k : Nat) : Nat → Int := fun i => if i < k then (F i (pre p i) : Nat) else 0
def digI (p : Nat) : Nat → Int := fun i => (dig p i : Nat)

@[go_sem] theorem build_way0 (w : World) : (Instr.build 80 #[]).run Tryd.prog w = .ok (.agg #[.int .i64 0, .int .i64 0, .int .i64 0, .int .i64 0, .int .i64 0, .int .i64 0, .int .i64 0, .int .i64 0]) w := run_build w 80 _ _ (by kernel_rfl)

theorem Blk.cast {w : World} {g : Nat} {t : TypeId} {cs cs' : Array Value} (h : Blk w g t cs) (e : cs = cs') : Blk w g t cs' := e ▸ h

theorem results_cell_row_tmp {P : Program} {fn : Func} {p u : Tmp} {ty : TypeId} (h : fn.results = #[.cell p ty, .tmp u]) (tmps : Array Value) (w : World) (g : Nat) (t : TypeId) (cs : Array Value) (fr : Nat × Nat) (d : TypeDesc)
    (hp : tmps.getD p undef = .pointer (some ⟨g, 0, none⟩)) (hg : w.heap[g]? = some (.cells cs t fr))
    (hu : P.underlying ty = some d) (hd : (match d with | .struct _ | .array _ _ => true | _ => false) = true) (hi : (P.info? ty).map (·.size) = some cs.size) :
    (results fn tmps).run P w = .ok (.tuple #[.agg cs, tmps.getD u undef]) w := by
  rw [results_cell_tmp h, hp]
  show ((loadVar ty ⟨g, 0, none⟩).run P w).andThen _ = _
  rw [run_loadVar_row w g t ty cs fr d hg hu hd hi]
  rfl
theorem way_set {w : World} {g : Nat} {t : TypeId} {c0 c1 c2 c3 c4 c5 c6 c7 : Value} (h : Blk w g t #[c0, c1, c2, c3, c4, c5, c6, c7]) (v0 v1 v2 v3 v4 v5 v6 v7 : Value) :
    Blk ((((((((w.setCell ⟨g, 0, none⟩ v0).setCell ⟨g, 1, none⟩ v1).setCell ⟨g, 2, none⟩ v2).setCell ⟨g, 3, none⟩ v3).setCell ⟨g, 4, none⟩ v4).setCell ⟨g, 5, none⟩ v5).setCell ⟨g, 6, none⟩ v6).setCell ⟨g, 7, none⟩ v7) g t #[v0, v1, v2, v3, v4, v5, v6, v7] := by
  simpa using (((((((h.set_ 0 v0).set_ 1 v1).set_ 2 v2).set_ 3 v3).set_ 4 v4).set_ 5 v5).set_ 6 v6).set_ 7 v7
theorem way_set_below {B : Nat} {v w : World} {g : Nat} (h : Below B v w) (hg : B ≤ g) (v0 v1 v2 v3 v4 v5 v6 v7 : Value) :
    Below B v ((((((((w.setCell ⟨g, 0, none⟩ v0).setCell ⟨g, 1, none⟩ v1).setCell ⟨g, 2, none⟩ v2).setCell ⟨g, 3, none⟩ v3).setCell ⟨g, 4, none⟩ v4).setCell ⟨g, 5, none⟩ v5).setCell ⟨g, 6, none⟩ v6).setCell ⟨g, 7, none⟩ v7) :=
  (((((((h.setCell (p := ⟨g, 0, none⟩) hg _).setCell (p := ⟨g, 1, none⟩) hg _).setCell (p := ⟨g, 2, none⟩) hg _).setCell (p := ⟨g, 3, none⟩) hg _).setCell (p := ⟨g, 4, none⟩) hg _).setCell (p := ⟨g, 5, none⟩) hg _).setCell (p := ⟨g, 6, none⟩) hg _).setCell (p := ⟨g, 7, none⟩) hg _
theorem wayV_eq (T D : Nat → Int) : wayV T D = .agg #[.int .i64 (T 0), .int .i64 (D 0), .int .i64 (T 1), .int .i64 (D 1), .int .i64 (T 2), .int .i64 (D 2), .int .i64 (T 3), .int .i64 (D 3)] := rfl

/-- What is read of a table's entry. -/
theorem fr_may {n : Nat} (h : n ≤ 4096) : (Sl.mk true false false false (n : Nat)).may = true := by
  rw [Sl.may_iff]
  exact ⟨by simp, by simp, by simp, by show (n : Int) ≤ 1048576; omega⟩
theorem tbl_read {X : Pol} {root : Nat} {M : Nat → Sl} {F : Nat → Nat → Nat} (T : Tbl X root M F) (hA : All64 X.S) (hL : X.S.length = X.H.length) (hm : X.H.length ≤ 4096) {i q d : Nat} (hi : i < 4) (hq : tabl M i q) (hd : d < 8) :
    unpS (ldV X.H X.S ((F i q : Nat) : Int) ((8 * d : Nat) : Int) 4) = ent M F (i + 1) (8 * q + d) := by
  obtain ⟨hf, h1⟩ := T.frame i q hi hq
  have hs : (X.S.getD (F i q) ⟨#[]⟩).size = 64 := by
    have hk : F i q < X.S.length := by omega
    have e : X.S.getD (F i q) ⟨#[]⟩ = X.S[F i q] := by simp [List.getD, hk]
    rw [e]
    exact hA _ (List.getElem_mem hk)
  rw [(ld_word hf (by omega) hs hd).1, T.word i q d hi hq hd]
  refine Sl.Ok.unp ?_
  unfold ent
  split
  · exact T.ents.ok _
  · split
    · rename_i hl
      right
      by_cases h4 : i + 1 < 4
      · obtain ⟨hf', _⟩ := T.frame (i + 1) (8 * q + d) h4 (tabl_live hl)
        exact fr_may (by omega)
      · omega
    · exact .inl rfl

set_option maxRecDepth 100000 in
set_option maxHeartbeats 1600000 in
theorem seek_any {w : World} {t p h g : Nat} {X : Pol} {root : Nat} {M : Nat → Sl} {F : Nat → Nat → Nat} (a : Td w t p h g X root) (T : Tbl X root M F) (P : Nat) (hP : P < 4096) :
    Calls Tryd.prog 59 #[.pointer (some ⟨t, 0, none⟩), .int .i64 (P : Nat)] w fun e w' => e = .returned (.tuple #[wayV (wayT F P (kn M P)) (digI P), .int .i64 (kn M P : Nat)]) ∧ Below w.heap.size w w' := by
  have k0 := (Blk.new w 80 #[.int .i64 0, .int .i64 0, .int .i64 0, .int .i64 0, .int .i64 0, .int .i64 0, .int .i64 0, .int .i64 0]).alloc (.cells (wayC (fun _ => 0) (fun j => if 4 ≤ j then digI P j else 0)) 80)
  have k1 := Blk.new (w.alloc (.cells #[.int .i64 0, .int .i64 0, .int .i64 0, .int .i64 0, .int .i64 0, .int .i64 0, .int .i64 0, .int .i64 0] 80)) 80 (wayC (fun _ => 0) (fun j => if 4 ≤ j then digI P j else 0))
  have hB := ((Below.refl w.heap.size w).alloc (Nat.le_refl _) (.cells #[.int .i64 0, .int .i64 0, .int .i64 0, .int .i64 0, .int .i64 0, .int .i64 0, .int .i64 0, .int .i64 0] 80)).alloc (by simp) (.cells (wayC (fun _ => 0) (fun j => if 4 ≤ j then digI P j else 0)) 80)
  rw [World.size_alloc] at k1
  have K0 := Lib.hid k0
  have K1 := Lib.hid k1
  have HB := Lib.hid hB
  have HA := Lib.hid a
  have HT := Lib.hid T
  have HP := Lib.hid hP
  clear a T k0 k1 hB
  go_enter Tryd.func59, Tryd.ntmps59
  go_wp2
  go_step3
  go_wp2
  go_loopw [1, 11] (fun pg i wr => ∃ k : Nat, k ≤ 4 ∧ i = .int .i64 k ∧ pg = .int .i64 (P / 8 ^ k : Nat) ∧ Blk wr w.heap.size 80 #[.int .i64 0, .int .i64 0, .int .i64 0, .int .i64 0, .int .i64 0, .int .i64 0, .int .i64 0, .int .i64 0] ∧ Blk wr (w.heap.size + 1) 80 (wayC (fun _ => 0) (fun j => if 4 - k ≤ j then digI P j else 0)) ∧ Below w.heap.size w wr) (fun _ i _ => 4 - (intOf i).toNat)
  case atStart => exact ⟨0, by omega, rfl, by simp, K0.out, K1.out, HB.out⟩
  case round =>
    obtain ⟨k, hk, rfl, rfl, hw0, hw1, hBr⟩ := hrel
    have HW0 := Lib.hid hw0
    have HBR := Lib.hid hBr
    clear hw0 hBr K0 K1 HB
    by_cases hlt : k < 4
    · have hq1 : P / 8 ^ (k + 1) = P / 8 ^ k / 8 := by rw [Nat.pow_succ, Nat.div_div_eq_div_mul]
      have hq2 : dig P (3 - k) = P / 8 ^ k % 8 := by unfold dig; rw [show 3 - (3 - k) = k by omega]
      have hq3 : P / 8 ^ k ≤ P := Nat.div_le_self _ _
      have HQ := Lib.hid (And.intro hq1 hq2)
      clear hq1 hq2
      generalize P / 8 ^ k = Q at *
      have hcase : k = 0 ∨ k = 1 ∨ k = 2 ∨ k = 3 := by omega
      clear hk hlt
      unfold wayC at hw1
      rcases hcase with rfl | rfl | rfl | rfl
      · have f1 := hw1.frozen 7
        have c1 := hw1.at_ 7 _ rfl
        have HW1 := Lib.hid hw1
        have HD : Hid (dig P 3 = Q % 8) := Lib.hid HQ.out.2
        clear hw1
        go_wp2
        go_roundw
        case rel =>
          exact ⟨1, by omega, rfl, by rw [HQ.out.1]; go_num, HW0.out.far (by show w.heap.size ≠ w.heap.size + 1; omega) _, (HW1.out.set_ 7 _).cast (by simp [wayC, digI, HD.out]), HBR.out.setCell (by show w.heap.size ≤ w.heap.size + 1; omega) _⟩
        case measure => simp [intOf]
      · have f1 := hw1.frozen 5
        have c1 := hw1.at_ 5 _ rfl
        have HW1 := Lib.hid hw1
        have HD : Hid (dig P 2 = Q % 8) := Lib.hid HQ.out.2
        clear hw1
        go_wp2
        go_roundw
        case rel =>
          exact ⟨2, by omega, rfl, by rw [HQ.out.1]; go_num, HW0.out.far (by show w.heap.size ≠ w.heap.size + 1; omega) _, (HW1.out.set_ 5 _).cast (by simp [wayC, digI, HD.out]), HBR.out.setCell (by show w.heap.size ≤ w.heap.size + 1; omega) _⟩
        case measure => simp [intOf]
      · have f1 := hw1.frozen 3
        have c1 := hw1.at_ 3 _ rfl
        have HW1 := Lib.hid hw1
        have HD : Hid (dig P 1 = Q % 8) := Lib.hid HQ.out.2
        clear hw1
        go_wp2
        go_roundw
        case rel =>
          exact ⟨3, by omega, rfl, by rw [HQ.out.1]; go_num, HW0.out.far (by show w.heap.size ≠ w.heap.size + 1; omega) _, (HW1.out.set_ 3 _).cast (by simp [wayC, digI, HD.out]), HBR.out.setCell (by show w.heap.size ≤ w.heap.size + 1; omega) _⟩
        case measure => simp [intOf]
      · have f1 := hw1.frozen 1
        have c1 := hw1.at_ 1 _ rfl
        have HW1 := Lib.hid hw1
        have HD : Hid (dig P 0 = Q % 8) := Lib.hid HQ.out.2
        clear hw1
        go_wp2
        go_roundw
        case rel =>
          exact ⟨4, by omega, rfl, by rw [HQ.out.1]; go_num, HW0.out.far (by show w.heap.size ≠ w.heap.size + 1; omega) _, (HW1.out.set_ 1 _).cast (by simp [wayC, digI, HD.out]), HBR.out.setCell (by show w.heap.size ≤ w.heap.size + 1; omega) _⟩
        case measure => simp [intOf]
    · obtain rfl : k = 4 := by omega
      have hroot := HA.out.head.at_ 1 _ rfl
      have HA1 := Lib.hid (HA.out.on HBR.out)
      have c0 := HA1.out.head.at_ 1 _ rfl
      have HW1 : Hid (Blk wr (w.heap.size + 1) 80 (wayC (fun _ => 0) (digI P))) := Lib.hid hw1
      unfold wayC at hw1
      have f1 := hw1.frozen 0
      have c1 := hw1.at_ 0 _ rfl
      clear hw1 hk hlt hroot
      have hW2 : Blk (wr.setCell ⟨w.heap.size + 1, 0, none⟩ (.int .i64 (root : Nat))) (w.heap.size + 1) 80 (wayC (wayT F P 1) (digI P)) :=
        (HW1.out.set_ 0 (.int .i64 (root : Nat))).cast (by simp [wayC, wayT, pre_zero HP.out, HT.out.root])
      have hB2 := HBR.out.setCell (p := ⟨w.heap.size + 1, 0, none⟩) (by show w.heap.size ≤ w.heap.size + 1; omega) (.int .i64 (root : Nat))
      have hZ2 := HW0.out.far (p := ⟨w.heap.size + 1, 0, none⟩) (by show w.heap.size ≠ w.heap.size + 1; omega) (.int .i64 (root : Nat))
      have HS := Lib.hid (And.intro hW2 (And.intro hZ2 hB2))
      clear hW2 hZ2 hB2 HW0 HBR HA1
      go_wp2_with fail
      go_step3
      go_wp2_with fail
      go_loopw [8] (fun kk wx => ∃ k : Nat, 1 ≤ k ∧ k ≤ 4 ∧ kk = .int .i64 k ∧ (∀ i, 0 < i → i < k → live M i (pre P i)) ∧ Blk wx (w.heap.size + 1) 80 (wayC (wayT F P k) (digI P)) ∧ Blk wx w.heap.size 80 #[.int .i64 0, .int .i64 0, .int .i64 0, .int .i64 0, .int .i64 0, .int .i64 0, .int .i64 0, .int .i64 0] ∧ Below w.heap.size w wx) (fun kk _ => 4 - (intOf kk).toNat)
      case atStart => exact ⟨1, by omega, by omega, rfl, fun i h1 h2 => by omega, HS.out⟩
      case round =>
        obtain ⟨k, hk1, hk4, rfl, hlv, hw1, hw0, hBx⟩ := hrel
        have hax := HA.out.on hBx
        have HKN := Lib.hid (fun (h1 : 1 ≤ k) (h4 : k ≤ 4) (hd : k < 4 → ¬ live M k (pre P k)) => kn_of h1 h4 hlv hd)
        have HLV := Lib.hid hlv
        have hrd : ∀ (i : Nat), i < 4 → i < k → tabl M i (pre P i) → Calls Tryd.prog 52 #[.pointer (some ⟨t, 0, none⟩), .agg #[.int .i64 (wayT F P k i), .int .i64 (digI P i)]] wr fun e w' => e = .returned (ent M F (i + 1) (pre P (i + 1))).v ∧ Below wr.heap.size wr w' := fun i hi hik hq => by
          have e1 : wayT F P k i = ((F i (pre P i) : Nat) : Int) := if_pos hik
          rw [e1]
          refine (tread_any hax ((F i (pre P i) : Nat) : Int) (by obtain ⟨hf, _⟩ := HT.out.frame i _ hi hq; have := hax.pl.len; exact wf_i64 (by omega) (by omega)) (dig P i) (dig_lt P i)).mono ?_
          rintro e w' ⟨he, hb⟩
          exact ⟨by rw [he, tbl_read HT.out hax.pl.all hax.pl.lenS hax.pl.len hi hq (dig_lt P i), ← pre_succ P i hi], hb⟩
        have HRD := Lib.hid hrd
        have HBX := Lib.hid (And.intro hBx hw0)
        clear hlv hrd hBx hax hw0 HS
        have hcase : k = 1 ∨ k = 2 ∨ k = 3 ∨ k = 4 := by omega
        clear hk1 hk4
        rcases hcase with rfl | rfl | rfl | rfl
        · have hr := HRD.out 0 (by omega) (by omega) (.inl ⟨rfl, pre_zero HP.out⟩)
          have HW := Lib.hid hw1
          have hw2 := hw1
          unfold wayC at hw2
          have c1 := hw2.at_ 0 _ rfl
          have c2 := hw2.at_ 1 _ rfl
          clear hw2 hw1
          by_cases hl : live M 1 (pre P 1)
          · rw [ent_live (by omega) hl] at hr
            unfold Sl.v at hr
            simp only at hr
            have HR := Lib.hid hr
            have HL := Lib.hid hl
            clear hr hl
            go_wp2_with (go_at_call 52; (refine HR.out.mono ?_); rintro e v1 ⟨rfl, hb1⟩
                         have HK := Lib.hid (And.intro ((HW.out.below hb1 HW.out.lt).alloc (.cells #[.bool true, .bool false, .bool false, .bool false, .int .i64 ((F 1 (pre P 1) : Nat) : Int)] 23)) (And.intro ((HBX.out.2.below hb1 HBX.out.2.lt).alloc (.cells #[.bool true, .bool false, .bool false, .bool false, .int .i64 ((F 1 (pre P 1) : Nat) : Int)] 23)) ((HBX.out.1.trans (hb1.mono HBX.out.1.size)).alloc (Nat.le_trans HBX.out.1.size hb1.size) (.cells #[.bool true, .bool false, .bool false, .bool false, .int .i64 ((F 1 (pre P 1) : Nat) : Int)] 23))))
                         have hk2 := HK.out.1
                         unfold wayC at hk2
                         have c3 := hk2.at_ 2 _ rfl
                         have f3 := hk2.frozen 2
                         clear hb1 hk2 c1 c2)
            go_roundw
            case rel =>
              exact ⟨2, by omega, by omega, rfl, fun i h1 h2 => (by
                by_cases hi : i = 1
                · subst hi; exact HL.out
                · exact HLV.out i h1 (by omega)), (HK.out.1.set_ 2 _).cast (by simp [wayC, wayT, digI]), HK.out.2.1.far (by show w.heap.size ≠ w.heap.size + 1; omega) _, HK.out.2.2.setCell (by show w.heap.size ≤ w.heap.size + 1; omega) _⟩
            case measure => simp [intOf]
          · have hkn := HKN.out (by omega) (by omega) (fun _ => hl)
            rw [ent_dead (by omega) hl] at hr
            unfold Sl.v Sl.zero at hr
            simp only at hr
            have HR := Lib.hid hr
            have HN := Lib.hid hkn
            clear hr hl hkn
            go_wp2_with (go_at_call 52; (refine HR.out.mono ?_); rintro e v1 ⟨rfl, hb1⟩
                         have HK := Lib.hid (And.intro ((HW.out.below hb1 HW.out.lt).alloc (.cells #[.bool false, .bool false, .bool false, .bool false, .int .i64 0] 23)) (And.intro ((HBX.out.2.below hb1 HBX.out.2.lt).alloc (.cells #[.bool false, .bool false, .bool false, .bool false, .int .i64 0] 23)) ((HBX.out.1.trans (hb1.mono HBX.out.1.size)).alloc (Nat.le_trans HBX.out.1.size hb1.size) (.cells #[.bool false, .bool false, .bool false, .bool false, .int .i64 0] 23))))
                         have hk2 := HK.out.1
                         unfold wayC at hk2
                         have hk3 := HK.out.2.1
                         have y0 := hk2.at_ 0 _ rfl
                         have y1 := hk2.at_ 1 _ rfl
                         have y2 := hk2.at_ 2 _ rfl
                         have y3 := hk2.at_ 3 _ rfl
                         have y4 := hk2.at_ 4 _ rfl
                         have y5 := hk2.at_ 5 _ rfl
                         have y6 := hk2.at_ 6 _ rfl
                         have y7 := hk2.at_ 7 _ rfl
                         have z0 := hk3.at_ 0 _ rfl
                         have x0 := hk3.frozen 0
                         have z1 := hk3.at_ 1 _ rfl
                         have x1 := hk3.frozen 1
                         have z2 := hk3.at_ 2 _ rfl
                         have x2 := hk3.frozen 2
                         have z3 := hk3.at_ 3 _ rfl
                         have x3 := hk3.frozen 3
                         have z4 := hk3.at_ 4 _ rfl
                         have x4 := hk3.frozen 4
                         have z5 := hk3.at_ 5 _ rfl
                         have x5 := hk3.frozen 5
                         have z6 := hk3.at_ 6 _ rfl
                         have x6 := hk3.frozen 6
                         have z7 := hk3.at_ 7 _ rfl
                         have x7 := hk3.frozen 7
                         clear hb1 hk2 hk3)
            have hRf := way_set HK.out.2.1 (.int .i64 (wayT F P 1 0)) (.int .i64 (digI P 0)) (.int .i64 (wayT F P 1 1)) (.int .i64 (digI P 1)) (.int .i64 (wayT F P 1 2)) (.int .i64 (digI P 2)) (.int .i64 (wayT F P 1 3)) (.int .i64 (digI P 3))
            have hBf := way_set_below HK.out.2.2 (Nat.le_refl _) (.int .i64 (wayT F P 1 0)) (.int .i64 (digI P 0)) (.int .i64 (wayT F P 1 1)) (.int .i64 (digI P 1)) (.int .i64 (wayT F P 1 2)) (.int .i64 (digI P 2)) (.int .i64 (wayT F P 1 3)) (.int .i64 (digI P 3))
            try rw [Exit.noGoto_ret]
            generalize World.setCell _ _ _ = W5 at *
            refine bodyPost_ret (results_cell_row_tmp rfl _ _ w.heap.size 80 _ (0, 0) _ rfl hRf Tryd.underlying80 rfl (by kernel_rfl)) rfl ⟨by rw [HN.out]; rfl, hBf⟩
        · have hr := HRD.out 1 (by omega) (by omega) (.inr (HLV.out 1 (by omega) (by omega)))
          have HW := Lib.hid hw1
          have hw2 := hw1
          unfold wayC at hw2
          have c1 := hw2.at_ 2 _ rfl
          have c2 := hw2.at_ 3 _ rfl
          clear hw2 hw1
          by_cases hl : live M 2 (pre P 2)
          · rw [ent_live (by omega) hl] at hr
            unfold Sl.v at hr
            simp only at hr
            have HR := Lib.hid hr
            have HL := Lib.hid hl
            clear hr hl
            go_wp2_with (go_at_call 52; (refine HR.out.mono ?_); rintro e v1 ⟨rfl, hb1⟩
                         have HK := Lib.hid (And.intro ((HW.out.below hb1 HW.out.lt).alloc (.cells #[.bool true, .bool false, .bool false, .bool false, .int .i64 ((F 2 (pre P 2) : Nat) : Int)] 23)) (And.intro ((HBX.out.2.below hb1 HBX.out.2.lt).alloc (.cells #[.bool true, .bool false, .bool false, .bool false, .int .i64 ((F 2 (pre P 2) : Nat) : Int)] 23)) ((HBX.out.1.trans (hb1.mono HBX.out.1.size)).alloc (Nat.le_trans HBX.out.1.size hb1.size) (.cells #[.bool true, .bool false, .bool false, .bool false, .int .i64 ((F 2 (pre P 2) : Nat) : Int)] 23))))
                         have hk2 := HK.out.1
                         unfold wayC at hk2
                         have c3 := hk2.at_ 4 _ rfl
                         have f3 := hk2.frozen 4
                         clear hb1 hk2 c1 c2)
            go_roundw
            case rel =>
              exact ⟨3, by omega, by omega, rfl, fun i h1 h2 => (by
                by_cases hi : i = 2
                · subst hi; exact HL.out
                · exact HLV.out i h1 (by omega)), (HK.out.1.set_ 4 _).cast (by simp [wayC, wayT, digI]), HK.out.2.1.far (by show w.heap.size ≠ w.heap.size + 1; omega) _, HK.out.2.2.setCell (by show w.heap.size ≤ w.heap.size + 1; omega) _⟩
            case measure => simp [intOf]
          · have hkn := HKN.out (by omega) (by omega) (fun _ => hl)
            rw [ent_dead (by omega) hl] at hr
            unfold Sl.v Sl.zero at hr
            simp only at hr
            have HR := Lib.hid hr
            have HN := Lib.hid hkn
            clear hr hl hkn
            go_wp2_with (go_at_call 52; (refine HR.out.mono ?_); rintro e v1 ⟨rfl, hb1⟩
                         have HK := Lib.hid (And.intro ((HW.out.below hb1 HW.out.lt).alloc (.cells #[.bool false, .bool false, .bool false, .bool false, .int .i64 0] 23)) (And.intro ((HBX.out.2.below hb1 HBX.out.2.lt).alloc (.cells #[.bool false, .bool false, .bool false, .bool false, .int .i64 0] 23)) ((HBX.out.1.trans (hb1.mono HBX.out.1.size)).alloc (Nat.le_trans HBX.out.1.size hb1.size) (.cells #[.bool false, .bool false, .bool false, .bool false, .int .i64 0] 23))))
                         have hk2 := HK.out.1
                         unfold wayC at hk2
                         have hk3 := HK.out.2.1
                         have y0 := hk2.at_ 0 _ rfl
                         have y1 := hk2.at_ 1 _ rfl
                         have y2 := hk2.at_ 2 _ rfl
                         have y3 := hk2.at_ 3 _ rfl
                         have y4 := hk2.at_ 4 _ rfl
                         have y5 := hk2.at_ 5 _ rfl
                         have y6 := hk2.at_ 6 _ rfl
                         have y7 := hk2.at_ 7 _ rfl
                         have z0 := hk3.at_ 0 _ rfl
                         have x0 := hk3.frozen 0
                         have z1 := hk3.at_ 1 _ rfl
                         have x1 := hk3.frozen 1
                         have z2 := hk3.at_ 2 _ rfl
                         have x2 := hk3.frozen 2
                         have z3 := hk3.at_ 3 _ rfl
                         have x3 := hk3.frozen 3
                         have z4 := hk3.at_ 4 _ rfl
                         have x4 := hk3.frozen 4
                         have z5 := hk3.at_ 5 _ rfl
                         have x5 := hk3.frozen 5
                         have z6 := hk3.at_ 6 _ rfl
                         have x6 := hk3.frozen 6
                         have z7 := hk3.at_ 7 _ rfl
                         have x7 := hk3.frozen 7
                         clear hb1 hk2 hk3)
            have hRf := way_set HK.out.2.1 (.int .i64 (wayT F P 2 0)) (.int .i64 (digI P 0)) (.int .i64 (wayT F P 2 1)) (.int .i64 (digI P 1)) (.int .i64 (wayT F P 2 2)) (.int .i64 (digI P 2)) (.int .i64 (wayT F P 2 3)) (.int .i64 (digI P 3))
            have hBf := way_set_below HK.out.2.2 (Nat.le_refl _) (.int .i64 (wayT F P 2 0)) (.int .i64 (digI P 0)) (.int .i64 (wayT F P 2 1)) (.int .i64 (digI P 1)) (.int .i64 (wayT F P 2 2)) (.int .i64 (digI P 2)) (.int .i64 (wayT F P 2 3)) (.int .i64 (digI P 3))
            try rw [Exit.noGoto_ret]
            generalize World.setCell _ _ _ = W5 at *
            refine bodyPost_ret (results_cell_row_tmp rfl _ _ w.heap.size 80 _ (0, 0) _ rfl hRf Tryd.underlying80 rfl (by kernel_rfl)) rfl ⟨by rw [HN.out]; rfl, hBf⟩
        · have hr := HRD.out 2 (by omega) (by omega) (.inr (HLV.out 2 (by omega) (by omega)))
          have HW := Lib.hid hw1
          have hw2 := hw1
          unfold wayC at hw2
          have c1 := hw2.at_ 4 _ rfl
          have c2 := hw2.at_ 5 _ rfl
          clear hw2 hw1
          by_cases hl : live M 3 (pre P 3)
          · rw [ent_live (by omega) hl] at hr
            unfold Sl.v at hr
            simp only at hr
            have HR := Lib.hid hr
            have HL := Lib.hid hl
            clear hr hl
            go_wp2_with (go_at_call 52; (refine HR.out.mono ?_); rintro e v1 ⟨rfl, hb1⟩
                         have HK := Lib.hid (And.intro ((HW.out.below hb1 HW.out.lt).alloc (.cells #[.bool true, .bool false, .bool false, .bool false, .int .i64 ((F 3 (pre P 3) : Nat) : Int)] 23)) (And.intro ((HBX.out.2.below hb1 HBX.out.2.lt).alloc (.cells #[.bool true, .bool false, .bool false, .bool false, .int .i64 ((F 3 (pre P 3) : Nat) : Int)] 23)) ((HBX.out.1.trans (hb1.mono HBX.out.1.size)).alloc (Nat.le_trans HBX.out.1.size hb1.size) (.cells #[.bool true, .bool false, .bool false, .bool false, .int .i64 ((F 3 (pre P 3) : Nat) : Int)] 23))))
                         have hk2 := HK.out.1
                         unfold wayC at hk2
                         have c3 := hk2.at_ 6 _ rfl
                         have f3 := hk2.frozen 6
                         clear hb1 hk2 c1 c2)
            go_roundw
            case rel =>
              exact ⟨4, by omega, by omega, rfl, fun i h1 h2 => (by
                by_cases hi : i = 3
                · subst hi; exact HL.out
                · exact HLV.out i h1 (by omega)), (HK.out.1.set_ 6 _).cast (by simp [wayC, wayT, digI]), HK.out.2.1.far (by show w.heap.size ≠ w.heap.size + 1; omega) _, HK.out.2.2.setCell (by show w.heap.size ≤ w.heap.size + 1; omega) _⟩
            case measure => simp [intOf]
          · have hkn := HKN.out (by omega) (by omega) (fun _ => hl)
            rw [ent_dead (by omega) hl] at hr
            unfold Sl.v Sl.zero at hr
            simp only at hr
            have HR := Lib.hid hr
            have HN := Lib.hid hkn
            clear hr hl hkn
            go_wp2_with (go_at_call 52; (refine HR.out.mono ?_); rintro e v1 ⟨rfl, hb1⟩
                         have HK := Lib.hid (And.intro ((HW.out.below hb1 HW.out.lt).alloc (.cells #[.bool false, .bool false, .bool false, .bool false, .int .i64 0] 23)) (And.intro ((HBX.out.2.below hb1 HBX.out.2.lt).alloc (.cells #[.bool false, .bool false, .bool false, .bool false, .int .i64 0] 23)) ((HBX.out.1.trans (hb1.mono HBX.out.1.size)).alloc (Nat.le_trans HBX.out.1.size hb1.size) (.cells #[.bool false, .bool false, .bool false, .bool false, .int .i64 0] 23))))
                         have hk2 := HK.out.1
                         unfold wayC at hk2
                         have hk3 := HK.out.2.1
                         have y0 := hk2.at_ 0 _ rfl
                         have y1 := hk2.at_ 1 _ rfl
                         have y2 := hk2.at_ 2 _ rfl
                         have y3 := hk2.at_ 3 _ rfl
                         have y4 := hk2.at_ 4 _ rfl
                         have y5 := hk2.at_ 5 _ rfl
                         have y6 := hk2.at_ 6 _ rfl
                         have y7 := hk2.at_ 7 _ rfl
                         have z0 := hk3.at_ 0 _ rfl
                         have x0 := hk3.frozen 0
                         have z1 := hk3.at_ 1 _ rfl
                         have x1 := hk3.frozen 1
                         have z2 := hk3.at_ 2 _ rfl
                         have x2 := hk3.frozen 2
                         have z3 := hk3.at_ 3 _ rfl
                         have x3 := hk3.frozen 3
                         have z4 := hk3.at_ 4 _ rfl
                         have x4 := hk3.frozen 4
                         have z5 := hk3.at_ 5 _ rfl
                         have x5 := hk3.frozen 5
                         have z6 := hk3.at_ 6 _ rfl
                         have x6 := hk3.frozen 6
                         have z7 := hk3.at_ 7 _ rfl
                         have x7 := hk3.frozen 7
                         clear hb1 hk2 hk3)
            have hRf := way_set HK.out.2.1 (.int .i64 (wayT F P 3 0)) (.int .i64 (digI P 0)) (.int .i64 (wayT F P 3 1)) (.int .i64 (digI P 1)) (.int .i64 (wayT F P 3 2)) (.int .i64 (digI P 2)) (.int .i64 (wayT F P 3 3)) (.int .i64 (digI P 3))
            have hBf := way_set_below HK.out.2.2 (Nat.le_refl _) (.int .i64 (wayT F P 3 0)) (.int .i64 (digI P 0)) (.int .i64 (wayT F P 3 1)) (.int .i64 (digI P 1)) (.int .i64 (wayT F P 3 2)) (.int .i64 (digI P 2)) (.int .i64 (wayT F P 3 3)) (.int .i64 (digI P 3))
            try rw [Exit.noGoto_ret]
            generalize World.setCell _ _ _ = W5 at *
            refine bodyPost_ret (results_cell_row_tmp rfl _ _ w.heap.size 80 _ (0, 0) _ rfl hRf Tryd.underlying80 rfl (by kernel_rfl)) rfl ⟨by rw [HN.out]; rfl, hBf⟩
        · have hkn := HKN.out (by omega) (by omega) (fun h => absurd h (by omega))
          have HN := Lib.hid hkn
          have HW := Lib.hid hw1
          have hk2 := hw1
          unfold wayC at hk2
          have hk3 := HBX.out.2
          have y0 := hk2.at_ 0 _ rfl
          have y1 := hk2.at_ 1 _ rfl
          have y2 := hk2.at_ 2 _ rfl
          have y3 := hk2.at_ 3 _ rfl
          have y4 := hk2.at_ 4 _ rfl
          have y5 := hk2.at_ 5 _ rfl
          have y6 := hk2.at_ 6 _ rfl
          have y7 := hk2.at_ 7 _ rfl
          have z0 := hk3.at_ 0 _ rfl
          have x0 := hk3.frozen 0
          have z1 := hk3.at_ 1 _ rfl
          have x1 := hk3.frozen 1
          have z2 := hk3.at_ 2 _ rfl
          have x2 := hk3.frozen 2
          have z3 := hk3.at_ 3 _ rfl
          have x3 := hk3.frozen 3
          have z4 := hk3.at_ 4 _ rfl
          have x4 := hk3.frozen 4
          have z5 := hk3.at_ 5 _ rfl
          have x5 := hk3.frozen 5
          have z6 := hk3.at_ 6 _ rfl
          have x6 := hk3.frozen 6
          have z7 := hk3.at_ 7 _ rfl
          have x7 := hk3.frozen 7
          clear hk2 hk3 hkn hw1
          go_wp2
          have hRf := way_set HBX.out.2 (.int .i64 (wayT F P 4 0)) (.int .i64 (digI P 0)) (.int .i64 (wayT F P 4 1)) (.int .i64 (digI P 1)) (.int .i64 (wayT F P 4 2)) (.int .i64 (digI P 2)) (.int .i64 (wayT F P 4 3)) (.int .i64 (digI P 3))
          have hBf := way_set_below HBX.out.1 (Nat.le_refl _) (.int .i64 (wayT F P 4 0)) (.int .i64 (digI P 0)) (.int .i64 (wayT F P 4 1)) (.int .i64 (digI P 1)) (.int .i64 (wayT F P 4 2)) (.int .i64 (digI P 2)) (.int .i64 (wayT F P 4 3)) (.int .i64 (digI P 3))
          try rw [Exit.noGoto_ret]
          generalize World.setCell _ _ _ = W5 at *
          refine bodyPost_ret (results_cell_row_tmp rfl _ _ w.heap.size 80 _ (0, 0) _ rfl hRf Tryd.underlying80 rfl (by kernel_rfl)) rfl ⟨by rw [HN.out]; rfl, hBf⟩
end Go.Proofs.YtbidlabhekiijaaDoor
