/- Package files: the extents of a file, gone over by a range over a function. -/
import Derived.Test.YtmbjflcmbenbdaaDoorFA
import Derived.Test.YtmbjflcmbenbdaaDoorRng
namespace Go.Proofs.YtmbjflcmbenbdaaDoor
open Go.RowKit Go.Shelf
set_option linter.unusedVariables false
set_option linter.unusedSimpArgs false
attribute [local go_sem] Oper.semAt_some

/-- The cells of a file's extents. -/
def extCells (l : List (Nat × Nat)) : List Value := l.flatMap fun e => [.int .i64 e.1, .int .i64 e.2]
theorem extCells_length : ∀ l, (extCells l).length = l.length * 2
  | [] => rfl
  | e :: l => by
    have h := extCells_length l
    unfold extCells at *
    rw [List.flatMap_cons, List.length_append, h]
    simp; omega
theorem extCells_at : ∀ (l : List (Nat × Nat)) (k : Nat) (h : k < l.length), (extCells l)[k * 2]? = some (.int .i64 l[k].1) ∧ (extCells l)[k * 2 + 1]? = some (.int .i64 l[k].2)
  | e :: l, 0, _ => ⟨rfl, rfl⟩
  | e :: l, k + 1, h => by
    have h1 := extCells_at l k (by simpa using h)
    unfold extCells at *
    rw [List.flatMap_cons, show (k + 1) * 2 = k * 2 + 2 by omega]
    exact h1
theorem extCells_snoc (l : List (Nat × Nat)) (a n : Nat) : extCells (l ++ [(a, n)]) = extCells l ++ [.int .i64 a, .int .i64 n] := by simp [extCells]

/-- The slice v holds these extents. -/
def ExtRow (W : World) (v : Value) (l : List (Nat × Nat)) : Prop :=
  (v = .slice none 0 0 ∧ l = []) ∨ ∃ g cap cur, v = .slice (some ⟨g, 0, none⟩) l.length cap ∧ Blk W g 70 cur ∧ cur.toList.take (l.length * 2) = extCells l
theorem ExtRow.kp {S : Nat → Prop} {W W' : World} {v : Value} {l : List (Nat × Nat)} (h : ExtRow W v l) (hk : KpC S W W') (hS : ∀ g, v.ownBlock = some g → ¬ S g) : ExtRow W' v l := by
  rcases h with h | ⟨g, cap, cur, rfl, hb, hc⟩
  · exact .inl h
  · exact .inr ⟨g, cap, cur, rfl, hk _ _ _ (hS g rfl) hb, hc⟩
theorem ExtRow.but {S : Nat → Prop} {W W' : World} {v : Value} {l : List (Nat × Nat)} (h : ExtRow W v l) (hk : But S W W') (hS : ∀ g, v.ownBlock = some g → ¬ S g) : ExtRow W' v l := h.kp (KpC.of_but hk) hS
theorem ExtRow.below {W W' : World} {v : Value} {l : List (Nat × Nat)} (h : ExtRow W v l) (hk : Below W.heap.size W W') : ExtRow W' v l := h.kp (S := fun _ => False) (KpC.of_below hk) (fun _ _ => id)
theorem ExtRow.alloc {W : World} {v : Value} {l : List (Nat × Nat)} (h : ExtRow W v l) (o : Obj) : ExtRow (W.alloc o) v l := h.kp (S := fun _ => False) (KpC.alloc _ _) (fun _ _ => id)
theorem ExtRow.lt {W : World} {v : Value} {l : List (Nat × Nat)} (h : ExtRow W v l) {g : Nat} (hg : v.ownBlock = some g) : g < W.heap.size := by
  rcases h with ⟨rfl, _⟩ | ⟨g', cap, cur, rfl, hb, hc⟩
  · simp [Value.ownBlock] at hg
  · simp [Value.ownBlock] at hg
    subst hg
    exact hb.lt
theorem ExtRow.of_own {W : World} {B n : Nat} {v : Value} {l : List (Nat × Nat)} (h : W.ownsRow B 70 2 v n (extCells l)) : ExtRow W v l := by
  have hl := h.1
  rw [extCells_length] at hl
  obtain rfl : n = l.length := by omega
  rcases h.2 with ⟨rfl, h0⟩ | ⟨g, cap, cur, rfl, _, hb, _, _, _, ht⟩
  · exact .inl ⟨rfl, List.length_eq_zero_iff.1 h0⟩
  · exact .inr ⟨g, cap, cur, rfl, hb, ht⟩
theorem ext_cells {W : World} {g : Nat} {cur : Array Value} {l : List (Nat × Nat)} (hb : Blk W g 70 cur) (hc : cur.toList.take (l.length * 2) = extCells l) {k : Nat} (h : k < l.length) :
    W.cell? ⟨g, k * 2, none⟩ = some (.int .i64 l[k].1) ∧ W.cell? ⟨g, k * 2 + 1, none⟩ = some (.int .i64 l[k].2) := by
  obtain ⟨h1, h2⟩ := extCells_at l k h
  rw [← hc, List.getElem?_take, if_pos (by omega)] at h1 h2
  exact ⟨hb.at_ _ _ (by simpa using h1), hb.at_ _ _ (by simpa using h2)⟩

/-- How many sectors are ahead of an extent. -/
def ahd (l : List (Nat × Nat)) (k : Nat) : Nat := ((l.take k).map (·.2)).sum
theorem ahd_succ (l : List (Nat × Nat)) {k : Nat} (h : k < l.length) : ahd l (k + 1) = ahd l k + l[k].2 := by
  unfold ahd
  rw [List.take_succ_eq_append_getElem h]
  simp only [List.map_append, List.sum_append, List.map_cons, List.map_nil, List.sum_cons, List.sum_nil, Nat.add_zero]
theorem ahd_le (l : List (Nat × Nat)) (k : Nat) : ahd l k ≤ (l.map (·.2)).sum := by
  unfold ahd
  conv => rhs; rw [← List.take_append_drop k l, List.map_append, List.sum_append]
  omega
/-- What is told of an extent. -/
def encE (l : List (Nat × Nat)) (k : Fin l.length) : Array Value := #[.int .i64 (ahd l k.1 : Nat), .agg #[.int .i64 (l[k.1].1 : Nat), .int .i64 (l[k.1].2 : Nat)]]
/-- Numbers that stay small. -/
def SmallE (l : List (Nat × Nat)) : Prop := l.length ≤ 1000 ∧ (l.map (·.2)).sum ≤ 1000000000000 ∧ ∀ e, e ∈ l → e.1 ≤ 1000000000000

set_option maxRecDepth 100000 in
set_option maxHeartbeats 2000000 in
theorem parts1_in (n : Nat) (hn : 1 ≤ n) (l Bs g cap : Nat) (cur : Array Value) (xs : List (Nat × Nat)) (hsm : SmallE xs) (S : Nat → Prop) (J Jx : List (Fin xs.length) → World → Prop) (W : World) (hS : ∀ k, S k → k < W.heap.size) (hSB : ¬ S Bs) (hSg : ¬ S g)
    (hJ : AbidesFrom W.heap.size J)
    (hY : ∀ pre x W1, J pre W1 → pre.length < xs.length → YieldAt Fence.wide (n - 1) Tryd.prog l (encE xs x) W1 fun e W' =>
      (e = .returned (.bool true) ∧ J (pre ++ [x]) W' ∧ KpC S W1 W') ∨ (e = .returned (.bool false) ∧ Jx (pre ++ [x]) W'))
    (hBs : Blk W Bs 65 #[.slice (some ⟨g, 0, none⟩) xs.length cap]) (hg : Blk W g 70 cur) (hc : cur.toList.take (xs.length * 2) = extCells xs) (h0 : J [] W) :
    CallsIn Fence.wide n Tryd.prog 82 #[.func (.yield l) #[] #[], .pointer (some ⟨Bs, 0, none⟩)] W fun e W' => (∃ v, e = .returned v) ∧
      ((∃ ys, ys = List.finRange xs.length ∧ J ys W') ∨ (∃ pre, (∃ k, k ≤ xs.length ∧ pre = upF xs.length k) ∧ Jx pre W')) := by
  refine callsIn_of_wp Tryd.func82 rfl trivial ?_ rfl
  simp only [Tryd.ntmps82, List.size_toArray, List.length_cons, List.length_nil, Nat.reduceAdd, Nat.reduceSub, Array.replicate_succ, Array.replicate_zero, List.push_toArray, List.append_toArray, List.nil_append, List.cons_append]
  have cBs := hBs.at_ 0 _ rfl
  gi_wp2
  gi_loopw [3, 8] (fun a i wr => ∃ k : Nat, k ≤ xs.length ∧ i = .int .i64 k ∧ a = .int .i64 (ahd xs k : Nat) ∧ J (upF xs.length k) wr ∧ KpC S W wr ∧ W.heap.size ≤ wr.heap.size)
    (fun _ i _ => xs.length - (intOf i).toNat)
  case atStart => exact ⟨0, Nat.zero_le _, rfl, rfl, by rw [upF_zero]; exact h0, KpC.refl _ _, Nat.le_refl _⟩
  case round =>
    obtain ⟨k, hk, rfl, rfl, hJs, hK, hsz⟩ := hrel
    by_cases hlt : k < xs.length
    · have hbg := hK _ _ _ hSg hg
      obtain ⟨c1, c2⟩ := ext_cells hbg hc hlt
      have hJ1 := hJ _ _ _ none hJs (World.grownBy_alloc wr (.cells #[.int .i64 (xs[k].1 : Nat), .int .i64 (xs[k].2 : Nat)] 70) none) (fun r e => by cases e)
      obtain ⟨fn, tmps, assign, body, hy, hR⟩ := hY _ ⟨k, hlt⟩ _ hJ1 (by rw [upF_length hk]; exact hlt)
      simp only [encE] at hy
      have hbn : ∀ W3, KpC S (wr.alloc (.cells #[.int .i64 (xs[k].1 : Nat), .int .i64 (xs[k].2 : Nat)] 70)) W3 → Blk W3 wr.heap.size 70 #[.int .i64 (xs[k].1 : Nat), .int .i64 (xs[k].2 : Nat)] := fun W3 h3 =>
        h3 _ _ _ (fun hs => by have := hS _ hs; omega) (Blk.new _ _ _)
      have hKn : ∀ W3, KpC S (wr.alloc (.cells #[.int .i64 (xs[k].1 : Nat), .int .i64 (xs[k].2 : Nat)] 70)) W3 → KpC S W W3 := fun W3 h3 => hK.trans ((KpC.alloc wr _).trans h3)
      have hA := ahd_succ xs hlt
      have hA1 := ahd_le xs (k + 1)
      have hA2 := hsm.2.1
      have hA3 := hsm.2.2 _ (List.getElem_mem hlt)
      have hA4 := hsm.1
      have hup := upF_succ hlt
      rw [hA] at hA1
      generalize ahd xs k = A at *
      generalize xs[k].1 = p at *
      generalize xs[k].2 = q at *
      have HB := Lib.hid hbn
      have HK := Lib.hid hKn
      have HU := Lib.hid hup
      have HA := Lib.hid hA
      clear hbn hKn hup hA hbg hJ1 hJs hK
      gi_wp2
      refine hR.mono ?_
      rintro e W3 (⟨rfl, hJ3, hk3⟩ | ⟨rfl, hJx3⟩)
      · have hb3 := HB.out _ hk3
        have c3 := hb3.at_ 1 _ rfl
        have hl3 := hb3.lt
        clear hb3
        gi_wp2
        go_roundw
        case rel => exact ⟨k + 1, by omega, by go_num, by rw [HA.out]; go_num, by rw [HU.out]; exact hJ3, HK.out _ hk3, by omega⟩
        case measure => simp [intOf]; omega
      · gi_wp2
        refine bodyPost_ret (results_none rfl _ _ _) rfl ?_
        exact ⟨⟨_, rfl⟩, .inr ⟨_, ⟨k + 1, by omega, HU.out.symm⟩, hJx3⟩⟩
    · obtain rfl : k = xs.length := by omega
      gi_wp2
      go_end0
      exact ⟨⟨_, rfl⟩, .inl ⟨_, upF_full _, hJs⟩⟩

set_option maxRecDepth 100000 in
set_option maxHeartbeats 1000000 in
theorem parts1_nil_in (n l Bs : Nat) (J : World → Prop) (W : World) (hBs : Blk W Bs 65 #[.slice none 0 0]) (h0 : J W) :
    CallsIn Fence.wide n Tryd.prog 82 #[.func (.yield l) #[] #[], .pointer (some ⟨Bs, 0, none⟩)] W fun e W' => (∃ v, e = .returned v) ∧ J W' := by
  refine callsIn_of_wp Tryd.func82 rfl trivial ?_ rfl
  simp only [Tryd.ntmps82, List.size_toArray, List.length_cons, List.length_nil, Nat.reduceAdd, Nat.reduceSub, Array.replicate_succ, Array.replicate_zero, List.push_toArray, List.append_toArray, List.nil_append, List.cons_append]
  have cBs := hBs.at_ 0 _ rfl
  gi_wp2
  gi_loopw [8] (fun i wr => i = .int .i64 0 ∧ J wr) (fun _ _ => 0)
  case atStart => exact ⟨rfl, h0⟩
  case round =>
    obtain ⟨rfl, hJs⟩ := hrel
    gi_wp2
    go_end0
    exact ⟨⟨_, rfl⟩, hJs⟩

/-- What parts hands back stops at each extent, in order. -/
theorem parts_stops (n : Nat) (hn : 1 ≤ n) (Bs : Nat) (v : Value) (xs : List (Nat × Nat)) (hsm : SmallE xs) (S : Nat → Prop) (w : World) (hS : ∀ k, S k → k < w.heap.size) (hSB : ¬ S Bs) (hSg : ∀ g, v.ownBlock = some g → ¬ S g)
    (hBs : Blk w Bs 65 #[v]) (hv : ExtRow w v xs) :
    SeqStopsK Fence.wide n Tryd.prog 82 #[.pointer (some ⟨Bs, 0, none⟩)] (encE xs) (KpC S) (fun ys => ys = List.finRange xs.length) (fun pre => ∃ k, k ≤ xs.length ∧ pre = upF xs.length k) xs.length w := fun l J Jx W hW hJ _ hY h0 => by
  have hBs' : Blk W Bs 65 #[v] := hBs.below hW hBs.lt
  rcases hv.below hW with ⟨rfl, rfl⟩ | ⟨g, cap, cur, rfl, hb, hc⟩
  · exact (parts1_nil_in n l Bs (J []) W hBs' h0).mono fun e W' ⟨he, hj⟩ => ⟨he, .inl ⟨_, rfl, hj⟩⟩
  · exact parts1_in n hn l Bs g cap cur xs hsm S J Jx W (fun k hk => Nat.lt_of_lt_of_le (hS k hk) hW.size) hSB (hSg g rfl) hJ hY hBs' hb hc h0

set_option maxHeartbeats 1000000 in
theorem parts_any (A : Option Addr) (n c : Nat) (w : World) : Calls Tryd.prog 66 #[.slice A n c] w fun e w' => e = .returned (.func (.func 82) #[] #[.pointer (some ⟨w.heap.size, 0, none⟩)]) ∧ w' = w.alloc (.cells #[.slice A n c] 65) := by
  have hmf : ∀ (fn : Fn) (first cap : Array Value) (w : World), (Instr.makeFunc fn first cap).run Tryd.prog w = .ok (.func fn first cap) w := fun _ _ _ _ => rfl
  go_enter Tryd.func66, Tryd.ntmps66
  go_wp2
  go_ret
  exact ⟨rfl, rfl⟩
theorem ExtRow.slice {W : World} {v : Value} {l : List (Nat × Nat)} (h : ExtRow W v l) : ∃ A c, v = .slice A l.length c := by
  rcases h with ⟨rfl, rfl⟩ | ⟨g, cap, cur, rfl, _⟩
  · exact ⟨none, 0, rfl⟩
  · exact ⟨_, _, rfl⟩

/-- Where a page stands. -/
def SecAt (l : List (Nat × Nat)) (page : Nat) (z : Int) : Prop := ∃ k, ∃ (h : k < l.length), ahd l k ≤ page ∧ page < ahd l k + l[k].2 ∧ z = (l[k].1 : Int) + page - (ahd l k : Nat)

set_option maxRecDepth 100000 in
set_option maxHeartbeats 4000000 in
theorem sectorOf_any (v : Value) (xs : List (Nat × Nat)) (page : Nat) (w : World) (hsm : SmallE xs) (hv : ExtRow w v xs) (hp : page < ahd xs xs.length) :
    Calls Tryd.prog 85 #[v, .int .i64 page] w fun e w' => (∃ z, e = .returned (.int .i64 z) ∧ SecAt xs page z) ∧ Below w.heap.size w w' := by
  have hpm : page ≤ 1000000000000 := by have := ahd_le xs xs.length; have := hsm.2.1; omega
  obtain ⟨A, c, rfl⟩ := hv.slice
  have HP := Lib.hid (fun w => parts_any A xs.length c w)
  refine callsIn_wide (n := 3).1 ?_
  refine callsIn_of_wp_marks Tryd.func85 rfl trivial ?_ rfl
  simp only [Tryd.ntmps85, List.size_toArray, List.length_cons, List.length_nil, Nat.reduceAdd, Nat.reduceSub, Array.replicate_succ, Array.replicate_zero, List.push_toArray, List.append_toArray, List.nil_append, List.cons_append]
  have HV := Lib.hid hv
  have HPP := Lib.hid hp
  clear hv hp
  refine wpIn_wide.2 ?_
  go_wp2_with fail
  go_step3
  go_wp2
  go_step3
  go_wp2_with (go_at_call 66; refine (HP.out _).mono ?_; rintro e w1 ⟨rfl, rfl⟩)
  have HV := HV.out
  have bP := Blk.new w 3 #[.int .i64 page]
  have bA := Blk.new (w.alloc (.cells #[.int .i64 page] 3)) 3 #[.int .i64 0]
  have bS := Blk.new ((w.alloc (.cells #[.int .i64 page] 3)).alloc (.cells #[.int .i64 0] 3)) 65 #[.slice A xs.length c]
  replace bP := (bP.alloc (.cells #[.int .i64 0] 3)).alloc (.cells #[.slice A xs.length c] 65)
  replace bA := bA.alloc (.cells #[.slice A xs.length c] 65)
  have hv0 := ((HV.alloc (.cells #[.int .i64 page] 3)).alloc (.cells #[.int .i64 0] 3)).alloc (.cells #[.slice A xs.length c] 65)
  have hB0 : Below w.heap.size w (((w.alloc (.cells #[.int .i64 page] 3)).alloc (.cells #[.int .i64 0] 3)).alloc (.cells #[.slice A xs.length c] 65)) := (((Below.refl _ w).alloc (Nat.le_refl _) _).alloc (by simp) _).alloc (by simp; omega) _
  have hgl : ∀ g, (Value.slice A xs.length c).ownBlock = some g → g < w.heap.size := fun g hg => HV.lt hg
  simp only [World.size_alloc] at bA bS
  obtain ⟨W0, hW0⟩ : ∃ W0, ((w.alloc (.cells #[.int .i64 page] 3)).alloc (.cells #[.int .i64 0] 3)).alloc (.cells #[.slice A xs.length c] 65) = W0 := ⟨_, rfl⟩
  have hsz : W0.heap.size = w.heap.size + 3 := by rw [← hW0]; simp
  rw [hW0] at bP bA bS hv0 hB0 ⊢
  clear hW0 HV
  refine (wpIn_wide (n := 3)).1 ?_
  refine wpIn_rangeFunc_ownH rfl (by omega) (gf := 82) (lb := #[.pointer (some ⟨w.heap.size + 1 + 1, 0, none⟩)]) rfl trivial (enters_of Tryd.func82 (by kernel_rfl) rfl)
    (parts_stops (3 - 1) (by omega) (w.heap.size + 1 + 1) _ xs hsm (fun k => k = w.heap.size + 1) W0 (fun k hk => by omega) (by omega) (fun g hg => by have := hgl g hg; omega) bS hv0) KpC.trans kpC_b (Below.refl _ _) (fun _ => rfl)
    (fun pre W => ((∀ j ∈ pre, ahd xs j.1 + xs[j.1].2 ≤ page) ∧ Blk W w.heap.size 3 #[.int .i64 page] ∧ Blk W (w.heap.size + 1) 3 #[.int .i64 0]) ∧ Below w.heap.size w W)
    (fun c pre W => (c = .exit 0 ∧ ∃ ini last, pre = ini ++ [last] ∧ (∀ j ∈ ini, ahd xs j.1 + xs[j.1].2 ≤ page) ∧ page < ahd xs last.1 + xs[last.1].2 ∧ Blk W (w.heap.size + 1) 3 #[.int .i64 ((xs[last.1].1 : Int) + page - (ahd xs last.1 : Nat))]) ∧ Below w.heap.size w W)
    (OwnFrom.and (Own.from (fun s X Y row hs hg hr => ⟨hs.1, Blk.own _ _ (fun (_ : Unit) => _) () X Y row hs.2.1 hg hr, Blk.own _ _ (fun (_ : Unit) => _) () X Y row hs.2.2 hg hr⟩) _) (ownFrom_below (Nat.le_refl _) (by omega)))
    (fun c => OwnFrom.and (Own.from (fun s X Y row hs hg hr => by obtain ⟨hc, ini, last, e1, e2, e3, e4⟩ := hs; exact ⟨hc, ini, last, e1, e2, e3, Blk.own _ _ (fun (_ : Unit) => _) () X Y row e4 hg hr⟩) _) (ownFrom_below (Nat.le_refl _) (by omega)))
    ⟨⟨by simp, bP, bA⟩, hB0⟩
    (fun x a' W => ∃ Bx, w.heap.size + 1 < Bx ∧ Blk W Bx 70 #[.int .i64 (xs[x.1].1 : Nat), .int .i64 (xs[x.1].2 : Nat)] ∧ a' = { tmps := #[.slice A xs.length c, .int .i64 page, undef, .pointer (some ⟨w.heap.size, 0, none⟩), .int .i64 0, .pointer (some ⟨w.heap.size + 1, 0, none⟩), .int .i64 (ahd xs x.1 : Nat), .pointer (some ⟨Bx, 0, none⟩), .slice A xs.length c,
      .func (.func 82) #[] #[.pointer (some ⟨w.heap.size + 1 + 1, 0, none⟩)], .int .i64 (ahd xs x.1 : Nat), .agg #[.int .i64 (xs[x.1].1 : Nat), .int .i64 (xs[x.1].2 : Nat)], undef, undef, undef, undef, undef, undef, undef, undef, undef, undef, undef, undef, undef], defers := [] })
    (fun x a' _ X Y row hs hg hr => by obtain ⟨Bx, h1, h2, h3⟩ := hs; exact ⟨Bx, h1, Blk.own _ _ (fun (_ : Unit) => _) () X Y row h2 hg (fun r e => (hr r e).2), h3⟩)
    ?assign ?body ?done ?stop
  case assign =>
    rintro l pre x W K ⟨⟨h1, h2, h3⟩, hB1⟩ hK
    simp only [encE] at *
    gi_wp2
    exact hK _ _ ((KeepsOthers.alloc _ _).from _) (KpC.alloc W _) ⟨⟨h1, h2.alloc _, h3.alloc _⟩, hB1.alloc hB1.size _⟩ ⟨W.heap.size, h3.lt, Blk.new W _ _, rfl⟩
  case body =>
    rintro l pre x a' W hl _ ⟨⟨h1, h2, h3⟩, hB1⟩ ⟨Bx, hBx, bX, rfl⟩ hlt
    have c2 := h2.at_ 0 _ rfl
    have c3 := h3.at_ 0 _ rfl
    have f3 := h3.frozen 0
    have x0 := bX.at_ 0 _ rfl
    have x1 := bX.at_ 1 _ rfl
    have hA1 := ahd_succ xs x.2
    have hA2 := ahd_le xs (x.1 + 1)
    have hA3 := hsm.2.1
    have hA4 := hsm.2.2 _ (List.getElem_mem x.2)
    have hset := h3.set_ 0 (.int .i64 ((xs[x.1].1 : Int) + page - (ahd xs x.1 : Nat)))
    have hfin1 : ∀ W', page < ahd xs x.1 + xs[x.1].2 → Blk W' (w.heap.size + 1) 3 #[.int .i64 ((xs[x.1].1 : Int) + page - (ahd xs x.1 : Nat))] → ∃ ini last, pre ++ [x] = ini ++ [last] ∧ (∀ j ∈ ini, ahd xs j.1 + xs[j.1].2 ≤ page) ∧ page < ahd xs last.1 + xs[last.1].2 ∧ Blk W' (w.heap.size + 1) 3 #[.int .i64 ((xs[last.1].1 : Int) + page - (ahd xs last.1 : Nat))] :=
      fun W' hp hb => ⟨pre, x, rfl, h1, hp, hb⟩
    have hfin2 : ahd xs x.1 + xs[x.1].2 ≤ page → ∀ j ∈ pre ++ [x], ahd xs j.1 + xs[j.1].2 ≤ page := fun hp j hj => by
      rcases List.mem_append.1 hj with h | h
      · exact h1 j h
      · rw [List.mem_singleton.1 h]; exact hp
    have HF1 := Lib.hid hfin1
    have HF2 := Lib.hid hfin2
    have HS := Lib.hid hset
    have H23 := Lib.hid (And.intro h2 h3)
    have HB1 := Lib.hid hB1
    clear hfin1 hfin2 hset h2 h3 hB1 h1 hsm
    generalize ahd xs x.1 = aa at *
    generalize xs[x.1].1 = pp at *
    generalize xs[x.1].2 = qq at *
    gi_wp2
    · exact ⟨(KeepsOthers.setCell _ _ _).from _, ⟨rfl, HF1.out _ (by omega) (by simpa using HS.out)⟩, HB1.out.setCell (p := ⟨w.heap.size + 1, 0, none⟩) (by simp) _⟩
    · exact ⟨KeepsFrom.refl _ _, KpC.refl _ _, ⟨HF2.out (by omega), H23.out.1, H23.out.2⟩, HB1.out⟩
  case done =>
    rintro D ys W hD rfl ⟨⟨h1, _, _⟩, hB⟩ hK
    exfalso
    have hpp := HPP.out
    cases hx : xs.length with
    | zero => rw [hx] at hpp; simp [ahd] at hpp
    | succ m =>
      have hm : m < xs.length := by omega
      have := h1 ⟨m, hm⟩ (List.mem_finRange _)
      rw [hx, ahd_succ xs hm] at hpp
      simp only at this
      omega
  case stop =>
    rintro D c pre W hD ⟨k, hk, rfl⟩ ⟨⟨rfl, ini, last, e1, e2, e3, hcr⟩, hB⟩ hK
    have c5 := hcr.at_ 0 _ rfl
    obtain ⟨k', rfl⟩ : ∃ k', k = k' + 1 := by
      cases k with
      | zero => simp [upF] at e1
      | succ k' => exact ⟨k', rfl⟩
    have hkl : k' < xs.length := hk
    rw [upF_succ hkl] at e1
    obtain ⟨rfl, e5⟩ := List.append_inj' e1 rfl
    have e6 : last = ⟨k', hkl⟩ := by simpa using e5.symm
    subst e6
    have hlow : ahd xs k' ≤ page := by
      cases k' with
      | zero => simp [ahd]
      | succ m =>
        have := e2 ⟨m, by omega⟩ (by rw [upF_succ (by omega)]; simp)
        rw [ahd_succ xs (by omega : m < xs.length)]
        exact this
    have HL := Lib.hid (show SecAt xs page _ from ⟨k', by omega, hlow, e3, rfl⟩)
    have HB := Lib.hid hB
    clear hB hcr e2 e3 hlow e1 e5
    gi_wp2
    go_wp2
    try rw [Exit.noGoto_ret]
    refine ⟨by simp, .inl ⟨_, _, rfl, run_takeDeferred hK, ?_⟩⟩
    refine ⟨_, results_tmp rfl _ _ _, ⟨_, rfl, HL.out⟩, HB.out.trans (belowK_b (w := w) (Nat.le_refl _) W D _ _ (by omega) hK rfl rfl)⟩
end Go.Proofs.YtmbjflcmbenbdaaDoor
