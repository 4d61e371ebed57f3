/- Package elf: Span: a range over slices.Backward. -/
import Derived.Test.YtakmmphjdkapeaaDoorEI
import Derived.RangeFuncNested
import Derived.RangeFuncBound
import Derived.RangeFuncCalls
import Derived.RangeFuncLeaves
import Derived.Shelf.Abstract
import Derived.Shelf.RegionOpen
import Derived.OwnWalkIn
import Derived.TacticsInMore
import Derived.LoopNIn
import Derived.LoopIn
namespace Go.Proofs.YtakmmphjdkapeaaDoor
open Go.RowKit Go.Shelf
set_option linter.unusedVariables false
set_option linter.unusedSimpArgs false
attribute [local go_sem] Oper.semAt_some

/-- What a round keeps: what lies below B, and each row of cells that is not in S. -/
structure KpE (B : Nat) (S : Nat → Prop) (W W' : World) : Prop where
  below : Below B W W'
  cells : ∀ k cs t, ¬ S k → Blk W k t cs → Blk W' k t cs
theorem KpE.refl (B : Nat) (S : Nat → Prop) (W : World) : KpE B S W W := ⟨Below.refl _ _, fun _ _ _ _ h => h⟩
theorem KpE.trans {B : Nat} {S : Nat → Prop} {X Y Z : World} (h : KpE B S X Y) (k : KpE B S Y Z) : KpE B S X Z := ⟨h.below.trans k.below, fun i cs t hS hi => k.cells i cs t hS (h.cells i cs t hS hi)⟩
theorem KpE.alloc {B : Nat} {S : Nat → Prop} (W : World) (hB : B ≤ W.heap.size) (o : Obj) : KpE B S W (W.alloc o) := ⟨(Below.refl _ _).alloc hB _, fun _ _ _ _ h => h.alloc o⟩
theorem kpE_b {B : Nat} {S : Nat → Prop} {w : World} (hBw : B ≤ w.heap.size) (W : World) (l : Nat) (o o' : Obj) (hl : w.heap.size ≤ l) (h : W.heap[l]? = some o) (ho : o.isCells = false) (hk : o.isWalk = false) : KpE B S W (W.putObj l o') :=
  ⟨belowK_b hBw W l o o' hl h ho hk, fun k cs t _ hb => by
    refine (World.putObj_heap_other ?_).trans hb
    intro e
    subst e
    unfold Blk at hb
    rw [hb] at h
    cases h
    cases ho⟩
theorem Blk.ownE {β : Type} (B : Nat) (t : TypeId) (f : β → Array Value) : Own (fun s W => Blk W B t (f s)) := fun s X Y row hs hg hrow => by
  refine (hg.block B hs.lt (fun e => ?_)).trans hs
  obtain ⟨o, ho, hc⟩ := hrow B e.symm
  unfold Blk at hs
  rw [hs] at ho
  cases ho
  cases hc

/-- All the places below n, from the end on, k of them. -/
def dnF (n k : Nat) : List (Fin n) := (List.finRange n).reverse.take k
theorem dnF_succ {n k : Nat} (h : k < n) : dnF n (k + 1) = dnF n k ++ [⟨n - 1 - k, by omega⟩] := by
  unfold dnF
  rw [List.take_succ_eq_append_getElem (by simpa using h)]
  simp
theorem dnF_length {n k : Nat} (h : k ≤ n) : (dnF n k).length = k := by simp [dnF]; omega
theorem dnF_zero (n : Nat) : dnF n 0 = [] := by simp [dnF]
theorem dnF_full (n : Nat) : dnF n n = (List.finRange n).reverse := List.take_of_length_le (by simp)

theorem mem_dnF {n : Nat} : ∀ {k : Nat} {j : Fin n}, k ≤ n → n ≤ j.1 + k → j ∈ dnF n k
  | 0, j, _, h => absurd j.2 (by omega)
  | k + 1, j, hk, h => by
    rw [dnF_succ (by omega), List.mem_append]
    by_cases h1 : n ≤ j.1 + k
    · exact .inl (mem_dnF (by omega) h1)
    · refine .inr (List.mem_singleton.2 (Fin.ext ?_))
      show j.1 = n - 1 - k
      omega
theorem keepsE_below {B : Nat} {W W' : World} (h : Below W.heap.size W W') : KeepsFrom B W W' := ⟨h.size, fun k o _ ho _ => (h.block k (Array.getElem?_eq_some_iff.1 ho).1).trans ho⟩

/-- What is told of a segment. -/
def encS (l : List Seg) (k : Fin l.length) : Array Value := #[.int .i64 (k.1 : Nat), l[k.1].v]

set_option maxRecDepth 100000 in
set_option maxHeartbeats 2000000 in
theorem back1_in (n : Nat) (hn : 1 ≤ n) (l Bs B c : Nat) (A : Option Addr) (segs : List Seg) (hl : segs.length ≤ 1000) (S : Nat → Prop) (J Jx : List (Fin segs.length) → World → Prop) (W : World) (hSB : ¬ S Bs)
    (hZ : ∀ W', Below B W W' → SegRow W' A segs)
    (hY : ∀ pre x W1, J pre W1 → pre.length < segs.length → YieldAt Fence.wide (n - 1) Tryd.prog l (encS segs x) W1 fun e W' =>
      (e = .returned (.bool true) ∧ J (pre ++ [x]) W' ∧ KpE B S W1 W') ∨ (e = .returned (.bool false) ∧ Jx (pre ++ [x]) W'))
    (hBs : Blk W Bs 22 #[.slice A segs.length c]) (h0 : J [] W) :
    CallsIn Fence.wide n Tryd.prog 57 #[.func (.yield l) #[] #[], .pointer (some ⟨Bs, 0, none⟩)] W fun e W' => (∃ v, e = .returned v) ∧
      ((∃ ys, ys = (List.finRange segs.length).reverse ∧ J ys W') ∨ (∃ pre, (∃ k, k ≤ segs.length ∧ pre = dnF segs.length k) ∧ Jx pre W')) := by
  refine callsIn_of_wp Tryd.func57 rfl trivial ?_ rfl
  simp only [Tryd.ntmps57, List.size_toArray, List.length_cons, List.length_nil, Nat.reduceAdd, Nat.reduceSub, Array.replicate_succ, Array.replicate_zero, List.push_toArray, List.append_toArray, List.nil_append, List.cons_append]
  have cBs : W.cell? ⟨Bs, 0, none⟩ = some (.slice A segs.length c) := hBs.at_ 0 _ rfl
  gi_wp2
  gi_loopw [3] (fun i wr => ∃ k : Nat, k ≤ segs.length ∧ i = .int .i64 ((segs.length : Int) - 1 - k) ∧ J (dnF segs.length k) wr ∧ KpE B S W wr)
    (fun i _ => (intOf i + 1).toNat)
  case atStart => exact ⟨0, Nat.zero_le _, by simp, by rw [dnF_zero]; exact h0, KpE.refl _ _ _⟩
  case round =>
    obtain ⟨k, hk, rfl, hJs, hK⟩ := hrel
    by_cases hlt : k < segs.length
    · obtain ⟨j, hj⟩ : ∃ j : Nat, segs.length - 1 - k = j := ⟨_, rfl⟩
      have hjl : j < segs.length := by omega
      have hji : (segs.length : Int) - 1 - k = j := by omega
      have hr := hZ _ hK.below
      obtain ⟨ad, rfl, hblt, hwf, d0, d1, d2, d3, d4, d5, d6⟩ := hr.at_ hjl
      have cB2 : wr.cell? ⟨Bs, 0, none⟩ = some (.slice (some ad) segs.length c) := (hK.cells _ _ _ hSB hBs).at_ 0 _ rfl
      obtain ⟨fn, tmps, assign, body, hy, hR⟩ := hY _ ⟨j, hjl⟩ wr hJs (by rw [dnF_length hk]; exact hlt)
      have hup : dnF segs.length (k + 1) = dnF segs.length k ++ [⟨j, hjl⟩] := by subst hj; exact dnF_succ hlt
      simp only [encS] at hy
      obtain ⟨s, hs⟩ : ∃ s, segs[j] = s := ⟨_, rfl⟩
      rw [hs] at hy d0 d1 d2 d3 d4 d5 d6
      obtain ⟨ty, fl, off, ad', sz, mem, al⟩ := s
      unfold Seg.v Seg.cs at hy
      simp only at *
      have HU := Lib.hid hup
      have HK := Lib.hid hK
      rw [hji]
      have HJI := Lib.hid (And.intro hj hji)
      have k1 : ((j : Nat) : Int) < segs.length := by omega
      have k0 : (0 : Int) ≤ (j : Nat) := by omega
      clear hup hK hJs hr hwf hs hj hji
      gi_wp2
      refine hR.mono ?_
      rintro e W3 (⟨rfl, hJ3, hk3⟩ | ⟨rfl, hJx3⟩)
      · gi_wp2
        go_roundw
        case rel => exact ⟨k + 1, by omega, by have := HJI.out.2; go_num, by rw [HU.out]; exact hJ3, HK.out.trans hk3⟩
        case measure => have := HJI.out.2; simp [intOf] <;> omega
      · gi_wp2
        refine bodyPost_ret (results_none rfl _ _ _) rfl ?_
        exact ⟨⟨_, rfl⟩, .inr ⟨_, ⟨k + 1, by omega, HU.out.symm⟩, hJx3⟩⟩
    · obtain rfl : k = segs.length := by omega
      rw [show (segs.length : Int) - 1 - segs.length = -1 by omega]
      gi_wp2
      go_end0
      exact ⟨⟨_, rfl⟩, .inl ⟨_, dnF_full _, hJs⟩⟩
theorem back_stops (n : Nat) (hn : 1 ≤ n) (Bs B c : Nat) (A : Option Addr) (segs : List Seg) (hl : segs.length ≤ 1000) (S : Nat → Prop) (w : World) (hB : B ≤ w.heap.size) (hSB : ¬ S Bs) (hZ : ∀ W', Below B w W' → SegRow W' A segs) (hBs : Blk w Bs 22 #[.slice A segs.length c]) :
    SeqStopsK Fence.wide n Tryd.prog 57 #[.pointer (some ⟨Bs, 0, none⟩)] (encS segs) (KpE B S) (fun ys => ys = (List.finRange segs.length).reverse) (fun pre => ∃ k, k ≤ segs.length ∧ pre = dnF segs.length k) segs.length w := fun l J Jx W hW hJ _ hY h0 =>
  back1_in n hn l Bs B c A segs hl S J Jx W hSB (fun W' h => hZ W' ((hW.mono hB).trans h)) hY (hBs.below hW hBs.lt) h0
set_option maxHeartbeats 1000000 in
theorem back_any (A : Option Addr) (n c : Nat) (w : World) : Calls Tryd.prog 44 #[.slice A n c] w fun e w' => e = .returned (.func (.func 57) #[] #[.pointer (some ⟨w.heap.size, 0, none⟩)]) ∧ w' = w.alloc (.cells #[.slice A n c] 22) := by
  have hmf : ∀ (fn : Fn) (first cap : Array Value) (w : World), (Instr.makeFunc fn first cap).run Tryd.prog w = .ok (.func fn first cap) w := fun _ _ _ _ => rfl
  go_enter Tryd.func44, Tryd.ntmps44
  go_wp2
  go_ret
  exact ⟨rfl, rfl⟩

theorem lastTo_snoc : ∀ (l : List Seg) (s : Seg) (e : Int), lastTo (l ++ [s]) e = if s.ty = 1 then s.to_ else lastTo l e
  | [], s, e => rfl
  | t :: l, s, e => by rw [List.cons_append, lastTo, lastTo_snoc l s]; rfl
/-- Behind one that is loaded none is. -/
theorem lastTo_last {l : List Seg} : ∀ {m : Nat} (hm : m ≤ l.length) (e : Int), (∀ j (h : j < l.length), m ≤ j → l[j].ty ≠ 1) → lastTo l e = lastTo (l.take m) e := by
  intro m hm e h
  obtain ⟨d, hd⟩ : ∃ d, l.length = m + d := ⟨l.length - m, by omega⟩
  induction d generalizing m with
  | zero => rw [List.take_of_length_le (by omega)]
  | succ d ih =>
    have hml : m < l.length := by omega
    rw [ih (m := m + 1) (by omega) (fun j hj hmj => h j hj (by omega)) (by omega), List.take_succ_eq_append_getElem hml, lastTo_snoc, if_neg (h m hml (Nat.le_refl _))]
theorem lastTo_none {l : List Seg} (e : Int) (h : ∀ j (h : j < l.length), l[j].ty ≠ 1) : lastTo l e = e := by
  rw [lastTo_last (m := 0) (Nat.zero_le _) e (fun j hj _ => h j hj)]
  rfl
theorem lastTo_at {l : List Seg} {m : Nat} (hm : m < l.length) (e : Int) (h1 : l[m].ty = 1) (h : ∀ j (h : j < l.length), m < j → l[j].ty ≠ 1) : lastTo l e = l[m].to_ := by
  rw [lastTo_last (m := m + 1) (by omega) e (fun j hj hmj => h j hj (by omega)), List.take_succ_eq_append_getElem hm, lastTo_snoc, if_pos h1]

set_option maxRecDepth 100000 in
set_option maxHeartbeats 4000000 in
theorem span_any (x : Img) (A : Option Addr) (c : Nat) (w : World) (hr : SegRow w A x.segs) (hl : x.segs.length ≤ 1000) (hto : ∀ s, s ∈ x.segs → 0 ≤ s.to_ ∧ s.to_ ≤ 1000000000000) :
    Calls Tryd.prog 24 #[x.v A c] w fun e w' => e = .returned (.int .i64 x.span) ∧ Below w.heap.size w w' := by
  obtain ⟨kind, entry, segs⟩ := x
  unfold Img.v Img.span
  simp only at *
  have HP := Lib.hid (fun w => back_any A segs.length c w)
  have HPG := Lib.hid (fun (w : World) (s : Seg) (hs : s.wf) => epages_any s w hs)
  have HR := Lib.hid hr
  have HTO := Lib.hid hto
  have hdd : ∀ k : Nat, (Fence.wide.depth.isSome = true → 1 ≤ k) := fun k h => by cases h
  clear hr hto
  refine callsIn_wide (n := 3).1 ?_
  refine callsIn_of_wp_marks Tryd.func24 rfl trivial ?_ rfl
  simp only [Tryd.ntmps24, List.size_toArray, List.length_cons, List.length_nil, Nat.reduceAdd, Nat.reduceSub, Array.replicate_succ, Array.replicate_zero, List.push_toArray, List.append_toArray, List.nil_append, List.cons_append]
  refine wpIn_wide.2 ?_
  go_wp2_with fail
  go_step3
  go_wp2
  go_step3
  go_wp2_with (go_at_call 44; refine (HP.out _).mono ?_; rintro e w1 ⟨rfl, rfl⟩)
  have bA := Blk.new (w.alloc (.cells #[.int .i64 kind, .int .i64 entry, .slice A segs.length c] 24)) 3 #[.int .i64 0]
  have bS := Blk.new ((w.alloc (.cells #[.int .i64 kind, .int .i64 entry, .slice A segs.length c] 24)).alloc (.cells #[.int .i64 0] 3)) 22 #[.slice A segs.length c]
  replace bA := bA.alloc (.cells #[.slice A segs.length c] 22)
  have hB0 : Below w.heap.size w (((w.alloc (.cells #[.int .i64 kind, .int .i64 entry, .slice A segs.length c] 24)).alloc (.cells #[.int .i64 0] 3)).alloc (.cells #[.slice A segs.length c] 22)) := (((Below.refl _ w).alloc (Nat.le_refl _) _).alloc (by simp) _).alloc (by simp; omega) _
  simp only [World.size_alloc] at bA bS
  obtain ⟨W0, hW0⟩ : ∃ W0, ((w.alloc (.cells #[.int .i64 kind, .int .i64 entry, .slice A segs.length c] 24)).alloc (.cells #[.int .i64 0] 3)).alloc (.cells #[.slice A segs.length c] 22) = W0 := ⟨_, rfl⟩
  have hsz : W0.heap.size = w.heap.size + 3 := by rw [← hW0]; simp
  rw [hW0] at bA bS hB0 ⊢
  clear hW0
  have hZ : ∀ W', Below w.heap.size W0 W' → SegRow W' A segs := fun W' h => HR.out.below (hB0.trans h)
  refine (wpIn_wide (n := 3)).1 ?_
  refine wpIn_rangeFunc_ownH rfl (by omega) (gf := 57) (lb := #[.pointer (some ⟨w.heap.size + 1 + 1, 0, none⟩)]) rfl trivial (enters_of Tryd.func57 (by kernel_rfl) rfl)
    (back_stops (3 - 1) (by omega) (w.heap.size + 1 + 1) w.heap.size c A segs hl (fun k => k = w.heap.size + 1) W0 (by omega) (by omega) hZ bS) KpE.trans (kpE_b (by omega)) (Below.refl _ _) (fun _ => rfl)
    (fun pre W => ((∀ j ∈ pre, segs[j.1].ty ≠ 1) ∧ Blk W (w.heap.size + 1) 3 #[.int .i64 0]) ∧ Below w.heap.size w W)
    (fun c pre W => (c = .exit 0 ∧ ∃ ini last, pre = ini ++ [last] ∧ (∀ j ∈ ini, segs[j.1].ty ≠ 1) ∧ segs[last.1].ty = 1 ∧ Blk W (w.heap.size + 1) 3 #[.int .i64 segs[last.1].to_]) ∧ Below w.heap.size w W)
    (OwnFrom.and (Own.from (fun s X Y row hs hg hr => ⟨hs.1, Blk.ownE _ _ (fun (_ : Unit) => _) () X Y row hs.2 hg hr⟩) _) (ownFrom_below (Nat.le_refl _) (by omega)))
    (fun c => OwnFrom.and (Own.from (fun s X Y row hs hg hr => by obtain ⟨hc, ini, last, e1, e2, e3, e4⟩ := hs; exact ⟨hc, ini, last, e1, e2, e3, Blk.ownE _ _ (fun (_ : Unit) => _) () X Y row e4 hg hr⟩) _) (ownFrom_below (Nat.le_refl _) (by omega)))
    ⟨⟨by simp, bA⟩, hB0⟩
    (fun x a' W => ∃ Bx, w.heap.size + 1 < Bx ∧ Blk W Bx 47 segs[x.1].cs ∧ a' = { tmps := #[.agg #[.int .i64 kind, .int .i64 entry, .slice A segs.length c], .pointer (some ⟨w.heap.size, 0, none⟩), .int .i64 0, .pointer (some ⟨w.heap.size + 1, 0, none⟩), undef, .pointer (some ⟨Bx, 0, none⟩), .pointer (some ⟨w.heap.size, 2, none⟩), .slice A segs.length c,
      .func (.func 57) #[] #[.pointer (some ⟨w.heap.size + 1 + 1, 0, none⟩)], .int .i64 (x.1 : Nat), segs[x.1].v, undef, undef, undef, undef, undef, undef, undef, undef, undef, undef], defers := [] })
    (fun x a' _ X Y row hs hg hr => by obtain ⟨Bx, h1, h2, h3⟩ := hs; exact ⟨Bx, h1, Blk.ownE _ _ (fun (_ : Unit) => _) () X Y row h2 hg (fun r e => (hr r e).2), h3⟩)
    ?assign ?body ?done ?stop
  case assign =>
    rintro l pre x W K ⟨⟨h1, h3⟩, hB1⟩ hK
    simp only [encS] at *
    generalize segs[x.1] = s at *
    obtain ⟨ty, fl, off, ad', sz, mem, al⟩ := s
    unfold Seg.v Seg.cs at *
    simp only at *
    gi_wp2
    exact hK _ _ ((KeepsOthers.alloc _ _).from _) (KpE.alloc W hB1.size _) ⟨⟨h1, h3.alloc _⟩, hB1.alloc hB1.size _⟩ ⟨W.heap.size, h3.lt, Blk.new W _ _, rfl⟩
  case body =>
    rintro l pre x a' W hl2 _ ⟨⟨h1, h3⟩, hB1⟩ ⟨Bx, hBx, bX, rfl⟩ hlt
    have c3 : W.cell? ⟨w.heap.size + 1, 0, none⟩ = some (.int .i64 0) := h3.at_ 0 _ rfl
    have f3 := h3.frozen 0
    obtain ⟨x0, x1, x2, x3, x4, x5, x6⟩ := seg_cells bX
    have hwf : segs[x.1].wf := (HR.out).wf x.1 x.2
    have hpg := fun w => HPG.out w segs[x.1] hwf
    have hfin1 : ∀ W', segs[x.1].ty = 1 → Blk W' (w.heap.size + 1) 3 #[.int .i64 segs[x.1].to_] → ∃ ini last, pre ++ [x] = ini ++ [last] ∧ (∀ j ∈ ini, segs[j.1].ty ≠ 1) ∧ segs[last.1].ty = 1 ∧ Blk W' (w.heap.size + 1) 3 #[.int .i64 segs[last.1].to_] :=
      fun W' hp hb => ⟨pre, x, rfl, h1, hp, hb⟩
    have hfin2 : segs[x.1].ty ≠ 1 → ∀ j ∈ pre ++ [x], segs[j.1].ty ≠ 1 := fun hp j hj => by
      rcases List.mem_append.1 hj with h | h
      · exact h1 j h
      · rw [List.mem_singleton.1 h]; exact hp
    have HF1 := Lib.hid hfin1
    have HF2 := Lib.hid hfin2
    have H23 := Lib.hid h3
    have HB1 := Lib.hid hB1
    clear hfin1 hfin2 h3 hB1 h1 HPG hwf bX
    generalize segs[x.1] = s at *
    obtain ⟨ty, fl, off, ad', sz, mem, al⟩ := s
    obtain ⟨to_, hto⟩ : ∃ t, Seg.to_ ⟨ty, fl, off, ad', sz, mem, al⟩ = t := ⟨_, rfl⟩
    rw [hto] at HF1 hpg
    unfold Seg.v at *
    unfold Seg.cs at *
    simp only at *
    have HPG := Lib.hid hpg
    clear hpg hto
    by_cases ht : ty = 1
    · subst ht
      gi_wp2_with (refine ⟨trivial, ?_⟩; gi_at_call 23; refine (CallsIn.inRound l (callsIn_wide.2 (HPG.out _))).mono ?_; rintro e v1 ⟨rfl, hb1⟩
                   have k1 := H23.out.below hb1 H23.out.lt
                   have kf1 := k1.frozen 0
                   have kc1 := k1.at_ 0 _ rfl
                   have ks1 := Lib.hid (k1.set_ 0 (.int .i64 to_))
                   have hb2 := Lib.hid (HB1.out.trans (hb1.mono HB1.out.size))
                   have hb3 := Lib.hid hb1
                   clear k1 hb1)
      exact ⟨(keepsE_below hb3.out).trans ((KeepsOthers.setCell _ _ _).from _), ⟨rfl, HF1.out _ (by first | rfl | trivial) (by simpa using ks1.out)⟩, hb2.out.setCell (p := ⟨w.heap.size + 1, 0, none⟩) (by simp) _⟩
    · have ht0 : (ty == 1) = false := by simpa using ht
      gi_wp2
      exact ⟨KeepsFrom.refl _ _, KpE.refl _ _ _, ⟨HF2.out ht, H23.out⟩, HB1.out⟩
  case done =>
    rintro D ys W hD rfl ⟨⟨h1, h2⟩, hB⟩ hK
    have e : lastTo segs 0 = 0 := lastTo_none 0 fun j hj => h1 ⟨j, hj⟩ (by simp)
    have HE := Lib.hid (show (0 : Int) = lastTo segs 0 * 64 from by rw [e]; rfl)
    have c5 := h2.at_ 0 _ rfl
    have HB := Lib.hid hB
    clear hB h2 h1 e
    go_wp2
    try rw [Exit.noGoto_ret]
    refine ⟨by simp, .inl ⟨_, _, rfl, run_takeDeferred hK, ?_⟩⟩
    refine ⟨_, results_tmp rfl _ _ _, ?_, HB.out.trans (belowK_b (w := w) (Nat.le_refl _) W D _ _ (by omega) hK rfl rfl)⟩
    exact congrArg (fun z => Ending.returned (.int .i64 z)) HE.out
  case stop =>
    rintro D c pre W hD ⟨k, hk, rfl⟩ ⟨⟨rfl, ini, last, e1, e2, e3, hcr⟩, hB⟩ hK
    have c5 := hcr.at_ 0 _ rfl
    obtain ⟨k', rfl⟩ : ∃ k', k = k' + 1 := by
      cases k with
      | zero => simp [dnF] at e1
      | succ k' => exact ⟨k', rfl⟩
    have hkl : k' < segs.length := hk
    have hidx : segs.length - 1 - k' < segs.length := by omega
    rw [dnF_succ hkl] at e1
    obtain ⟨rfl, e5⟩ := List.append_inj' e1 rfl
    have e6 : last = ⟨segs.length - 1 - k', hidx⟩ := by simpa using e5.symm
    subst e6
    have e : lastTo segs 0 = segs[segs.length - 1 - k'].to_ := lastTo_at hidx 0 e3 fun j hj hm => e2 ⟨j, hj⟩ (mem_dnF (by omega) (by simp only; omega))
    have HE := Lib.hid e
    obtain ⟨t1, t2⟩ := HTO.out segs[segs.length - 1 - k'] (List.getElem_mem _)
    simp only at c5
    generalize segs[segs.length - 1 - k'].to_ = T at *
    have HB := Lib.hid hB
    clear hB hcr e2 e3 e1 e5 e
    gi_wp2
    go_wp2
    try rw [Exit.noGoto_ret]
    refine ⟨by simp, .inl ⟨_, _, rfl, run_takeDeferred hK, ?_⟩⟩
    refine ⟨_, results_tmp rfl _ _ _, ?_, HB.out.trans (belowK_b (w := w) (Nat.le_refl _) W D _ _ (by omega) hK rfl rfl)⟩
    exact (congrArg (fun z => Ending.returned (.int .i64 (z * 64))) HE.out).symm
end Go.Proofs.YtakmmphjdkapeaaDoor
