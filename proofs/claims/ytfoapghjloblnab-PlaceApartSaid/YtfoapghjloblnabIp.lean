/- Package place: All. -/
import Derived.Test.YtfoapghjloblnabIo
import Derived.Deep.RegionHeld3
namespace Go.Proofs.Ytfoapghjloblnab
open Go.RowKit Go.ChangeShapes Go.WideShapes Go.Deep Go.Shelf
set_option linter.unusedVariables false
set_option linter.unusedSimpArgs false
attribute [local go_sem] Oper.semAt_some

theorem goP_length (low high : Int) : ∀ (l P Q : List (Int × Int)), goP low high P l = some Q → Q.length = P.length + l.length
  | [], P, Q, h => by
    have h : some P = some Q := h
    injection h with h
    rw [h]
    simp
  | x :: l, P, Q, h => by
    rw [goP_cons] at h
    cases hs : stepP P low high x with
    | none => rw [hs] at h; cases h
    | some a =>
      rw [hs] at h
      have := goP_length low high l _ Q h
      simp at this
      simp
      omega
/-- What All tells. -/
def AllR (l : List (Int × Int)) (low high : Int) (w w' : World) (e : Ending) : Prop :=
  ∃ A c, e = .returned (.tuple #[.slice A (allP l low high).1.length c, .int .i64 (allP l low high).2]) ∧ IntRow w' A (allP l low high).1 ∧ Below w.heap.size w w'
theorem intRow_nil (w : World) (A : Option Addr) : IntRow w A [] := fun i hi => absurd hi (by simp)
theorem allP_room {l : List (Int × Int)} {low high : Int} (h : roomP low high = false) : allP l low high = ([], 1) := by
  unfold allP
  rw [if_neg (by rw [h]; simp)]
theorem allP_thing {l : List (Int × Int)} {low high : Int} (h : l.all thingP = false) : allP l low high = ([], 1) := by
  unfold allP
  rw [if_neg (by rw [h]; simp)]
theorem allP_go {l : List (Int × Int)} {low high : Int} (h1 : roomP low high = true) (h2 : l.all thingP = true) : allP l low high = match goP low high [] l with
    | none => ([], 18)
    | some P => (P.map Prod.fst, 0) := by
  unfold allP
  rw [if_pos ⟨h1, h2⟩]
  rfl
theorem roomP_bnd {low high : Int} (h : roomP low high = true) : BndI low high := by
  unfold roomP at h
  simp only [Bool.and_eq_true, decide_eq_true_eq, and_assoc] at h
  exact h
theorem run_make_capI {P : Program} (t e : TypeId) (i : TypeInfo) (ht : P.underlying t = some (.slice e)) (hi : P.info? e = some i) (hz : i.zero = some (.int .i64 0)) (hs : i.size = 1) (hb : i.bytes = 8)
    (n : Nat) (hn : n ≤ 16384) (w : World) :
    (Instr.makeSlice t (.int .i64 0) (.int .i64 n)).run P w = .ok (.slice (some ⟨w.heap.size, 0, none⟩) 0 n) (w.alloc (.cells (icells (List.replicate n 0)) e)) := by
  rw [run_make (P := P) w t e i _ ht hi hz .i64 .i64 0 n (Int.le_refl _) (by omega) (by rw [hb]; omega) (by omega), hs, Int.toNat_natCast, Nat.mul_one]
  have h := toList_madeCells_one (.int .i64 0) n
  congr 3
  apply Array.ext'
  exact h.trans (by simp [icells])

theorem start_AllS {v v2 v3 W1 : World} {rb eb tb : Nat} {low high : Int} {m ce D n rc : Nat} {E T G : Nat → Int} {l : List (Int × Int)} (hnr : NewR v2 v3 rb eb tb low high m ce D E T G l) (hb2 : Below v.heap.size v v2) (hrc : v3.heap.size = rc) (hn : n ≤ 100)
    (hW : (((v3.alloc (.cells #[.pointer (some ⟨rb, 0, none⟩)] 36)).alloc (.cells (icells (List.replicate n 0)) 3)).alloc (.cells #[.slice (some ⟨rc + 1, 0, none⟩) 0 n] 28)).alloc (.cells #[tryV rc (rc + 1 + 1)] 34) = W1) :
    AllS v W1 (rc + 1) rc (rc + 1 + 1) (rc + 1 + 1 + 1) rb eb tb low high m ce D E [] T G (some ⟨rc + 1, 0, none⟩) n [] ∧ rc + 1 + 1 + 1 < W1.heap.size ∧ v.heap.size ≤ rc := by
  have b0 := (((Blk.new v3 36 #[.pointer (some ⟨rb, 0, none⟩)]).alloc (.cells (icells (List.replicate n 0)) 3)).alloc (.cells #[.slice (some ⟨rc + 1, 0, none⟩) 0 n] 28)).alloc (.cells #[tryV rc (rc + 1 + 1)] 34)
  have b1 := ((Blk.new (v3.alloc (.cells #[.pointer (some ⟨rb, 0, none⟩)] 36)) 3 (icells (List.replicate n 0))).alloc (.cells #[.slice (some ⟨rc + 1, 0, none⟩) 0 n] 28)).alloc (.cells #[tryV rc (rc + 1 + 1)] 34)
  have b2 := (Blk.new ((v3.alloc (.cells #[.pointer (some ⟨rb, 0, none⟩)] 36)).alloc (.cells (icells (List.replicate n 0)) 3)) 28 #[.slice (some ⟨rc + 1, 0, none⟩) 0 n]).alloc (.cells #[tryV rc (rc + 1 + 1)] 34)
  have b3 := Blk.new (((v3.alloc (.cells #[.pointer (some ⟨rb, 0, none⟩)] 36)).alloc (.cells (icells (List.replicate n 0)) 3)).alloc (.cells #[.slice (some ⟨rc + 1, 0, none⟩) 0 n] 28)) 34 #[tryV rc (rc + 1 + 1)]
  have hB : Below v3.heap.size v3 W1 := by rw [← hW]; exact ((((Below.refl _ v3).alloc (Nat.le_refl _) _).alloc (by simp) _).alloc (by simp; omega) _).alloc (by simp; omega) _
  simp only [World.size_alloc] at b1 b2 b3
  rw [hW, hrc] at b0 b1 b2 b3
  have hbel : Below v.heap.size v v3 := hb2.trans (hnr.bel.mono hb2.size)
  have ho := hnr.old
  have hs := hb2.size
  have l1 := hnr.room.room.head.lt
  have l2 := hnr.room.room.tree.lt
  obtain ⟨cs, e1, _⟩ := hnr.room.room.ends
  have l3 := e1.lt
  refine ⟨⟨hnr.room.below rfl hB, ⟨b0, b2, b3, ⟨by simp, .inr ⟨rc + 1, n, _, rfl, Nat.le_refl _, b1, Nat.zero_le _, by unfold maxLen; omega, by simp [icells], by simp⟩⟩, fun g hg => ?_, by omega⟩, by omega, by omega, hbel.trans (hB.mono hbel.size)⟩, b3.lt, by omega⟩
  have hg : some (rc + 1) = some g := hg
  injection hg with hg
  omega

theorem wp_loop_kI {P : Program} {Q : Exit → Act → World → Prop} {a : Act} {w : World} {c : Code} (I : Act → World → Prop) (μ : Act → World → Nat) (h₀ : I a w)
    (round : ∀ a w, I a w → ∀ K : Act → World → Prop, (∀ a' w', I a' w' → μ a' w' < μ a w → K a' w') → c.wp P (Exit.then K Q) a w) : (Code.loop c).wp P Q a w :=
  wp_loop I μ h₀ fun a w h => round a w h _ fun _ _ h1 h2 => ⟨h1, h2⟩
theorem wpIn_namedI {F : Fence} {n : Nat} {P : Program} {c : Code} {Q : Exit → Act → World → Prop} {T : Array Value} {D : List Deferred} {w : World} (h : ∀ T', T = T' → c.wpIn F n P Q ⟨T', D⟩ w) : c.wpIn F n P Q ⟨T, D⟩ w := h T rfl
theorem intRow_own {w : World} {B c n : Nat} {A : Option Addr} {L : List Int} (h : w.ownsRow B 3 1 (.slice A n c) n (L.map (Value.int .i64))) (hw : ∀ z ∈ L, (Lit.int .i64 z).wf = true) : IntRow w A L := fun i hi => by
  obtain ⟨h0, h1⟩ := h
  rw [List.length_map] at h0
  rcases h1 with ⟨e0, e1⟩ | ⟨g, cap, cur, hv, hbg, hh, _, _, _, ht⟩
  · exfalso
    omega
  · injection hv with hv1 _ _
    refine ⟨⟨g, 0, none⟩, hv1, Blk.lt (t := 3) (cs := cur) hh, ?_, hw _ (List.getElem_mem hi)⟩
    have e : (⟨g, 0, none⟩ : Addr).add i = ⟨g, i, none⟩ := by unfold Addr.add; split <;> simp_all
    rw [e, (show Blk w g 3 cur from hh).cell]
    have h3 := congrArg (fun l : List Value => l[i]?) ht
    simp only [Nat.mul_one, List.getElem?_map] at h3
    rw [List.getElem?_take, if_pos (by omega), List.getElem?_eq_getElem hi] at h3
    rw [← Array.getElem?_toList, h3]
    rfl
theorem places_stops (n0 : Nat) (hn0 : 1 ≤ n0) (bt bl rb eb tb : Nat) (low high : Int) (m ce D : Nat) (E : Nat → Int) (P : List (Int × Int)) (T G : Nat → Int) (x : Int × Int) (w : World) (hbt : Blk w bt 36 #[.pointer (some ⟨rb, 0, none⟩)]) (hbl : Blk w bl 27 #[.int .i64 x.1, .int .i64 x.2])
    (hS : RoomS w rb eb tb low high m ce D E P T G) (hb : BndI low high) (hm : m ≤ 2 ^ D) (hH : 2 ^ D ≤ 1000000) (hx : thingP x = true) (fg : Option Int) (hfg : FgI m E G (rndP x.1) fg) (L : List Int) (hL : L = trI low high x fg) :
    SeqStopsK Fence.wide n0 Try.prog 21 #[.pointer (some ⟨bt, 0, none⟩), .pointer (some ⟨bl, 0, none⟩)] (encI2 L) (KpC (fun _ => False)) (fun ys => ys = List.finRange L.length) (fun pre => ∃ k, k ≤ L.length ∧ pre = upF L.length k) L.length w := fun l J Jx W hW hJ _ hY h0 =>
  places_in n0 hn0 l bt bl rb eb tb low high m ce D E P T G x W (hbt.below hW hbt.lt) (hbl.below hW hbl.lt) (hS.below rfl hW) hb hm hH hx fg hfg L hL J Jx hJ hY h0
/-- What is tried may be tried. -/
theorem tr_ok {low high : Int} {m : Nat} {E G : Nat → Int} {P : List (Int × Int)} {x : Int × Int} {fg : Option Int} (hg : Gap P low high m E G) (hb : BndI low high) (hx : thingP x = true) (hfg : FgI m E G (rndP x.1) fg) (hat : likeR low high x = true → ∃ k, k < m ∧ E k = x.2) :
    ∀ a ∈ trI low high x fg, a % 64 = 0 ∧ 0 ≤ a ∧ a < high ∧ ((∃ k, k < m ∧ E k = a) ∨ ∃ k, k < m ∧ 0 < G k ∧ a = E k - G k) := by
  intro a ha
  have hbn := thing_bounds hx
  have hr := rndP_pos hbn.1 hbn.2.1
  unfold BndI at hb
  unfold trI at ha
  rcases List.mem_append.1 ha with h | h
  · cases hl : likeR low high x with
    | false => rw [hl] at h; simp at h
    | true =>
      rw [hl, if_pos rfl] at h
      rw [List.mem_singleton.1 h]
      have hk := hat hl
      unfold likeR at hl
      simp only [Bool.and_eq_true, decide_eq_true_eq] at hl
      have hi := inn_iff.1 hl.2
      exact ⟨hl.1.2, by omega, by omega, .inl hk⟩
  · rcases hfg with ⟨e, _⟩ | ⟨k, hk, e, h1, _⟩
    · rw [e] at h; simp at h
    · rw [e] at h
      have h' : a = E k - G k := by simpa using h
      have h2 := hg.ends k hk
      have h3 := hg.size k hk
      exact ⟨by omega, by omega, by omega, .inr ⟨k, hk, by omega, h'⟩⟩
theorem Marks.keeps {W W' : World} {b0 : Nat} {Ds : List Nat} (h : Marks W b0 Ds) (hk : KeepsFrom 0 W W') : Marks W' b0 Ds := ⟨h.1, fun D hD => ⟨(h.2 D hD).1, hk.same D _ (Nat.zero_le _) (h.2 D hD).2 rfl⟩⟩
theorem keepsFrom_up {B : Nat} {W W' : World} (h : KeepsFrom 0 W W') : KeepsFrom B W W' := ⟨h.size, fun k o _ hk ho => h.same k o (Nat.zero_le _) hk ho⟩
theorem keepsFrom_belowI {B : Nat} {W W' : World} (h : Below W.heap.size W W') : KeepsFrom B W W' := ⟨h.size, fun k o _ ho _ => (h.block k (Array.getElem?_eq_some_iff.1 ho).1).trans ho⟩
/-- All, behind k things. -/
def AllI (A : Option Addr) (c : Nat) (l : List (Int × Int)) (w0 : World) (n B rc tc yc rb eb tb : Nat) (low high : Int) (m ce D : Nat) (E : Nat → Int) (a : Act) (W : World) : Prop :=
  ∃ (k : Nat) (T : Array Value) (Ds : List Nat) (P : List (Int × Int)) (T1 G1 : Nat → Int) (A1 : Option Addr) (c1 : Nat), k ≤ n ∧ a = { tmps := T, defers := Ds.map markOf } ∧ FrA T A c n rc tc yc k ∧ Marks W w0.heap.size Ds ∧
    AllS w0 W B rc tc yc rb eb tb low high m ce D E P T1 G1 A1 c1 (P.map Prod.fst) ∧ goP low high [] (l.take k) = some P ∧ WholeP P low high
def allM (n : Nat) (a : Act) : Nat := n - (intOf (a.tmps.getD 33 undef)).toNat
set_option maxRecDepth 100000 in
set_option maxHeartbeats 6400000 in
theorem all_anyI (l : List (Int × Int)) (A : Option Addr) (c : Nat) (low high : Int) (w : World) (hr : WRow w A l) (hl : l.length ≤ 100) (hlw : (Lit.int .i64 low).wf = true) (hhw : (Lit.int .i64 high).wf = true) :
    Calls Try.prog 5 #[.slice A l.length c, .int .i64 low, .int .i64 high] w fun e w' => AllR l low high w w' e := by
  have HRM := Lib.hid (fun v => isRoom_any low high v hlw hhw)
  have HTH := Lib.hid (things_any l A c w hr (by unfold maxLen; omega))
  obtain ⟨rm, hrm⟩ : ∃ b, roomP low high = b := ⟨_, rfl⟩
  obtain ⟨th, hth⟩ : ∃ b, l.all thingP = b := ⟨_, rfl⟩
  rw [hrm] at HRM
  rw [hth] at HTH
  cases rm with
  | false =>
    have HA := Lib.hid (allP_room (l := l) hrm)
    clear hrm hth HTH hr hlw hhw
    obtain ⟨n, hn⟩ : ∃ n, l.length = n := ⟨_, rfl⟩
    rw [hn]
    refine callsIn_wide (n := 3).1 ?_
    refine callsIn_of_wp_marks Try.func5 rfl trivial ?_ rfl
    simp only [Try.ntmps5, List.size_toArray, List.length_cons, List.length_nil, Nat.reduceAdd, Nat.reduceSub, Array.replicate_succ, Array.replicate_zero, List.push_toArray, List.append_toArray, List.nil_append, List.cons_append]
    refine wpIn_wide.2 ?_
    go_wp2_with fail
    go_step3
    go_wp2_with (go_at_call 7; refine (HRM.out _).mono ?_; rintro e v ⟨rfl, rfl⟩)
    rw [Exit.noGoto_ret]
    show LeavesInM _ _ _ _ _ _ (([] : List Nat).map markOf) .returning v
    refine leaves_marks (fun W' => Below v.heap.size v W') v.heap.size (fun W' D hD hd h => h.trans (belowK_b (w := v) (Nat.le_refl _) W' D _ _ hD hd rfl rfl)) [] v (by simp) (by simp) (Below.refl _ _) ?_
    intro W' h
    exact ⟨_, results_tmp2 rfl _ _ _, none, 0, by rw [HA.out]; rfl, by rw [HA.out]; exact intRow_nil _ _, h⟩
  | true =>
    cases th with
    | false =>
      have HA := Lib.hid (allP_thing (low := low) (high := high) hth)
      clear hrm hth hr hlw hhw
      obtain ⟨n, hn⟩ : ∃ n, l.length = n := ⟨_, rfl⟩
      rw [hn] at HTH ⊢
      refine callsIn_wide (n := 3).1 ?_
      refine callsIn_of_wp_marks Try.func5 rfl trivial ?_ rfl
      simp only [Try.ntmps5, List.size_toArray, List.length_cons, List.length_nil, Nat.reduceAdd, Nat.reduceSub, Array.replicate_succ, Array.replicate_zero, List.push_toArray, List.append_toArray, List.nil_append, List.cons_append]
      refine wpIn_wide.2 ?_
      go_wp2_with fail
      go_step3
      go_wp2_with (first
        | (go_at_call 7; refine (HRM.out _).mono ?_; rintro e v ⟨rfl, hv⟩; subst hv)
        | (go_at_call 8; refine HTH.out.mono ?_; rintro e v2 ⟨rfl, hb2⟩))
      rw [Exit.noGoto_ret]
      show LeavesInM _ _ _ _ _ _ (([] : List Nat).map markOf) .returning v2
      refine leaves_marks (fun W' => Below v.heap.size v W') v.heap.size (fun W' D hD hd h => h.trans (belowK_b (w := v) (Nat.le_refl _) W' D _ _ hD hd rfl rfl)) [] v2 (by simp) (by simp) hb2 ?_
      intro W' h
      exact ⟨_, results_tmp2 rfl _ _ _, none, 0, by rw [HA.out]; rfl, by rw [HA.out]; exact intRow_nil _ _, h⟩
    | true =>
      have hb := roomP_bnd hrm
      have HA := Lib.hid (allP_go hrm hth)
      obtain ⟨i0, hi, hz0, hz1, hz2⟩ := info_parts infoInt
      have hmk := run_make_capI (P := Try.prog) 28 3 i0 Try.underlying28 hi hz0 hz1 hz2 l.length (by omega)
      have hmf : ∀ (fn : Fn) (first cap : Array Value) (w : World), (Instr.makeFunc fn first cap).run Try.prog w = .ok (.func fn first cap) w := fun _ _ _ _ => rfl
      have HNW := Lib.hid (fun v (hv : Below w.heap.size w v) => newRoom_any l A c low high v (hr.below rfl hv) hl hb hth)
      have HBD := Lib.hid hb
      have HTL := Lib.hid (fun k (h : k < l.length) => List.all_eq_true.1 hth l[k] (List.getElem_mem h))
      have HR := Lib.hid hr
      obtain ⟨n, hn⟩ : ∃ n, l.length = n := ⟨_, rfl⟩
      rw [hn] at HTH HNW hmk hl ⊢
      have HN := Lib.hid hn
      clear hrm hth hr hb hn hi hz0 hz1 hz2 hlw hhw
      refine callsIn_wide (n := 3).1 ?_
      refine callsIn_of_wp_marks Try.func5 rfl trivial ?_ rfl
      simp only [Try.ntmps5, List.size_toArray, List.length_cons, List.length_nil, Nat.reduceAdd, Nat.reduceSub, Array.replicate_succ, Array.replicate_zero, List.push_toArray, List.append_toArray, List.nil_append, List.cons_append]
      refine wpIn_wide.2 ?_
      go_wp2_with fail
      go_step3
      go_upto_region 4 with (first
        | (go_at_call 7; refine (HRM.out _).mono ?_; rintro e v ⟨rfl, hv⟩; subst hv)
        | (go_at_call 8; refine HTH.out.mono ?_; rintro e v2 ⟨rfl, hb2⟩)
        | (go_at_call 9; refine (HNW.out _ hb2).mono ?_; rintro e v3 ⟨rb, eb, tb, m, ce, D, E, T0, G0, rfl, hnr⟩))
      clear HRM HTH HNW
      go_upto_region 6 with fail
      obtain ⟨rc, hrc⟩ : ∃ rc, v3.heap.size = rc := ⟨_, rfl⟩
      rw [hrc]
      obtain ⟨W1, hW1⟩ : ∃ W1, (((v3.alloc (.cells #[.pointer (some ⟨rb, 0, none⟩)] 36)).alloc (.cells (icells (List.replicate n 0)) 3)).alloc (.cells #[.slice (some ⟨rc + 1, 0, none⟩) 0 n] 28)).alloc (.cells #[tryV rc (rc + 1 + 1)] 34) = W1 := ⟨_, rfl⟩
      obtain ⟨hS0, hlt0, hvr⟩ := start_AllS hnr hb2 hrc hl hW1
      have hat0 := hnr.at_
      have hle0 := hnr.le
      have hfw0 := hnr.few
      rw [hW1]
      clear hnr hb2 hrc hmk hmf hW1
      obtain ⟨B, hB⟩ : ∃ B, rc + 1 = B := ⟨_, rfl⟩
      have hB1 : rc < B := by omega
      rw [hB] at hS0 hlt0 ⊢
      obtain ⟨tc, htc⟩ : ∃ B', B + 1 = B' := ⟨_, rfl⟩
      have hB2 : B < tc := by omega
      rw [htc] at hS0 hlt0 ⊢
      obtain ⟨yc, hyc⟩ : ∃ B', tc + 1 = B' := ⟨_, rfl⟩
      have hB3 : tc < yc := by omega
      rw [hyc] at hS0 hlt0 ⊢
      clear hB htc hyc
      have HS0 := Lib.hid hS0
      have HAT := Lib.hid hat0
      have HLE := Lib.hid (And.intro hle0 hfw0)
      clear hS0 hat0 hle0 hfw0
      go_step3
      go_wp2_with fail
      refine wp_loop_kI (AllI A c l v n B rc tc yc rb eb tb low high m ce D E) (fun a _ => allM n a) ?start ?round
      case start => exact ⟨0, _, [], [], T0, G0, _, _, Nat.zero_le _, rfl, ⟨rfl, rfl, rfl, rfl, rfl, rfl, rfl⟩, Marks.nil _ _, HS0.out, rfl, fun x hx => by cases hx⟩
      case round =>
        rintro a W ⟨k, T, Ds, P, T1, G1, A1, c1, hk, rfl, hfr, hM, hS, hP, hW⟩ K hK
        obtain ⟨u, rfl⟩ := hfr.lit
        clear hfr
        by_cases hlt : k < n
        · have hk1 : k < l.length := by rw [HN.out]; exact hlt
          obtain ⟨ad, rfl, hblo, wf0, wf1, c0, c1'⟩ := (HR.out.below rfl hS.bel).at_ hk1
          have hk0 : (0 : Int) ≤ (k : Int) := by omega
          have hk2 : (k : Int) < (n : Int) := by omega
          have hthing := HTL.out k hk1
          have hnext := goP_next (low := low) (high := high) hk1 hP
          have HPN := Lib.hid (show P.length = k from by have := goP_length low high _ _ _ hP; rw [List.length_take] at this; simp at this; omega)
          have hatx := HAT.out l[k] (List.getElem_mem hk1)
          generalize l[k] = x at c0 c1' wf0 wf1 hthing hnext hatx
          have hbn := thing_bounds hthing
          have hrn := rndP_pos hbn.1 hbn.2.1
          obtain ⟨fg, hfg⟩ := fgI m E G1 (rndP x.1)
          have hfree := hfg.free hS.room.gap hW HBD.out.2.2.2.1 (show 0 < rndP x.1 by omega)
          have hok := tr_ok hS.room.gap HBD.out hthing hfg hatx
          have hyes := fun i a => step_yes (P := P) hthing HBD.out hfree i a
          have hno := step_no hthing HBD.out hW hfree
          obtain ⟨V, hV⟩ : ∃ V, ((W.alloc (.cells #[.int .i64 x.1, .int .i64 x.2] 27)).alloc (.cells #[.pointer (some ⟨rb, 0, none⟩)] 36)).alloc (.cells #[.int .i64 x.1, .int .i64 x.2] 27) = V := ⟨_, rfl⟩
          have hBV : Below W.heap.size W V := by rw [← hV]; exact (((Below.refl _ W).alloc (Nat.le_refl _) _).alloc (by simp) _).alloc (by simp; omega) _
          have w0 := ((Blk.new W 27 #[.int .i64 x.1, .int .i64 x.2]).alloc (.cells #[.pointer (some ⟨rb, 0, none⟩)] 36)).alloc (.cells #[.int .i64 x.1, .int .i64 x.2] 27)
          have w1 := (Blk.new (W.alloc (.cells #[.int .i64 x.1, .int .i64 x.2] 27)) 36 #[.pointer (some ⟨rb, 0, none⟩)]).alloc (.cells #[.int .i64 x.1, .int .i64 x.2] 27)
          have w2 := Blk.new ((W.alloc (.cells #[.int .i64 x.1, .int .i64 x.2] 27)).alloc (.cells #[.pointer (some ⟨rb, 0, none⟩)] 36)) 27 #[.int .i64 x.1, .int .i64 x.2]
          simp only [World.size_alloc] at w1 w2
          rw [hV] at w0 w1 w2
          have hSV := hS.below hBV
          have hMV := hM.but (S := fun _ => False) (But.of_below hBV) (fun _ h => h.elim)
          have r0 := (hS.cells.bc.alloc (.cells #[.int .i64 x.1, .int .i64 x.2] 27)).cell 0
          have g0 := (Blk.new W 27 #[.int .i64 x.1, .int .i64 x.2]).cell 0
          have g1 := (Blk.new W 27 #[.int .i64 x.1, .int .i64 x.2]).cell 1
          have HPL := Lib.hid (places_any rb x (W.alloc (.cells #[.int .i64 x.1, .int .i64 x.2] 27)))
          have HSV := Lib.hid (And.intro hSV hMV)
          have HWS := Lib.hid (And.intro w0 (And.intro w1 w2))
          have HNX := Lib.hid (And.intro hyes (And.intro hno (And.intro hnext (And.intro hok hfg))))
          have HK := Lib.hid hK
          have HBV := Lib.hid hBV
          have HX := Lib.hid (And.intro hthing (And.intro hrn hW))
          have HV := Lib.hid hV
          obtain ⟨x1, x2⟩ := x
          clear hM hS hP hW hK hthing hnext hatx hbn hrn hfg hfree hok hyes hno hV hBV w0 w1 w2 hSV hMV hk1 wf0 wf1 hblo
          go_wp2_with (go_at_call 12; refine HPL.out.mono ?_; rintro e v9 ⟨rfl, rfl⟩)
          rw [show ((W.alloc (.cells #[.int .i64 x1, .int .i64 x2] 27)).alloc (.cells #[.pointer (some ⟨rb, 0, none⟩)] 36)).alloc (.cells #[.int .i64 x1, .int .i64 x2] 27) = V from HV.out]
          obtain ⟨n1, hn1⟩ : ∃ n1, rndP x1 = n1 := ⟨_, rfl⟩
          obtain ⟨L, hL⟩ : ∃ L, trI low high (x1, x2) fg = L := ⟨_, rfl⟩
          have hszV : W.heap.size + 1 + 1 < V.heap.size := HWS.out.2.2.lt
          obtain ⟨wx, hwx⟩ : ∃ wx, W.heap.size = wx := ⟨_, rfl⟩
          have hMlt : ∀ D ∈ Ds, D < V.heap.size := fun D hD => HSV.out.2.lt hD
          have hvV : v.heap.size ≤ V.heap.size := HSV.out.1.bel.size
          have hseq := places_stops (3 - 1) (by omega) (W.heap.size + 1) (W.heap.size + 1 + 1) rb eb tb low high m ce D E P T1 G1 (x1, x2) V HWS.out.2.1 HWS.out.2.2 HSV.out.1.room HBD.out HLE.out.1 HLE.out.2 HX.out.1 fg HNX.out.2.2.2.2 L hL.symm
          have HNX2 := HNX.out
          rw [hL] at HNX2
          have HNX3 := Lib.hid HNX2
          have hwV := HWS.out.1
          rw [hwx] at hseq hwV ⊢
          clear HPL r0 g0 g1 c0 c1' HV HNX HNX2
          refine (wpIn_wide (n := 3)).1 ?_
          refine wpIn_namedI ?_
          intro T hT
          refine wpIn_rangeFunc_ownH rfl (by omega) (gf := 21) (lb := #[.pointer (some ⟨wx + 1, 0, none⟩), .pointer (some ⟨wx + 1 + 1, 0, none⟩)]) (by rw [← hT]; rfl) trivial (enters_of Try.func21 (by kernel_rfl) rfl)
            hseq KpC.trans kpC_b (Below.refl _ _) (fun _ => rfl)
            (fun pre W' => (∀ j ∈ pre, fitP P low high L[j.1] n1 = false) ∧ AllS v W' B rc tc yc rb eb tb low high m ce D E P T1 G1 A1 c1 (P.map Prod.fst) ∧ Blk W' wx 27 #[.int .i64 x1, .int .i64 x2] ∧ Marks W' v.heap.size Ds)
            (fun cc pre W' => cc = .exit 1 ∧ ∃ ini last, pre = ini ++ [last] ∧ (∀ j ∈ ini, fitP P low high L[j.1] n1 = false) ∧ fitP P low high L[last.1] n1 = true ∧ (∃ T2 G2 A2 c2, AllS v W' B rc tc yc rb eb tb low high m ce D E (P ++ [(L[last.1], n1)]) T2 G2 A2 c2 (P.map Prod.fst ++ [L[last.1]])) ∧ Marks W' v.heap.size Ds)
            (fun s0 Y Z row hs0 hg hr => ⟨hs0.1, AllS.own hvV () Y Z row hs0.2.1 hg hr, Blk.ownF V.heap.size _ _ _ () Y Z row hs0.2.2.1 hg hr, Marks.own hMlt () Y Z row hs0.2.2.2 hg hr⟩)
            (fun cc s0 Y Z row hs0 hg hr => by
              obtain ⟨h1, ini, last, h2, h3, h4, ⟨T2, G2, A2, c2, h5⟩, h6⟩ := hs0
              exact ⟨h1, ini, last, h2, h3, h4, ⟨T2, G2, A2, c2, AllS.own hvV () Y Z row h5 hg hr⟩, Marks.own hMlt () Y Z row h6 hg hr⟩)
            ⟨by simp, HSV.out.1, hwV, HSV.out.2⟩
            (fun y a' W' => a' = { tmps := (T.setIfInBounds 40 (.int .i64 L[y.1])).setIfInBounds 13 (.int .i64 L[y.1]), defers := [] })
            (fun y a' _ Y Z row hs0 hg hr => hs0)
            ?assign ?body ?done ?stop
          case assign =>
            rintro lp pre y W' K' hI hK'
            simp only [encI2, List.zip_toArray, List.zip_cons_cons, List.zip_nil_right, List.size_toArray, List.foldl_toArray', List.foldl_toArray, List.foldl_cons, List.foldl_nil]
            subst hT
            simp only [List.setIfInBounds_toArray, List.set_cons_succ, List.set_cons_zero]
            gi_wp2
            exact hK' _ _ (KeepsFrom.refl _ _) (KpC.refl _ _) hI rfl
          case body =>
            rintro lp pre y a' W' hl _ ⟨h1, hS, hw, hM⟩ rfl hlt2
            subst hT
            simp only [List.setIfInBounds_toArray, List.set_cons_succ, List.set_cons_zero]
            have hoka := HNX3.out.2.2.2.1 L[y.1] (List.getElem_mem _)
            have hxr := HX.out
            rw [hn1] at hxr
            have hPl : (P.map Prod.fst).length ≤ 1000 := by
              rw [List.length_map, HPN.out]
              omega
            have htry := fun Z (hZ : AllS v Z B rc tc yc rb eb tb low high m ce D E P T1 G1 A1 c1 (P.map Prod.fst)) => try_any v Z B rc tc yc rb eb tb low high m ce D E P T1 G1 A1 c1 (P.map Prod.fst) hZ HBD.out HLE.out.1 HLE.out.2 hPl L[y.1] n1 (by omega) (by omega) (by omega) hoka.1 hoka.2.1 hoka.2.2.1 hoka.2.2.2
            have hx1w : (Lit.int .i64 x1).wf = true := by
              have := thing_bounds hxr.1
              exact wf_I (by omega) (by omega)
            have hro := fun v => pround_any x1 v hx1w
            rw [hn1] at hro
            have HRO := Lib.hid hro
            have hmx : Try.prog.follows .mixedOrders = true := by kernel_rfl
            have d0 := hS.cells.by_.cell 0
            have d1 := hw.cell 0
            have HST := Lib.hid (And.intro hS (And.intro hw (And.intro hM h1)))
            obtain ⟨a, ha⟩ : ∃ a, L[y.1] = a := ⟨_, rfl⟩
            rw [ha] at htry ⊢
            have HA1 := Lib.hid ha
            obtain ⟨fb, hf⟩ : ∃ fb, fitP P low high a n1 = fb := ⟨_, rfl⟩
            have HTR := Lib.hid (fun Z (hZ : AllS v Z B rc tc yc rb eb tb low high m ce D E P T1 G1 A1 c1 (P.map Prod.fst)) => (htry Z hZ).mono fun e w' hh => show e = .returned (.bool fb) ∧ Hid ((fb = true → (∃ T G A c, AllS v w' B rc tc yc rb eb tb low high m ce D E (P ++ [(a, n1)]) T G A c (P.map Prod.fst ++ [a])) ∧ KeepsFrom 0 Z w') ∧ (fb = false → ∃ q, w' = Z.drewN q)) from by
              rcases hh with ⟨h1, h2, h3, h4⟩ | ⟨h1, h2, h3⟩
              · rw [hf] at h1
                subst h1
                exact ⟨h2, Lib.hid ⟨fun _ => ⟨h3, h4⟩, fun h => by cases h⟩⟩
              · rw [hf] at h1
                subst h1
                exact ⟨h2, Lib.hid ⟨fun h => (by cases h), fun _ => h3⟩⟩)
            have HF := Lib.hid hf
            clear htry hro hS hw hM h1 ha hf hoka hxr hPl hx1w
            gi_wp2
            gi_region_with_o (first
              | (refine ⟨trivial, ?_⟩; gi_at_call 13; refine (CallsIn.inRound lp (callsIn_wide.2 (HRO.out _))).mono ?_; rintro e v8 ⟨rfl, rfl⟩)
              | (refine ⟨trivial, ?_⟩; gi_at_call 10; refine (CallsIn.inRound lp (callsIn_wide.2 (HTR.out _ (HST.out.1.below (belowD (Below.refl _ _) 1))))).mono ?_; rintro e v9 ⟨rfl, h3⟩))
            all_goals
              cases fb with
              | true =>
                obtain ⟨⟨T2, G2, A2, c2, h5⟩, h6⟩ := h3.out.1 rfl
                gi_wp2
                refine ⟨keepsFrom_up ((keepsFrom_belowI (belowD (Below.refl _ _) 1)).trans h6), rfl, pre, y, rfl, HST.out.2.2.2, by rw [HA1.out]; exact HF.out, ⟨T2, G2, A2, c2, by rw [HA1.out]; exact h5⟩, (HST.out.2.2.1.keeps (keepsFrom_belowI (belowD (Below.refl _ _) 1))).keeps h6⟩
              | false =>
                obtain ⟨q, rfl⟩ := h3.out.2 rfl
                gi_wp2
                have hB2 := belowD (Below.refl W'.heap.size W') (1 + q)
                refine ⟨keepsFrom_belowI hB2, KpC.of_below hB2, fun j hj => ?_, HST.out.1.below hB2, HST.out.2.1.below hB2 HST.out.2.1.lt, HST.out.2.2.1.keeps (keepsFrom_belowI hB2)⟩
                rcases List.mem_append.1 hj with h | h
                · exact HST.out.2.2.2 j h
                · rw [List.mem_singleton.1 h, HA1.out]; exact HF.out
          case done =>
            rintro D ys W' hD rfl ⟨h1, hS, hw, hM⟩ hKD
            have hall : ∀ b ∈ L, fitP P low high b (rndP (x1, x2).1) = false := fun b hb => by
              obtain ⟨j, hj, rfl⟩ := List.getElem_of_mem hb
              have := h1 ⟨j, hj⟩ (List.mem_finRange _)
              rw [← hn1] at this
              exact this
            have hsn := HNX3.out.2.1 hall
            have hnx := HNX3.out.2.2.1
            rw [hsn] at hnx
            have hgn := goP_none hnx
            have hv := HA.out
            rw [hgn] at hv
            have HVV := Lib.hid (show allP l low high = ([], 18) from hv)
            have hMD : Marks W' v.heap.size (D :: Ds) := hM.cons hKD (by omega) (fun E hE => by have := hMlt E hE; omega)
            have HMD := Lib.hid (And.intro hMD hS.bel)
            subst hT
            clear h1 hS hw hM hall hsn hnx hgn hv hMD hseq HK HTL HAT HA HS0
            go_wp2
            try rw [Exit.noGoto_ret]
            show LeavesInM _ _ _ _ _ _ ((D :: Ds).map markOf) .returning W'
            refine leaves_marks (fun W'' => Below v.heap.size v W'') v.heap.size (fun W'' D' hD' hd h => h.trans (belowK_b (w := v) (Nat.le_refl _) W'' D' _ _ hD' hd rfl rfl)) (D :: Ds) W' HMD.out.1.1 HMD.out.1.2 HMD.out.2 ?_
            intro W'' h
            exact ⟨_, results_tmp2 rfl _ _ _, none, 0, by rw [HVV.out]; rfl, by rw [HVV.out]; exact intRow_nil _ _, h⟩
          case stop =>
            rintro D cc pre W' hD ⟨k', hk', rfl⟩ ⟨rfl, ini, last, e1, h2, h3, ⟨T2, G2, A2, c2, hS2⟩, hM2⟩ hKD
            obtain ⟨k'', rfl⟩ : ∃ k'', k' = k'' + 1 := by
              cases k' with
              | zero => simp [upF] at e1
              | succ k'' => exact ⟨k'', rfl⟩
            have hkl : k'' < L.length := hk'
            rw [upF_succ hkl] at e1
            obtain ⟨rfl, e5⟩ := List.append_inj' e1 rfl
            have e6 : last = ⟨k'', hkl⟩ := by simpa using e5.symm
            subst e6
            simp only at hS2 h3
            have hst := HNX3.out.1 k'' L[k''] (List.getElem?_eq_getElem hkl) (fun j b hj hb => by
              obtain ⟨hjl, rfl⟩ := List.getElem?_eq_some_iff.1 hb
              have := h2 ⟨j, hjl⟩ (by unfold upF; rw [List.mem_take_iff_getElem]; exact ⟨j, by simp; omega, by simp⟩)
              rw [← hn1] at this
              exact this) (by rw [← hn1] at h3; exact h3)
            have hnx := HNX3.out.2.2.1
            rw [hst] at hnx
            have hnx2 : goP low high [] (l.take (k + 1)) = some (P ++ [(L[k''], n1)]) := by
              rw [hnx, ← hn1]
              rfl
            have hwh : WholeP (P ++ [(L[k''], n1)]) low high := by
              rw [← hn1]
              exact HX.out.2.2.push HBD.out.2.2.2.1 HX.out.1 hst
            have hMD : Marks W' v.heap.size (D :: Ds) := hM2.cons hKD (by omega) (fun E hE => by have := hMlt E hE; omega)
            have HF := Lib.hid (And.intro hS2 (And.intro hMD (And.intro hnx2 hwh)))
            subst hT
            clear h2 h3 hS2 hM2 hst hnx hnx2 hwh hMD e5 e1 hseq HTL HAT HA HS0
            gi_wp2
            go_wp2
            refine HK.out _ _ ⟨k + 1, _, D :: Ds, P ++ [(L[k''], n1)], T2, G2, A2, c2, by omega, rfl, ⟨rfl, rfl, rfl, rfl, rfl, rfl, rfl⟩, HF.out.2.1, by rw [List.map_append]; exact HF.out.1, HF.out.2.2.1, HF.out.2.2.2⟩ ?_
            show n - (intOf (.int .i64 ((k : Int) + 1))).toNat < n - (intOf (.int .i64 k)).toNat
            simp [intOf]
            omega
        · obtain rfl : k = n := by omega
          have hP2 : goP low high [] l = some P := by rw [← hP, ← HN.out, List.take_length]
          have hv := HA.out
          rw [hP2] at hv
          have hwf : ∀ z ∈ P.map Prod.fst, (Lit.int .i64 z).wf = true := fun z hz => by
            obtain ⟨x, hx, rfl⟩ := List.mem_map.1 hz
            have h1 := hW x hx
            have h2 := HBD.out
            unfold BndI at h2
            exact wf_I (by omega) (by omega)
          have HV := Lib.hid (And.intro hv hwf)
          have x0 := hS.cells.bt.cell 0
          have HST := Lib.hid (And.intro hS.cells.row (And.intro hS.bel hM))
          have hnk : ¬ ((k : Int) < (k : Int)) := by omega
          clear hM hS hP hW hK hP2 hv hwf HS0 HAT HA HTL
          go_wp2_with fail
          try rw [Exit.noGoto_ret]
          show LeavesInM _ _ _ _ _ _ (Ds.map markOf) .returning W
          refine leaves_marks (fun W' => W'.ownsRow B 3 1 (.slice A1 (P.map Prod.fst).length c1) (P.map Prod.fst).length ((P.map Prod.fst).map (Value.int .i64)) ∧ Below v.heap.size v W') v.heap.size ?_ Ds W HST.out.2.2.1 HST.out.2.2.2 ⟨HST.out.1, HST.out.2.1⟩ ?_
          · rintro W' D hD hd ⟨h1, h2⟩
            exact ⟨own_kp h1 (kpC_b (w := v) W' D _ _ hD hd rfl rfl), h2.trans (belowK_b (w := v) (Nat.le_refl _) W' D _ _ hD hd rfl rfl)⟩
          · rintro W' ⟨h1, h2⟩
            obtain ⟨hv, hwf⟩ := HV.out
            refine ⟨_, results_tmp2 rfl _ _ _, A1, c1, by rw [hv]; simp, ?_, h2⟩
            rw [hv]
            exact intRow_own h1 hwf
end Go.Proofs.Ytfoapghjloblnab
