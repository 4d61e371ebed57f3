/- Package cache: Evict. -/
import Derived.Test.YtmbjflcmbenbdaaDoorKJ
namespace Go.Proofs.YtmbjflcmbenbdaaDoor
open Go.RowKit Go.Maps
set_option linter.unusedVariables false
set_option linter.unusedSimpArgs false

/-- What Evict tells. -/
def evV (o : Option Pg) : Value := match o with
  | some x => .tuple #[.agg #[.int .i64 x.f, .int .i64 x.q], .bool true]
  | none => .tuple #[.agg #[.int .i64 0, .int .i64 0], .bool false]
section
variable {fs : List Fl} {s : Nat} {W W' : World} {a : Ad} {v v' : Value} {C : Cc}
theorem Ca.ringAt (A : Ca fs s W a v C) {k : Nat} (hk : k < C.R.length) : ∃ g cap, v = .slice (some ⟨g, 0, none⟩) C.R.length cap ∧ W.cell? ⟨g, k * 2, none⟩ = some (.int .i64 C.R[k].f) ∧ W.cell? ⟨g, k * 2 + 1, none⟩ = some (.int .i64 C.R[k].q) := by
  rcases A.ring.2 with ⟨_, h0⟩ | ⟨g, cap, cur, h1, h2, h3, h4, h5, h6, h7⟩
  · omega
  · obtain ⟨k0, k1⟩ := keyCells_at C.R k hk
    have hcell : ∀ i, i < 2 → ∀ u, (keyCells C.R)[k * 2 + i]? = some u → W.cell? ⟨g, k * 2 + i, none⟩ = some u := fun i hi u hu => by
      refine Blk.at_ (show Blk W g 40 cur from h3) _ _ ?_
      rw [← h7, List.getElem?_take, if_pos (by omega)] at hu
      simpa using hu
    exact ⟨g, cap, h1, hcell 0 (by omega) _ k0, hcell 1 (by omega) _ k1⟩
theorem Ca.not_old (A : Ca fs s W a v C) : ∀ j, W.heap.size ≤ j → ¬ Sy a v j := fun j hj e => by
  have h1 := A.pool.row.lt
  have h2 := A.pool.byt.lt
  have h3 := A.head.lt
  have h4 := A.map.lt
  have h5 := A.pd_lt
  have h6 := A.size
  have h7 := A.apart.2.2.2.2.2.2.2.2.2.2.2.2
  rcases e with h | h | h | h | h | h
  · omega
  · omega
  · omega
  · omega
  · omega
  · have := (h7 _ h).2; omega
set_option maxRecDepth 100000 in
set_option maxHeartbeats 800000 in
theorem evict_nil (W : World) : Calls Tryd.prog 12 #[.pointer none] W fun e W' => e = .returned (evV none) ∧ Below W.heap.size W W' := by
  have hmf : ∀ (fn : Fn) (first cap : Array Value) (w : World), (Instr.makeFunc fn first cap).run Tryd.prog w = .ok (.func fn first cap) w := fun _ _ _ _ => rfl
  have HL := Lib.hid (fun w => clen_nil w)
  have HB := Lib.hid ((((Below.refl W.heap.size W).alloc (Nat.le_refl _) (.cells #[.pointer none] 25)).alloc (by simp) (.cells #[.int .i64 0, .int .i64 0] 40)).alloc (by simp; omega) (.cells #[.int .i64 0, .int .i64 0] 40))
  go_enter Tryd.func12, Tryd.ntmps12
  go_wp2_with (go_at_call 11; refine (HL.out _).mono ?_; rintro e v1 ⟨rfl, rfl⟩)
  go_step3
  go_wp2
  go_step3
  go_wp2
  go_loopw [6, 16] (fun b i wr => b = .bool false ∧ i = .int .i64 0 ∧ wr = ((W.alloc (.cells #[.pointer none] 25)).alloc (.cells #[.int .i64 0, .int .i64 0] 40)).alloc (.cells #[.int .i64 0, .int .i64 0] 40)) (fun _ i _ => 0)
  case atStart => exact ⟨rfl, rfl, rfl⟩
  case round =>
    obtain ⟨rfl, rfl, rfl⟩ := hrel
    have hblk : Blk (((W.alloc (.cells #[.pointer none] 25)).alloc (.cells #[.int .i64 0, .int .i64 0] 40)).alloc (.cells #[.int .i64 0, .int .i64 0] 40)) (W.heap.size + 1) 40 #[.int .i64 0, .int .i64 0] := by
      have := Blk.new (W.alloc (.cells #[.pointer none] 25)) 40 #[.int .i64 0, .int .i64 0]
      rw [show (W.alloc (.cells #[.pointer none] 25)).heap.size = W.heap.size + 1 by simp] at this
      exact this.alloc _
    have HBK := Lib.hid hblk
    clear hblk
    go_wp2
    rw [Exit.noGoto_ret]
    exact bodyPost_ret (results_cell_row_tmp rfl _ _ (W.heap.size + 1) 40 _ (0, 0) _ rfl HBK.out Tryd.underlying40 rfl (by kernel_rfl)) rfl ⟨rfl, HB.out⟩

/-- Blocks that are not a cache's turn. -/
theorem Ca.aside (A : Ca fs s W a v C) {S : Nat → Prop} (hb : But S W W') (hS : ∀ j, S j → a.M ≤ j ∧ j ≠ a.pp ∧ j ≠ a.h ∧ j ≠ a.g ∧ j ≠ a.pc ∧ j ≠ a.mb ∧ v.ownBlock ≠ some j) : Ca fs s W' a v C :=
  ⟨A.fil.keep (hb.below A.size fun j hj => (hS j hj).1), A.pool.but hb (fun h => (hS _ h).2.1 rfl) (fun h => (hS _ h).2.2.1 rfl) (fun h => (hS _ h).2.2.2.1 rfl), A.head.but hb (fun h => (hS _ h).2.2.2.2.1 rfl), A.map.but hb (fun h => (hS _ h).2.2.2.2.2.1 rfl),
   own_butK A.ring hb (fun k hk h => (hS _ h).2.2.2.2.2.2 hk), A.keys, A.wfk, A.len, A.hp, A.hh, A.hg, A.hc, A.hm, A.hN, A.hd⟩
theorem Ca.lts (A : Ca fs s W a v C) : a.pp < W.heap.size ∧ a.h < W.heap.size ∧ a.g < W.heap.size ∧ a.pc < W.heap.size ∧ a.mb < W.heap.size ∧ a.M ≤ W.heap.size ∧ ∀ k, v.ownBlock = some k → k < W.heap.size :=
  ⟨A.pool.head.lt, A.pool.row.lt, A.pool.byt.lt, A.head.lt, A.map.lt, A.size, fun k hk => (A.apart.2.2.2.2.2.2.2.2.2.2.2.2 k hk).2⟩
set_option maxRecDepth 100000 in
set_option maxHeartbeats 1600000 in
theorem evict_any (A : Ca fs s W a v C) (hfr : ∀ x ∈ C.R, x.fr < 4096) (hhand : C.hand ≤ 4096) :
    Calls Tryd.prog 12 #[.pointer (some ⟨a.pc, 0, none⟩)] W fun e W' => e = .returned (evV C.evK) ∧ ∃ v', Ca fs s W' a v' C.evC ∧ Turned a v W v' W' := by
  have hmf : ∀ (fn : Fn) (first cap : Array Value) (w : World), (Instr.makeFunc fn first cap).run Tryd.prog w = .ok (.func fn first cap) w := fun _ _ _ _ => rfl
  obtain ⟨U, hU⟩ : ∃ U, U = ((W.alloc (.cells #[.pointer (some ⟨a.pc, 0, none⟩)] 25)).alloc (.cells #[.int .i64 0, .int .i64 0] 40)).alloc (.cells #[.int .i64 0, .int .i64 0] 40) := ⟨_, rfl⟩
  have hUb : Below W.heap.size W U := by rw [hU]; exact ((((Below.refl W.heap.size W).alloc (Nat.le_refl _) _).alloc (by simp) _).alloc (by simp; omega) _)
  have AU := A.below hUb
  have hns := A.not_old
  have hb0 : Blk U W.heap.size 25 #[.pointer (some ⟨a.pc, 0, none⟩)] := by rw [hU]; exact ((Blk.new W _ _).alloc _).alloc _
  have hb1 : Blk U (W.heap.size + 1) 40 #[.int .i64 0, .int .i64 0] := by
    have := Blk.new (W.alloc (.cells #[.pointer (some ⟨a.pc, 0, none⟩)] 25)) 40 #[.int .i64 0, .int .i64 0]
    rw [show (W.alloc (.cells #[.pointer (some ⟨a.pc, 0, none⟩)] 25)).heap.size = W.heap.size + 1 by simp] at this
    rw [hU]; exact this.alloc _
  have hb2 : Blk U (W.heap.size + 2) 40 #[.int .i64 0, .int .i64 0] := by
    have := Blk.new ((W.alloc (.cells #[.pointer (some ⟨a.pc, 0, none⟩)] 25)).alloc (.cells #[.int .i64 0, .int .i64 0] 40)) 40 #[.int .i64 0, .int .i64 0]
    rw [show ((W.alloc (.cells #[.pointer (some ⟨a.pc, 0, none⟩)] 25)).alloc (.cells #[.int .i64 0, .int .i64 0] 40)).heap.size = W.heap.size + 2 by simp] at this
    rw [hU]; exact this
  have tU : Turned a v W v U := Turned.below hUb
  have HLN := Lib.hid (clen_any AU)
  have hlen := A.len
  have hlook : C.look = roundC C.X C.hand C.R.length (2 * C.R.length) 0 C.R := rfl
  have HLK := Lib.hid hlook
  -- what holds ahead of step k
  have HS0 := Lib.hid (show Ca fs s U a v { C with R := C.R } from AU)
  have HST := Lib.hid (fun (wr : World) (R' : List Pg) (h : Ca fs s wr a v { C with R := R' }) (ht : Turned a v W v wr) (hk : R'.map Pg.key = C.R.map Pg.key) (hfk : R'.map Pg.fr = C.R.map Pg.fr) (q : Nat) (hq : q < C.R.length) (h0 : Blk wr W.heap.size 25 #[.pointer (some ⟨a.pc, 0, none⟩)]) =>
    show ∃ x g cap, R'[q]? = some x ∧ v = .slice (some ⟨g, 0, none⟩) C.R.length cap ∧ wr.cell? ⟨g, q * 2, none⟩ = some (.int .i64 x.f) ∧ wr.cell? ⟨g, q * 2 + 1, none⟩ = some (.int .i64 x.q) ∧
      wr.cell? ⟨a.pc, 3, none⟩ = some v ∧ wr.cell? ⟨a.pc, 4, none⟩ = some (.int .i64 C.hand) ∧ wr.cell? ⟨W.heap.size, 0, none⟩ = some (.pointer (some ⟨a.pc, 0, none⟩)) ∧
      Hid (Calls Tryd.prog 35 #[.agg #[.int .i64 x.f, .int .i64 x.q], .pointer (some ⟨W.heap.size, 0, none⟩)] wr (Passed fs s a v { C with R := R' } wr x (passB C.X x))) ∧ Hid (x.fr < 4096) from by
    have hl := len_of_key hk
    have hq' : q < ({ C with R := R' } : Cc).R.length := by show q < R'.length; omega
    obtain ⟨g, cap, e1, e2, e3⟩ := h.ringAt hq'
    have hx : R'[q]? = some R'[q] := List.getElem?_eq_getElem (by omega)
    have hxm : R'[q] ∈ R' := List.getElem_mem _
    have hfx : R'[q].fr < 4096 := by
      have h1 : R'[q].fr ∈ C.R.map Pg.fr := by rw [← hfk]; exact mem_fr hxm
      obtain ⟨y, hy, e⟩ := List.mem_map.1 h1
      rw [← e]; exact hfr y hy
    refine ⟨R'[q], g, cap, hx, by rw [← hl]; exact e1, e2, e3, h.cells.2.2.2.1, h.cells.2.2.2.2.1, h0.at_ 0 _ rfl, Lib.hid ?_, Lib.hid hfx⟩
    exact passed_any h h0 (pgF_mem h.keys hxm) hfx)
  have HRM := Lib.hid (fun (wr : World) (R' : List Pg) (h : Ca fs s wr a v { C with R := R' }) (q : Nat) (x : Pg) (hx : R'[q]? = some x) (hfx : x.fr < 4096) => remove_any h hx hfx)
  have HNS := Lib.hid hns
  have HU := Lib.hid hU
  have HSTART := Lib.hid (And.intro tU (And.intro hb0 (And.intro hb1 hb2)))
  -- the two boxes turn at the end
  have HEND := Lib.hid (fun (w2 w4 : World) (v4 : Value) (C4 : Cc) (h4 : Ca fs s w4 a v4 C4) (t2 : Turned a v W v w2) (hs : W.heap.size + 3 ≤ w2.heap.size) (t4 : Turned a v w2 v4 w4) (w5 : World) (hb5 : But (fun j => j = W.heap.size + 1 ∨ j = W.heap.size + 2) w4 w5) =>
    show ∃ v', Ca fs s w5 a v' C4 ∧ Turned a v W v' w5 from by
    obtain ⟨l1, l2, l3, l4, l5, l6, l7⟩ := A.lts
    refine ⟨v4, h4.aside hb5 fun j hj => ⟨by omega, by omega, by omega, by omega, by omega, by omega, fun e => ?_⟩, ?_⟩
    · rcases t4.2 j e with h | h
      · have := l7 j h; omega
      · omega
    · have t5 := t2.trans t4
      refine ⟨But.on t5.1 hb5 fun j hj => .inr (by omega), t5.2⟩)
  have hUs : U.heap.size = W.heap.size + 3 := by rw [hU]; simp
  have hpl := A.head.lt
  have p1 : a.pc ≠ W.heap.size + 1 := by omega
  have p2 : a.pc ≠ W.heap.size + 2 := by omega
  have hand0 : (0 : Int) ≤ (C.hand : Int) := by omega
  generalize hn : C.R.length = n at *
  clear A AU hns hb0 hb1 hb2 tU hU hUb hlook hfr
  go_enter Tryd.func12, Tryd.ntmps12
  generalize a.pc = pc at *
  go_wp2_with fail
  go_step3
  go_wp2_with (go_at_call 11; rw [← HU.out]; refine HLN.out.mono ?_; rintro e v1 ⟨rfl, rfl⟩)
  go_step3
  go_wp2
  go_loopw [6, 16] (fun b i wr => ∃ (k : Nat) (R' : List Pg), k ≤ 2 * n ∧ b = .bool false ∧ i = .int .i64 k ∧ Hid (C.look = roundC C.X C.hand n (2 * n - k) k R') ∧ Hid (R'.map Pg.key = C.R.map Pg.key ∧ R'.map Pg.fr = C.R.map Pg.fr) ∧ Hid (Ca fs s wr a v { C with R := R' }) ∧ Hid (Turned a v W v wr) ∧
    Hid (Blk wr W.heap.size 25 #[.pointer (some ⟨pc, 0, none⟩)] ∧ Blk wr (W.heap.size + 1) 40 #[.int .i64 0, .int .i64 0] ∧ Blk wr (W.heap.size + 2) 40 #[.int .i64 0, .int .i64 0])) (fun _ i _ => 2 * n - (intOf i).toNat)
  case atStart => exact ⟨0, C.R, Nat.zero_le _, rfl, rfl, Lib.hid HLK.out, Lib.hid ⟨rfl, rfl⟩, HS0, Lib.hid HSTART.out.1, Lib.hid HSTART.out.2⟩
  case round =>
    obtain ⟨k, R', hk, rfl, rfl, HL, HKF, HC, HT, HB⟩ := hrel
    by_cases hlt : k < 2 * n
    · have hn0 : 0 < n := by omega
      obtain ⟨q, hq⟩ : ∃ q, (C.hand + k) % n = q := ⟨_, rfl⟩
      have hql : q < n := by rw [← hq]; exact Nat.mod_lt _ hn0
      obtain ⟨x, g, cap, hx, hv, r0, r1, c3, c4, b0, HP, HFX⟩ := HST.out wr R' HC.out HT.out HKF.out.1 HKF.out.2 q (by omega) HB.out.1
      rw [hv] at c3
      have hX := Lib.hid hx
      have HV := Lib.hid hv
      have hi : (k : Int) < 2 * (n : Int) := by omega
      have hqi : (q : Int) < (n : Int) := by omega
      have hni : (n : Int) ≠ 0 := by omega
      have hrem : Int.tmod ((C.hand : Int) + (k : Int)) (n : Int) = (q : Int) := by
        rw [← hq, Int.tmod_eq_emod_of_nonneg (by omega)]
        simp
      have HQ := Lib.hid hq
      obtain ⟨hd, hhd⟩ : ∃ hd, C.hand = hd := ⟨_, rfl⟩
      rw [hhd] at c4 hrem
      have hdb : hd ≤ 4096 := by omega
      obtain ⟨m, hm⟩ : ∃ m, 2 * n - k = m + 1 := ⟨2 * n - k - 1, by omega⟩
      have HM := Lib.hid hm
      clear hx hv hq hm hhd HST HLK HSTART HS0
      cases hpb : passB C.X x with
      | true =>
        rw [hpb] at HP
        unfold Passed at HP
        have HPB := Lib.hid hpb
        clear hpb
        go_wp2_with (go_at_call 35; refine HP.out.mono ?_; rintro e w2 ⟨rfl, hA2, hT2⟩; have HA2 := Lib.hid hA2; have HT2 := Lib.hid hT2; clear hA2 hT2)
        go_roundw
        case rel =>
          refine ⟨k + 1, passL C.X R' x, by omega, rfl, by go_num, Lib.hid ?_, Lib.hid ⟨(passL_key x).trans HKF.out.1, (passL_fr x).trans HKF.out.2⟩, HA2, Lib.hid (HT.out.trans HT2.out), Lib.hid ?_⟩
          · rw [HL.out, HM.out, roundC_succ, HQ.out, hX.out]
            dsimp only
            rw [if_pos HPB.out, show 2 * n - (k + 1) = m by have := HM.out; omega]
          · have hb := HT2.out.1
            exact ⟨HB.out.1.but hb (HNS.out _ (Nat.le_refl _)), HB.out.2.1.but hb (HNS.out _ (by omega)), HB.out.2.2.but hb (HNS.out _ (by omega))⟩
        case measure => simp [intOf]; omega
      | false =>
        rw [hpb] at HP
        unfold Passed at HP
        have hpn : passL C.X R' x = R' := by
          unfold passB at hpb
          unfold passL
          simp at hpb
          rw [if_neg (by omega), hpb.2]
          simp
        have hlk : C.look = (R', some q) := by
          rw [HL.out, HM.out, roundC_succ, HQ.out, hX.out]
          dsimp only
          rw [if_neg (by rw [hpb]; simp)]
        have hevC : C.evC = ({ C with R := R' } : Cc).rm q x := by
          unfold Cc.evC; rw [hlk]; dsimp only; rw [hX.out]
        have hevK : C.evK = some x := by
          unfold Cc.evK; rw [hlk]; exact hX.out
        dsimp only at HP
        rw [hpn] at HP
        have HEC := Lib.hid hevC
        have HEK := Lib.hid hevK
        have hsz : W.heap.size + 3 ≤ wr.heap.size := HB.out.2.2.lt
        have HSZ := Lib.hid hsz
        clear hpb hpn hlk hevC hevK hsz
        go_wp2_with (first
          | (go_at_call 35; refine HP.out.mono ?_; rintro e w2 ⟨rfl, hA2, hT2⟩; have HA2 := Lib.hid hA2; have HT2 := Lib.hid hT2; clear hA2 hT2; have q0 := (HB.out.1.but HT2.out.1 (HNS.out _ (Nat.le_refl _))).at_ 0 _ rfl)
          | (go_at_call 36; refine (HRM.out w2 R' HA2.out q x hX.out HFX.out).mono ?_; rintro e w4 ⟨rfl, v4, hA4, hT4⟩; have HA4 := Lib.hid hA4; have HT4 := Lib.hid hT4; have hk2 := ((HB.out.2.2.but HT2.out.1 (HNS.out _ (by omega))).but hT4.1 (HNS.out _ (by omega))); have hk1 := ((HB.out.2.1.but HT2.out.1 (HNS.out _ (by omega))).but hT4.1 (HNS.out _ (by omega))); have s0 := hk2.at_ 0 _ rfl; have s1 := hk2.at_ 1 _ rfl; have f0 := hk2.frozen 0; have f1 := hk2.frozen 1; have s2 := hk1.at_ 0 _ rfl; have s3 := hk1.at_ 1 _ rfl; have f2 := hk1.frozen 0; have f3 := hk1.frozen 1; have HK1 := Lib.hid hk1; clear hk1 hk2 hA4 hT4))
        rw [Exit.noGoto_ret]
        have hfin : Blk ((((w4.setCell ⟨W.heap.size + 1 + 1, 0, none⟩ (.int .i64 x.f)).setCell ⟨W.heap.size + 1 + 1, 1, none⟩ (.int .i64 x.q)).setCell ⟨W.heap.size + 1, 0, none⟩ (.int .i64 x.f)).setCell ⟨W.heap.size + 1, 1, none⟩ (.int .i64 x.q)) (W.heap.size + 1) 40 #[.int .i64 x.f, .int .i64 x.q] := by
          have := (((HK1.out.far (p := ⟨W.heap.size + 1 + 1, 0, none⟩) (by show W.heap.size + 1 ≠ W.heap.size + 1 + 1; omega) (.int .i64 x.f)).far (p := ⟨W.heap.size + 1 + 1, 1, none⟩) (by show W.heap.size + 1 ≠ W.heap.size + 1 + 1; omega) (.int .i64 x.q)).set_ 0 (.int .i64 x.f)).set_ 1 (.int .i64 x.q)
          simpa using this
        have hbut : But (fun j => j = W.heap.size + 1 ∨ j = W.heap.size + 2) w4 ((((w4.setCell ⟨W.heap.size + 1 + 1, 0, none⟩ (.int .i64 x.f)).setCell ⟨W.heap.size + 1 + 1, 1, none⟩ (.int .i64 x.q)).setCell ⟨W.heap.size + 1, 0, none⟩ (.int .i64 x.f)).setCell ⟨W.heap.size + 1, 1, none⟩ (.int .i64 x.q)) :=
          But.setCell (S := fun j => j = W.heap.size + 1 ∨ j = W.heap.size + 2) (p := ⟨W.heap.size + 1, 1, none⟩) (But.setCell (S := fun j => j = W.heap.size + 1 ∨ j = W.heap.size + 2) (p := ⟨W.heap.size + 1, 0, none⟩) (But.setCell (S := fun j => j = W.heap.size + 1 ∨ j = W.heap.size + 2) (p := ⟨W.heap.size + 1 + 1, 1, none⟩) (But.setCell (S := fun j => j = W.heap.size + 1 ∨ j = W.heap.size + 2) (p := ⟨W.heap.size + 1 + 1, 0, none⟩) (But.refl _ _) (.inl (.inr rfl)) _) (.inl (.inr rfl)) _) (.inl (.inl rfl)) _) (.inl (.inl rfl)) _
        refine bodyPost_ret (results_cell_row_tmp rfl _ _ (W.heap.size + 1) 40 _ (0, 0) _ rfl hfin Tryd.underlying40 rfl (by kernel_rfl)) rfl ⟨?_, ?_⟩
        · rw [HEK.out]; rfl
        · rw [HEC.out]
          exact HEND.out w2 w4 v4 _ HA4.out (HT.out.trans HT2.out) (Nat.le_trans HSZ.out HT2.out.1.size) HT4.out _ hbut
    · have hk2 : k = 2 * n := by omega
      have hlk : C.look = (R', none) := by
        rw [HL.out, hk2, Nat.sub_self]; rfl
      have hevC : C.evC = { C with R := R' } := by unfold Cc.evC; rw [hlk]
      have hevK : C.evK = none := by unfold Cc.evK; rw [hlk]
      have HEC := Lib.hid hevC
      have HEK := Lib.hid hevK
      have hk1 := HB.out.2.1
      have hkb := HB.out.2.2
      have s0 := hkb.at_ 0 _ rfl
      have s1 := hkb.at_ 1 _ rfl
      have s2 := hk1.at_ 0 _ rfl
      have s3 := hk1.at_ 1 _ rfl
      have f2 := hk1.frozen 0
      have f3 := hk1.frozen 1
      have hi : (k : Int) = 2 * (n : Int) := by omega
      have HSZ := Lib.hid (show W.heap.size + 3 ≤ wr.heap.size from hkb.lt)
      have HK1 := Lib.hid hk1
      clear hlk hevC hevK hk1 hkb HST HLK HSTART HS0
      go_wp2
      rw [Exit.noGoto_ret]
      have hfin : Blk ((wr.setCell ⟨W.heap.size + 1, 0, none⟩ (.int .i64 0)).setCell ⟨W.heap.size + 1, 1, none⟩ (.int .i64 0)) (W.heap.size + 1) 40 #[.int .i64 0, .int .i64 0] := by
        have := (HK1.out.set_ 0 (.int .i64 0)).set_ 1 (.int .i64 0)
        simpa using this
      have hbut : But (fun j => j = W.heap.size + 1 ∨ j = W.heap.size + 2) wr ((wr.setCell ⟨W.heap.size + 1, 0, none⟩ (.int .i64 0)).setCell ⟨W.heap.size + 1, 1, none⟩ (.int .i64 0)) :=
        But.setCell (S := fun j => j = W.heap.size + 1 ∨ j = W.heap.size + 2) (p := ⟨W.heap.size + 1, 1, none⟩) (But.setCell (S := fun j => j = W.heap.size + 1 ∨ j = W.heap.size + 2) (p := ⟨W.heap.size + 1, 0, none⟩) (But.refl _ _) (.inl (.inl rfl)) _) (.inl (.inl rfl)) _
      refine bodyPost_ret (results_cell_row_tmp rfl _ _ (W.heap.size + 1) 40 _ (0, 0) _ rfl hfin Tryd.underlying40 rfl (by kernel_rfl)) rfl ⟨?_, ?_⟩
      · rw [HEK.out]; rfl
      · rw [HEC.out]
        exact HEND.out wr wr v _ HC.out HT.out HSZ.out (Turned.refl a v wr) _ hbut
end
end Go.Proofs.YtmbjflcmbenbdaaDoor
