/- Package symbol: chain's iterator. -/
import Derived.Test.YtkembimfkoganaaYJ
import Derived.Test.YtkembimfkoganaaRng
namespace Go.Proofs.Ytkembimfkoganaa
open Go.RowKit Go.Shelf
set_option linter.unusedVariables false
set_option linter.unusedSimpArgs false
attribute [local go_sem] Oper.semAt_some

/-- The symbols of a chain from a number on, so many steps at most. -/
def chnL (num : Nat → Nat) (cnt b : Nat) : Nat → Nat → List Nat
  | 0, _ => []
  | m + 1, at_ => if num at_ = 0 ∨ cnt ≤ num at_ then [] else num at_ :: chnL num cnt b m (2 + b + num at_)
/-- The symbols that chain goes over. -/
def seqY (s : ByteArray) (f : Int) (H : Nat) : List Nat := if numV s f 0 = 0 then [] else chnL (numV s f) (cntV s f) (numV s f 0) (cntV s f) (2 + H % numV s f 0)
theorem nextY {b x : Nat} (hb : b < 4294967296) (hx : x < 4294967296) : ∃ a, 2 + b + x = a ∧ a ≤ 10000000000 ∧ wrap64 ((2 : Int) + (b : Int)) = (2 : Int) + (b : Int) ∧ (2 : Int) + (b : Int) + (x : Int) = (a : Int) ∧ wrap64 (a : Int) = (a : Int) :=
  ⟨2 + b + x, rfl, by omega, IntWalk.wrap64_in _ (by omega), by omega, IntWalk.wrap64_in _ (by omega)⟩
theorem noneFnY : ∀ (f : FuncId), none = some f → Fence.wide.fn f := fun _ h => by cases h
/-- What is told of a symbol. -/
def encY (l : List Nat) (k : Fin l.length) : Array Value := #[.int .i64 (l[k.1] : Nat)]

set_option maxRecDepth 100000 in
set_option maxHeartbeats 2000000 in
theorem chain1_in (n : Nat) (hn : 1 ≤ n) (l bv bd bh : Nat) (s : ByteArray) (d : Dyn) (u : Value) (H : Nat) (hHl : H < 4294967296) (hd : d.wf) (hs : s.size ≤ 1000000) (S : Nat → Prop) (L : List Nat) (hL : L = seqY s (d.f 4) H) (J Jx : List (Fin L.length) → World → Prop) (W : World)
    (hS1 : ¬ S bv) (hS2 : ¬ S bd) (hS3 : ¬ S bh)
    (hJ : AbidesFrom W.heap.size J)
    (hY : ∀ pre x W1, J pre W1 → pre.length < L.length → YieldAt Fence.wide (n - 1) Try.prog l (encY L x) W1 fun e W' =>
      (e = .returned (.bool true) ∧ J (pre ++ [x]) W' ∧ KpC S W1 W') ∨ (e = .returned (.bool false) ∧ Jx (pre ++ [x]) W'))
    (hbv : Blk W bv 9 #[.string s]) (hbd : Blk W bd 38 (d.cs u)) (hbh : Blk W bh 30 #[.int .u32 H]) (h0 : J [] W) :
    CallsIn Fence.wide n Try.prog 34 #[.func (.yield l) #[] #[], .pointer (some ⟨bv, 0, none⟩), .pointer (some ⟨bd, 0, none⟩), .pointer (some ⟨bh, 0, none⟩)] W fun e W' => (∃ v, e = .returned v) ∧
      ((∃ ys, ys = List.finRange L.length ∧ J ys W') ∨ (∃ pre, (∃ k, k ≤ L.length ∧ pre = upF L.length k) ∧ Jx pre W')) := by
  have HCN := Lib.hid (fun w => scount_any s d u w hd hs)
  have HNM := Lib.hid (fun i w (hi : i ≤ 1000000000000) => snum_any s d u i w hd hi hs)
  have hcl := cntV_le s (d.f 4)
  have hnl := fun i => numV_lt s (d.f 4) i
  unfold seqY at hL
  unfold Dyn.cs at *
  generalize d.f 1 = d1 at *
  generalize d.f 2 = d2 at *
  generalize d.f 3 = d3 at *
  generalize d.f 4 = f at *
  generalize d.f 5 = d5 at *
  generalize d.f 6 = d6 at *
  generalize d.f 7 = d7 at *
  generalize d.f 8 = d8 at *
  generalize cntV s f = cnt at *
  generalize numV s f = num at *
  have HN0 := Lib.hid (HNM.out 0 · (by omega))
  rw [show ((0 : Nat) : Int) = 0 from rfl] at HN0
  have hCEL := fun v (h : Blk v bv 9 #[.string s]) (h2 : Blk v bd 38 #[u, .int .i64 d1, .int .i64 d2, .int .i64 d3, .int .i64 f, .int .i64 d5, .int .i64 d6, .int .i64 d7, .int .i64 d8]) =>
    show v.cell? ⟨bv, 0, none⟩ = some (.string s) ∧ v.cell? ⟨bd, 0, none⟩ = some u ∧ v.cell? ⟨bd, 1, none⟩ = some (.int .i64 d1) ∧ v.cell? ⟨bd, 2, none⟩ = some (.int .i64 d2) ∧ v.cell? ⟨bd, 3, none⟩ = some (.int .i64 d3) ∧ v.cell? ⟨bd, 4, none⟩ = some (.int .i64 f) ∧ v.cell? ⟨bd, 5, none⟩ = some (.int .i64 d5) ∧ v.cell? ⟨bd, 6, none⟩ = some (.int .i64 d6) ∧ v.cell? ⟨bd, 7, none⟩ = some (.int .i64 d7) ∧ v.cell? ⟨bd, 8, none⟩ = some (.int .i64 d8) from
    ⟨h.cell 0, h2.cell 0, h2.cell 1, h2.cell 2, h2.cell 3, h2.cell 4, h2.cell 5, h2.cell 6, h2.cell 7, h2.cell 8⟩
  have HCEL := Lib.hid hCEL
  clear hCEL hd
  refine callsIn_of_wp Try.func34 rfl trivial ?_ rfl
  simp only [Try.ntmps34, List.size_toArray, List.length_cons, List.length_nil, Nat.reduceAdd, Nat.reduceSub, Array.replicate_succ, Array.replicate_zero, List.push_toArray, List.append_toArray, List.nil_append, List.cons_append]
  obtain ⟨c0, x0, x1, x2, x3, x4, x5, x6, x7, x8⟩ := HCEL.out W hbv hbd
  have HJ := Lib.hid (fun pre A B (hb : Below A.heap.size A B) hj => hJ pre A B none hj (grown_none hb) (fun r e => by cases e))
  have HBK := Lib.hid (fun v (hv : KpC S W v) => show Blk v bv 9 #[.string s] ∧ Blk v bd 38 #[u, .int .i64 d1, .int .i64 d2, .int .i64 d3, .int .i64 f, .int .i64 d5, .int .i64 d6, .int .i64 d7, .int .i64 d8] ∧ Blk v bh 30 #[.int .u32 H] from
    ⟨hv _ _ _ hS1 hbv, hv _ _ _ hS2 hbd, hv _ _ _ hS3 hbh⟩)
  clear hbv hbd hbh hS1 hS2 hS3 hJ
  by_cases hb0 : num 0 = 0
  · rw [if_pos hb0] at hL
    rw [hb0] at HN0
    subst hL
    clear hY hb0
    gi_wp2_with (first
      | (refine ⟨trivial, ?_⟩; gi_at_call 18; refine (callsIn_wide.2 (HCN.out _)).mono ?_; rintro e v1 ⟨rfl, hb1⟩; have hj1 := HJ.out _ _ _ hb1 h0; have hk1 := HBK.out v1 (KpC.of_below hb1); clear c0 x0 x1 x2 x3 x4 x5 x6 x7 x8; obtain ⟨c0, x0, x1, x2, x3, x4, x5, x6, x7, x8⟩ := HCEL.out v1 hk1.1 hk1.2.1; clear hk1)
      | (refine ⟨trivial, ?_⟩; gi_at_call 30; refine (callsIn_wide.2 (HN0.out _)).mono ?_; rintro e v2 ⟨⟨q, rfl⟩, hb2⟩; have hj2 := HJ.out _ _ _ hb2 hj1))
    refine bodyPost_ret (results_none rfl _ _ _) rfl ?_
    exact ⟨⟨_, rfl⟩, .inl ⟨_, rfl, hj2⟩⟩
  · rw [if_neg hb0] at hL
    obtain ⟨b, hb⟩ : ∃ b, num 0 = b := ⟨_, rfl⟩
    have hbl := hnl 0
    rw [hb] at hL hb0 hbl HN0
    have hm1 : (H : Int).tmod (b : Int) = ((H % b : Nat) : Int) := by rw [Int.tmod_eq_emod_of_nonneg (by omega)]; exact (Int.natCast_emod _ _).symm
    have hHb : H % b < b := Nat.mod_lt _ (by omega)
    have hHlt : H < 4294967296 := hHl
    have hHw : IntKind.i64.wrap (H : Int) = (H : Int) := IntWalk.i64_in _ (by omega)
    obtain ⟨at0, hat0⟩ : ∃ a, 2 + H % b = a := ⟨_, rfl⟩
    have hat1 : (2 : Int) + ((H % b : Nat) : Int) = (at0 : Int) := by omega
    have hat2 : at0 ≤ 4294967300 := by omega
    have hbz : ((b : Int) == 0) = false := by simp; omega
    rw [hat0] at hL
    have HL := Lib.hid hL
    generalize H % b = hb2 at *
    clear hL hb hHlt hat0 hHb
    gi_wp2_with
    (first
      | (refine ⟨trivial, ?_⟩; gi_at_call 18; refine (callsIn_wide.2 (HCN.out _)).mono ?_; rintro e v1 ⟨rfl, hb1⟩; have hj1 := HJ.out _ _ _ hb1 h0; have hk1 := HBK.out v1 (KpC.of_below hb1); clear c0 x0 x1 x2 x3 x4 x5 x6 x7 x8; obtain ⟨c0, x0, x1, x2, x3, x4, x5, x6, x7, x8⟩ := HCEL.out v1 hk1.1 hk1.2.1; clear hk1)
      | (refine ⟨trivial, ?_⟩; gi_at_call 30; refine (callsIn_wide.2 (HN0.out _)).mono ?_; rintro e v2 ⟨⟨q, rfl⟩, hb2⟩; have hj2 := HJ.out _ _ _ hb2 hj1; have hk2 := (KpC.of_below (S := S) hb1).trans (KpC.of_below hb2); have hz2 := Nat.le_trans hb1.size hb2.size; have ch := (HBK.out v2 hk2).2.2.at_ 0 _ rfl))
    clear hj1 hb1 hb2 c0 x0 x1 x2 x3 x4 x5 x6 x7 x8 h0
    gi_loopw [8, 28] (fun a i wr => ∃ k at_ : Nat, k ≤ cnt ∧ k ≤ L.length ∧ at_ ≤ 10000000000 ∧ a = .int .i64 at_ ∧ i = .int .i64 k ∧ Hid (L.drop k = chnL num cnt b (cnt - k) at_) ∧ Hid (J (upF L.length k) wr) ∧ Hid (KpC S W wr))
      (fun _ i _ => cnt - (intOf i).toNat)
    case atStart => exact ⟨0, at0, Nat.zero_le _, Nat.zero_le _, by omega, rfl, rfl, Lib.hid (by rw [HL.out]; rfl), Lib.hid (by rw [upF_zero]; exact hj2), Lib.hid hk2⟩
    case round =>
      clear hj2 hk2 ch hat1 hat2 hm1 hHw
      obtain ⟨k, at_, hk, hkL, hat, rfl, rfl, HD, HJk, HK⟩ := hrel
      have hbk := HBK.out wr HK.out
      obtain ⟨c0, x0, x1, x2, x3, x4, x5, x6, x7, x8⟩ := HCEL.out wr hbk.1 hbk.2.1
      clear hbk
      have hfin : L.drop k = [] → ∀ v, J (upF L.length k) v → ∃ ys, ys = List.finRange L.length ∧ J ys v := fun h v hj => by
        have hk2 : k = L.length := by have := congrArg List.length h; simp at this; omega
        rw [hk2, upF_full] at hj
        exact ⟨_, rfl, hj⟩
      by_cases hlt : k < cnt
      · obtain ⟨m, hm⟩ : ∃ m, cnt - k = m + 1 := ⟨cnt - k - 1, by omega⟩
        have hD := HD.out
        rw [hm] at hD
        have hD2 : L.drop k = if num at_ = 0 ∨ cnt ≤ num at_ then [] else num at_ :: chnL num cnt b m (2 + b + num at_) := hD
        have HN := Lib.hid (HNM.out at_ · (by omega))
        have hxl := hnl at_
        obtain ⟨x, hx⟩ : ∃ x, num at_ = x := ⟨_, rfl⟩
        rw [hx] at HN hD2 hxl
        have klt : (k : Int) < (cnt : Int) := by omega
        clear hD hx
        by_cases hx0 : x = 0
        · subst hx0
          rw [if_pos (.inl rfl)] at hD2
          have HF := Lib.hid (hfin hD2)
          rw [show ((0 : Nat) : Int) = 0 from rfl] at HN
          clear hfin hD2 hm
          gi_wp2_with (refine ⟨trivial, ?_⟩; gi_at_call 30; refine (callsIn_wide.2 (HN.out _)).mono ?_; rintro e v1 ⟨⟨q, rfl⟩, hb1⟩)
          refine ⟨noneFnY, ?_⟩
          gi_wp2
          refine bodyPost_ret (results_none rfl _ _ _) rfl ?_
          exact ⟨⟨_, rfl⟩, .inl (HF.out _ (HJ.out _ _ _ hb1 HJk.out))⟩
        · have hxz : ((x : Int) == 0) = false := by simp; omega
          by_cases hxc : cnt ≤ x
          · rw [if_pos (.inr hxc)] at hD2
            have HF := Lib.hid (hfin hD2)
            have hxd : decide ((cnt : Int) ≤ (x : Int)) = true := decide_eq_true (by omega)
            clear hfin hD2 hm
            gi_wp2_with (refine ⟨trivial, ?_⟩; gi_at_call 30; refine (callsIn_wide.2 (HN.out _)).mono ?_; rintro e v1 ⟨⟨q, rfl⟩, hb1⟩)
            refine ⟨noneFnY, ?_⟩
            gi_wp2
            refine bodyPost_ret (results_none rfl _ _ _) rfl ?_
            exact ⟨⟨_, rfl⟩, .inl (HF.out _ (HJ.out _ _ _ hb1 HJk.out))⟩
          · rw [if_neg (by omega)] at hD2
            have hxd : decide ((cnt : Int) ≤ (x : Int)) = false := decide_eq_false (by omega)
            have hkl : k < L.length := by
              have := congrArg List.length hD2
              simp at this
              omega
            have hLk : L[k] = x ∧ L.drop (k + 1) = chnL num cnt b m (2 + b + x) := by
              rw [List.drop_eq_getElem_cons hkl] at hD2
              injection hD2 with e1 e2
              exact ⟨e1, e2⟩
            have hup := upF_succ hkl
            have hyy := fun v hj => hY (upF L.length k) ⟨k, hkl⟩ v hj (by rw [upF_length hkL]; exact hkl)
            have HUP := Lib.hid hup
            unfold encY at hyy
            simp only [hLk.1] at hyy
            have hcm : cnt - (k + 1) = m := by omega
            have HLK := Lib.hid (show L.drop (k + 1) = chnL num cnt b (cnt - (k + 1)) (2 + b + x) by rw [hcm]; exact hLk.2)
            obtain ⟨at1, ha1, hat1, -, hz2, -⟩ := nextY hbl hxl
            rw [ha1] at HLK
            have HZ2 := Lib.hid hz2
            clear hz2
            have HYY := Lib.hid hyy
            clear hfin hD2 hm hup hyy hLk hcm ha1 HD hnl
            gi_wp2_with (refine ⟨trivial, ?_⟩; gi_at_call 30; refine (callsIn_wide.2 (HN.out _)).mono ?_; rintro e v1 ⟨⟨q, rfl⟩, hb1⟩; obtain ⟨fn, tmps, assign, body, hy, hR⟩ := HYY.out v1 (HJ.out _ _ _ hb1 HJk.out))
            refine hR.mono ?_
            have HKY := Lib.hid (fun v (hv : KpC S v1 v) => show KpC S W v from (HK.out.trans (KpC.of_below hb1)).trans hv)
            clear hR hy hb1
            rintro e W3 (⟨rfl, hJ3, hk3⟩ | ⟨rfl, hJx3⟩)
            · gi_wp2
              go_roundw
              case rel => exact ⟨k + 1, at1, by omega, by omega, hat1, by rw [HZ2.out], by go_num, HLK, Lib.hid (by rw [HUP.out]; exact hJ3), Lib.hid (HKY.out _ hk3)⟩
              case measure => simp [intOf]; omega
            · gi_wp2
              refine bodyPost_ret (results_none rfl _ _ _) rfl ?_
              exact ⟨⟨_, rfl⟩, .inr ⟨_, ⟨k + 1, by omega, HUP.out.symm⟩, hJx3⟩⟩
      · obtain rfl : k = cnt := by omega
        have hD := HD.out
        rw [Nat.sub_self] at hD
        have HF := Lib.hid (hfin hD)
        clear hfin hD
        gi_wp2
        go_end0
        exact ⟨⟨_, rfl⟩, .inl (HF.out _ HJk.out)⟩
end Go.Proofs.Ytkembimfkoganaa
