/- RadixPlays: for any number and any calls (forty at most): a table goes on as the document's does, and takes just the frames that it says. -/
import Derived.Test.YtbidlabhekiijaaDoorQR
import Derived.Deep.CutBlock
import Derived.Deep.CutRange
import Derived.BigQuiet
import Derived.Deep.RegionHeld3
namespace Go.Proofs.YtbidlabhekiijaaDoor.lawPlays
open Go.ChangeShapes Go.WideShapes Go.ChangeAt Go.RowKit
set_option linter.unusedVariables false
set_option linter.unusedSimpArgs false

theorem opg_bounds (o : Op7) (h : (Lit.int .i64 o.page).wf = true) : -9223372036854775808 ≤ o.pg ∧ o.pg < 9223372036854775808 := by
  have hb := bounds_i64 h
  unfold Op7.pg
  cases o.inn
  · rw [if_neg (by decide)]; omega
  · rw [if_pos rfl]
    obtain ⟨P, hP, hP4, _⟩ := and_page o.page
    omega

/-- The table is closed, its pool is whole. -/
structure Cl (w cur : World) (t p h g N : Nat) : Prop where
  pw : ∃ Y, Pw w cur p h g Y ∧ freeN Y.H = N
  blk : Blk cur t 63 #[.pointer none, .int .i64 0]
section
variable {w cur nxt : World} {t p h g N : Nat}
theorem Cl.on (s : Cl w cur t p h g N) (hb : Below cur.heap.size cur nxt) : Cl w nxt t p h g N := by
  obtain ⟨Y, hy, hf⟩ := s.pw
  exact ⟨⟨Y, hy.on hb, hf⟩, s.blk.below hb s.blk.lt⟩
theorem Cl.alloc (s : Cl w cur t p h g N) (o : Obj) : Cl w (cur.alloc o) t p h g N := s.on ((Below.refl _ _).alloc (Nat.le_refl _) o)
theorem Cl.drewN (s : Cl w cur t p h g N) (n : Nat) : Cl w (cur.drewN n) t p h g N := by
  obtain ⟨Y, hy, hf⟩ := s.pw
  exact ⟨⟨Y, hy.drewN n, hf⟩, s.blk.drewN n⟩
theorem Cl.bel (s : Cl w cur t p h g N) : Below w.heap.size w cur := by
  obtain ⟨Y, hy, _⟩ := s.pw
  exact hy.bel
theorem cl_free (s : Cl w cur t p h g N) : Calls Tryd.prog 30 #[.pointer (some ⟨p, 0, none⟩)] cur fun e v' => e = .returned (.int .i64 (N : Nat)) ∧ cur = v' := by
  obtain ⟨Y, hy, hf⟩ := s.pw
  exact (pw_free hy).mono fun e v' ⟨he, hv⟩ => ⟨by rw [he, hf], hv⟩
theorem cl_nodes (s : Cl w cur t p h g N) : Calls Tryd.prog 29 #[.pointer (some ⟨t, 0, none⟩)] cur fun e v' => e = .returned (.int .i64 0) ∧ cur = v' := tnodes_none (some ⟨t, 0, none⟩) cur (Lib.hid (closed_zero t cur (s.blk.at_ 0 _ rfl)))
theorem cl_get (s : Cl w cur t p h g N) : Calls Tryd.prog 21 #[.pointer (some ⟨t, 0, none⟩), .int .i64 0] cur fun e v' => e = .returned (.tuple #[.agg #[.bool false, .bool false, .bool false, .bool false, .int .i64 0], .int .i64 13]) ∧ Cl w v' t p h g N :=
  (show Calls Tryd.prog 21 #[.pointer (some ⟨t, 0, none⟩), .int .i64 0] cur _ from tget_closed t 0 0 (by omega) cur s.blk).mono fun e v' ⟨he, hb⟩ => ⟨he, s.on hb⟩
theorem cl_all (s : Cl w cur t p h g N) : Calls Tryd.prog 28 #[.pointer (some ⟨t, 0, none⟩)] cur fun e v' => ∃ A c, e = .returned (.slice A 0 c) ∧ Cl w v' t p h g N := by
  refine (all_of (tells_zero s.blk 0 m0 (fun _ _ => 0)) (Nat.zero_le _)).mono ?_
  rintro e v' ⟨u, he, ho, hb⟩
  obtain ⟨A', c', rfl⟩ := own_sl7 ho
  exact ⟨A', c', he, s.on hb⟩
theorem re_close {r B : Nat} {M : Nat → Sl} (s : Re w cur t p h g r B N M M) : Calls Tryd.prog 31 #[.pointer (some ⟨t, 0, none⟩)] cur fun e v' =>
    ∃ A c A' c', e = .returned (.slice A (spotsF M).length c) ∧ Cl w v' t p h g N ∧ SRow v' 0 (.slice A (spotsF M).length c) (spotsF M) ∧ v'.cell? ⟨r, 0, none⟩ = some (.slice A' (spotsF M).length c') ∧ SRow v' 0 (.slice A' (spotsF M).length c') (spotsF M) := by
  obtain ⟨v, hk, hrow⟩ := s.row
  obtain ⟨A', c', rfl⟩ := hrow.len
  have hl := s.lt
  have hn := s.ne
  refine (tw_close s.tw).mono ?_
  rintro e v' ⟨u, he, ho, hb, hbk, Y, hY, hf⟩
  rw [spots8_eq] at ho
  have ho2 : SRow v' cur.heap.size u (spotsF M) := SRow.of_own (by simpa [spotsF] using ho)
  obtain ⟨A, c, rfl⟩ := ho2.len
  exact ⟨A, c, A', c', he, ⟨⟨Y, hY, hf⟩, hbk⟩, ho2.weaken (Nat.zero_le _), (hk.but hb (by omega)).at_ 0 _ rfl, (hrow.but hb (fun j hj => by omega)).weaken (Nat.zero_le _)⟩
end

set_option maxRecDepth 100000 in
set_option maxHeartbeats 3200000 in
theorem walk (n0 : Int) (A : Option Addr) (l : List Op7) (c : Nat) (w : World) (ws : (Lit.int .i64 n0).wf = true) (hm : l.length ≤ maxLen) (hz : OpRow7 w A l) (hT : Tab w) :
    Calls Tryd.prog 4 #[.int .i64 n0, .slice A l.length c] w fun e w' => e = .returned (.bool true) ∧ Below w.heap.size w w' := by
  unfold maxLen at hm
  obtain ⟨m, h15, hm15, hmx⟩ := and_mask (x := n0) 6 63 (by omega) (by decide)
  simp only [show ((63 : Nat) : Int) = 63 from rfl] at h15
  clear hmx
  obtain ⟨N, hN⟩ : ∃ N, 1 + m = N := ⟨_, rfl⟩
  have h4m : 1 + (m : Int) = (N : Nat) := by omega
  have HA := Lib.hid (fun w hT => awake7_any w hT)
  have HN := Lib.hid (fun v (hb : Below w.heap.size w v) (hT' : Tab v) => pw_new hb hT' hT.pos N (by omega) (by omega))
  have HM := Lib.hid (fun (v : World) p h g (s : Pw w v p h g (newP N)) => tw_new (N := N) (by omega) s)
  unfold PwMade at HN
  unfold TwMade at HM
  have HZ := Lib.hid hz
  have HB := Lib.hid (Below.refl w.heap.size w)
  have hNb : 1 ≤ N ∧ N ≤ 64 := by omega
  clear hz hN
  go_enter Tryd.func4, Tryd.ntmps4
  go_wp2_with (first
    | (go_at_call 10; refine (HA.out _ hT).mono ?_; rintro e v0 ⟨rfl, hb⟩; have hB := HB.out.trans hb; replace hT := hT.below hb hT.pos; clear hb)
    | (go_at_call 16; refine (HN.out _ hB hT).mono ?_; rintro e v1 ⟨p, h, g, rfl, hS⟩; clear hB)
    | (go_at_call 17; refine (HM.out _ _ _ _ hS).mono ?_; rintro e v2 ⟨t, rfl, hS2⟩; clear hS))
  have HS := Lib.hid (Re.start hS2)
  clear hS2 hT HN HM HA HB
  generalize v2.heap.size = r at *
  generalize v2.alloc _ = V2 at *
  obtain ⟨B, hB⟩ : ∃ B, r + 1 = B := ⟨_, rfl⟩
  rw [hB] at HS
  clear hB
  go_loopw [11, 12, 13, 14, 15, 16, 17, 18, 19, 20, 21, 22, 23, 24, 25, 26, 27, 28] (fun i _ _ _ _ _ _ _ _ _ _ _ _ _ _ _ _ _ wr => ∃ (k : Nat) (M : Nat → Sl), k ≤ l.length ∧ k ≤ 40 ∧ i = .int .i64 k ∧ Re w wr t p h g r B N M M) (fun i _ _ _ _ _ _ _ _ _ _ _ _ _ _ _ _ _ _ => l.length - (intOf i).toNat)
  case atStart => exact ⟨0, _, Nat.zero_le _, by omega, rfl, HS.out⟩
  case round =>
    clear HS
    obtain ⟨k, M, hk, hk40, rfl, hR⟩ := hrel
    by_cases hlt : k < l.length ∧ k < 40
    · obtain ⟨hk1, hk2⟩ := hlt
      have d40 : decide ((k : Int) < 40) = true := decide_eq_true (by omega)
      obtain ⟨ad, rfl, hab, hcs, wk, wp, wn⟩ := HZ.out k hk1
      have hpgb := opg_bounds l[k] wp
      have hpc := opage_any l[k]
      obtain ⟨K, hK⟩ : ∃ K, l[k].pg = K := ⟨_, rfl⟩
      rw [hK] at hpgb hpc
      clear hK
      generalize l[k] = o at *
      obtain ⟨kd, pg, inn, ⟨za, zb, zc, zd, zn⟩⟩ := o
      have hcx : ∀ j u, (Op7.cs ⟨kd, pg, inn, ⟨za, zb, zc, zd, zn⟩⟩)[j]? = some u → wr.cell? (ad.add (k * 8 + j)) = some u := fun j u hj => (hR.tw.bel.cell (by rw [show (ad.add (k * 8 + j)).block = ad.block by unfold Addr.add; split <;> rfl]; exact hab)).trans (hcs j u hj)
      have hc0 : wr.cell? (ad.add (k * 8)) = some (.int .i64 kd) := hcx 0 _ rfl
      have hc1 : wr.cell? { block := (ad.add (k * 8)).block, off := (ad.add (k * 8)).off + 1, spot := none } = some (.int .i64 pg) := by
        show wr.cell? ((ad.add (k * 8)).add 1) = _
        rw [Go.Deep.add_add]
        exact hcx 1 _ rfl
      have hc2 : wr.cell? { block := (ad.add (k * 8)).block, off := (ad.add (k * 8)).off + 2, spot := none } = some (.bool inn) := by
        show wr.cell? ((ad.add (k * 8)).add 2) = _
        rw [Go.Deep.add_add]
        exact hcx 2 _ rfl
      have hc3 : wr.cell? { block := (ad.add (k * 8)).block, off := (ad.add (k * 8)).off + 3, spot := none } = some (.bool za) := by
        show wr.cell? ((ad.add (k * 8)).add 3) = _
        rw [Go.Deep.add_add]
        exact hcx 3 _ rfl
      have hc4 : wr.cell? { block := (ad.add (k * 8)).block, off := (ad.add (k * 8)).off + 4, spot := none } = some (.bool zb) := by
        show wr.cell? ((ad.add (k * 8)).add 4) = _
        rw [Go.Deep.add_add]
        exact hcx 4 _ rfl
      have hc5 : wr.cell? { block := (ad.add (k * 8)).block, off := (ad.add (k * 8)).off + 5, spot := none } = some (.bool zc) := by
        show wr.cell? ((ad.add (k * 8)).add 5) = _
        rw [Go.Deep.add_add]
        exact hcx 5 _ rfl
      have hc6 : wr.cell? { block := (ad.add (k * 8)).block, off := (ad.add (k * 8)).off + 6, spot := none } = some (.bool zd) := by
        show wr.cell? ((ad.add (k * 8)).add 6) = _
        rw [Go.Deep.add_add]
        exact hcx 6 _ rfl
      have hc7 : wr.cell? { block := (ad.add (k * 8)).block, off := (ad.add (k * 8)).off + 7, spot := none } = some (.int .i64 zn) := by
        show wr.cell? ((ad.add (k * 8)).add 7) = _
        rw [Go.Deep.add_add]
        exact hcx 7 _ rfl
      unfold Op7.v Op7.cs at hpc
      simp only [List.toArray] at hpc
      have HPC := Lib.hid hpc
      obtain ⟨q, hq, hq0, hq8⟩ : ∃ q : Int, bits .and .i64 kd 7 = q ∧ 0 ≤ q ∧ q < 8 := by
        obtain ⟨q, hq, hq8, _⟩ := and_mask (x := kd) 3 7 (by omega) (by decide)
        simp only [show ((7 : Nat) : Int) = 7 from rfl] at hq
        exact ⟨q, hq, by omega, by omega⟩
      have hk8 : (k : Int) < (l.length : Int) := by omega
      clear hcx hcs hpc wk wp wn
      have HR := Lib.hid hR
      clear hR
      go_upto_region 12 with fail
      have hRW := HR.out.alloc (.cells #[.int .i64 kd, .int .i64 pg, .bool inn, .bool za, .bool zb, .bool zc, .bool zd, .int .i64 zn] 42)
      have hkW := Blk.new wr 42 #[.int .i64 kd, .int .i64 pg, .bool inn, .bool za, .bool zb, .bool zc, .bool zd, .int .i64 zn]
      have hBo := HR.out.le
      obtain ⟨bo, hbo⟩ : ∃ bo, wr.heap.size = bo := ⟨_, rfl⟩
      rw [hbo] at hkW hBo ⊢
      generalize wr.alloc (.cells #[.int .i64 kd, .int .i64 pg, .bool inn, .bool za, .bool zb, .bool zc, .bool zd, .int .i64 zn] 42) = W at *
      have HW := Lib.hid (And.intro hRW hkW)
      have y0 := hkW.at_ 0 _ rfl
      have y1 := hkW.at_ 1 _ rfl
      have y2 := hkW.at_ 2 _ rfl
      have y3 := hkW.at_ 3 _ rfl
      have y4 := hkW.at_ 4 _ rfl
      have y5 := hkW.at_ 5 _ rfl
      have y6 := hkW.at_ 6 _ rfl
      have y7 := hkW.at_ 7 _ rfl
      clear hbo hRW hkW HR hc0 hc1 hc2 hc3 hc4 hc5 hc6 hc7 hab
      go_upto_block 2 with (first
        | (go_at_call 18; refine (HPC.out _).mono ?_; rintro e v3 ⟨rfl, hb3⟩
           have HR3 := Lib.hid (And.intro (HW.out.1.on hb3) (HW.out.2.below hb3 HW.out.2.lt))
           clear hb3 y0 y1 y2 y3 y4 y5 y6 y7
           have y0 := HR3.out.2.at_ 0 _ rfl))
      have hBo3 := HR3.out.2.lt
      generalize v3 = V3 at *
      clear HW HPC y0 d40 hk8
      go_cut [14, 15, 16, 17, 18, 19, 20, 21, 22, 23, 24, 25, 26, 27] from 71 to 176 (fun s14 _ _ _ _ _ _ _ _ _ _ _ _ _ wx => s14 = .bool true ∧ ∃ M', Re w wx t p h g r B N M' M')
      case first =>
        have hq' : (q = 0 ∨ q = 1 ∨ q = 2 ∨ q = 3) ∨ (q = 4 ∨ q = 5) ∨ q = 6 ∨ q = 7 := by omega
        clear hq hq0 hq8
        rcases hq' with hq' | hq' | rfl | rfl
        · as_aux_lemma =>
            have q4 : (q == 4) = false := by simp; omega
            have q5 : (q == 5) = false := by simp; omega
            have q6 : (q == 6) = false := by simp; omega
            have q7 : (q == 7) = false := by simp; omega
            have hcn := HR3.out.1.tw.cnt
            have HST := Lib.hid (fun (v : World) (s : Re w v t p h g r B N M M) => re_set s K ⟨za, zb, zc, zd, zn⟩)
            have HRS := Lib.hid (fun (v : World) (s : Re w v t p h g r B N (stM7 M N K ⟨za, zb, zc, zd, zn⟩) M) => re_rset s (by omega) K ⟨za, zb, zc, zd, zn⟩)
            unfold Sl.v at HST HRS
            simp only at HST HRS
            generalize stE7 M N K ⟨za, zb, zc, zd, zn⟩ = E at *
            generalize stM7 M N K ⟨za, zb, zc, zd, zn⟩ = M5 at *
            obtain ⟨C, hC⟩ : ∃ C, cnt7 M = C := ⟨_, rfl⟩
            have HND := Lib.hid (fun (v : World) (u : Value) (s : Re w v t p h g r B N M5 M) (hv : v.cell? ⟨r, 0, none⟩ = some u) => (re_rnodes s hv).mono (R' := fun e v' => e = .returned (.int .i64 (C : Nat)) ∧ Re w v' t p h g r B N M5 M ∧ Below v.heap.size v v') fun e v' ⟨he, hr⟩ => ⟨by rw [he, hC], hr⟩)
            rw [hC] at HRS hcn
            have e1 : IntKind.i64.wrap ((N : Int) - (C : Int)) = ((N - C : Nat) : Int) := by rw [show ((N : Int) - (C : Int)) = ((N - C : Nat) : Int) by omega]; exact IntWalk.i64_in _ (by omega)
            obtain ⟨F0, hF0⟩ : ∃ F0 : Nat, N - C = F0 := ⟨_, rfl⟩
            rw [hF0] at e1 HRS
            have hrB := HR3.out.1.lt
            have hrn := HR3.out.1.ne
            have HQ := Lib.hid (And.intro HR3.out.1.drew HR3.out.2.drew)
            obtain ⟨rv, c0, _⟩ := HR3.out.1.drew.at_
            have y3 := HQ.out.2.at_ 3 _ rfl
            have y4 := HQ.out.2.at_ 4 _ rfl
            have y5 := HQ.out.2.at_ 5 _ rfl
            have y6 := HQ.out.2.at_ 6 _ rfl
            have y7 := HQ.out.2.at_ 7 _ rfl
            clear hC hF0 hcn hpgb hm hq'
            go_wp2
            refine wp_region_held_drew (S := fun w' => w'.cell? ⟨bo, 3, none⟩ = some (.bool za) ∧ w'.cell? ⟨bo, 4, none⟩ = some (.bool zb) ∧ w'.cell? ⟨bo, 5, none⟩ = some (.bool zc) ∧ w'.cell? ⟨bo, 6, none⟩ = some (.bool zd) ∧ w'.cell? ⟨bo, 7, none⟩ = some (.int .i64 zn)) (by kernel_rfl) ⟨y3, y4, y5, y6, y7⟩ (fun _ => ?_)
            refine wpAnyH_take (i := 0) (oi := { dst := some 71, op := Op.move (Operand.tmp 8), type := 33, pos := "law.go:85", after := #[], guard := none }) (v := .pointer (some ⟨t, 0, none⟩)) rfl (by kernel_rfl) (by kernel_rfl) (by kernel_rfl) (fun _ _ _ h => h) (Or.inl ⟨by rfl, ?_⟩) ⟨y3, y4, y5, y6, y7⟩ ?_
            · intro w0 hS0
              obtain ⟨z3, z4, z5, z6, z7⟩ := hS0
              go_simp
            simp only [Act.put, List.setIfInBounds_toArray, List.set_cons_zero, List.set_cons_succ]
            refine wpAnyH_take (i := 1) (oi := { dst := some 72, op := Op.move (Operand.tmp 13), type := 3, pos := "law.go:85", after := #[], guard := none }) (v := .int .i64 K) rfl (by kernel_rfl) (by kernel_rfl) (by kernel_rfl) (fun _ _ _ h => h) (Or.inl ⟨by rfl, ?_⟩) ⟨y3, y4, y5, y6, y7⟩ ?_
            · intro w0 hS0
              obtain ⟨z3, z4, z5, z6, z7⟩ := hS0
              go_simp
            simp only [Act.put, List.setIfInBounds_toArray, List.set_cons_zero, List.set_cons_succ]
            refine wpAnyH_take (i := 2) (oi := { dst := some 73, op := Op.fieldAddr 42 (Operand.tmp 12) 3, type := 0, pos := "law.go:85", after := #[], guard := none }) (v := .pointer (some ⟨bo, 3, none⟩)) rfl (by kernel_rfl) (by kernel_rfl) (by kernel_rfl) (fun _ _ _ h => h) (Or.inl ⟨by rfl, ?_⟩) ⟨y3, y4, y5, y6, y7⟩ ?_
            · intro w0 hS0
              obtain ⟨z3, z4, z5, z6, z7⟩ := hS0
              go_simp
            simp only [Act.put, List.setIfInBounds_toArray, List.set_cons_zero, List.set_cons_succ]
            refine wpAnyH_take (i := 3) (oi := { dst := some 74, op := Op.load 23 (Operand.tmp 73), type := 23, pos := "law.go:85", after := #[{ on := 2, ground := Ground.data }], guard := none }) (v := .agg #[.bool za, .bool zb, .bool zc, .bool zd, .int .i64 zn]) rfl (by kernel_rfl) (by kernel_rfl) (by kernel_rfl) (fun _ _ _ h => h) (Or.inl ⟨by rfl, ?_⟩) ⟨y3, y4, y5, y6, y7⟩ ?_
            · intro w0 hS0
              obtain ⟨z3, z4, z5, z6, z7⟩ := hS0
              go_simp
            simp only [Act.put, List.setIfInBounds_toArray, List.set_cons_zero, List.set_cons_succ]
            refine wpAnyH_take (i := 5) (oi := { dst := some 76, op := Op.move (Operand.tmp 10), type := 37, pos := "law.go:85", after := #[], guard := none }) (v := .pointer (some ⟨r, 0, none⟩)) rfl (by kernel_rfl) (by kernel_rfl) (by kernel_rfl) (fun _ _ _ h => h) (Or.inl ⟨by rfl, ?_⟩) ⟨y3, y4, y5, y6, y7⟩ ?_
            · intro w0 hS0
              obtain ⟨z3, z4, z5, z6, z7⟩ := hS0
              go_simp
            simp only [Act.put, List.setIfInBounds_toArray, List.set_cons_zero, List.set_cons_succ]
            refine wpAnyH_take (i := 6) (oi := { dst := some 77, op := Op.move (Operand.tmp 13), type := 3, pos := "law.go:85", after := #[], guard := none }) (v := .int .i64 K) rfl (by kernel_rfl) (by kernel_rfl) (by kernel_rfl) (fun _ _ _ h => h) (Or.inl ⟨by rfl, ?_⟩) ⟨y3, y4, y5, y6, y7⟩ ?_
            · intro w0 hS0
              obtain ⟨z3, z4, z5, z6, z7⟩ := hS0
              go_simp
            simp only [Act.put, List.setIfInBounds_toArray, List.set_cons_zero, List.set_cons_succ]
            refine wpAnyH_take (i := 7) (oi := { dst := some 78, op := Op.fieldAddr 42 (Operand.tmp 12) 3, type := 0, pos := "law.go:85", after := #[], guard := none }) (v := .pointer (some ⟨bo, 3, none⟩)) rfl (by kernel_rfl) (by kernel_rfl) (by kernel_rfl) (fun _ _ _ h => h) (Or.inl ⟨by rfl, ?_⟩) ⟨y3, y4, y5, y6, y7⟩ ?_
            · intro w0 hS0
              obtain ⟨z3, z4, z5, z6, z7⟩ := hS0
              go_simp
            simp only [Act.put, List.setIfInBounds_toArray, List.set_cons_zero, List.set_cons_succ]
            refine wpAnyH_take (i := 8) (oi := { dst := some 79, op := Op.load 23 (Operand.tmp 78), type := 23, pos := "law.go:85", after := #[{ on := 7, ground := Ground.data }], guard := none }) (v := .agg #[.bool za, .bool zb, .bool zc, .bool zd, .int .i64 zn]) rfl (by kernel_rfl) (by kernel_rfl) (by kernel_rfl) (fun _ _ _ h => h) (Or.inl ⟨by rfl, ?_⟩) ⟨y3, y4, y5, y6, y7⟩ ?_
            · intro w0 hS0
              obtain ⟨z3, z4, z5, z6, z7⟩ := hS0
              go_simp
            simp only [Act.put, List.setIfInBounds_toArray, List.set_cons_zero, List.set_cons_succ]
            refine wpAnyH_take (i := 9) (oi := { dst := some 80, op := Op.move (Operand.tmp 6), type := 3, pos := "law.go:85", after := #[], guard := none }) (v := .int .i64 (N : Nat)) rfl (by kernel_rfl) (by kernel_rfl) (by kernel_rfl) (fun _ _ _ h => h) (Or.inl ⟨by rfl, ?_⟩) ⟨y3, y4, y5, y6, y7⟩ ?_
            · intro w0 hS0
              obtain ⟨z3, z4, z5, z6, z7⟩ := hS0
              go_simp
            simp only [Act.put, List.setIfInBounds_toArray, List.set_cons_zero, List.set_cons_succ]
            refine wpAnyH_take (i := 10) (oi := { dst := some 81, op := Op.move (Operand.tmp 10), type := 37, pos := "law.go:85", after := #[], guard := none }) (v := .pointer (some ⟨r, 0, none⟩)) rfl (by kernel_rfl) (by kernel_rfl) (by kernel_rfl) (fun _ _ _ h => h) (Or.inl ⟨by rfl, ?_⟩) ⟨y3, y4, y5, y6, y7⟩ ?_
            · intro w0 hS0
              obtain ⟨z3, z4, z5, z6, z7⟩ := hS0
              go_simp
            simp only [Act.put, List.setIfInBounds_toArray, List.set_cons_zero, List.set_cons_succ]
            refine wpAnyH_take (i := 11) (oi := { dst := some 82, op := Op.nilCheck (Operand.tmp 81), type := 0, pos := "law.go:85", after := #[{ on := 10, ground := Ground.data }], guard := none }) (v := .pointer (some ⟨r, 0, none⟩)) rfl (by kernel_rfl) (by kernel_rfl) (by kernel_rfl) (fun _ _ _ h => h) (Or.inl ⟨by rfl, ?_⟩) ⟨y3, y4, y5, y6, y7⟩ ?_
            · intro w0 hS0
              obtain ⟨z3, z4, z5, z6, z7⟩ := hS0
              go_simp
            simp only [Act.put, List.setIfInBounds_toArray, List.set_cons_zero, List.set_cons_succ]
            refine wpAnyH_take (i := 12) (oi := { dst := some 83, op := Op.fieldAddr 40 (Operand.tmp 82) 0, type := 0, pos := "law.go:85", after := #[{ on := 11, ground := Ground.data }], guard := none }) (v := .pointer (some ⟨r, 0, none⟩)) rfl (by kernel_rfl) (by kernel_rfl) (by kernel_rfl) (fun _ _ _ h => h) (Or.inl ⟨by rfl, ?_⟩) ⟨y3, y4, y5, y6, y7⟩ ?_
            · intro w0 hS0
              obtain ⟨z3, z4, z5, z6, z7⟩ := hS0
              go_simp
            simp only [Act.put, List.setIfInBounds_toArray, List.set_cons_zero, List.set_cons_succ]
            refine wpAnyH_ready (rs := [4, 13]) (by kernel_rfl) (by simp) ?_
            refine AllReadyH.cons rfl (fun K' hK => ?_) (AllReadyH.cons rfl (fun K' hK => ?_) AllReadyH.nil)
            · go_simp
              go_at_call 24
              (with_reducible refine (HST.out _ HQ.out.1).mono ?_)
              rintro e v5 ⟨rfl, hR5, hb5⟩
              have kk := HQ.out.2.but hb5 (by omega)
              have cc := (World.cell?_of_block (a := ⟨r, 0, none⟩) (hb5.block r HQ.out.1.row_lt (by omega))).trans c0
              have HQ5 := Lib.hid (And.intro hR5 kk)
              clear y3 y4 y5 y6 y7 c0 kk hR5 hb5
              have c0 := cc
              clear cc
              have y3 := HQ5.out.2.at_ 3 _ rfl
              have y4 := HQ5.out.2.at_ 4 _ rfl
              have y5 := HQ5.out.2.at_ 5 _ rfl
              have y6 := HQ5.out.2.at_ 6 _ rfl
              have y7 := HQ5.out.2.at_ 7 _ rfl
              refine hK.out _ _ ⟨y3, y4, y5, y6, y7⟩ (fun _ => ?_)
              clear hK K'
              try simp only [Act.put, List.setIfInBounds_toArray, List.set_cons_zero, List.set_cons_succ]
              refine wpAnyH_ready (rs := [13]) (by kernel_rfl) (by simp) ?_
              refine AllReadyH.cons rfl (fun K' hK => ?_) AllReadyH.nil
              go_simp
              refine hK.out _ _ ⟨y3, y4, y5, y6, y7⟩ (fun _ => ?_)
              clear hK K'
              try simp only [Act.put, List.setIfInBounds_toArray, List.set_cons_zero, List.set_cons_succ]
              refine wpAnyH_ready (rs := [14]) (by kernel_rfl) (by simp) ?_
              refine AllReadyH.cons rfl (fun K' hK => ?_) AllReadyH.nil
              go_simp
              go_at_call 26
              (with_reducible refine (HND.out _ _ HQ5.out.1 c0).mono ?_)
              rintro e v6 ⟨rfl, hR6, hb6⟩
              have HQ6 := Lib.hid (And.intro hR6 (HQ5.out.2.below hb6 HQ5.out.2.lt))
              clear y3 y4 y5 y6 y7 c0 hR6 hb6
              have y3 := HQ6.out.2.at_ 3 _ rfl
              have y4 := HQ6.out.2.at_ 4 _ rfl
              have y5 := HQ6.out.2.at_ 5 _ rfl
              have y6 := HQ6.out.2.at_ 6 _ rfl
              have y7 := HQ6.out.2.at_ 7 _ rfl
              refine hK.out _ _ ⟨y3, y4, y5, y6, y7⟩ (fun _ => ?_)
              clear hK K'
              try simp only [Act.put, List.setIfInBounds_toArray, List.set_cons_zero, List.set_cons_succ]
              refine wpAnyH_take (i := 15) (oi := { dst := some 86, op := Op.binOp BinOp.sub 3 (Operand.tmp 80) (Operand.tmp 85) 3, type := 3, pos := "law.go:85", after := #[{ on := 9, ground := Ground.data }, { on := 14, ground := Ground.data }], guard := none }) (v := .int .i64 (F0 : Nat)) rfl (by kernel_rfl) (by kernel_rfl) (by kernel_rfl) (fun _ _ _ h => h) (Or.inl ⟨by rfl, ?_⟩) ⟨y3, y4, y5, y6, y7⟩ ?_
              · intro w0 hS0
                obtain ⟨z3, z4, z5, z6, z7⟩ := hS0
                go_simp
              simp only [Act.put, List.setIfInBounds_toArray, List.set_cons_zero, List.set_cons_succ]
              refine wpAnyH_ready (rs := [16]) (by kernel_rfl) (by simp) ?_
              refine AllReadyH.cons rfl (fun K' hK => ?_) AllReadyH.nil
              go_simp
              go_at_call 25
              (with_reducible refine (HRS.out _ HQ6.out.1).mono ?_)
              rintro e v7 ⟨rfl, hR7, hb7⟩
              have kk := HQ6.out.2.but hb7 (by omega)
              have HQ7 := Lib.hid (And.intro hR7 kk)
              clear y3 y4 y5 y6 y7 kk hR7 hb7
              have y3 := HQ7.out.2.at_ 3 _ rfl
              have y4 := HQ7.out.2.at_ 4 _ rfl
              have y5 := HQ7.out.2.at_ 5 _ rfl
              have y6 := HQ7.out.2.at_ 6 _ rfl
              have y7 := HQ7.out.2.at_ 7 _ rfl
              refine hK.out _ _ ⟨y3, y4, y5, y6, y7⟩ (fun _ => ?_)
              clear hK K'
              try simp only [Act.put, List.setIfInBounds_toArray, List.set_cons_zero, List.set_cons_succ]
              refine wpAnyH_take (i := 17) (oi := { dst := some 88, op := Op.binOp BinOp.eql 34 (Operand.tmp 75) (Operand.tmp 87) 34, type := 4, pos := "law.go:85", after := #[{ on := 4, ground := Ground.data }, { on := 16, ground := Ground.data }], guard := none }) (v := .bool true) rfl (by kernel_rfl) (by kernel_rfl) (by kernel_rfl) (fun _ _ _ h => h) (Or.inl ⟨by rfl, ?_⟩) ⟨y3, y4, y5, y6, y7⟩ ?_
              · intro w0 hS0
                obtain ⟨z3, z4, z5, z6, z7⟩ := hS0
                go_simp
              simp only [Act.put, List.setIfInBounds_toArray, List.set_cons_zero, List.set_cons_succ]
              refine wpAnyH_take (i := 18) (oi := { dst := some 14, op := Op.assign (Operand.tmp 88), type := 4, pos := "law.go:85", after := #[{ on := 17, ground := Ground.data }, { on := 16, ground := Ground.chain }, { on := 0, ground := Ground.phase }, { on := 1, ground := Ground.phase }, { on := 2, ground := Ground.phase }, { on := 3, ground := Ground.phase }, { on := 4, ground := Ground.phase }, { on := 5, ground := Ground.phase }, { on := 6, ground := Ground.phase }, { on := 7, ground := Ground.phase }, { on := 8, ground := Ground.phase }, { on := 9, ground := Ground.phase }, { on := 10, ground := Ground.phase }, { on := 11, ground := Ground.phase }, { on := 12, ground := Ground.phase }, { on := 13, ground := Ground.phase }, { on := 14, ground := Ground.phase }, { on := 15, ground := Ground.phase }, { on := 16, ground := Ground.phase }, { on := 17, ground := Ground.phase }], guard := none }) (v := .bool true) rfl (by kernel_rfl) (by kernel_rfl) (by kernel_rfl) (fun _ _ _ h => h) (Or.inl ⟨by rfl, ?_⟩) ⟨y3, y4, y5, y6, y7⟩ ?_
              · intro w0 hS0
                obtain ⟨z3, z4, z5, z6, z7⟩ := hS0
                go_simp
              simp only [Act.put, List.setIfInBounds_toArray, List.set_cons_zero, List.set_cons_succ]
              refine wpAnyH_done (by kernel_rfl) ?_ _
              clear y3 y4 y5 y6 y7
              go_wp2
              go_meet
              exact ⟨rfl, _, HQ7.out.1⟩
            · go_simp
              refine hK.out _ _ ⟨y3, y4, y5, y6, y7⟩ (fun _ => ?_)
              clear hK K'
              try simp only [Act.put, List.setIfInBounds_toArray, List.set_cons_zero, List.set_cons_succ]
              refine wpAnyH_ready (rs := [4]) (by kernel_rfl) (by simp) ?_
              refine AllReadyH.cons rfl (fun K' hK => ?_) AllReadyH.nil
              go_simp
              go_at_call 24
              (with_reducible refine (HST.out _ HQ.out.1).mono ?_)
              rintro e v5 ⟨rfl, hR5, hb5⟩
              have kk := HQ.out.2.but hb5 (by omega)
              have cc := (World.cell?_of_block (a := ⟨r, 0, none⟩) (hb5.block r HQ.out.1.row_lt (by omega))).trans c0
              have HQ5 := Lib.hid (And.intro hR5 kk)
              clear y3 y4 y5 y6 y7 c0 kk hR5 hb5
              have c0 := cc
              clear cc
              have y3 := HQ5.out.2.at_ 3 _ rfl
              have y4 := HQ5.out.2.at_ 4 _ rfl
              have y5 := HQ5.out.2.at_ 5 _ rfl
              have y6 := HQ5.out.2.at_ 6 _ rfl
              have y7 := HQ5.out.2.at_ 7 _ rfl
              refine hK.out _ _ ⟨y3, y4, y5, y6, y7⟩ (fun _ => ?_)
              clear hK K'
              try simp only [Act.put, List.setIfInBounds_toArray, List.set_cons_zero, List.set_cons_succ]
              refine wpAnyH_ready (rs := [14]) (by kernel_rfl) (by simp) ?_
              refine AllReadyH.cons rfl (fun K' hK => ?_) AllReadyH.nil
              go_simp
              go_at_call 26
              (with_reducible refine (HND.out _ _ HQ5.out.1 c0).mono ?_)
              rintro e v6 ⟨rfl, hR6, hb6⟩
              have HQ6 := Lib.hid (And.intro hR6 (HQ5.out.2.below hb6 HQ5.out.2.lt))
              clear y3 y4 y5 y6 y7 c0 hR6 hb6
              have y3 := HQ6.out.2.at_ 3 _ rfl
              have y4 := HQ6.out.2.at_ 4 _ rfl
              have y5 := HQ6.out.2.at_ 5 _ rfl
              have y6 := HQ6.out.2.at_ 6 _ rfl
              have y7 := HQ6.out.2.at_ 7 _ rfl
              refine hK.out _ _ ⟨y3, y4, y5, y6, y7⟩ (fun _ => ?_)
              clear hK K'
              try simp only [Act.put, List.setIfInBounds_toArray, List.set_cons_zero, List.set_cons_succ]
              refine wpAnyH_take (i := 15) (oi := { dst := some 86, op := Op.binOp BinOp.sub 3 (Operand.tmp 80) (Operand.tmp 85) 3, type := 3, pos := "law.go:85", after := #[{ on := 9, ground := Ground.data }, { on := 14, ground := Ground.data }], guard := none }) (v := .int .i64 (F0 : Nat)) rfl (by kernel_rfl) (by kernel_rfl) (by kernel_rfl) (fun _ _ _ h => h) (Or.inl ⟨by rfl, ?_⟩) ⟨y3, y4, y5, y6, y7⟩ ?_
              · intro w0 hS0
                obtain ⟨z3, z4, z5, z6, z7⟩ := hS0
                go_simp
              simp only [Act.put, List.setIfInBounds_toArray, List.set_cons_zero, List.set_cons_succ]
              refine wpAnyH_ready (rs := [16]) (by kernel_rfl) (by simp) ?_
              refine AllReadyH.cons rfl (fun K' hK => ?_) AllReadyH.nil
              go_simp
              go_at_call 25
              (with_reducible refine (HRS.out _ HQ6.out.1).mono ?_)
              rintro e v7 ⟨rfl, hR7, hb7⟩
              have kk := HQ6.out.2.but hb7 (by omega)
              have HQ7 := Lib.hid (And.intro hR7 kk)
              clear y3 y4 y5 y6 y7 kk hR7 hb7
              have y3 := HQ7.out.2.at_ 3 _ rfl
              have y4 := HQ7.out.2.at_ 4 _ rfl
              have y5 := HQ7.out.2.at_ 5 _ rfl
              have y6 := HQ7.out.2.at_ 6 _ rfl
              have y7 := HQ7.out.2.at_ 7 _ rfl
              refine hK.out _ _ ⟨y3, y4, y5, y6, y7⟩ (fun _ => ?_)
              clear hK K'
              try simp only [Act.put, List.setIfInBounds_toArray, List.set_cons_zero, List.set_cons_succ]
              refine wpAnyH_take (i := 17) (oi := { dst := some 88, op := Op.binOp BinOp.eql 34 (Operand.tmp 75) (Operand.tmp 87) 34, type := 4, pos := "law.go:85", after := #[{ on := 4, ground := Ground.data }, { on := 16, ground := Ground.data }], guard := none }) (v := .bool true) rfl (by kernel_rfl) (by kernel_rfl) (by kernel_rfl) (fun _ _ _ h => h) (Or.inl ⟨by rfl, ?_⟩) ⟨y3, y4, y5, y6, y7⟩ ?_
              · intro w0 hS0
                obtain ⟨z3, z4, z5, z6, z7⟩ := hS0
                go_simp
              simp only [Act.put, List.setIfInBounds_toArray, List.set_cons_zero, List.set_cons_succ]
              refine wpAnyH_take (i := 18) (oi := { dst := some 14, op := Op.assign (Operand.tmp 88), type := 4, pos := "law.go:85", after := #[{ on := 17, ground := Ground.data }, { on := 16, ground := Ground.chain }, { on := 0, ground := Ground.phase }, { on := 1, ground := Ground.phase }, { on := 2, ground := Ground.phase }, { on := 3, ground := Ground.phase }, { on := 4, ground := Ground.phase }, { on := 5, ground := Ground.phase }, { on := 6, ground := Ground.phase }, { on := 7, ground := Ground.phase }, { on := 8, ground := Ground.phase }, { on := 9, ground := Ground.phase }, { on := 10, ground := Ground.phase }, { on := 11, ground := Ground.phase }, { on := 12, ground := Ground.phase }, { on := 13, ground := Ground.phase }, { on := 14, ground := Ground.phase }, { on := 15, ground := Ground.phase }, { on := 16, ground := Ground.phase }, { on := 17, ground := Ground.phase }], guard := none }) (v := .bool true) rfl (by kernel_rfl) (by kernel_rfl) (by kernel_rfl) (fun _ _ _ h => h) (Or.inl ⟨by rfl, ?_⟩) ⟨y3, y4, y5, y6, y7⟩ ?_
              · intro w0 hS0
                obtain ⟨z3, z4, z5, z6, z7⟩ := hS0
                go_simp
              simp only [Act.put, List.setIfInBounds_toArray, List.set_cons_zero, List.set_cons_succ]
              refine wpAnyH_done (by kernel_rfl) ?_ _
              clear y3 y4 y5 y6 y7
              go_wp2
              go_meet
              exact ⟨rfl, _, HQ7.out.1⟩
        · rcases hq' with rfl | rfl
          all_goals as_aux_lemma =>
            have HD := re_drop HR3.out.1 K
            have HE := fun v (s : Re w v t p h g r B N (drM7 M K) M) => re_rdrop s K
            generalize gtS' M K = z at *
            generalize gtE' M K = E at *
            generalize drM7 M K = M5 at *
            obtain ⟨sa, sb, sc, sd, sn⟩ := z
            unfold Sl.v at HD HE
            simp only at HD HE
            have HDD := Lib.hid HD
            have HEE := Lib.hid HE
            have hrB := HR3.out.1.lt
            clear HD HE
            go_upto_region 20 with (first
              | (go_at_call 19; refine HDD.out.mono ?_; rintro e v5 ⟨rfl, hR5⟩
                 have hR5a := hR5.alloc (.cells #[.bool sa, .bool sb, .bool sc, .bool sd, .int .i64 sn] 23)
                 have hk5 := Blk.new v5 23 #[.bool sa, .bool sb, .bool sc, .bool sd, .int .i64 sn]
                 have hz5 := hR5.le
                 clear hR5)
              | (go_at_call 20; refine (HEE.out _ hR5a).mono ?_; rintro e v6 ⟨rfl, hR6, hb6⟩
                 have HF := Lib.hid (And.intro (hR6.alloc (.cells #[.bool sa, .bool sb, .bool sc, .bool sd, .int .i64 sn] 23)) (And.intro ((hk5.but hb6 (by omega)).alloc (.cells #[.bool sa, .bool sb, .bool sc, .bool sd, .int .i64 sn] 23)) (Blk.new v6 23 #[.bool sa, .bool sb, .bool sc, .bool sd, .int .i64 sn])))
                 clear hR6 hb6 hR5a hk5))
            generalize v6.heap.size = b6 at *
            generalize v6.alloc _ = V6 at *
            generalize v5.heap.size = b5 at *
            have x0 := HF.out.2.1.at_ 0 _ rfl
            have x1 := HF.out.2.1.at_ 1 _ rfl
            have x2 := HF.out.2.1.at_ 2 _ rfl
            have x3 := HF.out.2.1.at_ 3 _ rfl
            have x4 := HF.out.2.1.at_ 4 _ rfl
            have z0 := HF.out.2.2.at_ 0 _ rfl
            have z1 := HF.out.2.2.at_ 1 _ rfl
            have z2 := HF.out.2.2.at_ 2 _ rfl
            have z3 := HF.out.2.2.at_ 3 _ rfl
            have z4 := HF.out.2.2.at_ 4 _ rfl
            have he := eq_slN 9998 sa sb sc sd sn
            go_wp2
            go_meet
            exact ⟨rfl, _, HF.out.1⟩
        · as_aux_lemma =>
            have HD := re_get HR3.out.1 K
            have HE := fun v (s : Re w v t p h g r B N M M) => re_rget s K
            generalize gtS' M K = z at *
            generalize gtE' M K = E at *
            obtain ⟨sa, sb, sc, sd, sn⟩ := z
            unfold Sl.v at HD HE
            simp only at HD HE
            have HDD := Lib.hid HD
            have HEE := Lib.hid HE
            have hrB := HR3.out.1.lt
            clear HD HE
            go_upto_region 24 with (first
              | (go_at_call 21; refine HDD.out.mono ?_; rintro e v5 ⟨rfl, hR5⟩
                 have hR5a := hR5.alloc (.cells #[.bool sa, .bool sb, .bool sc, .bool sd, .int .i64 sn] 23)
                 have hk5 := Blk.new v5 23 #[.bool sa, .bool sb, .bool sc, .bool sd, .int .i64 sn]
                 clear hR5)
              | (go_at_call 22; refine (HEE.out _ hR5a).mono ?_; rintro e v6 ⟨rfl, hR6, hb6⟩
                 have HF := Lib.hid (And.intro (hR6.alloc (.cells #[.bool sa, .bool sb, .bool sc, .bool sd, .int .i64 sn] 23)) (And.intro ((hk5.below hb6 hk5.lt).alloc (.cells #[.bool sa, .bool sb, .bool sc, .bool sd, .int .i64 sn] 23)) (Blk.new v6 23 #[.bool sa, .bool sb, .bool sc, .bool sd, .int .i64 sn])))
                 clear hR6 hb6 hR5a hk5))
            generalize v6.heap.size = b6 at *
            generalize v6.alloc _ = V6 at *
            generalize v5.heap.size = b5 at *
            have x0 := HF.out.2.1.at_ 0 _ rfl
            have x1 := HF.out.2.1.at_ 1 _ rfl
            have x2 := HF.out.2.1.at_ 2 _ rfl
            have x3 := HF.out.2.1.at_ 3 _ rfl
            have x4 := HF.out.2.1.at_ 4 _ rfl
            have z0 := HF.out.2.2.at_ 0 _ rfl
            have z1 := HF.out.2.2.at_ 1 _ rfl
            have z2 := HF.out.2.2.at_ 2 _ rfl
            have z3 := HF.out.2.2.at_ 3 _ rfl
            have z4 := HF.out.2.2.at_ 4 _ rfl
            have he := eq_slN 9998 sa sb sc sd sn
            go_wp2
            go_meet
            exact ⟨rfl, _, HF.out.1⟩
        · as_aux_lemma =>
            have HFR := Lib.hid (re_from HR3.out.1 K hpgb)
            clear hpgb hm
            go_upto_region 29 with (first
              | (go_at_call 23; refine HFR.out.mono ?_; rintro e v5 ⟨x, a1, b1, c1, d1, n1, fb, hF, rfl, hR5⟩
                 have HF := Lib.hid hF
                 have HV5 := Lib.hid (And.intro (hR5.alloc (.cells #[.int .i64 x, .bool a1, .bool b1, .bool c1, .bool d1, .int .i64 n1] 47)) (Blk.new v5 47 #[.int .i64 x, .bool a1, .bool b1, .bool c1, .bool d1, .int .i64 n1]))
                 clear hF hR5))
            have hsz5 : (v5.alloc (.cells #[.int .i64 x, .bool a1, .bool b1, .bool c1, .bool d1, .int .i64 n1] 47)).heap.size = v5.heap.size + 1 := by simp
            generalize v5.alloc (.cells #[.int .i64 x, .bool a1, .bool b1, .bool c1, .bool d1, .int .i64 n1] 47) = V5 at *
            generalize v5.heap.size = ba at *
            have b6 := (Below.refl V5.heap.size V5).alloc (Nat.le_refl _) (.cells #[.int .i64 0, .bool false, .bool false, .bool false, .bool false, .int .i64 0] 47)
            have k6 := Blk.new V5 47 #[.int .i64 0, .bool false, .bool false, .bool false, .bool false, .int .i64 0]
            rw [hsz5] at k6
            generalize V5.alloc (.cells #[.int .i64 0, .bool false, .bool false, .bool false, .bool false, .int .i64 0] 47) = V6 at *
            obtain ⟨rv, hrv, hrow⟩ := (HV5.out.1.on b6).at_
            obtain ⟨A1, cc, rfl⟩ := hrow.len
            rw [spotsF_length] at hrv
            have hsl := spotsF_len M
            rw [spotsF_length] at hsl
            obtain ⟨LN, hLN⟩ : ∃ LN, (pagesF M 0).length = LN := ⟨_, rfl⟩
            rw [hLN] at hrv hsl
            have HLN := Lib.hid hLN
            have HI := Lib.hid (And.intro (FrFrom.start M K) (And.intro b6 k6))
            rw [hLN] at HI
            clear hLN b6 k6 hrow
            go_wp2
            go_loopw [26, 27] (fun fnd jj wx => ∃ (q : Nat) (jv x2 : Int) (a2 b2 c2 d2 : Bool) (n2 : Int) (fb2 : Bool), q ≤ LN ∧ jj = .int .i64 jv ∧ jv = (q : Int) - 1 ∧ fnd = .bool fb2 ∧ FrFrom M K q x2 ⟨a2, b2, c2, d2, n2⟩ fb2 ∧ Below V5.heap.size V5 wx ∧ Blk wx (ba + 1) 47 #[.int .i64 x2, .bool a2, .bool b2, .bool c2, .bool d2, .int .i64 n2]) (fun _ jj _ => (intOf jj + 1).toNat)
            case atStart => exact ⟨LN, _, _, _, _, _, _, _, _, Nat.le_refl _, rfl, by go_num, rfl, HI.out.1, HI.out.2.1, HI.out.2.2⟩
            case round =>
              clear HI hrv
              obtain ⟨q, jv, x2, a2, b2, c2, d2, n2, fb2, hqL, rfl, hjv, rfl, hF2, hb, hkw⟩ := hrel
              obtain ⟨rv, hrv, hrow⟩ := (HV5.out.1.on hb).at_
              obtain ⟨A2, cc2, rfl⟩ := hrow.len
              rw [spotsF_length, HLN.out] at hrv
              cases q with
              | zero =>
                obtain rfl : jv = -1 := by omega
                clear hjv
                obtain ⟨rfl, e2, rfl⟩ := hF2.same HF.out
                injection e2 with e3 e4 e5 e6 e7
                subst e3 e4 e5 e6 e7
                have kb := HV5.out.2.below hb HV5.out.2.lt
                have x0 := kb.at_ 0 _ rfl
                have x1 := kb.at_ 1 _ rfl
                have x2' := kb.at_ 2 _ rfl
                have x3 := kb.at_ 3 _ rfl
                have x4 := kb.at_ 4 _ rfl
                have x5 := kb.at_ 5 _ rfl
                have z0 := hkw.at_ 0 _ rfl
                have z1 := hkw.at_ 1 _ rfl
                have z2 := hkw.at_ 2 _ rfl
                have z3 := hkw.at_ 3 _ rfl
                have z4 := hkw.at_ 4 _ rfl
                have z5 := hkw.at_ 5 _ rfl
                have he := eq_sp x2 a2 b2 c2 d2 n2
                have HE := Lib.hid (HV5.out.1.on hb)
                clear hF2 hb hkw hrow kb HF HV5 HFR
                cases fb2
                · go_wp2
                  go_meet
                  exact ⟨rfl, _, HE.out⟩
                · go_wp2
                  go_meet
                  exact ⟨rfl, _, HE.out⟩
              | succ q =>
                obtain rfl : jv = (q : Int) := by omega
                clear hjv
                have hil : q < (pagesF M 0).length := by rw [HLN.out]; omega
                have hq8 : (q : Int) < (LN : Int) := by omega
                obtain ⟨g3, o3, R, rfl, _, hg3, hR3, x0, x1, x2', x3, x4, x5⟩ := hrow.at_ (i := q) (by rw [spotsF_length]; exact hil)
                rw [spotsF_at] at x0 x1 x2' x3 x4 x5
                simp only at x0 x1 x2' x3 x4 x5
                have hsk := FrFrom.skip (q := q) hF2 hil
                have htk := FrFrom.take (M := M) (pg := K) hil
                generalize (pagesF M 0)[q] = pk at *
                generalize M pk = z at *
                obtain ⟨ya, yb, yc, yd, yn⟩ := z
                simp only at x0 x1 x2' x3 x4 x5
                by_cases hge : K ≤ (pk : Int)
                · have hge2 : decide (K ≤ (pk : Int)) = true := decide_eq_true hge
                  have HX := Lib.hid (And.intro (htk hge) (And.intro (sp6_set hkw (.int .i64 (pk : Nat)) (.bool ya) (.bool yb) (.bool yc) (.bool yd) (.int .i64 yn)) (sp_below hb (show V5.heap.size ≤ ba + 1 by omega) (.int .i64 (pk : Nat)) (.bool ya) (.bool yb) (.bool yc) (.bool yd) (.int .i64 yn))))
                  have z0 := hkw.at_ 0 _ rfl
                  have z1 := hkw.at_ 1 _ rfl
                  have z2 := hkw.at_ 2 _ rfl
                  have z3 := hkw.at_ 3 _ rfl
                  have z4 := hkw.at_ 4 _ rfl
                  have z5 := hkw.at_ 5 _ rfl
                  have f0 := hkw.frozen 0
                  have f1 := hkw.frozen 1
                  have f2 := hkw.frozen 2
                  have f3 := hkw.frozen 3
                  have f4 := hkw.frozen 4
                  have f5 := hkw.frozen 5
                  clear hsk htk hF2 hb hkw hrow
                  go_wp2
                  go_roundw
                  case rel => exact ⟨q, _, _, _, _, _, _, _, true, by omega, rfl, by go_num, rfl, HX.out.1, HX.out.2.2, HX.out.2.1⟩
                  case measure => simp [intOf] <;> omega
                · have hge2 : decide (K ≤ (pk : Int)) = false := decide_eq_false hge
                  have HX := Lib.hid (And.intro (hsk (by omega)) (And.intro hkw hb))
                  clear hsk htk hF2 hb hkw hrow
                  go_wp2
                  go_roundw
                  case rel => exact ⟨q, _, _, _, _, _, _, _, _, by omega, rfl, by go_num, rfl, HX.out.1, HX.out.2.2, HX.out.2.1⟩
                  case measure => simp [intOf] <;> omega
      case rest =>
        obtain ⟨rfl, M2, hR4⟩ := hcut
        clear HR3 hBo hBo3 hq hq0 hq8
        generalize wc = W4 at *
        have hSL := spotsF_len M2
        have HY := Lib.hid hR4.drew
        obtain ⟨rv, c0, hrow⟩ := hR4.drew.at_
        obtain ⟨A1, c1, rfl⟩ := hrow.len
        have hcn := hR4.tw.cnt
        obtain ⟨LN, hLN⟩ : ∃ LN, (spotsF M2).length = LN := ⟨_, rfl⟩
        rw [hLN] at c0
        obtain ⟨C, hC⟩ : ∃ C, cnt7 M2 = C := ⟨_, rfl⟩
        have HAL := Lib.hid (fun (v : World) (s : Re w v t p h g r B N M2 M2) => (re_all s).mono (R' := fun e v' => ∃ A c, e = .returned (.slice A LN c) ∧ SRow v' 0 (.slice A LN c) (spotsF M2) ∧ Re w v' t p h g r B N M2 M2 ∧ Below v.heap.size v v') fun e v' ⟨u, he, hr, hh⟩ => by
          obtain ⟨A, c, rfl⟩ := hr.len
          rw [hLN] at he hr
          exact ⟨A, c, he, hr.weaken (Nat.zero_le _), hh⟩)
        have HND := Lib.hid (fun (v : World) (s : Re w v t p h g r B N M2 M2) => (re_nodes s).mono (R' := fun e v' => e = .returned (.int .i64 (C : Nat)) ∧ Re w v' t p h g r B N M2 M2 ∧ Below v.heap.size v v') fun e v' ⟨he, hh⟩ => ⟨by rw [he, hC], hh⟩)
        have HRN := Lib.hid (fun (v : World) (u : Value) (s : Re w v t p h g r B N M2 M2) (hv : v.cell? ⟨r, 0, none⟩ = some u) => (re_rnodes s hv).mono (R' := fun e v' => e = .returned (.int .i64 (C : Nat)) ∧ Re w v' t p h g r B N M2 M2 ∧ Below v.heap.size v v') fun e v' ⟨he, hh⟩ => ⟨by rw [he, hC], hh⟩)
        rw [hC] at hcn
        obtain ⟨F0, hF0⟩ : ∃ F0 : Nat, N - C = F0 := ⟨_, rfl⟩
        have HFR := Lib.hid (fun (v : World) (s : Re w v t p h g r B N M2 M2) => (re_free s).mono (R' := fun e v' => e = .returned (.int .i64 (F0 : Nat)) ∧ v = v') fun e v' ⟨he, hv⟩ => ⟨by rw [he, hC, hF0], hv⟩)
        have e1 : IntKind.i64.wrap ((N : Int) - (C : Int)) = (F0 : Int) := by rw [show ((N : Int) - (C : Int)) = (F0 : Int) by omega]; exact IntWalk.i64_in _ (by omega)
        clear hC hF0 hcn hR4 hrow hm hpgb
        go_wp2
        go_region_held3 (fun w' => w'.cell? ⟨r, 0, none⟩ = some (.slice A1 LN c1))
          (first | exact c0)
          (first
           | (go_at_call 28; (with_reducible refine (HAL.out _ HY.out).mono ?_); rintro e v5 ⟨A5, c5, rfl, hr5, hR5, hb5⟩
              have HX := Lib.hid hr5
              have cc := (World.cell?_of_block (a := ⟨r, 0, none⟩) (hb5.block r HY.out.row_lt)).trans c0
              clear c0 HY
              have HY := Lib.hid hR5
              have c0 := cc
              clear cc hr5 hR5 hb5)
           | (go_at_call 27; (refine (same_any (by rw [hLN] at *; exact HX.out) (HY.out.of_cell c0) hSL).mono ?_); rintro e v6 ⟨rfl, n6, rfl⟩
              have HYn := Lib.hid (HY.out.drewN n6)
              have cc : (v5.drewN n6).cell? ⟨r, 0, none⟩ = _ := c0
              clear c0 HY HX
              have HY := HYn
              have c0 := cc
              clear cc HYn))
        generalize v5.drewN n6 = W6 at *
        have hd6 : W6.drew.cell? ⟨r, 0, none⟩ = some (.slice A1 LN c1) := c0
        have HYn := Lib.hid HY.out.drew
        clear c0 HY
        have c0 := hd6
        have HY := HYn
        clear hd6 HYn HAL
        go_wp2
        go_region_held3 (fun w' => w'.cell? ⟨r, 0, none⟩ = some (.slice A1 LN c1))
          (first | exact c0)
          (first
           | (go_at_call 29; (with_reducible refine (HND.out _ HY.out).mono ?_); rintro e v8 ⟨rfl, hR8, hb8⟩
              have cc := (World.cell?_of_block (a := ⟨r, 0, none⟩) (hb8.block r HY.out.row_lt)).trans c0
              clear c0 HY
              have HY := Lib.hid hR8
              have c0 := cc
              clear cc hR8 hb8)
           | (go_at_call 26; (with_reducible refine (HRN.out _ _ HY.out c0).mono ?_); rintro e v8 ⟨rfl, hR8, hb8⟩
              have cc := (World.cell?_of_block (a := ⟨r, 0, none⟩) (hb8.block r HY.out.row_lt)).trans c0
              clear c0 HY
              have HY := Lib.hid hR8
              have c0 := cc
              clear cc hR8 hb8)
           | (go_at_call 30; (with_reducible refine (HFR.out _ HY.out).mono ?_); rintro e v8 ⟨rfl, rfl⟩))
        clear c0
        go_wp2
        go_roundw
        case rel => exact ⟨k + 1, M2, by omega, by omega, by go_num, HY.out⟩
        case measure => simp [intOf] <;> omega
    · have HCL := Lib.hid (re_close hR)
      have hSL := spotsF_len M
      obtain ⟨LN, hLN⟩ : ∃ LN, (spotsF M).length = LN := ⟨_, rfl⟩
      have HLN := Lib.hid hLN
      rw [hLN] at HCL
      clear hR hLN
      have hx : (k < l.length ∧ decide ((k : Int) < 40) = false) ∨ ¬ (k : Int) < (l.length : Int) := by
        rcases Nat.lt_or_ge k l.length with h1 | h1
        · exact .inl ⟨h1, decide_eq_false (by omega)⟩
        · exact .inr (by omega)
      clear hlt
      rcases hx with ⟨h1, h2⟩ | h1
      · have h3 : (k : Int) < (l.length : Int) := by omega
        go_upto_region 39 with fail
        clear hm
        go_wp2_with (first
          | (go_at_call 31; refine HCL.out.mono ?_; rintro e v5 ⟨A5, c5, A6, c6, rfl, hC5, hr5, cr5, hq5⟩
             have HX := Lib.hid (And.intro hr5 (And.intro hq5 hC5))
             clear hr5 hq5 hC5 HCL)
          | (go_at_call 27; refine (same_any (by rw [HLN.out] at *; exact HX.out.1) (by rw [HLN.out] at *; exact HX.out.2.1) hSL).mono ?_; rintro e v6 ⟨rfl, n6, rfl⟩
             have hC6 := HX.out.2.2.drewN n6
             clear HX)
          | (go_at_call 21; (with_reducible refine (cl_get hC6).mono ?_); rintro e v7 ⟨rfl, hC7⟩
             have hC8 := hC7.alloc (.cells #[.bool false, .bool false, .bool false, .bool false, .int .i64 0] 23)
             clear hC6 hC7)
          | (go_at_call 30; (with_reducible refine (cl_free hC8).mono ?_); rintro e v8 ⟨rfl, rfl⟩)
          | (go_at_call 29; (with_reducible refine (cl_nodes hC8).mono ?_); rintro e v9 ⟨rfl, rfl⟩)
          | (go_at_call 28; (with_reducible refine (cl_all hC8).mono ?_); rintro e v10 ⟨A7, c7, rfl, hC9⟩))
        go_ret
        exact ⟨rfl, hC9.bel⟩
      · go_upto_region 39 with fail
        clear hm
        go_wp2_with (first
          | (go_at_call 31; refine HCL.out.mono ?_; rintro e v5 ⟨A5, c5, A6, c6, rfl, hC5, hr5, cr5, hq5⟩
             have HX := Lib.hid (And.intro hr5 (And.intro hq5 hC5))
             clear hr5 hq5 hC5 HCL)
          | (go_at_call 27; refine (same_any (by rw [HLN.out] at *; exact HX.out.1) (by rw [HLN.out] at *; exact HX.out.2.1) hSL).mono ?_; rintro e v6 ⟨rfl, n6, rfl⟩
             have hC6 := HX.out.2.2.drewN n6
             clear HX)
          | (go_at_call 21; (with_reducible refine (cl_get hC6).mono ?_); rintro e v7 ⟨rfl, hC7⟩
             have hC8 := hC7.alloc (.cells #[.bool false, .bool false, .bool false, .bool false, .int .i64 0] 23)
             clear hC6 hC7)
          | (go_at_call 30; (with_reducible refine (cl_free hC8).mono ?_); rintro e v8 ⟨rfl, rfl⟩)
          | (go_at_call 29; (with_reducible refine (cl_nodes hC8).mono ?_); rintro e v9 ⟨rfl, rfl⟩)
          | (go_at_call 28; (with_reducible refine (cl_all hC8).mono ?_); rintro e v10 ⟨A7, c7, rfl, hC9⟩))
        go_ret
        exact ⟨rfl, hC9.bel⟩

set_option maxRecDepth 100000 in
theorem lifted (os : Os) (started : os.Started) (H : Type) (enc : TypeId × Value → H) :
    ReturnsInHanded {} Tryd.checked os 4 .any (fun w args => (Rows.radixPlaysSpec.pre enc Tryd.prog Tryd.f4 Rows.radixPlaysRow.domain false w args ∧ laidMet Tryd.prog Rows.radixPlaysRow.laid w) ∧ sizedMet enc Tryd.prog Tryd.f4 (OpenSpec.ofChange Rows.radixPlaysSpec) false w args) (Rows.radixPlaysSpec.post enc Tryd.prog Tryd.f4 false true false false) := by
  refine returnsInHanded_of_change_and (C := Tryd.checked) (X := fun w _ => laidMet Tryd.prog Rows.radixPlaysRow.laid w) (fun _ _ _ hh h => h.of_heap hh) own started (by kernel_rfl) Tryd.func4
    (ChangeSpec.witness_at (enc := enc) (C := Tryd.checked) (os := os) (X := fun w _ => laidMet Tryd.prog Rows.radixPlaysRow.laid w) false (laidWorld os) #[.int .i64 0, .slice none 0 0] 8 rfl (by kernel_rfl) (by kernel_rfl) (by kernel_rfl) (by kernel_rfl) (by kernel_rfl) (laid_met os _)) ?_
  intro W base args ds gs before hval0 hW hcnd _ hL _
  have hval : ∀ (j : Nat) t v, Tryd.f4.params[j]? = some t → args[j]? = some v → Value.okWide Tryd.prog W .any base t v := hval0
  have hW' := hW
  obtain ⟨p, q, hA0, hV, rfl, hfz, hnd⟩ := hW
  have hA : DataW.TrodAll enc Tryd.prog W 0 (fun _ => true) true Tryd.f4.params.toList args.toList ds p := hA0
  rw [Tryd.params4] at hA hval
  obtain ⟨v0, vs0, d0, ds0, p0, q0, hargs, rfl, rfl, h0, r0⟩ := trodAll_cons hA
  obtain ⟨v1, vs1, d1, ds1, p1, q1, rfl, rfl, rfl, h1, r1⟩ := trodAll_cons r0
  obtain ⟨rfl, rfl, rfl⟩ := trodAll_nil r1
  obtain rfl : args = #[v0, v1] := by cases args; simp_all
  obtain ⟨rfl, rfl⟩ := trodVars_none hV
  have k0 := h0
  have lt0 : ∀ x ∈ p0, x.block < W.heap.size := by obtain ⟨m, hm⟩ := k0; exact DataW.trod_lt m _ _ _ hm
  obtain ⟨a0, rfl, _, _, w0⟩ := open_int Tryd.underlying3 (hval 0 3 v0 rfl rfl) h0
  have k1 := h1
  have lt1 : ∀ x ∈ p1, x.block < W.heap.size := by obtain ⟨m, hm⟩ := k1; exact DataW.trod_lt m _ _ _ hm
  obtain ⟨LA1, Ll1, Lc1, rfl, Lm1, Lr1⟩ := openOps7 (hval 1 30 v1 rfl rfl) h1
  clear hA0 hval0
  refine (walk a0 LA1 Ll1 Lc1 W w0 Lm1 Lr1 (tab_of_laid hL)).mono fun e W' ⟨he, bel⟩ => ?_
  subst he
  exact ⟨_, rfl, _, _, _, [], _, [], hW', trodAll_mk1 (shut_bool Tryd.underlying4 _), (trodAll_cons_mk (Below.trod laidOut (by kernel_rfl) (of_decide_eq_true (by kernel_rfl)) k0 bel lt0) (trodAll_cons_mk (Below.trod laidOut (by kernel_rfl) (of_decide_eq_true (by kernel_rfl)) k1 bel lt1) trodAll_mk0)), rfl, bel.frame _, fun h => by cases h⟩
theorem over : Rows.radixPlaysRow.holds Tryd.pinned (OpenSpec.ofChange Rows.radixPlaysSpec) :=
  OpenClaim.holds_of_wide 4 Tryd.f4 rfl rfl rfl rfl rfl rfl rfl ⟨rfl, rfl, rfl, rfl, rfl⟩ rfl rfl rfl rfl rfl (by kernel_rfl) Tryd.func4 (by kernel_rfl)
    (of_decide_eq_true (by kernel_rfl)) (by unfold Func.isWrapper; first | (rw [if_pos (by decide +kernel)]; kernel_rfl) | (rw [if_neg (by decide +kernel)]; exact ⟨rfl, rfl⟩))
    (fun os started H enc _ => lifted os started H enc)
set_option maxRecDepth 100000 in
/-- The statement. -/
theorem proved : Rows.RadixPlaysCardSaid :=
  Claim7.holds_tied_plain_at .later [] [.data] true _ false over (fun _ h => by cases h) (by kernel_rfl) (fun _ h => by cases h) radixPlays_row_tie rfl ⟨rfl, rfl⟩ (by kernel_rfl) rfl
    (fun f fn hf hfn => by
      obtain rfl : f = 4 := Option.some.inj (hf.symm.trans (by kernel_rfl))
      obtain rfl : fn = Tryd.f4 := Option.some.inj (hfn.symm.trans Tryd.func4)
      refine ⟨by kernel_rfl, fun j t ht => ?_⟩
      rw [Tryd.params4] at ht
      match j, ht with
      | 0, ht =>
        obtain rfl : t = 3 := by simpa using ht.symm
        exact (by kernel_rfl : Tryd.pinned.checked.prog.wantsStandIn 3 = false)
      | 1, ht =>
        obtain rfl : t = 30 := by simpa using ht.symm
        exact (by kernel_rfl : Tryd.pinned.checked.prog.wantsStandIn 30 = false)
      | j + 2, ht => simp at ht)
    (by kernel_rfl)
end Go.Proofs.YtbidlabhekiijaaDoor.lawPlays
