/- Package region: put. -/
import Derived.Test.YtmknkdfdkanijaaUG
namespace Go.Proofs.Ytmknkdfdkanijaa
open Go.RowKit Go.ChangeShapes Go.WideShapes Go.Deep
set_option linter.unusedVariables false
set_option linter.unusedSimpArgs false

theorem RgRow.same {w w' : World} {A : Option Addr} {l : List Rg} (h : RgRow w A l) (hs : w.heap.size ≤ w'.heap.size) (hb : ∀ ad, A = some ad → w'.heap[ad.block]? = w.heap[ad.block]?) : RgRow w' A l := fun i hi => by
  obtain ⟨ad, h1, h2, h3, h4⟩ := h i hi
  refine ⟨ad, h1, Nat.lt_of_lt_of_le h2 hs, fun j hj => ?_, h4⟩
  have e : (ad.add (i * 6 + j)).block = ad.block := by unfold Addr.add; split <;> rfl
  rw [← h3 j hj]
  exact World.cell?_of_block (w := w) (by rw [e]; exact hb ad h1)

/-- While regions are put: what is told, what is as it was; the blocks of Z lie elsewhere. -/
structure PutI (w wr : World) (B tb : Nat) (Z : Nat → Prop) (A : Option Addr) (c : Nat) (L : List Rg) : Prop where
  t : Told wr B tb A c L
  b : Below B w wr
  z : ∀ k, Z k → k < w.heap.size ∧ k ≠ tb ∧ wr.heap[k]? = w.heap[k]? ∧ (Value.slice A L.length c).ownBlock ≠ some k
section
variable {w wr v w1 : World} {B tb : Nat} {Z : Nat → Prop} {A : Option Addr} {c : Nat} {L : List Rg}
theorem PutI.below (h : PutI w wr B tb Z A c L) (hb : Below wr.heap.size wr v) : PutI w v B tb Z A c L :=
  ⟨h.t.below hb, h.b.trans (hb.mono (by have := h.t.lo; have := h.t.box.lt; omega)), fun k e => by
    obtain ⟨z1, z2, z3, z4⟩ := h.z k e
    exact ⟨z1, z2, (hb.block _ (by have := h.b.size; omega)).trans z3, z4⟩⟩
theorem PutI.row (h : PutI w wr B tb Z A c L) {l : List Rg} {A0 : Option Addr} (hl : RgRow w A0 l) (hZ : ∀ ad, A0 = some ad → Z ad.block) : RgRow wr A0 l := hl.same h.b.size fun ad e => (h.z _ (hZ ad e)).2.2.1
theorem PutI.join {m : List Rg} {a : Rg} {ad : Addr} (h : PutI w wr B tb Z (some ad) c (m ++ [a])) {z : Int} (hw : (Lit.int .i64 z).wf = true) (hz : 0 ≤ z ∧ z ≤ 4096) :
    PutI w (wr.setCell ⟨(ad.add (m.length * 6)).block, (ad.add (m.length * 6)).off + 1, none⟩ (.int .i64 z)) B tb Z (some ad) c (m ++ [{ a with t := z }]) := by
  obtain ⟨h1, h2, -⟩ := h.t.join hw hz
  refine ⟨h1, h.b.trans h2, fun k e => ?_⟩
  obtain ⟨z1, z2, z3, z4⟩ := h.z k e
  have eb : (ad.add (m.length * 6)).block = ad.block := by unfold Addr.add; split <;> rfl
  have hl : (m ++ [{ a with t := z }]).length = (m ++ [a]).length := by simp
  rw [hl]
  refine ⟨z1, z2, (Below.heap_setCell _ _ _ _ (fun e2 => ?_)).trans z3, z4⟩
  have e2 : k = (ad.add (m.length * 6)).block := e2
  rw [eb] at e2
  have := (h.t.block rfl).1
  rw [← e2] at this
  exact z4 this
theorem PutI.push {x : Rg} {o : Obj} {v' : Value} (h : PutI w wr B tb Z A c L) (hx : x.Wf ∧ x.Bd) (ho : w1.ownsRow B 29 6 v' (L.length + 1) (rgCells L ++ x.cs.toList)) (hg : (wr.alloc o).grownBy w1 (Value.slice A L.length c).ownBlock)
    (hat : v'.ownBlock = (Value.slice A L.length c).ownBlock ∨ v'.ownBlock = some (wr.alloc o).heap.size) :
    (∃ A' c', v' = .slice A' (L ++ [x]).length c' ∧ PutI w (w1.setCell ⟨tb, 0, none⟩ v') B tb Z A' c' (L ++ [x])) ∧ w1.cell? ⟨tb, 0, none⟩ = some (.slice A L.length c) ∧ w1.frozen? ⟨tb, 0, none⟩ = false := by
  obtain ⟨⟨A', c', h1, h2⟩, h3, h4, h5⟩ := h.t.push hx ho hg hat
  refine ⟨⟨A', c', h1, h2, h.b.trans h5, fun k e => ?_⟩, h3, h4⟩
  obtain ⟨z1, z2, z3, z4⟩ := h.z k e
  have hsz := h.b.size
  refine ⟨z1, z2, ?_, fun e2 => ?_⟩
  · refine (Below.heap_setCell _ _ _ _ (show k ≠ tb from z2)).trans ((hg.block _ (by simp; omega) (fun e2 => z4 e2.symm)).trans ((Below.heap_alloc wr o _ (by omega)).trans z3))
  · rw [← h1] at e2
    rcases hat with hat | hat
    · exact z4 (by rw [← hat]; exact e2)
    · rw [hat] at e2
      injection e2 with e2
      simp at e2
      omega
end

set_option maxRecDepth 100000 in
set_option maxHeartbeats 6400000 in
theorem put_any (l L : List Rg) (A0 : Option Addr) (n c0 : Nat) (w : World) (B tb : Nat) (Z : Nat → Prop) (A : Option Addr) (c : Nat) (hn : l.length = n) (hI : PutI w w B tb Z A c L) (hZ : l ≠ [] → ∀ ad, A0 = some ad → Z ad.block) (hl : RgRow w A0 l) (hp : PutOk l) (hlen : L.length + l.length ≤ 100000) :
    Calls Try.prog 41 #[.slice A0 n c0, .pointer (some ⟨tb, 0, none⟩)] w fun e w' => e = .returned (.tuple #[]) ∧ ∃ A' c', PutI w w' B tb Z A' c' (putAll L l) := by
  obtain ⟨i0, hi, hz0, hz1, hz2⟩ := info_parts infoRg
  have HI0 := Lib.hid hI
  have HL := Lib.hid hl
  have HN := Lib.hid hn
  have HPO := Lib.hid hp
  have HLEN := Lib.hid (fun (m : Nat) => show (putAll L (l.take m)).length ≤ 100000 from by
    have h1 := putAll_length L (l.take m)
    have h2 : (l.take m).length ≤ l.length := by rw [List.length_take]; omega
    omega)
  have hn2 : n ≤ 100000 := by omega
  have HZ := Lib.hid hZ
  clear hI hl hn hp hlen hZ
  go_enter Try.func41, Try.ntmps41
  go_wp2
  go_loopw [8] (fun i wr => ∃ (k : Nat) (A' : Option Addr) (c' : Nat), k ≤ n ∧ i = .int .i64 k ∧ Hid (PutI w wr B tb Z A' c' (putAll L (l.take k)))) (fun i _ => n - (intOf i).toNat)
  case atStart => exact ⟨0, A, c, Nat.zero_le _, rfl, HI0⟩
  case round =>
    clear HI0
    obtain ⟨k, A1, c1, hk, rfl, HI⟩ := hrel
    by_cases hlt : k < n
    · have hkl : k < l.length := by rw [HN.out]; exact hlt
      obtain ⟨ad, hA0, hblt, hwf, x0, x1, x2, x3, x4, x5⟩ := (HI.out.row HL.out (HZ.out (List.ne_nil_of_length_pos (Nat.lt_of_le_of_lt (Nat.zero_le _) hkl)))).at_ hkl
      have hok := HPO.out _ (List.getElem_mem hkl)
      have htk := putAll_take L l hkl
      have hlen := HLEN.out k
      obtain ⟨r, hr⟩ : ∃ r, l[k] = r := ⟨_, rfl⟩
      rw [hr] at x0 x1 x2 x3 x4 x5 hwf hok htk
      obtain ⟨L1, hL1⟩ : ∃ L1, putAll L (l.take k) = L1 := ⟨_, rfl⟩
      rw [hL1] at htk hlen
      rw [hL1] at HI
      have hP1 := HI.out.below ((Below.refl _ _).alloc (Nat.le_refl _) (.cells r.cs 29))
      obtain ⟨W1, hW1⟩ : ∃ W1, wr.alloc (.cells r.cs 29) = W1 := ⟨_, rfl⟩
      have hsix := (Blk.new wr 29 r.cs)
      rw [hW1] at hP1 hsix
      have hcell := hP1.t.box.cell 0
      obtain ⟨q, hq⟩ : ∃ q, L1.length = q := ⟨_, rfl⟩
      have HQ := Lib.hid hq
      rw [hq] at hcell hlen
      have hcell : W1.cell? ⟨tb, 0, none⟩ = some (.slice A1 q c1) := hcell
      have HP1 := Lib.hid hP1
      have HSX := Lib.hid hsix
      have HTK := Lib.hid htk
      have HOK := Lib.hid hok
      obtain ⟨rf, rt, rp, rk, rfl', rpg⟩ := r
      obtain ⟨s0, s1, s2, s3, s4, s5⟩ := hsix.six
      simp only at x0 x1 x2 x3 x4 x5 s0 s1 s2 s3 s4 s5
      unfold Rg.cs at hW1
      simp only at hW1
      have HW1 := Lib.hid hW1
      clear hP1 hsix htk hok hwf hL1 hW1 hr hkl hq
      subst hA0
      have hk0 : (0 : Int) ≤ (k : Int) := by omega
      have hk1 : (k : Int) < (n : Int) := by omega
      have hw1 : IntKind.i64.wrap ((q : Int) - 1) = (q : Int) - 1 ∧ wrap64 ((q : Int) - 1) = (q : Int) - 1 := ⟨IntWalk.i64_in _ (by omega), IntWalk.wrap64_in _ (by omega)⟩
      obtain ⟨hw11, hw12⟩ := hw1
      by_cases hemp : rt ≤ rf
      · go_upto_region 3 with fail
        rw [HW1.out]
        go_wp2
        go_roundw
        case rel => exact ⟨k + 1, A1, c1, by omega, by go_num, by rw [HTK.out, push_none hemp]; exact HP1⟩
        case measure => simp [intOf]; omega
      · have hlt2 : rf < rt := by omega
        have hd1 : decide (rt ≤ rf) = false := decide_eq_false hemp
        rcases List.eq_nil_or_concat L1 with hnil | ⟨m, a, hcat⟩
        · obtain rfl : q = 0 := by rw [← HQ.out, hnil]; rfl
          have HTK2 := Lib.hid (show putAll L (l.take (k + 1)) = L1 ++ [(⟨rf, rt, rp, rk, rfl', rpg⟩ : Rg)] from by rw [HTK.out, hnil, push_first hlt2]; rfl)
          clear hnil hw11 hw12
          go_upto_region 3 with fail
          rw [HW1.out]
          go_upto_region 6 with fail
          go_quiet (fail)
          rename_i nq
          have hBq := Below.drewN (Below.refl W1.heap.size W1) nq
          have HPX := Lib.hid (HP1.out.below hBq)
          have t0 := HPX.out.t.box.cell 0
          rw [HQ.out] at t0
          have t0 : (W1.drewN nq).cell? ⟨tb, 0, none⟩ = some (.slice A1 0 c1) := t0
          have hsx := (HSX.out.below hBq HSX.out.lt).six
          clear hcell s0 s1 s2 s3 s4 s5 hBq
          obtain ⟨s0, s1, s2, s3, s4, s5⟩ := hsx
          simp only at s0 s1 s2 s3 s4 s5
          clear HSX HW1 HP1
          generalize W1.drewN nq = X at *
          have HOWN := Lib.hid (show X.ownsRow B 29 6 (.slice A1 0 c1) 0 (rgCells L1) from by have := HPX.out.t.row; rw [HQ.out] at this; exact this)
          have HLO := Lib.hid (show B ≤ X.heap.size from by have := HPX.out.t.lo; have := HPX.out.t.box.lt; omega)
          go_wp2_with (at_builtin; refine wpList_append_own_at _ rfl _ _ 25 rfl B 29 i0 _ 6 48 Try.underlying25 hi hz0 hz1 hz2 rfl (by decide) (.slice A1 0 c1) 0 (rgCells L1) rfl (HOWN.out.alloc _) ⟨X.heap.size, 0, none⟩ 1 1 [.int .i64 rf, .int .i64 rt, .int .i64 rp, .int .i64 rk, .int .i64 rfl', .int .i64 rpg] rfl rfl (World.news_of_block (cs := #[.int .i64 rf, .int .i64 rt, .int .i64 rp, .int .i64 rk, .int .i64 rfl', .int .i64 rpg]) (t := 29) (fr := (0, 0)) (heap_alloc_new X (.cells #[.int .i64 rf, .int .i64 rt, .int .i64 rp, .int .i64 rk, .int .i64 rfl', .int .i64 rpg] 29))) (by simp [Value.oneCell']) (by unfold maxLen; omega) (by omega) (by have := HLO.out; simp; omega) ?_; intro v' w4 hown4 hgrow4 _ hat4
                       obtain ⟨⟨A', c', hv', hp1⟩, hp2, hp3⟩ := HPX.out.push (x := ⟨rf, rt, rp, rk, rfl', rpg⟩) (o := .cells #[.int .i64 rf, .int .i64 rt, .int .i64 rp, .int .i64 rk, .int .i64 rfl', .int .i64 rpg] 29) (v' := v') ⟨HOK.out.1, HOK.out.2 hlt2⟩ (by rw [HQ.out]; exact hown4) (by rw [HQ.out]; exact hgrow4) (by rw [HQ.out]; exact hat4)
                       rw [HQ.out] at hp2
                       have hv2 : v' = .slice A' (0 + 1) c' := by rw [hv', List.length_append, HQ.out]; rfl
                       clear hv'
                       subst hv2
                       have HPF := Lib.hid (show PutI w (w4.setCell ⟨tb, 0, none⟩ (.slice A' (0 + 1) c')) B tb Z A' c' (putAll L (l.take (k + 1))) from by rw [HTK2.out]; exact hp1)
                       clear hp1 hown4 hgrow4 hat4)
          generalize World.setCell _ _ _ = W5 at *
          go_roundw
          case rel => exact ⟨k + 1, A', c', by omega, by go_num, HPF⟩
          case measure => simp [intOf]; omega
        · rw [List.concat_eq_append] at hcat
          obtain ⟨p, hpm⟩ : ∃ p, m.length = p := ⟨_, rfl⟩
          have hqp : q = p + 1 := by rw [← HQ.out, hcat, List.length_append, hpm]; rfl
          have hrow := HP1.out.t.rg
          have hrl := hrow.at_ (i := p) (by rw [HQ.out]; omega)
          obtain ⟨ad2, hA1, hb2, -, y0, y1, y2, y3, y4, y5⟩ := hrl
          have hLp : L1[p]'(by rw [HQ.out]; omega) = a := by
            subst hcat
            rw [List.getElem_append_right (by omega)]
            simp [hpm]
          rw [hLp] at y0 y1 y2 y3 y4 y5
          have habd := (HP1.out.t.wf a (by rw [hcat]; simp)).2
          have HAO := Lib.hid (fun v => areOne_any a ⟨rf, rt, rp, rk, rfl', rpg⟩ v habd)
          have hadb : ad2.block < W1.heap.size := hb2
          have haa : (ad2.add (p * 6)).block = ad2.block := by unfold Addr.add; split <;> rfl
          subst hA1
          have HSS := Lib.hid (fun (v : World) (hb : Below W1.heap.size W1 v) => show v.cell? ⟨tb, 0, none⟩ = some (.slice (some ad2) q c1) ∧ v.cell? ⟨wr.heap.size, 0, none⟩ = some (.int .i64 rf) ∧ v.cell? ⟨wr.heap.size, 1, none⟩ = some (.int .i64 rt) ∧ v.cell? ⟨wr.heap.size, 2, none⟩ = some (.int .i64 rp) ∧ v.cell? ⟨wr.heap.size, 3, none⟩ = some (.int .i64 rk) ∧ v.cell? ⟨wr.heap.size, 4, none⟩ = some (.int .i64 rfl') ∧ v.cell? ⟨wr.heap.size, 5, none⟩ = some (.int .i64 rpg) ∧
              v.cell? (ad2.add (p * 6)) = some (.int .i64 a.f) ∧ v.cell? ⟨(ad2.add (p * 6)).block, (ad2.add (p * 6)).off + 1, none⟩ = some (.int .i64 a.t) ∧ v.cell? ⟨(ad2.add (p * 6)).block, (ad2.add (p * 6)).off + 2, none⟩ = some (.int .i64 a.p) ∧ v.cell? ⟨(ad2.add (p * 6)).block, (ad2.add (p * 6)).off + 3, none⟩ = some (.int .i64 a.k) ∧ v.cell? ⟨(ad2.add (p * 6)).block, (ad2.add (p * 6)).off + 4, none⟩ = some (.int .i64 a.fl) ∧ v.cell? ⟨(ad2.add (p * 6)).block, (ad2.add (p * 6)).off + 5, none⟩ = some (.int .i64 a.pg) ∧ Hid (PutI w v B tb Z (some ad2) c1 L1 ∧ Blk v wr.heap.size 29 (⟨rf, rt, rp, rk, rfl', rpg⟩ : Rg).cs) from by
            have hI2 := HP1.out.below hb
            have hB2 := HSX.out.below hb HSX.out.lt
            have hc2 := hI2.t.box.cell 0
            rw [HQ.out] at hc2
            obtain ⟨z0, z1, z2, z3, z4, z5⟩ := hB2.six
            refine ⟨hc2, z0, z1, z2, z3, z4, z5, ?_, ?_, ?_, ?_, ?_, ?_, Lib.hid ⟨hI2, hB2⟩⟩
            all_goals refine (hb.cell ?_).trans ?_
            all_goals first | assumption | (rw [haa]; exact hadb))
          have HA := Lib.hid (And.intro hcat (And.intro hpm hqp))
          have hw2 : IntKind.i64.wrap ((q : Int) - 1) = (p : Int) := by rw [hw11]; omega
          have hw3 : wrap64 ((q : Int) - 1) = (p : Int) := by rw [hw12]; omega
          have hqq : (q : Int) - 1 = (p : Int) := by omega
          have hlast : decide (0 ≤ (p : Int)) = true := by simp
          have hp0 : (0 : Int) ≤ (p : Int) := by omega
          have hp1 : (p : Int) < (q : Int) := by omega
          clear hrow hLp habd hcat hpm hqp y0 y1 y2 y3 y4 y5 hb2 hadb haa hw11 hw12
          obtain ⟨af, at', ap, ak, afl, apg⟩ := a
          simp only at HSS
          have hao := HAO.out
          unfold Rg.cs at hao
          simp only at hao
          have HAP := Lib.hid hao
          clear hao HAO
          by_cases hone : oneR (⟨af, at', ap, ak, afl, apg⟩ : Rg) ⟨rf, rt, rp, rk, rfl', rpg⟩
          · have HON := Lib.hid (decide_eq_true hone)
            have HJ := Lib.hid (fun (v : World) (h : PutI w v B tb Z (some ad2) c1 L1) => show v.frozen? ⟨(ad2.add (p * 6)).block, (ad2.add (p * 6)).off + 1, none⟩ = false ∧ PutI w (v.setCell ⟨(ad2.add (p * 6)).block, (ad2.add (p * 6)).off + 1, none⟩ (.int .i64 rt)) B tb Z (some ad2) c1 (putAll L (l.take (k + 1))) from by
              obtain ⟨e1, e2, e3⟩ := HA.out
              rw [HTK.out, e1, push_one hlt2 hone]
              rw [e1] at h
              have hb := (HOK.out.2 hlt2).t
              have h1 := h.t.join HOK.out.1.t hb
              have h2 := h.join HOK.out.1.t hb
              rw [e2] at h1 h2
              exact ⟨h1.2.2, h2⟩)
            have HD1 := Lib.hid (show ∀ x, Below W1.drew.heap.size W1.drew x → Below W1.heap.size W1 x from fun x h => (Below.refl W1.heap.size W1).drew.trans h)
            clear hone
            go_upto_region 3 with fail
            rw [HW1.out]
            obtain ⟨x0, x1, x2, x3, x4, x5, x6, x7, x8, x9, x10, x11, x12, HX⟩ := HSS.out W1 (Below.refl _ _)
            go_upto_region 6 with fail
            go_region_held3 (fun v => v.cell? ⟨tb, 0, none⟩ = some (.slice (some ad2) q c1) ∧ v.cell? ⟨wr.heap.size, 0, none⟩ = some (.int .i64 rf) ∧ v.cell? ⟨wr.heap.size, 1, none⟩ = some (.int .i64 rt) ∧ v.cell? ⟨wr.heap.size, 2, none⟩ = some (.int .i64 rp) ∧ v.cell? ⟨wr.heap.size, 3, none⟩ = some (.int .i64 rk) ∧ v.cell? ⟨wr.heap.size, 4, none⟩ = some (.int .i64 rfl') ∧ v.cell? ⟨wr.heap.size, 5, none⟩ = some (.int .i64 rpg) ∧ v.cell? (ad2.add (p * 6)) = some (.int .i64 af) ∧ v.cell? ⟨(ad2.add (p * 6)).block, (ad2.add (p * 6)).off + 1, none⟩ = some (.int .i64 at') ∧ v.cell? ⟨(ad2.add (p * 6)).block, (ad2.add (p * 6)).off + 2, none⟩ = some (.int .i64 ap) ∧ v.cell? ⟨(ad2.add (p * 6)).block, (ad2.add (p * 6)).off + 3, none⟩ = some (.int .i64 ak) ∧ v.cell? ⟨(ad2.add (p * 6)).block, (ad2.add (p * 6)).off + 4, none⟩ = some (.int .i64 afl) ∧ v.cell? ⟨(ad2.add (p * 6)).block, (ad2.add (p * 6)).off + 5, none⟩ = some (.int .i64 apg) ∧ Hid (PutI w v B tb Z (some ad2) c1 L1 ∧ Blk v wr.heap.size 29 (⟨rf, rt, rp, rk, rfl', rpg⟩ : Rg).cs))
              (first | exact ⟨x0, x1, x2, x3, x4, x5, x6, x7, x8, x9, x10, x11, x12, HX⟩ | exact HSS.out _ (Below.refl _ _) | exact HSS.out _ ((Below.refl _ _).drew))
              (first
              | (go_at_call 38; with_reducible refine (HAP.out _).mono ?_; rintro e x ⟨rfl, hb⟩; rw [HON.out]; have hx := HSS.out x (HD1.out x hb); clear x0 x1 x2 x3 x4 x5 x6 x7 x8 x9 x10 x11 x12 HX; obtain ⟨x0, x1, x2, x3, x4, x5, x6, x7, x8, x9, x10, x11, x12, HX⟩ := hx; clear hb))
            obtain ⟨hfz, hjn⟩ := HJ.out _ HX.out.1
            have HJN := Lib.hid hjn
            clear hjn
            go_wp2
            go_roundw
            case rel => exact ⟨k + 1, some ad2, c1, by omega, by go_num, HJN⟩
            case measure => simp [intOf]; omega
          · have HON := Lib.hid (decide_eq_false hone)
            have HTK2 := Lib.hid (show putAll L (l.take (k + 1)) = L1 ++ [(⟨rf, rt, rp, rk, rfl', rpg⟩ : Rg)] from by
              obtain ⟨e1, e2, e3⟩ := HA.out
              rw [HTK.out, e1, push_two hlt2 hone])
            have HD1 := Lib.hid (show ∀ x, Below W1.drew.heap.size W1.drew x → Below W1.heap.size W1 x from fun x h => (Below.refl W1.heap.size W1).drew.trans h)
            clear hone
            go_upto_region 3 with fail
            rw [HW1.out]
            obtain ⟨x0, x1, x2, x3, x4, x5, x6, x7, x8, x9, x10, x11, x12, HX⟩ := HSS.out W1 (Below.refl _ _)
            go_upto_region 6 with fail
            go_region_held3 (fun v => v.cell? ⟨tb, 0, none⟩ = some (.slice (some ad2) q c1) ∧ v.cell? ⟨wr.heap.size, 0, none⟩ = some (.int .i64 rf) ∧ v.cell? ⟨wr.heap.size, 1, none⟩ = some (.int .i64 rt) ∧ v.cell? ⟨wr.heap.size, 2, none⟩ = some (.int .i64 rp) ∧ v.cell? ⟨wr.heap.size, 3, none⟩ = some (.int .i64 rk) ∧ v.cell? ⟨wr.heap.size, 4, none⟩ = some (.int .i64 rfl') ∧ v.cell? ⟨wr.heap.size, 5, none⟩ = some (.int .i64 rpg) ∧ v.cell? (ad2.add (p * 6)) = some (.int .i64 af) ∧ v.cell? ⟨(ad2.add (p * 6)).block, (ad2.add (p * 6)).off + 1, none⟩ = some (.int .i64 at') ∧ v.cell? ⟨(ad2.add (p * 6)).block, (ad2.add (p * 6)).off + 2, none⟩ = some (.int .i64 ap) ∧ v.cell? ⟨(ad2.add (p * 6)).block, (ad2.add (p * 6)).off + 3, none⟩ = some (.int .i64 ak) ∧ v.cell? ⟨(ad2.add (p * 6)).block, (ad2.add (p * 6)).off + 4, none⟩ = some (.int .i64 afl) ∧ v.cell? ⟨(ad2.add (p * 6)).block, (ad2.add (p * 6)).off + 5, none⟩ = some (.int .i64 apg) ∧ Hid (PutI w v B tb Z (some ad2) c1 L1 ∧ Blk v wr.heap.size 29 (⟨rf, rt, rp, rk, rfl', rpg⟩ : Rg).cs))
              (first | exact ⟨x0, x1, x2, x3, x4, x5, x6, x7, x8, x9, x10, x11, x12, HX⟩ | exact HSS.out _ (Below.refl _ _) | exact HSS.out _ ((Below.refl _ _).drew))
              (first
              | (go_at_call 38; with_reducible refine (HAP.out _).mono ?_; rintro e x ⟨rfl, hb⟩; rw [HON.out]; have hx := HSS.out x (HD1.out x hb); clear x0 x1 x2 x3 x4 x5 x6 x7 x8 x9 x10 x11 x12 HX; obtain ⟨x0, x1, x2, x3, x4, x5, x6, x7, x8, x9, x10, x11, x12, HX⟩ := hx; clear hb))
            have HOWN := Lib.hid (show x.ownsRow B 29 6 (.slice (some ad2) q c1) q (rgCells L1) from by have := HX.out.1.t.row; rw [HQ.out] at this; exact this)
            have HLO := Lib.hid (show B ≤ x.heap.size from by have := HX.out.1.t.lo; have := HX.out.1.t.box.lt; omega)
            go_wp2_with (at_builtin; refine wpList_append_own_at _ rfl _ _ 25 rfl B 29 i0 _ 6 48 Try.underlying25 hi hz0 hz1 hz2 rfl (by decide) (.slice (some ad2) q c1) q (rgCells L1) rfl (HOWN.out.alloc _) ⟨x.heap.size, 0, none⟩ 1 1 [.int .i64 rf, .int .i64 rt, .int .i64 rp, .int .i64 rk, .int .i64 rfl', .int .i64 rpg] rfl rfl (World.news_of_block (cs := #[.int .i64 rf, .int .i64 rt, .int .i64 rp, .int .i64 rk, .int .i64 rfl', .int .i64 rpg]) (t := 29) (fr := (0, 0)) (heap_alloc_new x (.cells #[.int .i64 rf, .int .i64 rt, .int .i64 rp, .int .i64 rk, .int .i64 rfl', .int .i64 rpg] 29))) (by simp [Value.oneCell']) (by unfold maxLen; omega) (by omega) (by have := HLO.out; simp; omega) ?_; intro v' w4 hown4 hgrow4 _ hat4
                         obtain ⟨⟨A', c', hv', hp1⟩, hp2, hp3⟩ := HX.out.1.push (x := ⟨rf, rt, rp, rk, rfl', rpg⟩) (o := .cells #[.int .i64 rf, .int .i64 rt, .int .i64 rp, .int .i64 rk, .int .i64 rfl', .int .i64 rpg] 29) (v' := v') ⟨HOK.out.1, HOK.out.2 hlt2⟩ (by rw [HQ.out]; exact hown4) (by rw [HQ.out]; exact hgrow4) (by rw [HQ.out]; exact hat4)
                         rw [HQ.out] at hp2
                         have hv2 : v' = .slice A' (q + 1) c' := by rw [hv', List.length_append, HQ.out]; rfl
                         clear hv'
                         subst hv2
                         have HPF := Lib.hid (show PutI w (w4.setCell ⟨tb, 0, none⟩ (.slice A' (q + 1) c')) B tb Z A' c' (putAll L (l.take (k + 1))) from by rw [HTK2.out]; exact hp1)
                         clear hp1 hown4 hgrow4 hat4)
            generalize World.setCell _ _ _ = W5 at *
            go_roundw
            case rel => exact ⟨k + 1, A', c', by omega, by go_num, HPF⟩
            case measure => simp [intOf]; omega
    · obtain rfl : k = n := by omega
      go_wp2
      go_end0
      have h1 : l.take k = l := by rw [List.take_of_length_le]; rw [HN.out]; exact Nat.le_refl _
      have HI1 := HI.out
      rw [h1] at HI1
      exact ⟨rfl, A1, c1, HI1⟩
end Go.Proofs.Ytmknkdfdkanijaa
