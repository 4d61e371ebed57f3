/- The reference's Row. -/
import Derived.Test.YtmknkdfdkanijaaVB
namespace Go.Proofs.Ytmknkdfdkanijaa
open Go.RowKit Go.ChangeShapes Go.WideShapes Go.Deep
set_option linter.unusedVariables false
set_option linter.unusedSimpArgs false

/-- A slice that is none, or new. -/
def NewAt (w : World) (A : Option Addr) : Prop := ∀ ad, A = some ad → w.heap.size ≤ ad.block
theorem NewAt.from {w v : World} {A : Option Addr} (h : NewAt v A) (hb : w.heap.size ≤ v.heap.size) : NewAt w A := fun ad e => Nat.le_trans hb (h ad e)
/-- A row of a call's own while it grows. -/
structure OutI (w wr : World) (A : Option Addr) (c : Nat) (L : List Rg) : Prop where
  row : wr.ownsRow w.heap.size 29 6 (.slice A L.length c) L.length (rgCells L)
  wf : ∀ r ∈ L, r.Wf
  b : Below w.heap.size w wr
section
variable {w wr v w1 : World} {A : Option Addr} {c : Nat} {L : List Rg}
theorem OutI.rg (h : OutI w wr A c L) : RgRow wr A L := by
  obtain ⟨-, A', c', e, h1, -⟩ := RgRow.of_own h.row h.wf
  cases e
  exact h1
theorem OutI.below (h : OutI w wr A c L) (hb : Below wr.heap.size wr v) : OutI w v A c L := ⟨own_below h.row hb, h.wf, h.b.trans (hb.mono h.b.size)⟩
theorem OutI.join {m : List Rg} {a : Rg} {ad : Addr} (h : OutI w wr (some ad) c (m ++ [a])) {z : Int} (hw : (Lit.int .i64 z).wf = true) :
    OutI w (wr.setCell ⟨(ad.add (m.length * 6)).block, (ad.add (m.length * 6)).off + 1, none⟩ (.int .i64 z)) (some ad) c (m ++ [{ a with t := z }]) ∧ wr.frozen? ⟨(ad.add (m.length * 6)).block, (ad.add (m.length * 6)).off + 1, none⟩ = false := by
  obtain ⟨g, rfl⟩ := own_whereU h.row
  have e : (⟨((⟨g, 0, none⟩ : Addr).add (m.length * 6)).block, ((⟨g, 0, none⟩ : Addr).add (m.length * 6)).off + 1, none⟩ : Addr) = ⟨g, m.length * 6 + 1, none⟩ := by
    have e1 : (⟨g, 0, none⟩ : Addr).add (m.length * 6) = ⟨g, m.length * 6, none⟩ := by unfold Addr.add; split <;> simp_all
    rw [e1]
  have h1 := own_loU h.row (g := g) rfl
  have hl : (m ++ [{ a with t := z }]).length = (m ++ [a]).length := by simp
  rw [e]
  refine ⟨⟨?_, fun r hr => ?_, h.b.setCell (p := ⟨g, m.length * 6 + 1, none⟩) h1.1 _⟩, own_frozenU h.row rfl _⟩
  · rw [hl, ← rgCells_t]; exact own_setU h.row _ _
  · rcases List.mem_append.1 hr with h2 | h2
    · exact h.wf r (by simp [h2])
    · simp at h2
      subst h2
      obtain ⟨w0, w1, w2, w3, w4, w5⟩ := h.wf a (by simp)
      exact ⟨w0, hw, w2, w3, w4, w5⟩
theorem OutI.push {x : Rg} {o : Obj} {v' : Value} (h : OutI w wr A c L) (hx : x.Wf) (ho : w1.ownsRow w.heap.size 29 6 v' (L.length + 1) (rgCells L ++ x.cs.toList)) (hg : (wr.alloc o).grownBy w1 (Value.slice A L.length c).ownBlock) :
    ∃ A' c', v' = .slice A' (L ++ [x]).length c' ∧ OutI w w1 A' c' (L ++ [x]) := by
  have hsl : ∃ A' c', v' = .slice A' (L.length + 1) c' := by
    rcases ho.2 with ⟨rfl, h0⟩ | ⟨g, cap, cur, hv, _⟩
    · cases h0
    · exact ⟨_, _, hv⟩
  obtain ⟨A', c', rfl⟩ := hsl
  refine ⟨A', c', by simp, ⟨?_, fun r hr => ?_, ?_⟩⟩
  · rw [List.length_append, rgCells_append]
    have e : rgCells [x] = x.cs.toList := by simp [rgCells]
    rw [e]
    exact ho
  · rcases List.mem_append.1 hr with h2 | h2
    · exact h.wf r h2
    · simp at h2; subst h2; exact hx
  · have hB := h.b.size
    exact (h.b.alloc hB o).trans ⟨hg.os, hg.tape, hg.output, hg.size, fun k hk => hg.block k (by simp; omega) (fun e => by have := (own_loU h.row e.symm).1; omega)⟩
end

set_option maxRecDepth 100000 in
set_option maxHeartbeats 12800000 in
theorem rrow_any (f : Nat → Rg × Bool) (ad : Addr) (w : World) (ho : OwnR w ad f) (hok : OkF f) :
    Calls Try.prog 39 #[.slice (some ad) 4096 4096] w fun e w' => ∃ A n c L, e = .returned (.slice A n c) ∧ RS w' A n c L ∧ (RowP L ∧ NewAt w A) ∧ Below w.heap.size w w' := by
  obtain ⟨i0, hi, hz0, hz1, hz2⟩ := info_parts infoRg
  have HO := Lib.hid (fun (v : World) (hv : Below w.heap.size w v) => ho.below hv)
  have HOK := Lib.hid hok
  clear ho hok
  go_enter Try.func39, Try.ntmps39
  go_wp2
  go_loopw [3, 4] (fun lv iv wr => ∃ (k : Nat) (A' : Option Addr) (m c' : Nat), k ≤ 4096 ∧ iv = .int .i64 k ∧ lv = .slice A' m c' ∧ Hid (∃ L, L.length = m ∧ OutI w wr A' c' L ∧ RowP L ∧ EndsBy L k)) (fun _ iv _ => 4096 - (intOf iv).toNat)
  case atStart => exact ⟨0, none, 0, 0, by omega, rfl, rfl, Lib.hid ⟨[], rfl, ⟨World.ownsRow_nil w w.heap.size 29 6, fun r hr => by simp at hr, Below.refl _ _⟩, RowP.nil, fun a ha => by simp at ha⟩⟩
  case round =>
    obtain ⟨k, A1, q, c1, hk, rfl, rfl, HI⟩ := hrel
    by_cases hlt : k < 4096
    · obtain ⟨L1, hq, hI, hrow, hend⟩ := HI.out
      have hs := (HO.out wr hI.b).seven hlt
      have hokk := HOK.out k hlt
      obtain ⟨⟨r, b⟩, hfk⟩ : ∃ x, f k = x := ⟨_, rfl⟩
      rw [hfk] at hs hokk
      obtain ⟨c0, c1', c2, c3, c4, c5, c6, f0, fj⟩ := hs
      simp only at c0 c1' c2 c3 c4 c5 c6
      have k0 : (0 : Int) ≤ (k : Int) := by omega
      have k1 : (k : Int) < 4096 := by omega
      clear f0 fj hfk
      cases b with
      | false =>
        have HN := Lib.hid (show ∃ L, L.length = q ∧ OutI w wr A1 c1 L ∧ RowP L ∧ EndsBy L ((k + 1 : Nat) : Int) from ⟨L1, hq, hI, hrow, fun a ha => by have := hend a ha; omega⟩)
        clear hq hI hrow hend hokk
        go_wp2
        go_roundw
        case rel => exact ⟨k + 1, A1, q, c1, by omega, by go_num, rfl, HN⟩
        case measure => simp [intOf]; omega
      | true =>
        obtain ⟨hmay, hrf, hrt⟩ := hokk rfl
        have HMAY := Lib.hid hmay
        have hlen := hrow.asc.len
        have hpu := hrow.push hmay (fun a ha => by have h1 := hend a ha; have h2 : r.f = (k : Int) := hrf; omega)
        have HNX := Lib.hid (show RowP (push L1 r) ∧ EndsBy (push L1 r) ((k + 1 : Nat) : Int) from ⟨hpu.1, fun a ha => by have h1 := hpu.2.2 a ha; have h2 : r.t = (k : Int) + 1 := hrt; omega⟩)
        have hlt2 := hmay.ft
        have hq4 : q ≤ 4096 := by omega
        have HQ := Lib.hid hq
        have hI1 := hI.below ((Below.refl _ _).alloc (Nat.le_refl _) (.cells r.cs 29))
        have hbr := Blk.new wr 29 r.cs
        obtain ⟨W1, hW1⟩ : ∃ W1, wr.alloc (.cells r.cs 29) = W1 := ⟨_, rfl⟩
        rw [hW1] at hI1 hbr
        have HI1 := Lib.hid hI1
        have HBR := Lib.hid hbr
        have HROW := Lib.hid hrow
        have hsx := hbr.six
        obtain ⟨rf, rt, rp, rk, rfl', rpg⟩ := r
        obtain ⟨s0, s1, s2, s3, s4, s5⟩ := hsx
        unfold Rg.cs at hW1
        simp only at hW1 c0 c1' c2 c3 c4 c5 s0 s1 s2 s3 s4 s5 hlt2
        have HW1 := Lib.hid hW1
        clear hW1 hI1 hbr hmay hpu hrf hrt hokk hI hrow hend hlen
        rcases List.eq_nil_or_concat L1 with hnil | ⟨mm, a, hcat⟩
        · obtain rfl : q = 0 := by rw [← hq, hnil]; rfl
          have HTK2 := Lib.hid (show push L1 ⟨rf, rt, rp, rk, rfl', rpg⟩ = L1 ++ [(⟨rf, rt, rp, rk, rfl', rpg⟩ : Rg)] from by rw [hnil, push_first hlt2]; rfl)
          have HOWN := Lib.hid (show W1.ownsRow w.heap.size 29 6 (.slice A1 0 c1) 0 (rgCells L1) from by have := HI1.out.row; rw [HQ.out] at this; exact this)
          have HLO := Lib.hid (HI1.out.b.size)
          clear hnil hq
          go_upto_region 7 with fail
          rw [HW1.out]
          clear c0 c1' c2 c3 c4 c5 c6
          go_wp2_with (at_builtin; refine wpList_append_own_at _ rfl _ _ 25 rfl w.heap.size 29 i0 _ 6 48 Try.underlying25 hi hz0 hz1 hz2 rfl (by decide) (.slice A1 0 c1) 0 (rgCells L1) rfl (HOWN.out.alloc _) ⟨W1.heap.size, 0, none⟩ 1 1 [.int .i64 rf, .int .i64 rt, .int .i64 rp, .int .i64 rk, .int .i64 rfl', .int .i64 rpg] rfl rfl (World.news_of_block (cs := #[.int .i64 rf, .int .i64 rt, .int .i64 rp, .int .i64 rk, .int .i64 rfl', .int .i64 rpg]) (t := 29) (fr := (0, 0)) (heap_alloc_new W1 (.cells #[.int .i64 rf, .int .i64 rt, .int .i64 rp, .int .i64 rk, .int .i64 rfl', .int .i64 rpg] 29))) (by simp [Value.oneCell']) (by unfold maxLen; omega) (by omega) (by have := HLO.out; simp; omega) ?_; intro v' w4 hown4 hgrow4 _ hat4
                       obtain ⟨A2, c2, hv', hp1⟩ := HI1.out.push (x := ⟨rf, rt, rp, rk, rfl', rpg⟩) (o := .cells #[.int .i64 rf, .int .i64 rt, .int .i64 rp, .int .i64 rk, .int .i64 rfl', .int .i64 rpg] 29) (v' := v') HMAY.out.wf (by rw [HQ.out]; exact hown4) (by rw [HQ.out]; exact hgrow4)
                       have hv2 : v' = .slice A2 (0 + 1) c2 := by rw [hv', List.length_append, HQ.out]; rfl
                       clear hv'
                       subst hv2
                       have HPF := Lib.hid hp1
                       clear hp1 hown4 hgrow4 hat4)
          go_roundw
          case rel => exact ⟨k + 1, A2, 0 + 1, c2, by omega, by go_num, rfl, Lib.hid ⟨L1 ++ [⟨rf, rt, rp, rk, rfl', rpg⟩], by rw [List.length_append, HQ.out]; rfl, HPF.out, by rw [← HTK2.out]; exact HNX.out.1, by rw [← HTK2.out]; exact HNX.out.2⟩⟩
          case measure => simp [intOf]; omega
        · rw [List.concat_eq_append] at hcat
          obtain ⟨p, hpm⟩ : ∃ p, mm.length = p := ⟨_, rfl⟩
          have hqp : q = p + 1 := by rw [← hq, hcat, List.length_append, hpm]; rfl
          have hrl := HI1.out.rg.at_ (i := p) (by rw [hq]; omega)
          obtain ⟨ad2, hA1, hb2, -, y0, y1, y2, y3, y4, y5⟩ := hrl
          have hLp : L1[p]'(by rw [hq]; omega) = a := by
            subst hcat
            rw [List.getElem_append_right (by omega)]
            simp [hpm]
          rw [hLp] at y0 y1 y2 y3 y4 y5
          have hamay := HROW.out.asc.may a (by rw [hcat]; simp)
          have HAO := Lib.hid (fun v => rone_any a ⟨rf, rt, rp, rk, rfl', rpg⟩ v hamay HMAY.out)
          have hd : ∀ v, Below W1.heap.size W1 v → OutI w v A1 c1 L1 ∧ Blk v wr.heap.size 29 (⟨rf, rt, rp, rk, rfl', rpg⟩ : Rg).cs := fun v hv => ⟨HI1.out.below hv, HBR.out.below hv HBR.out.lt⟩
          have HD := Lib.hid hd
          have HHD := HDw W1
          subst hA1
          have HA := Lib.hid (And.intro hcat (And.intro hpm hqp))
          have i1 : wrap64 ((q : Int) - 1) = (p : Int) := by rw [IntWalk.wrap64_in _ (by omega)]; omega
          have i2 : IntKind.i64.wrap ((q : Int) - 1) = (p : Int) := by rw [IntWalk.i64_in _ (by omega)]; omega
          have i3 : (0 : Int) ≤ (p : Int) := by omega
          have i4 : (p : Int) < (q : Int) := by omega
          have i5 : (0 : Int) < (q : Int) := by omega
          have i6 : decide (0 < q) = true := by simp; omega
          have i7 : 0 < q := by omega
          obtain ⟨af, at', ap, ak, afl, apg⟩ := a
          have hao := HAO.out
          unfold Rg.cs at hao
          simp only at hao y0 y1 y2 y3 y4 y5
          have HAP := Lib.hid hao
          clear hao HAO hLp hamay hcat hpm hqp hb2 hd hq
          go_upto_region 7 with fail
          rw [HW1.out]
          clear c0 c1' c2 c3 c4 c5 c6
          go_upto_region 9 with fail
          go_still_tail 6, (by kernel_rfl)
          change wpList _ _ _ _ _ W1.drew
          have d0 : W1.drew.cell? (ad2.add (p * 6)) = _ := y0
          have d1 : W1.drew.cell? ⟨(ad2.add (p * 6)).block, (ad2.add (p * 6)).off + 1, none⟩ = _ := y1
          have d2 : W1.drew.cell? ⟨(ad2.add (p * 6)).block, (ad2.add (p * 6)).off + 2, none⟩ = _ := y2
          have d3 : W1.drew.cell? ⟨(ad2.add (p * 6)).block, (ad2.add (p * 6)).off + 3, none⟩ = _ := y3
          have d4 : W1.drew.cell? ⟨(ad2.add (p * 6)).block, (ad2.add (p * 6)).off + 4, none⟩ = _ := y4
          have d5 : W1.drew.cell? ⟨(ad2.add (p * 6)).block, (ad2.add (p * 6)).off + 5, none⟩ = _ := y5
          have t0 : W1.drew.cell? ⟨wr.heap.size, 0, none⟩ = _ := s0
          have t1 : W1.drew.cell? ⟨wr.heap.size, 1, none⟩ = _ := s1
          have t2 : W1.drew.cell? ⟨wr.heap.size, 2, none⟩ = _ := s2
          have t3 : W1.drew.cell? ⟨wr.heap.size, 3, none⟩ = _ := s3
          have t4 : W1.drew.cell? ⟨wr.heap.size, 4, none⟩ = _ := s4
          have t5 : W1.drew.cell? ⟨wr.heap.size, 5, none⟩ = _ := s5
          clear y0 y1 y2 y3 y4 y5 s0 s1 s2 s3 s4 s5
          by_cases hone : oneR (⟨af, at', ap, ak, afl, apg⟩ : Rg) ⟨rf, rt, rp, rk, rfl', rpg⟩
          · have HON := Lib.hid (decide_eq_true hone)
            have HTK2 := Lib.hid (show push L1 ⟨rf, rt, rp, rk, rfl', rpg⟩ = mm ++ [{ (⟨af, at', ap, ak, afl, apg⟩ : Rg) with t := rt }] from by
              obtain ⟨e1, e2, e3⟩ := HA.out
              rw [e1, push_one hlt2 hone])
            have HJ := Lib.hid (fun (v : World) (h : OutI w v (some ad2) c1 L1) => show OutI w (v.setCell ⟨(ad2.add (p * 6)).block, (ad2.add (p * 6)).off + 1, none⟩ (.int .i64 rt)) (some ad2) c1 (push L1 ⟨rf, rt, rp, rk, rfl', rpg⟩) ∧ v.frozen? ⟨(ad2.add (p * 6)).block, (ad2.add (p * 6)).off + 1, none⟩ = false ∧ v.cell? ⟨(ad2.add (p * 6)).block, (ad2.add (p * 6)).off + 1, none⟩ = some (.int .i64 at') from by
              obtain ⟨e1, e2, e3⟩ := HA.out
              rw [HTK2.out]
              rw [e1] at h
              have h1 := h.join HMAY.out.wf.t
              have h2 := h.rg.at_ (i := mm.length) (by simp)
              rw [e2] at h1
              obtain ⟨adx, ex, -, -, -, z1, -⟩ := h2
              cases ex
              have e9 : (mm ++ [(⟨af, at', ap, ak, afl, apg⟩ : Rg)])[mm.length]'(by simp) = ⟨af, at', ap, ak, afl, apg⟩ := by simp
              rw [e9] at z1
              rw [e2] at z1
              exact ⟨h1.1, h1.2, z1⟩)
            clear hone
            go_upto_region 10 with (go_at_call 42; refine (HAP.out _).mono ?_; rintro e x ⟨rfl, hb⟩; rw [HON.out])
            have hx := HHD.out x hb
            obtain ⟨hjn, hfz, hce⟩ := HJ.out x (HD.out x hx).1
            obtain ⟨-, u1, -⟩ := (HD.out x hx).2.six
            simp only at u1
            have HJN := Lib.hid hjn
            clear d0 d1 d2 d3 d4 d5 t0 t1 t2 t3 t4 t5 hb hjn hx
            go_wp2
            clear i1 i2
            go_roundw
            case rel => exact ⟨k + 1, some ad2, q, c1, by omega, by go_num, rfl, Lib.hid ⟨push L1 ⟨rf, rt, rp, rk, rfl', rpg⟩, by rw [HTK2.out]; obtain ⟨e1, e2, e3⟩ := HA.out; rw [List.length_append, e2, e3]; rfl, HJN.out, HNX.out.1, HNX.out.2⟩⟩
            case measure => simp [intOf]; omega
          · have HON := Lib.hid (decide_eq_false hone)
            have HTK2 := Lib.hid (show push L1 ⟨rf, rt, rp, rk, rfl', rpg⟩ = L1 ++ [(⟨rf, rt, rp, rk, rfl', rpg⟩ : Rg)] from by
              obtain ⟨e1, e2, e3⟩ := HA.out
              rw [e1, push_two hlt2 hone])
            clear hone
            go_upto_region 10 with (go_at_call 42; refine (HAP.out _).mono ?_; rintro e x ⟨rfl, hb⟩; rw [HON.out])
            have hx := HHD.out x hb
            obtain ⟨hIx, hbx⟩ := HD.out x hx
            obtain ⟨u0, u1, u2, u3, u4, u5⟩ := hbx.six
            simp only at u0 u1 u2 u3 u4 u5
            have HOWN := Lib.hid (show x.ownsRow w.heap.size 29 6 (.slice (some ad2) q c1) q (rgCells L1) from by have := hIx.row; rw [HQ.out] at this; exact this)
            have HLO := Lib.hid (hIx.b.size)
            have HIX := Lib.hid hIx
            clear d0 d1 d2 d3 d4 d5 t0 t1 t2 t3 t4 t5 hb hx hIx hbx i1 i2
            go_wp2_with (at_builtin; refine wpList_append_own_at _ rfl _ _ 25 rfl w.heap.size 29 i0 _ 6 48 Try.underlying25 hi hz0 hz1 hz2 rfl (by decide) (.slice (some ad2) q c1) q (rgCells L1) rfl (HOWN.out.alloc _) ⟨x.heap.size, 0, none⟩ 1 1 [.int .i64 rf, .int .i64 rt, .int .i64 rp, .int .i64 rk, .int .i64 rfl', .int .i64 rpg] rfl rfl (World.news_of_block (cs := #[.int .i64 rf, .int .i64 rt, .int .i64 rp, .int .i64 rk, .int .i64 rfl', .int .i64 rpg]) (t := 29) (fr := (0, 0)) (heap_alloc_new x (.cells #[.int .i64 rf, .int .i64 rt, .int .i64 rp, .int .i64 rk, .int .i64 rfl', .int .i64 rpg] 29))) (by simp [Value.oneCell']) (by unfold maxLen; omega) (by omega) (by have := HLO.out; simp; omega) ?_; intro v' w4 hown4 hgrow4 _ hat4
                         obtain ⟨A2, c2, hv', hp1⟩ := HIX.out.push (x := ⟨rf, rt, rp, rk, rfl', rpg⟩) (o := .cells #[.int .i64 rf, .int .i64 rt, .int .i64 rp, .int .i64 rk, .int .i64 rfl', .int .i64 rpg] 29) (v' := v') HMAY.out.wf (by rw [HQ.out]; exact hown4) (by rw [HQ.out]; exact hgrow4)
                         have hv2 : v' = .slice A2 (q + 1) c2 := by rw [hv', List.length_append, HQ.out]; rfl
                         clear hv'
                         subst hv2
                         have HPF := Lib.hid hp1
                         clear hp1 hown4 hgrow4 hat4)
            go_roundw
            case rel => exact ⟨k + 1, A2, q + 1, c2, by omega, by go_num, rfl, Lib.hid ⟨L1 ++ [⟨rf, rt, rp, rk, rfl', rpg⟩], by rw [List.length_append, HQ.out]; rfl, HPF.out, by rw [← HTK2.out]; exact HNX.out.1, by rw [← HTK2.out]; exact HNX.out.2⟩⟩
            case measure => simp [intOf]; omega
    · obtain rfl : k = 4096 := by omega
      have HJ := HI
      go_wp2
      go_ret
      obtain ⟨L1, hq, hI, hrow, hend⟩ := HJ.out
      have hcp := own_capU hI.row
      subst hq
      exact ⟨A1, _, c1, L1, rfl, ⟨hI.rg, rfl, hcp.1, hcp.2, fun ad e => by
        subst e
        obtain ⟨g, rfl⟩ := own_whereU hI.row
        exact (own_loU hI.row (g := g) rfl).2⟩, ⟨hrow, fun ad e => by
        subst e
        obtain ⟨g, rfl⟩ := own_whereU hI.row
        exact (own_loU hI.row (g := g) rfl).1⟩, hI.b⟩
end Go.Proofs.Ytmknkdfdkanijaa
