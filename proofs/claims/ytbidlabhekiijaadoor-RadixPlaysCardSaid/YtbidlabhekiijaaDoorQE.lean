/- The reference of layer 7: May, Pack, Unpack; an entry that comes in. -/
import Derived.Test.YtbidlabhekiijaaDoorQB
import Derived.Test.YtbidlabhekiijaaDoorOpen
namespace Go.Proofs.YtbidlabhekiijaaDoor
open Go.RowKit Go.ChangeShapes Go.WideShapes Go.Deep
set_option linter.unusedVariables false
set_option linter.unusedSimpArgs false

def zslotV : Value := .agg #[.bool false, .bool false, .bool false, .bool false, .int .i64 0]
/-- A struct of fields of one cell each. -/
theorem open_fields {H : Type} {enc : TypeId × Value → H} {P : Program} {w : World} {base : Nat} {spare : Nat → Bool} {held : Bool} {r : Reach} {b0 : Nat} {t : TypeId} {v : Value} {d : DataW H} {ps : List MemPlace} {fs : Array Field}
    (ht : P.underlying t = some (.struct fs)) (hone : oneCellFields P fs = true) (hC : P.cellsOf t = fs.size) (hv : Value.okWide P w r b0 t v) (h : DataW.Trod enc P w base spare held t v d ps) :
    ∃ cs : List Value, v = .agg cs.toArray ∧ cs.length = fs.size ∧ ∀ (j : Nat) (f : Field), fs[j]? = some f → ∃ (u : Value) (y : DataW H × List MemPlace) (fuel : Nat), cs[j]? = some u ∧ DataW.trod enc P w base spare held fuel f.type [u] = some y := by
  obtain ⟨cs, rfl, hsz⟩ := okWide_struct ht hv
  rw [hC] at hsz
  obtain ⟨fuel, hy⟩ := h
  obtain ⟨xs, m, _, _, hlen, hxl, hel⟩ := DataW.trod_struct ht hy
  refine ⟨cs.toList, rfl, by simpa using hsz, fun j f hj => ?_⟩
  obtain ⟨ho, hk⟩ := hone_of hone j f hj
  have hjl : j < fs.size := (Array.getElem?_eq_some_iff.1 hj).1
  have h1 := hel j f hj
  have hl : cs.toList.length = fs.size := by simpa using hsz
  simp only [Value.cells] at h1
  rw [ho, hk, List.drop_eq_getElem_cons (by omega), List.getElem?_eq_getElem (by omega)] at h1
  exact ⟨_, _, m, List.getElem?_eq_getElem (by omega), h1⟩
theorem list5 {l : List Value} {u0 u1 u2 u3 u4 : Value} (h : l.length = 5) (h0 : l[0]? = some u0) (h1 : l[1]? = some u1) (h2 : l[2]? = some u2) (h3 : l[3]? = some u3) (h4 : l[4]? = some u4) : l = [u0, u1, u2, u3, u4] := by
  match l, h with
  | [c0, c1, c2, c3, c4], _ =>
    simp only [List.getElem?_cons_zero, List.getElem?_cons_succ, Option.some.injEq] at h0 h1 h2 h3 h4
    rw [h0, h1, h2, h3, h4]
set_option maxRecDepth 100000 in
/-- An entry that comes in. -/
theorem open_slot {H : Type} {enc : TypeId × Value → H} {w : World} {base : Nat} {spare : Nat → Bool} {held : Bool} {r : Reach} {b0 : Nat} {v : Value} {d : DataW H} {ps : List MemPlace}
    (hv : Value.okWide Tryd.prog w r b0 23 v) (h : DataW.Trod enc Tryd.prog w base spare held 23 v d ps) : ∃ s : Sl, v = s.v ∧ (Lit.int .i64 s.n).wf = true := by
  obtain ⟨cs, rfl, hsz, hel⟩ := open_fields Tryd.underlying23 (by kernel_rfl) (by kernel_rfl) hv h
  obtain ⟨u0, _, _, c0, t0⟩ := hel 0 _ rfl
  obtain ⟨u1, _, _, c1, t1⟩ := hel 1 _ rfl
  obtain ⟨u2, _, _, c2, t2⟩ := hel 2 _ rfl
  obtain ⟨u3, _, _, c3, t3⟩ := hel 3 _ rfl
  obtain ⟨u4, _, _, c4, t4⟩ := hel 4 _ rfl
  obtain ⟨b0, h0, _⟩ := DataW.trod_bool Tryd.underlying4 t0
  obtain ⟨b1, h1, _⟩ := DataW.trod_bool Tryd.underlying4 t1
  obtain ⟨b2, h2, _⟩ := DataW.trod_bool Tryd.underlying4 t2
  obtain ⟨b3, h3, _⟩ := DataW.trod_bool Tryd.underlying4 t3
  obtain ⟨n, h4, _, hw⟩ := DataW.trod_int Tryd.underlying3 t4
  cases h0
  cases h1
  cases h2
  cases h3
  cases h4
  rw [list5 hsz c0 c1 c2 c3 c4]
  exact ⟨⟨b0, b1, b2, b3, n⟩, rfl, hw⟩

theorem rawS_n {x : Int} (h0 : 0 ≤ x) (h1 : x < 18446744073709551616) : (rawS x).n = x / 16 := IntWalk.i64_in _ (by omega)
theorem pack_raw {x : Int} (h0 : 0 ≤ x) (h1 : x < 18446744073709551616) (hm : (rawS x).may = true) : (rawS x).pack = x := by
  rw [Sl.pack_may hm, rawS_n h0 h1]
  unfold rawS b2i
  simp only [beq_iff_eq]
  (repeat' split) <;> omega
theorem unpS_raw {x : Int} (h0 : 0 ≤ x) (h1 : x < 18446744073709551616) : unpS x = if (rawS x).may = true then rawS x else Sl.zero := by
  by_cases hm : (rawS x).may = true
  · rw [if_pos hm]
    unfold unpS
    rw [if_pos (pack_raw h0 h1 hm)]
  · rw [if_neg hm]
    unfold unpS
    split
    · rename_i h
      rw [Sl.pack_no (by simpa using hm)] at h
      rw [← h, rawS_zero]
    · rfl

set_option maxHeartbeats 1600000 in
theorem refMay_any (s : Sl) (w : World) : Calls Tryd.prog 11 #[s.v] w fun e w' => e = .returned (.bool s.may) ∧ Below w.heap.size w w' := by
  obtain ⟨a, b, c, d, n⟩ := s
  have hB : Below w.heap.size w (w.alloc (.cells #[.bool a, .bool b, .bool c, .bool d, .int .i64 n] 23)) := (Below.refl _ _).alloc (Nat.le_refl _) _
  have HB := Lib.hid hB
  clear hB
  unfold Sl.v Sl.may
  by_cases h1 : a = d
  · subst h1
    cases a <;>
    · go_enter Tryd.func11, Tryd.ntmps11
      go_wp2
      go_ret
      exact ⟨rfl, HB.out⟩
  · obtain rfl : d = !a := by cases a <;> cases d <;> simp_all
    clear h1
    obtain ⟨p, hp⟩ : ∃ p, decide (0 ≤ n) = p := ⟨_, rfl⟩
    obtain ⟨q, hq⟩ : ∃ q, decide (n ≤ 1048576) = q := ⟨_, rfl⟩
    rw [hp, hq]
    cases p <;> cases q <;>
    cases a <;> cases b <;> cases c <;>
    · go_enter Tryd.func11, Tryd.ntmps11
      go_wp2
      go_ret
      exact ⟨rfl, HB.out⟩
set_option maxHeartbeats 1600000 in
theorem refPack_any (s : Sl) (w : World) : Calls Tryd.prog 13 #[s.v] w fun e w' => e = .returned (.int .u64 s.pack) ∧ Below w.heap.size w w' := by
  have HM := Lib.hid (refMay_any s)
  have hB := (Below.refl w.heap.size w).alloc (Nat.le_refl _) (.cells s.cs 23)
  have hk := Blk.new w 23 s.cs
  obtain ⟨W, hW⟩ : ∃ W, w.alloc (.cells s.cs 23) = W := ⟨_, rfl⟩
  rw [hW] at hB hk
  have HK := Lib.hid (And.intro hk hB)
  obtain ⟨x0, x1, x2, x3, x4⟩ := hk.sl
  clear hk hB
  by_cases hm : s.may = true
  · have hp := Sl.pack_may hm
    obtain ⟨h1, h2, h3, h4⟩ := Sl.may_iff.1 hm
    rw [hm] at HM
    rw [hp]
    obtain ⟨a, b, c, d, n⟩ := s
    simp only at *
    unfold Sl.v Sl.cs b2i at *
    simp only at *
    have e1 : IntKind.u64.wrap n = n := by rw [IntKind.wrap_u64]; omega
    obtain ⟨m, hmd⟩ : ∃ m, n * 16 = m := ⟨_, rfl⟩
    have e2 : IntKind.u64.wrap m = m := by rw [IntKind.wrap_u64]; omega
    have f1 : IntKind.u64.wrap (m + 1) = m + 1 := by rw [IntKind.wrap_u64]; omega
    have f2 : IntKind.u64.wrap (m + 1 + 2) = m + 3 := by rw [IntKind.wrap_u64]; omega
    have f3 : IntKind.u64.wrap (m + 1 + 4) = m + 5 := by rw [IntKind.wrap_u64]; omega
    have f4 : IntKind.u64.wrap (m + 8) = m + 8 := by rw [IntKind.wrap_u64]; omega
    have f5 : IntKind.u64.wrap (m + 2) = m + 2 := by rw [IntKind.wrap_u64]; omega
    have f6 : IntKind.u64.wrap (m + 4) = m + 4 := by rw [IntKind.wrap_u64]; omega
    have f7 : IntKind.u64.wrap (m + 2 + 8) = m + 10 := by rw [IntKind.wrap_u64]; omega
    have f8 : IntKind.u64.wrap (m + 4 + 8) = m + 12 := by rw [IntKind.wrap_u64]; omega
    rw [hmd]
    have HN := Lib.hid (And.intro h3 h4)
    clear hp h3 h4 hm
    cases a <;> cases d <;> (try exact absurd rfl h1) <;> cases b <;> cases c <;> (try exact absurd ⟨rfl, rfl⟩ h2) <;>
    · clear h1 h2
      go_enter Tryd.func13, Tryd.ntmps13
      go_wp2_with (go_at_call 11; refine (HM.out _).mono ?_; rintro e v1 ⟨rfl, hb⟩
                   have hk2 := HK.out.1.below hb HK.out.1.lt
                   clear x0 x1 x2 x3 x4
                   have x0 := hk2.at_ 0 _ rfl
                   have x1 := hk2.at_ 1 _ rfl
                   have x2 := hk2.at_ 2 _ rfl
                   have x3 := hk2.at_ 3 _ rfl
                   have x4 := hk2.at_ 4 _ rfl
                   have HB := Lib.hid (HK.out.2.trans (hb.mono HK.out.2.size))
                   clear hb hk2)
      go_ret
      exact ⟨by simp; try omega, HB.out⟩
  · have hm0 : s.may = false := by simpa using hm
    rw [Sl.pack_no hm0]
    rw [hm0] at HM
    clear hm hm0
    obtain ⟨a, b, c, d, n⟩ := s
    unfold Sl.v Sl.cs at *
    simp only at *
    go_enter Tryd.func13, Tryd.ntmps13
    go_wp2_with (go_at_call 11; refine (HM.out _).mono ?_; rintro e v1 ⟨rfl, hb⟩; have HB := Lib.hid (HK.out.2.trans (hb.mono HK.out.2.size)); clear hb)
    go_ret
    exact ⟨rfl, HB.out⟩
set_option maxHeartbeats 1600000 in
theorem refUnpack_any (x : Int) (w : World) (hx : 0 ≤ x ∧ x < 18446744073709551616) : Calls Tryd.prog 15 #[.int .u64 x] w fun e w' => e = .returned (unpS x).v ∧ Below w.heap.size w w' := by
  rw [unpS_raw hx.1 hx.2]
  have HM := Lib.hid (refMay_any (rawS x))
  have hn := rawS_n hx.1 hx.2
  have hbig : 1048576 < x / 16 → (rawS x).may = false := fun h => by
    unfold Sl.may
    rw [hn]
    simp
    omega
  have hsl : rawS x = ⟨x % 2 == 1, x / 2 % 2 == 1, x / 4 % 2 == 1, x / 8 % 2 == 1, x / 16⟩ := by rw [← hn]; rfl
  have HX := Lib.hid (And.intro hx hbig)
  rw [hsl] at HM ⊢
  rw [hsl] at HX
  clear hx hbig hsl hn
  obtain ⟨a, ha⟩ : ∃ a, (x % 2 == 1) = a := ⟨_, rfl⟩
  obtain ⟨b, hb⟩ : ∃ b, (x / 2 % 2 == 1) = b := ⟨_, rfl⟩
  obtain ⟨c, hc⟩ : ∃ c, (x / 4 % 2 == 1) = c := ⟨_, rfl⟩
  obtain ⟨d, hd⟩ : ∃ d, (x / 8 % 2 == 1) = d := ⟨_, rfl⟩
  rw [ha, hb, hc, hd] at HM HX ⊢
  by_cases hg : 1048576 < x / 16
  · have e := HX.out.2 hg
    rw [e, if_neg (by decide)]
    clear HM HX e
    go_enter Tryd.func15, Tryd.ntmps15
    go_wp2
    exact bodyPost_ret (results_cell_row rfl _ _ w.heap.size 23 Sl.zero.cs (0, 0) _ rfl (heap_alloc_new w _) Tryd.underlying23 rfl (by kernel_rfl)) rfl ⟨rfl, (Below.refl _ _).alloc (Nat.le_refl _) _⟩
  · have hle : x / 16 ≤ 1048576 := by omega
    have hi : IntKind.i64.wrap (x / 16) = x / 16 := IntWalk.i64_in _ (by have := HX.out.1; omega)
    have HB := Lib.hid (show Below w.heap.size w ((w.alloc (.cells Sl.zero.cs 23)).alloc (.cells #[.bool a, .bool b, .bool c, .bool d, .int .i64 (x / 16)] 23)) from ((Below.refl _ w).alloc (Nat.le_refl _) _).alloc (by simp) _)
    have HK := Lib.hid (show Blk ((w.alloc (.cells Sl.zero.cs 23)).alloc (.cells #[.bool a, .bool b, .bool c, .bool d, .int .i64 (x / 16)] 23)) w.heap.size 23 Sl.zero.cs from (Blk.new w _ _).alloc _)
    have HK1 := Lib.hid (Blk.new (w.alloc (.cells Sl.zero.cs 23)) 23 #[.bool a, .bool b, .bool c, .bool d, .int .i64 (x / 16)])
    obtain ⟨y, hy⟩ : ∃ y, (Sl.mk a b c d (x / 16)).may = y := ⟨_, rfl⟩
    rw [hy] at HM ⊢
    clear hg hy
    obtain ⟨N, hN⟩ : ∃ N, x / 16 = N := ⟨_, rfl⟩
    rw [hN] at HM HB HK HK1 hle hi ⊢
    have hx := HX.out.1
    have td : ∀ k : Int, 0 < k → IntKind.u64.wrap (x.tdiv k) = x / k := fun k hk => by
      rw [Int.tdiv_eq_ediv_of_nonneg hx.1, IntKind.wrap_u64]
      have h1 := Int.ediv_nonneg hx.1 (show 0 ≤ k by omega)
      have h2 := Int.ediv_le_self k hx.1
      omega
    have tm : ∀ y : Int, 0 ≤ y → y.tmod 2 = y % 2 := fun y hy => Int.tmod_eq_emod_of_nonneg hy
    have t0 : (x.tmod 2 == 1) = a := by rw [tm x hx.1]; exact ha
    obtain ⟨x2, h2⟩ : ∃ x2, x / 2 = x2 := ⟨_, rfl⟩
    obtain ⟨x4, h4⟩ : ∃ x4, x / 4 = x4 := ⟨_, rfl⟩
    obtain ⟨x8, h8⟩ : ∃ x8, x / 8 = x8 := ⟨_, rfl⟩
    have t2 : IntKind.u64.wrap (x.tdiv 2) = x2 := by rw [td 2 (by omega), h2]
    have t4 : IntKind.u64.wrap (x.tdiv 4) = x4 := by rw [td 4 (by omega), h4]
    have t8 : IntKind.u64.wrap (x.tdiv 8) = x8 := by rw [td 8 (by omega), h8]
    have t16 : IntKind.u64.wrap (x.tdiv 16) = N := by rw [td 16 (by omega), hN]
    have t3 : (x2.tmod 2 == 1) = b := by rw [tm x2 (by omega), ← h2]; exact hb
    have t5 : (x4.tmod 2 == 1) = c := by rw [tm x4 (by omega), ← h4]; exact hc
    have t9 : (x8.tmod 2 == 1) = d := by rw [tm x8 (by omega), ← h8]; exact hd
    have t17 : wrap64 N = N := IntWalk.wrap64_in _ (by omega)
    have hng : ¬ (1048576 < N) := by omega
    clear td tm ha hb hc hd h2 h4 h8 hi hx
    clear HX
    unfold Sl.v Sl.cs Sl.zero at *
    simp only [World.size_alloc] at *
    obtain ⟨W0, hW0⟩ : ∃ W0, (w.alloc (.cells #[.bool false, .bool false, .bool false, .bool false, .int .i64 0] 23)).alloc (.cells #[.bool a, .bool b, .bool c, .bool d, .int .i64 (N)] 23) = W0 := ⟨_, rfl⟩
    rw [hW0] at HB HK HK1
    have y0 := HK1.out.at_ 0 _ rfl
    have y1 := HK1.out.at_ 1 _ rfl
    have y2 := HK1.out.at_ 2 _ rfl
    have y3 := HK1.out.at_ 3 _ rfl
    have y4 := HK1.out.at_ 4 _ rfl
    cases y
    · rw [if_neg (by decide)]
      go_enter Tryd.func15, Tryd.ntmps15
      go_wp2_with (go_at_call 11; refine Hid.out ?_)
      refine Lib.hid ?_
      refine (HM.out _).mono ?_
      rintro e v1 ⟨rfl, hb1⟩
      have hk := HK.out.below hb1 HK.out.lt
      have f0 := hk.frozen 0
      have f1 := hk.frozen 1
      have f2 := hk.frozen 2
      have f3 := hk.frozen 3
      have f4 := hk.frozen 4
      have x0 := hk.at_ 0 _ rfl
      have x1 := hk.at_ 1 _ rfl
      have x2 := hk.at_ 2 _ rfl
      have x3 := hk.at_ 3 _ rfl
      have x4 := hk.at_ 4 _ rfl
      have HF := Lib.hid (And.intro (sl_set (show Blk v1 w.heap.size 23 Sl.zero.cs from hk) Sl.zero) (sl_set_below (HB.out.trans (hb1.mono HB.out.size)) (Nat.le_refl _) Sl.zero))
      clear hb1 hk
      go_wp2
      have hRf := HF.out.1
      have hBf := HF.out.2
      simp only [Sl.cs, Sl.zero] at hRf hBf
      generalize World.setCell _ _ _ = W5 at *
      exact bodyPost_ret (results_cell_row rfl _ _ w.heap.size 23 _ (0, 0) _ rfl hRf Tryd.underlying23 rfl (by kernel_rfl)) rfl ⟨rfl, hBf⟩
    · rw [if_pos rfl]
      go_enter Tryd.func15, Tryd.ntmps15
      go_wp2_with (go_at_call 11; refine Hid.out ?_)
      refine Lib.hid ?_
      refine (HM.out _).mono ?_
      rintro e v1 ⟨rfl, hb1⟩
      have hk := HK.out.below hb1 HK.out.lt
      have hk1 := HK1.out.below hb1 HK1.out.lt
      have f0 := hk.frozen 0
      have f1 := hk.frozen 1
      have f2 := hk.frozen 2
      have f3 := hk.frozen 3
      have f4 := hk.frozen 4
      have x0 := hk.at_ 0 _ rfl
      have x1 := hk.at_ 1 _ rfl
      have x2 := hk.at_ 2 _ rfl
      have x3 := hk.at_ 3 _ rfl
      have x4 := hk.at_ 4 _ rfl
      clear y0 y1 y2 y3 y4
      have y0 := hk1.at_ 0 _ rfl
      have y1 := hk1.at_ 1 _ rfl
      have y2 := hk1.at_ 2 _ rfl
      have y3 := hk1.at_ 3 _ rfl
      have y4 := hk1.at_ 4 _ rfl
      have HF := Lib.hid (And.intro (sl_set (show Blk v1 w.heap.size 23 Sl.zero.cs from hk) ⟨a, b, c, d, N⟩) (sl_set_below (HB.out.trans (hb1.mono HB.out.size)) (Nat.le_refl _) ⟨a, b, c, d, N⟩))
      clear hb1 hk hk1
      go_wp2
      have hRf := HF.out.1
      have hBf := HF.out.2
      simp only [Sl.cs, Sl.zero] at hRf hBf
      generalize World.setCell _ _ _ = W5 at *
      exact bodyPost_ret (results_cell_row rfl _ _ w.heap.size 23 _ (0, 0) _ rfl hRf Tryd.underlying23 rfl (by kernel_rfl)) rfl ⟨rfl, hBf⟩
end Go.Proofs.YtbidlabhekiijaaDoor
