/- ElfBroken: for any segments by numbers, 4 at most: a program that may be, of which one thing is otherwise than it must be, may not. -/
import Derived.Test.YtakmmphjdkapeaaDoorFg
import Derived.Deep.CutRange
import Derived.Deep.CutBlock
namespace Go.Proofs.YtakmmphjdkapeaaDoor.lawBr
open Go.ChangeShapes Go.WideShapes Go.ChangeAt Go.RowKit
set_option linter.unusedVariables false
set_option linter.unusedSimpArgs false

theorem fill_at {L : List UInt8} {m j : Nat} (hj : j < L.length) (hm : L.length ≤ m) : (fillS (mkb L) m).data.toList.getD j 0 = L.getD j 0 := by
  unfold fillS
  rw [if_neg (by omega), mkb_data, mkb_data, Int.toNat_natCast]
  unfold fillL
  simp only [List.getD_eq_getElem?_getD]
  rw [List.getElem?_append_left (by rw [List.length_take]; omega), List.getElem?_take_of_lt (by omega)]
theorem fill_size (s : ByteArray) (m : Nat) : (fillS s m).size = m := by
  unfold fillS
  rw [if_neg (by omega), mkb_size, fillL_length, Int.toNat_natCast]
/-- The image's block, the segment's, the image's row. -/
structure St (w : World) (B0 G T g n cap : Nat) (xc tc : Array Value) (xs : List Value) (v : World) : Prop where
  x : Blk v G 24 xc
  t : Blk v T 47 tc
  o : v.ownsRow B0 47 7 (.slice (some ⟨g, 0, none⟩) n cap) n xs
  b : Below w.heap.size w v
  d : w.heap.size ≤ B0 ∧ B0 ≤ g ∧ w.heap.size ≤ G ∧ w.heap.size ≤ T ∧ g ≠ G ∧ g ≠ T ∧ G ≠ T
section
variable {w v : World} {B0 G T g n cap : Nat} {xc tc : Array Value} {xs : List Value}
theorem St.setx (h : St w B0 G T g n cap xc tc xs v) (j : Nat) (u : Value) : St w B0 G T g n cap (xc.setIfInBounds j u) tc xs (v.setCell ⟨G, j, none⟩ u) := by
  have hb := (But.refl (· = G) v).setCell (p := ⟨G, j, none⟩) (.inl rfl) u
  have hd := h.d
  exact ⟨h.x.set_ j u, h.t.but hb (by omega), own_butE h.o hb (fun k hk => by simp [Value.ownBlock] at hk; omega), h.b.setCell (p := ⟨G, j, none⟩) (by simp only; omega) u, h.d⟩
theorem St.sett (h : St w B0 G T g n cap xc tc xs v) (j : Nat) (u : Value) : St w B0 G T g n cap xc (tc.setIfInBounds j u) xs (v.setCell ⟨T, j, none⟩ u) := by
  have hb := (But.refl (· = T) v).setCell (p := ⟨T, j, none⟩) (.inl rfl) u
  have hd := h.d
  exact ⟨h.x.but hb (by omega), h.t.set_ j u, own_butE h.o hb (fun k hk => by simp [Value.ownBlock] at hk; omega), h.b.setCell (p := ⟨T, j, none⟩) (by simp only; omega) u, h.d⟩
theorem St.setg (h : St w B0 G T g n cap xc tc xs v) (j : Nat) (u : Value) : St w B0 G T g n cap xc tc (xs.set j u) (v.setCell ⟨g, j, none⟩ u) := by
  have hb := (But.refl (· = g) v).setCell (p := ⟨g, j, none⟩) (.inl rfl) u
  have hd := h.d
  exact ⟨h.x.but hb (by omega), h.t.but hb (by omega), own_set h.o j u, h.b.setCell (p := ⟨g, j, none⟩) (by simp only; omega) u, h.d⟩
/-- Cut to one. -/
theorem St.one (h : St w B0 G T g n cap xc tc xs v) (s : Seg) (l : List Seg) (hx : xs = segCells (s :: l)) : St w B0 G T g 1 cap xc tc (segCells [s]) v := by
  refine ⟨h.x, h.t, ⟨by simp [segCells, Seg.cs], ?_⟩, h.b, h.d⟩
  subst hx
  have hl := h.o.1
  rw [segCells_length, List.length_cons] at hl
  rcases h.o.2 with ⟨h0, _⟩ | ⟨g2, cap2, cur, hv, hbg, hg, h1, h2, h3, ht⟩
  · cases h0
  · injection hv with e1 e2 e3
    injection e1 with e1
    injection e1 with e1 _ _
    subst e1 e3
    refine .inr ⟨g, cap, cur, rfl, hbg, hg, by omega, h2, h3, ?_⟩
    have : cur.toList.take (1 * 7) = (cur.toList.take (n * 7)).take (1 * 7) := by rw [List.take_take]; congr 1; omega
    rw [this, ht]
    simp [segCells, Seg.cs]
end
theorem segCells_all (s t : Seg) (l : List Seg) : (((((((segCells (s :: l)).set 0 (.int .i64 t.ty)).set 1 (.int .i64 t.fl)).set 2 (.int .i64 t.off)).set 3 (.int .i64 t.ad)).set 4 (.int .i64 t.sz)).set 5 (.int .i64 t.mem)).set 6 (.int .i64 t.al) = segCells (t :: l) := by simp [segCells, Seg.cs]
/-- What is ahead of the store into the row. -/
def Ex (w : World) (B0 G T K : Nat) (size : Int) (v : World) : Prop := ∃ (kd en : Int) (s' s1 : Seg) (l : List Seg) (g n cap : Nat), St w B0 G T g n cap #[.int .i64 kd, .int .i64 en, .slice (some ⟨g, 0, none⟩) n cap] s'.cs (segCells (s1 :: l)) v ∧ Brk K size ⟨kd, en, s' :: l⟩ ∧ n = l.length + 1

set_option maxRecDepth 100000 in
set_option maxHeartbeats 12800000 in
theorem walk (p : SpecIn) (what : Int) (w : World) (hp : p.In w) (wa : (Lit.int .i64 what).wf = true) (hT : ETab w) :
    Calls Tryd.prog 8 #[p.v, .int .i64 what] w fun e w' => e = .returned (.bool true) ∧ Below w.heap.size w w' := by
  have HA := Lib.hid (fun v (hv : Below w.heap.size w v) => awake8_any v (hT.on hv))
  have HI := Lib.hid (fun v (hv : Below w.heap.size w v) => image_any p v (hp.below hv))
  have hlen := img_len p
  have hsz := size_in p
  have hahd := fun (s : Seg) (l : List Seg) (h : p.img.segs = s :: l) => ahd_of h
  have hpv : p.v = .agg #[.int .i64 p.kind, .int .i64 p.entry, .slice p.A p.qs.length p.c] := rfl
  have HTT := Lib.hid (fun v (hv : Below w.heap.size w v) => hT.on hv)
  rw [hpv] at HI ⊢
  generalize p.img = x at *
  obtain ⟨size, hsd⟩ : ∃ s : Nat, p.size = s := ⟨p.size.toNat, by omega⟩
  rw [hsd] at HI hsz hahd
  clear hpv hp hsd hT
  obtain ⟨pk, pe, pq, pA, pc⟩ := p
  simp only at *
  generalize pq.length = pn at *
  obtain ⟨W, hW⟩ : ∃ W, w.alloc (.cells #[.int .i64 pk, .int .i64 pe, .slice pA pn pc] 41) = W := ⟨_, rfl⟩
  have hB0 : Below w.heap.size w W := by rw [← hW]; exact (Below.refl _ _).alloc (Nat.le_refl _) _
  have hK0 : Blk W w.heap.size 41 #[.int .i64 pk, .int .i64 pe, .slice pA pn pc] := by rw [← hW]; exact Blk.new w _ _
  have HW := Lib.hid hW
  clear hW
  go_enter Tryd.func8, Tryd.ntmps8
  go_upto_region 1 with fail
  rw [HW.out]
  go_upto_region 2 with (go_at_call 10; refine (HA.out _ hB0).mono ?_; rintro e v1 ⟨rfl, hb⟩; have hB1 := hB0.trans (hb.mono hB0.size); have hK1 := hK0.below hb hK0.lt; clear hb hK0)
  have s0 : v1.cell? ⟨w.heap.size, 0, none⟩ = some (.int .i64 pk) := hK1.at_ 0 _ rfl
  have s1 : v1.cell? ⟨w.heap.size, 1, none⟩ = some (.int .i64 pe) := hK1.at_ 1 _ rfl
  have s2 : v1.cell? ⟨w.heap.size, 2, none⟩ = some (.slice pA pn pc) := hK1.at_ 2 _ rfl
  obtain ⟨kind, entry, segs⟩ := x
  simp only at *
  go_upto_region 3 with (go_at_call 21; refine (HI.out _ hB1).mono ?_; rintro e v2 ⟨A, c, rfl, hown, hb⟩; unfold Img.v; simp only; have hB2 := hB1.trans (hb.mono hB1.size); clear hb)
  simp only at hown
  obtain ⟨B0, hBq⟩ : ∃ B0, v1.heap.size + 3 = B0 := ⟨_, rfl⟩
  have hwB : w.heap.size ≤ B0 := by have := hB1.size; omega
  rw [hBq] at hown
  obtain ⟨G, hG⟩ : ∃ G, v2.heap.size = G := ⟨_, rfl⟩
  obtain ⟨W2, hW2⟩ : ∃ W2, v2.alloc (.cells #[.int .i64 kind, .int .i64 entry, .slice A segs.length c] 24) = W2 := ⟨_, rfl⟩
  have hB3 : Below w.heap.size w W2 := by rw [← hW2]; exact hB2.alloc hB2.size _
  have hK2 : Blk W2 G 24 #[.int .i64 kind, .int .i64 entry, .slice A segs.length c] := by rw [← hW2, ← hG]; exact Blk.new _ _ _
  have hO2 : W2.ownsRow B0 47 7 (.slice A segs.length c) segs.length (segCells segs) := by rw [← hW2]; exact hown.alloc _
  have hGs : W2.heap.size = G + 1 := by rw [← hW2, ← hG]; simp
  have hog : ∀ j, (Value.slice A segs.length c).ownBlock = some j → j < G := fun j e => by rw [← hG]; exact (hown.lt j e).2
  have hwG : w.heap.size ≤ G := by rw [← hG]; exact hB2.size
  rw [hW2]
  rw [hG]
  have x2 : W2.cell? ⟨G, 2, none⟩ = some (.slice A segs.length c) := hK2.at_ 2 _ rfl
  clear hB2 hB1 hB0 hK1 hown hW2 hG s0 s1 s2 hBq HI HA
  cases segs with
  | nil =>
    simp only [List.length_nil] at *
    clear hK2 hO2 hog
    go_wp2
    go_ret
    exact ⟨rfl, hB3⟩
  | cons s l =>
    have hA := hahd s l rfl
    obtain ⟨g, cap, hvv, hBg, hgl, -, hkc, hcm, hcl, hfz⟩ := own_there hO2
    injection hvv with e1 e2 e3
    subst e1 e3
    have hgG : g < G := hog g rfl
    have hnl : (s :: l).length = l.length + 1 := rfl
    obtain ⟨n, hn⟩ : ∃ n, (s :: l).length = n := ⟨_, rfl⟩
    rw [hn] at hK2 hO2 hkc x2 hnl ⊢
    have hl3 := hA.len
    have hn0 : ((n : Int) == 0) = false := by simp; omega
    have hn1 : ¬ ((n : Int) = 0) := by omega
    have hn2 : (0 : Int) < (n : Int) := by omega
    obtain ⟨T, hTq⟩ : ∃ T, W2.heap.size = T := ⟨_, rfl⟩
    obtain ⟨V0, hV0⟩ : ∃ V0, W2.alloc (.cells s.cs 47) = V0 := ⟨_, rfl⟩
    have hS0 : St w B0 G T g n c #[.int .i64 kind, .int .i64 entry, .slice (some ⟨g, 0, none⟩) n c] s.cs (segCells (s :: l)) V0 := by
      rw [← hV0, ← hTq]
      exact ⟨hK2.alloc _, Blk.new _ _ _, hO2.alloc _, hB3.alloc hB3.size _, hwB, hBg, hwG, hB3.size, by omega, by omega, by omega⟩
    have c0 : W2.cell? ⟨g, 0, none⟩ = some (.int .i64 s.ty) := hcl 0 (by omega)
    have c1 : W2.cell? ⟨g, 1, none⟩ = some (.int .i64 s.fl) := hcl 1 (by omega)
    have c2 : W2.cell? ⟨g, 2, none⟩ = some (.int .i64 s.off) := hcl 2 (by omega)
    have c3 : W2.cell? ⟨g, 3, none⟩ = some (.int .i64 s.ad) := hcl 3 (by omega)
    have c4 : W2.cell? ⟨g, 4, none⟩ = some (.int .i64 s.sz) := hcl 4 (by omega)
    have c5 : W2.cell? ⟨g, 5, none⟩ = some (.int .i64 s.mem) := hcl 5 (by omega)
    have c6 : W2.cell? ⟨g, 6, none⟩ = some (.int .i64 s.al) := hcl 6 (by omega)
    obtain ⟨r, k, h1, h2, h3, h4, h5, h6⟩ := rest_nat what 12 (by omega)
    have w1 : IntKind.i64.wrap (r + 12) = r + 12 := IntWalk.i64_in _ (by omega)
    have hsoff := hA.may.off
    have hsmem := hA.may.mem
    have HAH := Lib.hid hA
    have HV0 := Lib.hid (And.intro hV0 hTq)
    have HC := Lib.hid (And.intro hkc hcm)
    have hcap1 : (1 : Int) ≤ (c : Int) := by omega
    have hcap0 : ¬ c = 0 := by omega
    have HNL := Lib.hid hnl
    have hn4 : n ≤ 4 := by omega
    clear hK2 hO2 hcl hfz hA hahd hog hgl hgG hGs hn hnl hkc hcm hB3 hBg hwB hwG hTq
    obtain ⟨ty, fl, off, ad, sz, mem, al⟩ := s
    unfold Seg.cs at HV0 hS0 hV0
    simp only at *
    have hk12 : k = 0 ∨ k = 1 ∨ k = 2 ∨ k = 3 ∨ k = 4 ∨ k = 5 ∨ k = 6 ∨ k = 7 ∨ k = 8 ∨ k = 9 ∨ k = 10 ∨ k = 11 := by omega
    clear hV0
    rcases hk12 with rfl | rfl | rfl | rfl | rfl | rfl | rfl | rfl | rfl | rfl | rfl | rfl
    · -- 0
      have hAh := HAH.out
      obtain ⟨V01, hV01⟩ : ∃ V, V0.setCell ⟨G, 0, none⟩ (.int .i64 1) = V := ⟨_, rfl⟩
      have hS1 := hS0.setx 0 (.int .i64 1)
      rw [hV01] at hS1
      have y0 : V0.cell? ⟨G, 0, none⟩ = some (.int .i64 kind) := hS0.x.at_ 0 _ rfl
      have f0 : V0.frozen? ⟨G, 0, none⟩ = false := hS0.x.frozen 0
      have HEX := Lib.hid (show Ex w B0 G T 0 size V01 from ⟨1, entry, ⟨ty, fl, off, ad, sz, mem, al⟩, ⟨ty, fl, off, ad, sz, mem, al⟩, l, g, n, c, hS1, hAh.b0, HNL.out⟩)
      clear hS0 hAh hS1
      go_upto_region 6 with fail
      rw [HV0.out.1]
      try rw [HV0.out.2]
      clear c0 c1 c2 c3 c4 c5 c6 x2
      go_upto_region 33 with fail
      clear y0 f0 hV01
      obtain ⟨kd, en, ⟨ty', fl', off', ad', sz', mem', al'⟩, s1, l', g1, m, cap1, hS, hBk, hm⟩ := HEX.out
      clear HEX
      have hn1' := hBk.len
      simp only [List.length_cons] at hn1'
      obtain ⟨g2, cap2, hvv, -, -, -, hmc, hmx, hcl, hfz⟩ := own_there hS.o
      injection hvv with e1 e2 e3
      injection e1 with e1
      injection e1 with e1 _ _
      subst e1 e3
      have x0 : V01.cell? ⟨G, 0, none⟩ = some (.int .i64 kd) := hS.x.at_ 0 _ rfl
      have x1 : V01.cell? ⟨G, 1, none⟩ = some (.int .i64 en) := hS.x.at_ 1 _ rfl
      have x2 : V01.cell? ⟨G, 2, none⟩ = some (.slice (some ⟨g1, 0, none⟩) m cap1) := hS.x.at_ 2 _ rfl
      have t0 : V01.cell? ⟨T, 0, none⟩ = some (.int .i64 ty') := hS.t.at_ 0 _ rfl
      have t1 : V01.cell? ⟨T, 1, none⟩ = some (.int .i64 fl') := hS.t.at_ 1 _ rfl
      have t2 : V01.cell? ⟨T, 2, none⟩ = some (.int .i64 off') := hS.t.at_ 2 _ rfl
      have t3 : V01.cell? ⟨T, 3, none⟩ = some (.int .i64 ad') := hS.t.at_ 3 _ rfl
      have t4 : V01.cell? ⟨T, 4, none⟩ = some (.int .i64 sz') := hS.t.at_ 4 _ rfl
      have t5 : V01.cell? ⟨T, 5, none⟩ = some (.int .i64 mem') := hS.t.at_ 5 _ rfl
      have t6 : V01.cell? ⟨T, 6, none⟩ = some (.int .i64 al') := hS.t.at_ 6 _ rfl
      have c0 : V01.cell? ⟨g1, 0, none⟩ = some (.int .i64 s1.ty) := hcl 0 (by omega)
      have c1 : V01.cell? ⟨g1, 1, none⟩ = some (.int .i64 s1.fl) := hcl 1 (by omega)
      have c2 : V01.cell? ⟨g1, 2, none⟩ = some (.int .i64 s1.off) := hcl 2 (by omega)
      have c3 : V01.cell? ⟨g1, 3, none⟩ = some (.int .i64 s1.ad) := hcl 3 (by omega)
      have c4 : V01.cell? ⟨g1, 4, none⟩ = some (.int .i64 s1.sz) := hcl 4 (by omega)
      have c5 : V01.cell? ⟨g1, 5, none⟩ = some (.int .i64 s1.mem) := hcl 5 (by omega)
      have c6 : V01.cell? ⟨g1, 6, none⟩ = some (.int .i64 s1.al) := hcl 6 (by omega)
      have fz0 := hfz 0
      have fz1 := hfz 1
      have fz2 := hfz 2
      have fz3 := hfz 3
      have fz4 := hfz 4
      have fz5 := hfz 5
      have fz6 := hfz 6
      have hS3 := ((((((hS.setg 0 (.int .i64 ty')).setg 1 (.int .i64 fl')).setg 2 (.int .i64 off')).setg 3 (.int .i64 ad')).setg 4 (.int .i64 sz')).setg 5 (.int .i64 mem')).setg 6 (.int .i64 al')
      rw [segCells_all s1 ⟨ty', fl', off', ad', sz', mem', al'⟩ l'] at hS3
      obtain ⟨V3, hV3⟩ : ∃ V3, (((((((V01.setCell ⟨g1, 0, none⟩ (.int .i64 ty')).setCell ⟨g1, 1, none⟩ (.int .i64 fl')).setCell ⟨g1, 2, none⟩ (.int .i64 off')).setCell ⟨g1, 3, none⟩ (.int .i64 ad')).setCell ⟨g1, 4, none⟩ (.int .i64 sz')).setCell ⟨g1, 5, none⟩ (.int .i64 mem')).setCell ⟨g1, 6, none⟩ (.int .i64 al')) = V3 := ⟨_, rfl⟩
      rw [hV3] at hS3
      obtain ⟨A9, c9, hv9, hrow, -⟩ := SegRow.of_own hS3.o hBk.wf
      injection hv9 with e1 e2 e3
      subst e1 e3
      clear e2
      have hlm : ((⟨ty', fl', off', ad', sz', mem', al'⟩ : Seg) :: l').length = m := by rw [hm]; rfl
      have hm0 : (0 : Int) < (m : Int) := by omega
      have HTR := Lib.hid (fun v (hv : Below V3.heap.size V3 v) => show SegRow v (some ⟨g1, 0, none⟩) (⟨ty', fl', off', ad', sz', mem', al'⟩ :: l') ∧ Below w.heap.size w v ∧ v.cell? ⟨G, 0, none⟩ = some (.int .i64 kd) ∧ v.cell? ⟨G, 1, none⟩ = some (.int .i64 en) ∧ v.cell? ⟨G, 2, none⟩ = some (.slice (some ⟨g1, 0, none⟩) m cap1) from
        ⟨hrow.below hv, hS3.b.trans (hv.mono hS3.b.size), (hS3.x.below hv hS3.x.lt).at_ 0 _ rfl, (hS3.x.below hv hS3.x.lt).at_ 1 _ rfl, (hS3.x.below hv hS3.x.lt).at_ 2 _ rfl⟩)
      have hhd := fun v (hv : Below V3.heap.size V3 v) => header_any ⟨kd, en, ⟨ty', fl', off', ad', sz', mem', al'⟩ :: l'⟩ (some ⟨g1, 0, none⟩) cap1 v (HTT.out v (HTR.out v hv).2.1) hBk.kind hBk.entry (HTR.out v hv).1 (by show (_ :: l').length ≤ 1000; rw [hlm]; omega)
      have hck := fun v (hv : Below V3.heap.size V3 v) => echeck_any ⟨kd, en, ⟨ty', fl', off', ad', sz', mem', al'⟩ :: l'⟩ (some ⟨g1, 0, none⟩) cap1 size v (HTT.out v (HTR.out v hv).2.1) (HTR.out v hv).1 (by show (_ :: l').length ≤ 1000; rw [hlm]; omega) (i64_wf (by omega))
      rw [err_no hBk.no] at hck
      have hhl : (Img.headL ⟨kd, en, ⟨ty', fl', off', ad', sz', mem', al'⟩ :: l'⟩).length = 64 + 56 * m := by rw [headL_len]; show 64 + 56 * (_ :: l').length = _; rw [hlm]
      have hpar := fun F h2 h3 => brk_parse (F := F) hBk (by decide) (by omega) h2 h3
      try unfold Img.v at hck
      try unfold Img.v at hhd
      simp only [hlm] at hck hhd
      obtain ⟨hl, hhl2⟩ : ∃ h, Img.headL ⟨kd, en, ⟨ty', fl', off', ad', sz', mem', al'⟩ :: l'⟩ = h := ⟨_, rfl⟩
      rw [hhl2] at hhd hhl hpar
      have hF := fun w => rfill_any (mkb hl) size w (i64_wf (by omega)) (by rw [mkb_size]; omega) (by omega)
      have hFa := fun j (hj : j < hl.length) => fill_at (L := hl) (m := size) (j := j) hj (by omega)
      have hFs := fill_size (mkb hl) size
      obtain ⟨F, hFd⟩ : ∃ F, fillS (mkb hl) size = F := ⟨_, rfl⟩
      rw [hFd] at hF hFa hFs
      obtain ⟨H, hH⟩ : ∃ H, mkb hl = H := ⟨_, rfl⟩
      rw [hH] at hhd hF
      have hep := fun v (hv : Below V3.heap.size V3 v) => eparse_any F v (HTT.out v (HTR.out v hv).2.1) (by omega)
      have hE : parseE F = 16 := (hpar F hFs hFa).2
      obtain ⟨px, hpx⟩ : ∃ x, parseX F = x := ⟨_, rfl⟩
      obtain ⟨pe', hpe⟩ : ∃ x, parseE F = x := ⟨_, rfl⟩
      rw [hpx, hpe] at hep
      rw [hpe] at hE
      obtain ⟨pk1, pe1, pl1⟩ := px
      have HEP := Lib.hid (fun v (hv : Below V3.heap.size V3 v) => (hep v hv).mono (R' := fun e v' => ∃ D d, e = .returned (.tuple #[.agg #[.int .i64 pk1, .int .i64 pe1, .slice D pl1.length d], .int .i64 pe']) ∧ Below v.heap.size v v') (by
        rintro e v' ⟨D, d, rfl, -, -, hb⟩
        exact ⟨D, d, rfl, hb⟩))
      have HHD := Lib.hid hhd
      have HCK := Lib.hid hck
      have HF := Lib.hid hF
      have hq3 := Below.refl V3.heap.size V3
      obtain ⟨-, hbw, xx0, xx1, xx2⟩ := HTR.out _ hq3
      generalize pl1.length = pn1 at *
      clear hS hBk hcl hfz hS3 hrow hhd hck hF hFa hFs hFd hH hhl hhl2 hep hpx hpe hm hlm hmc hmx hpar
      subst hE
      go_wp2_with (first
        | (go_at_call 14; with_reducible refine (HHD.out _ hq3).mono ?_; rintro e v4 ⟨rfl, hb4⟩; have hq4 := hq3.trans (hb4.mono hq3.size); clear hb4)
        | (go_at_call 25; with_reducible refine (HF.out _).mono ?_; rintro e v5 ⟨rfl, hb5⟩; have hq5 := hq4.trans (hb5.mono hq4.size); clear hb5)
        | (go_at_call 19; with_reducible refine (HEP.out _ hq5).mono ?_; rintro e v6 ⟨D, d, rfl, hb6⟩
           have hq6 := (hq5.trans (hb6.mono hq5.size)).alloc (Nat.le_trans hq5.size hb6.size) (.cells #[.int .i64 pk1, .int .i64 pe1, .slice D pn1 d] 24)
           clear xx0 xx1 xx2 hbw hb6
           obtain ⟨-, hbw, xx0, xx1, xx2⟩ := HTR.out _ hq6)
        | (go_at_call 12; with_reducible refine (HCK.out _ hq6).mono ?_; rintro e v7 ⟨rfl, hb7⟩; have hq7 := hbw.trans (hb7.mono hbw.size); clear hb7))
      go_ret
      exact ⟨rfl, hq7⟩
    · -- 1
      have hAh := HAH.out
      obtain ⟨V01, hV01⟩ : ∃ V, V0.setCell ⟨T, 6, none⟩ (.int .i64 128) = V := ⟨_, rfl⟩
      have hS1 := hS0.sett 6 (.int .i64 128)
      rw [hV01] at hS1
      have y0 : V0.cell? ⟨T, 6, none⟩ = some (.int .i64 al) := hS0.t.at_ 6 _ rfl
      have f0 : V0.frozen? ⟨T, 6, none⟩ = false := hS0.t.frozen 6
      have HEX := Lib.hid (show Ex w B0 G T 1 size V01 from ⟨kind, entry, ⟨ty, fl, off, ad, sz, mem, 128⟩, ⟨ty, fl, off, ad, sz, mem, al⟩, l, g, n, c, hS1, hAh.b1, HNL.out⟩)
      clear hS0 hAh hS1
      go_upto_region 6 with fail
      rw [HV0.out.1]
      try rw [HV0.out.2]
      clear c0 c1 c2 c3 c4 c5 c6 x2
      go_upto_region 33 with fail
      clear y0 f0 hV01
      obtain ⟨kd, en, ⟨ty', fl', off', ad', sz', mem', al'⟩, s1, l', g1, m, cap1, hS, hBk, hm⟩ := HEX.out
      clear HEX
      have hn1' := hBk.len
      simp only [List.length_cons] at hn1'
      obtain ⟨g2, cap2, hvv, -, -, -, hmc, hmx, hcl, hfz⟩ := own_there hS.o
      injection hvv with e1 e2 e3
      injection e1 with e1
      injection e1 with e1 _ _
      subst e1 e3
      have x0 : V01.cell? ⟨G, 0, none⟩ = some (.int .i64 kd) := hS.x.at_ 0 _ rfl
      have x1 : V01.cell? ⟨G, 1, none⟩ = some (.int .i64 en) := hS.x.at_ 1 _ rfl
      have x2 : V01.cell? ⟨G, 2, none⟩ = some (.slice (some ⟨g1, 0, none⟩) m cap1) := hS.x.at_ 2 _ rfl
      have t0 : V01.cell? ⟨T, 0, none⟩ = some (.int .i64 ty') := hS.t.at_ 0 _ rfl
      have t1 : V01.cell? ⟨T, 1, none⟩ = some (.int .i64 fl') := hS.t.at_ 1 _ rfl
      have t2 : V01.cell? ⟨T, 2, none⟩ = some (.int .i64 off') := hS.t.at_ 2 _ rfl
      have t3 : V01.cell? ⟨T, 3, none⟩ = some (.int .i64 ad') := hS.t.at_ 3 _ rfl
      have t4 : V01.cell? ⟨T, 4, none⟩ = some (.int .i64 sz') := hS.t.at_ 4 _ rfl
      have t5 : V01.cell? ⟨T, 5, none⟩ = some (.int .i64 mem') := hS.t.at_ 5 _ rfl
      have t6 : V01.cell? ⟨T, 6, none⟩ = some (.int .i64 al') := hS.t.at_ 6 _ rfl
      have c0 : V01.cell? ⟨g1, 0, none⟩ = some (.int .i64 s1.ty) := hcl 0 (by omega)
      have c1 : V01.cell? ⟨g1, 1, none⟩ = some (.int .i64 s1.fl) := hcl 1 (by omega)
      have c2 : V01.cell? ⟨g1, 2, none⟩ = some (.int .i64 s1.off) := hcl 2 (by omega)
      have c3 : V01.cell? ⟨g1, 3, none⟩ = some (.int .i64 s1.ad) := hcl 3 (by omega)
      have c4 : V01.cell? ⟨g1, 4, none⟩ = some (.int .i64 s1.sz) := hcl 4 (by omega)
      have c5 : V01.cell? ⟨g1, 5, none⟩ = some (.int .i64 s1.mem) := hcl 5 (by omega)
      have c6 : V01.cell? ⟨g1, 6, none⟩ = some (.int .i64 s1.al) := hcl 6 (by omega)
      have fz0 := hfz 0
      have fz1 := hfz 1
      have fz2 := hfz 2
      have fz3 := hfz 3
      have fz4 := hfz 4
      have fz5 := hfz 5
      have fz6 := hfz 6
      have hS3 := ((((((hS.setg 0 (.int .i64 ty')).setg 1 (.int .i64 fl')).setg 2 (.int .i64 off')).setg 3 (.int .i64 ad')).setg 4 (.int .i64 sz')).setg 5 (.int .i64 mem')).setg 6 (.int .i64 al')
      rw [segCells_all s1 ⟨ty', fl', off', ad', sz', mem', al'⟩ l'] at hS3
      obtain ⟨V3, hV3⟩ : ∃ V3, (((((((V01.setCell ⟨g1, 0, none⟩ (.int .i64 ty')).setCell ⟨g1, 1, none⟩ (.int .i64 fl')).setCell ⟨g1, 2, none⟩ (.int .i64 off')).setCell ⟨g1, 3, none⟩ (.int .i64 ad')).setCell ⟨g1, 4, none⟩ (.int .i64 sz')).setCell ⟨g1, 5, none⟩ (.int .i64 mem')).setCell ⟨g1, 6, none⟩ (.int .i64 al')) = V3 := ⟨_, rfl⟩
      rw [hV3] at hS3
      obtain ⟨A9, c9, hv9, hrow, -⟩ := SegRow.of_own hS3.o hBk.wf
      injection hv9 with e1 e2 e3
      subst e1 e3
      clear e2
      have hlm : ((⟨ty', fl', off', ad', sz', mem', al'⟩ : Seg) :: l').length = m := by rw [hm]; rfl
      have hm0 : (0 : Int) < (m : Int) := by omega
      have HTR := Lib.hid (fun v (hv : Below V3.heap.size V3 v) => show SegRow v (some ⟨g1, 0, none⟩) (⟨ty', fl', off', ad', sz', mem', al'⟩ :: l') ∧ Below w.heap.size w v ∧ v.cell? ⟨G, 0, none⟩ = some (.int .i64 kd) ∧ v.cell? ⟨G, 1, none⟩ = some (.int .i64 en) ∧ v.cell? ⟨G, 2, none⟩ = some (.slice (some ⟨g1, 0, none⟩) m cap1) from
        ⟨hrow.below hv, hS3.b.trans (hv.mono hS3.b.size), (hS3.x.below hv hS3.x.lt).at_ 0 _ rfl, (hS3.x.below hv hS3.x.lt).at_ 1 _ rfl, (hS3.x.below hv hS3.x.lt).at_ 2 _ rfl⟩)
      have hhd := fun v (hv : Below V3.heap.size V3 v) => header_any ⟨kd, en, ⟨ty', fl', off', ad', sz', mem', al'⟩ :: l'⟩ (some ⟨g1, 0, none⟩) cap1 v (HTT.out v (HTR.out v hv).2.1) hBk.kind hBk.entry (HTR.out v hv).1 (by show (_ :: l').length ≤ 1000; rw [hlm]; omega)
      have hck := fun v (hv : Below V3.heap.size V3 v) => echeck_any ⟨kd, en, ⟨ty', fl', off', ad', sz', mem', al'⟩ :: l'⟩ (some ⟨g1, 0, none⟩) cap1 size v (HTT.out v (HTR.out v hv).2.1) (HTR.out v hv).1 (by show (_ :: l').length ≤ 1000; rw [hlm]; omega) (i64_wf (by omega))
      rw [err_no hBk.no] at hck
      have hhl : (Img.headL ⟨kd, en, ⟨ty', fl', off', ad', sz', mem', al'⟩ :: l'⟩).length = 64 + 56 * m := by rw [headL_len]; show 64 + 56 * (_ :: l').length = _; rw [hlm]
      have hpar := fun F h2 h3 => brk_parse (F := F) hBk (by decide) (by omega) h2 h3
      try unfold Img.v at hck
      try unfold Img.v at hhd
      simp only [hlm] at hck hhd
      obtain ⟨hl, hhl2⟩ : ∃ h, Img.headL ⟨kd, en, ⟨ty', fl', off', ad', sz', mem', al'⟩ :: l'⟩ = h := ⟨_, rfl⟩
      rw [hhl2] at hhd hhl hpar
      have hF := fun w => rfill_any (mkb hl) size w (i64_wf (by omega)) (by rw [mkb_size]; omega) (by omega)
      have hFa := fun j (hj : j < hl.length) => fill_at (L := hl) (m := size) (j := j) hj (by omega)
      have hFs := fill_size (mkb hl) size
      obtain ⟨F, hFd⟩ : ∃ F, fillS (mkb hl) size = F := ⟨_, rfl⟩
      rw [hFd] at hF hFa hFs
      obtain ⟨H, hH⟩ : ∃ H, mkb hl = H := ⟨_, rfl⟩
      rw [hH] at hhd hF
      have hep := fun v (hv : Below V3.heap.size V3 v) => eparse_any F v (HTT.out v (HTR.out v hv).2.1) (by omega)
      have hE : parseE F = 16 := (hpar F hFs hFa).2
      obtain ⟨px, hpx⟩ : ∃ x, parseX F = x := ⟨_, rfl⟩
      obtain ⟨pe', hpe⟩ : ∃ x, parseE F = x := ⟨_, rfl⟩
      rw [hpx, hpe] at hep
      rw [hpe] at hE
      obtain ⟨pk1, pe1, pl1⟩ := px
      have HEP := Lib.hid (fun v (hv : Below V3.heap.size V3 v) => (hep v hv).mono (R' := fun e v' => ∃ D d, e = .returned (.tuple #[.agg #[.int .i64 pk1, .int .i64 pe1, .slice D pl1.length d], .int .i64 pe']) ∧ Below v.heap.size v v') (by
        rintro e v' ⟨D, d, rfl, -, -, hb⟩
        exact ⟨D, d, rfl, hb⟩))
      have HHD := Lib.hid hhd
      have HCK := Lib.hid hck
      have HF := Lib.hid hF
      have hq3 := Below.refl V3.heap.size V3
      obtain ⟨-, hbw, xx0, xx1, xx2⟩ := HTR.out _ hq3
      generalize pl1.length = pn1 at *
      clear hS hBk hcl hfz hS3 hrow hhd hck hF hFa hFs hFd hH hhl hhl2 hep hpx hpe hm hlm hmc hmx hpar
      subst hE
      go_wp2_with (first
        | (go_at_call 14; with_reducible refine (HHD.out _ hq3).mono ?_; rintro e v4 ⟨rfl, hb4⟩; have hq4 := hq3.trans (hb4.mono hq3.size); clear hb4)
        | (go_at_call 25; with_reducible refine (HF.out _).mono ?_; rintro e v5 ⟨rfl, hb5⟩; have hq5 := hq4.trans (hb5.mono hq4.size); clear hb5)
        | (go_at_call 19; with_reducible refine (HEP.out _ hq5).mono ?_; rintro e v6 ⟨D, d, rfl, hb6⟩
           have hq6 := (hq5.trans (hb6.mono hq5.size)).alloc (Nat.le_trans hq5.size hb6.size) (.cells #[.int .i64 pk1, .int .i64 pe1, .slice D pn1 d] 24)
           clear xx0 xx1 xx2 hbw hb6
           obtain ⟨-, hbw, xx0, xx1, xx2⟩ := HTR.out _ hq6)
        | (go_at_call 12; with_reducible refine (HCK.out _ hq6).mono ?_; rintro e v7 ⟨rfl, hb7⟩; have hq7 := hbw.trans (hb7.mono hbw.size); clear hb7))
      go_ret
      exact ⟨rfl, hq7⟩
    · -- 2
      have hAh := HAH.out
      obtain ⟨sz64, hsz64⟩ : ∃ z, (size : Int) + 64 = z := ⟨_, rfl⟩
      have w2 : IntKind.i64.wrap ((size : Int) + 64) = sz64 := by rw [IntWalk.i64_in _ (by omega)]; exact hsz64
      obtain ⟨om, hom⟩ : ∃ z, off % 64 = z := ⟨_, rfl⟩
      have w3 : off.tmod 64 = om := by rw [Int.tmod_eq_emod_of_nonneg hsoff.1]; exact hom
      obtain ⟨o2, ho2⟩ : ∃ z, sz64 + om = z := ⟨_, rfl⟩
      have w4 : IntKind.i64.wrap (sz64 + om) = o2 := by rw [IntWalk.i64_in _ (by omega)]; exact ho2
      have hb := hAh.b2
      simp only at hb
      rw [hom, hsz64, ho2] at hb
      clear hom hsz64 ho2
      obtain ⟨V01, hV01⟩ : ∃ V, V0.setCell ⟨T, 2, none⟩ (.int .i64 o2) = V := ⟨_, rfl⟩
      have hS1 := hS0.sett 2 (.int .i64 o2)
      rw [hV01] at hS1
      have y0 : V0.cell? ⟨T, 2, none⟩ = some (.int .i64 off) := hS0.t.at_ 2 _ rfl
      have f0 : V0.frozen? ⟨T, 2, none⟩ = false := hS0.t.frozen 2
      have zT2 : V0.cell? ⟨T, 2, none⟩ = some (.int .i64 off) := hS0.t.at_ 2 _ rfl
      have HEX := Lib.hid (show Ex w B0 G T 2 size V01 from ⟨kind, entry, ⟨ty, fl, o2, ad, sz, mem, al⟩, ⟨ty, fl, off, ad, sz, mem, al⟩, l, g, n, c, hS1, hb, HNL.out⟩)
      clear hS0 hAh hS1
      go_upto_region 6 with fail
      rw [HV0.out.1]
      try rw [HV0.out.2]
      clear c0 c1 c2 c3 c4 c5 c6 x2
      go_upto_region 33 with fail
      clear y0 f0 hV01 zT2
      obtain ⟨kd, en, ⟨ty', fl', off', ad', sz', mem', al'⟩, s1, l', g1, m, cap1, hS, hBk, hm⟩ := HEX.out
      clear HEX
      have hn1' := hBk.len
      simp only [List.length_cons] at hn1'
      obtain ⟨g2, cap2, hvv, -, -, -, hmc, hmx, hcl, hfz⟩ := own_there hS.o
      injection hvv with e1 e2 e3
      injection e1 with e1
      injection e1 with e1 _ _
      subst e1 e3
      have x0 : V01.cell? ⟨G, 0, none⟩ = some (.int .i64 kd) := hS.x.at_ 0 _ rfl
      have x1 : V01.cell? ⟨G, 1, none⟩ = some (.int .i64 en) := hS.x.at_ 1 _ rfl
      have x2 : V01.cell? ⟨G, 2, none⟩ = some (.slice (some ⟨g1, 0, none⟩) m cap1) := hS.x.at_ 2 _ rfl
      have t0 : V01.cell? ⟨T, 0, none⟩ = some (.int .i64 ty') := hS.t.at_ 0 _ rfl
      have t1 : V01.cell? ⟨T, 1, none⟩ = some (.int .i64 fl') := hS.t.at_ 1 _ rfl
      have t2 : V01.cell? ⟨T, 2, none⟩ = some (.int .i64 off') := hS.t.at_ 2 _ rfl
      have t3 : V01.cell? ⟨T, 3, none⟩ = some (.int .i64 ad') := hS.t.at_ 3 _ rfl
      have t4 : V01.cell? ⟨T, 4, none⟩ = some (.int .i64 sz') := hS.t.at_ 4 _ rfl
      have t5 : V01.cell? ⟨T, 5, none⟩ = some (.int .i64 mem') := hS.t.at_ 5 _ rfl
      have t6 : V01.cell? ⟨T, 6, none⟩ = some (.int .i64 al') := hS.t.at_ 6 _ rfl
      have c0 : V01.cell? ⟨g1, 0, none⟩ = some (.int .i64 s1.ty) := hcl 0 (by omega)
      have c1 : V01.cell? ⟨g1, 1, none⟩ = some (.int .i64 s1.fl) := hcl 1 (by omega)
      have c2 : V01.cell? ⟨g1, 2, none⟩ = some (.int .i64 s1.off) := hcl 2 (by omega)
      have c3 : V01.cell? ⟨g1, 3, none⟩ = some (.int .i64 s1.ad) := hcl 3 (by omega)
      have c4 : V01.cell? ⟨g1, 4, none⟩ = some (.int .i64 s1.sz) := hcl 4 (by omega)
      have c5 : V01.cell? ⟨g1, 5, none⟩ = some (.int .i64 s1.mem) := hcl 5 (by omega)
      have c6 : V01.cell? ⟨g1, 6, none⟩ = some (.int .i64 s1.al) := hcl 6 (by omega)
      have fz0 := hfz 0
      have fz1 := hfz 1
      have fz2 := hfz 2
      have fz3 := hfz 3
      have fz4 := hfz 4
      have fz5 := hfz 5
      have fz6 := hfz 6
      have hS3 := ((((((hS.setg 0 (.int .i64 ty')).setg 1 (.int .i64 fl')).setg 2 (.int .i64 off')).setg 3 (.int .i64 ad')).setg 4 (.int .i64 sz')).setg 5 (.int .i64 mem')).setg 6 (.int .i64 al')
      rw [segCells_all s1 ⟨ty', fl', off', ad', sz', mem', al'⟩ l'] at hS3
      obtain ⟨V3, hV3⟩ : ∃ V3, (((((((V01.setCell ⟨g1, 0, none⟩ (.int .i64 ty')).setCell ⟨g1, 1, none⟩ (.int .i64 fl')).setCell ⟨g1, 2, none⟩ (.int .i64 off')).setCell ⟨g1, 3, none⟩ (.int .i64 ad')).setCell ⟨g1, 4, none⟩ (.int .i64 sz')).setCell ⟨g1, 5, none⟩ (.int .i64 mem')).setCell ⟨g1, 6, none⟩ (.int .i64 al')) = V3 := ⟨_, rfl⟩
      rw [hV3] at hS3
      obtain ⟨A9, c9, hv9, hrow, -⟩ := SegRow.of_own hS3.o hBk.wf
      injection hv9 with e1 e2 e3
      subst e1 e3
      clear e2
      have hlm : ((⟨ty', fl', off', ad', sz', mem', al'⟩ : Seg) :: l').length = m := by rw [hm]; rfl
      have hm0 : (0 : Int) < (m : Int) := by omega
      have HTR := Lib.hid (fun v (hv : Below V3.heap.size V3 v) => show SegRow v (some ⟨g1, 0, none⟩) (⟨ty', fl', off', ad', sz', mem', al'⟩ :: l') ∧ Below w.heap.size w v ∧ v.cell? ⟨G, 0, none⟩ = some (.int .i64 kd) ∧ v.cell? ⟨G, 1, none⟩ = some (.int .i64 en) ∧ v.cell? ⟨G, 2, none⟩ = some (.slice (some ⟨g1, 0, none⟩) m cap1) from
        ⟨hrow.below hv, hS3.b.trans (hv.mono hS3.b.size), (hS3.x.below hv hS3.x.lt).at_ 0 _ rfl, (hS3.x.below hv hS3.x.lt).at_ 1 _ rfl, (hS3.x.below hv hS3.x.lt).at_ 2 _ rfl⟩)
      have hhd := fun v (hv : Below V3.heap.size V3 v) => header_any ⟨kd, en, ⟨ty', fl', off', ad', sz', mem', al'⟩ :: l'⟩ (some ⟨g1, 0, none⟩) cap1 v (HTT.out v (HTR.out v hv).2.1) hBk.kind hBk.entry (HTR.out v hv).1 (by show (_ :: l').length ≤ 1000; rw [hlm]; omega)
      have hck := fun v (hv : Below V3.heap.size V3 v) => echeck_any ⟨kd, en, ⟨ty', fl', off', ad', sz', mem', al'⟩ :: l'⟩ (some ⟨g1, 0, none⟩) cap1 size v (HTT.out v (HTR.out v hv).2.1) (HTR.out v hv).1 (by show (_ :: l').length ≤ 1000; rw [hlm]; omega) (i64_wf (by omega))
      rw [err_no hBk.no] at hck
      have hhl : (Img.headL ⟨kd, en, ⟨ty', fl', off', ad', sz', mem', al'⟩ :: l'⟩).length = 64 + 56 * m := by rw [headL_len]; show 64 + 56 * (_ :: l').length = _; rw [hlm]
      have hpar := fun F h2 h3 => brk_parse (F := F) hBk (by decide) (by omega) h2 h3
      try unfold Img.v at hck
      try unfold Img.v at hhd
      simp only [hlm] at hck hhd
      obtain ⟨hl, hhl2⟩ : ∃ h, Img.headL ⟨kd, en, ⟨ty', fl', off', ad', sz', mem', al'⟩ :: l'⟩ = h := ⟨_, rfl⟩
      rw [hhl2] at hhd hhl hpar
      have hF := fun w => rfill_any (mkb hl) size w (i64_wf (by omega)) (by rw [mkb_size]; omega) (by omega)
      have hFa := fun j (hj : j < hl.length) => fill_at (L := hl) (m := size) (j := j) hj (by omega)
      have hFs := fill_size (mkb hl) size
      obtain ⟨F, hFd⟩ : ∃ F, fillS (mkb hl) size = F := ⟨_, rfl⟩
      rw [hFd] at hF hFa hFs
      obtain ⟨H, hH⟩ : ∃ H, mkb hl = H := ⟨_, rfl⟩
      rw [hH] at hhd hF
      have hep := fun v (hv : Below V3.heap.size V3 v) => eparse_any F v (HTT.out v (HTR.out v hv).2.1) (by omega)
      have hE : parseE F = 16 := (hpar F hFs hFa).2
      obtain ⟨px, hpx⟩ : ∃ x, parseX F = x := ⟨_, rfl⟩
      obtain ⟨pe', hpe⟩ : ∃ x, parseE F = x := ⟨_, rfl⟩
      rw [hpx, hpe] at hep
      rw [hpe] at hE
      obtain ⟨pk1, pe1, pl1⟩ := px
      have HEP := Lib.hid (fun v (hv : Below V3.heap.size V3 v) => (hep v hv).mono (R' := fun e v' => ∃ D d, e = .returned (.tuple #[.agg #[.int .i64 pk1, .int .i64 pe1, .slice D pl1.length d], .int .i64 pe']) ∧ Below v.heap.size v v') (by
        rintro e v' ⟨D, d, rfl, -, -, hb⟩
        exact ⟨D, d, rfl, hb⟩))
      have HHD := Lib.hid hhd
      have HCK := Lib.hid hck
      have HF := Lib.hid hF
      have hq3 := Below.refl V3.heap.size V3
      obtain ⟨-, hbw, xx0, xx1, xx2⟩ := HTR.out _ hq3
      generalize pl1.length = pn1 at *
      clear hS hBk hcl hfz hS3 hrow hhd hck hF hFa hFs hFd hH hhl hhl2 hep hpx hpe hm hlm hmc hmx hpar
      subst hE
      go_wp2_with (first
        | (go_at_call 14; with_reducible refine (HHD.out _ hq3).mono ?_; rintro e v4 ⟨rfl, hb4⟩; have hq4 := hq3.trans (hb4.mono hq3.size); clear hb4)
        | (go_at_call 25; with_reducible refine (HF.out _).mono ?_; rintro e v5 ⟨rfl, hb5⟩; have hq5 := hq4.trans (hb5.mono hq4.size); clear hb5)
        | (go_at_call 19; with_reducible refine (HEP.out _ hq5).mono ?_; rintro e v6 ⟨D, d, rfl, hb6⟩
           have hq6 := (hq5.trans (hb6.mono hq5.size)).alloc (Nat.le_trans hq5.size hb6.size) (.cells #[.int .i64 pk1, .int .i64 pe1, .slice D pn1 d] 24)
           clear xx0 xx1 xx2 hbw hb6
           obtain ⟨-, hbw, xx0, xx1, xx2⟩ := HTR.out _ hq6)
        | (go_at_call 12; with_reducible refine (HCK.out _ hq6).mono ?_; rintro e v7 ⟨rfl, hb7⟩; have hq7 := hbw.trans (hb7.mono hbw.size); clear hb7))
      go_ret
      exact ⟨rfl, hq7⟩
    · -- 3
      have hAh := HAH.out
      obtain ⟨m2, hm2⟩ : ∃ z, mem + 1 = z := ⟨_, rfl⟩
      have w2 : IntKind.i64.wrap (mem + 1) = m2 := by rw [IntWalk.i64_in _ (by omega)]; exact hm2
      have hb := hAh.b3
      simp only at hb
      rw [hm2] at hb
      clear hm2
      obtain ⟨V01, hV01⟩ : ∃ V, V0.setCell ⟨T, 4, none⟩ (.int .i64 m2) = V := ⟨_, rfl⟩
      have hS1 := hS0.sett 4 (.int .i64 m2)
      rw [hV01] at hS1
      have y0 : V0.cell? ⟨T, 4, none⟩ = some (.int .i64 sz) := hS0.t.at_ 4 _ rfl
      have f0 : V0.frozen? ⟨T, 4, none⟩ = false := hS0.t.frozen 4
      have zT5 : V0.cell? ⟨T, 5, none⟩ = some (.int .i64 mem) := hS0.t.at_ 5 _ rfl
      have HEX := Lib.hid (show Ex w B0 G T 3 size V01 from ⟨kind, entry, ⟨ty, fl, off, ad, m2, mem, al⟩, ⟨ty, fl, off, ad, sz, mem, al⟩, l, g, n, c, hS1, hb, HNL.out⟩)
      clear hS0 hAh hS1
      go_upto_region 6 with fail
      rw [HV0.out.1]
      try rw [HV0.out.2]
      clear c0 c1 c2 c3 c4 c5 c6 x2
      go_upto_region 33 with fail
      clear y0 f0 hV01 zT5
      obtain ⟨kd, en, ⟨ty', fl', off', ad', sz', mem', al'⟩, s1, l', g1, m, cap1, hS, hBk, hm⟩ := HEX.out
      clear HEX
      have hn1' := hBk.len
      simp only [List.length_cons] at hn1'
      obtain ⟨g2, cap2, hvv, -, -, -, hmc, hmx, hcl, hfz⟩ := own_there hS.o
      injection hvv with e1 e2 e3
      injection e1 with e1
      injection e1 with e1 _ _
      subst e1 e3
      have x0 : V01.cell? ⟨G, 0, none⟩ = some (.int .i64 kd) := hS.x.at_ 0 _ rfl
      have x1 : V01.cell? ⟨G, 1, none⟩ = some (.int .i64 en) := hS.x.at_ 1 _ rfl
      have x2 : V01.cell? ⟨G, 2, none⟩ = some (.slice (some ⟨g1, 0, none⟩) m cap1) := hS.x.at_ 2 _ rfl
      have t0 : V01.cell? ⟨T, 0, none⟩ = some (.int .i64 ty') := hS.t.at_ 0 _ rfl
      have t1 : V01.cell? ⟨T, 1, none⟩ = some (.int .i64 fl') := hS.t.at_ 1 _ rfl
      have t2 : V01.cell? ⟨T, 2, none⟩ = some (.int .i64 off') := hS.t.at_ 2 _ rfl
      have t3 : V01.cell? ⟨T, 3, none⟩ = some (.int .i64 ad') := hS.t.at_ 3 _ rfl
      have t4 : V01.cell? ⟨T, 4, none⟩ = some (.int .i64 sz') := hS.t.at_ 4 _ rfl
      have t5 : V01.cell? ⟨T, 5, none⟩ = some (.int .i64 mem') := hS.t.at_ 5 _ rfl
      have t6 : V01.cell? ⟨T, 6, none⟩ = some (.int .i64 al') := hS.t.at_ 6 _ rfl
      have c0 : V01.cell? ⟨g1, 0, none⟩ = some (.int .i64 s1.ty) := hcl 0 (by omega)
      have c1 : V01.cell? ⟨g1, 1, none⟩ = some (.int .i64 s1.fl) := hcl 1 (by omega)
      have c2 : V01.cell? ⟨g1, 2, none⟩ = some (.int .i64 s1.off) := hcl 2 (by omega)
      have c3 : V01.cell? ⟨g1, 3, none⟩ = some (.int .i64 s1.ad) := hcl 3 (by omega)
      have c4 : V01.cell? ⟨g1, 4, none⟩ = some (.int .i64 s1.sz) := hcl 4 (by omega)
      have c5 : V01.cell? ⟨g1, 5, none⟩ = some (.int .i64 s1.mem) := hcl 5 (by omega)
      have c6 : V01.cell? ⟨g1, 6, none⟩ = some (.int .i64 s1.al) := hcl 6 (by omega)
      have fz0 := hfz 0
      have fz1 := hfz 1
      have fz2 := hfz 2
      have fz3 := hfz 3
      have fz4 := hfz 4
      have fz5 := hfz 5
      have fz6 := hfz 6
      have hS3 := ((((((hS.setg 0 (.int .i64 ty')).setg 1 (.int .i64 fl')).setg 2 (.int .i64 off')).setg 3 (.int .i64 ad')).setg 4 (.int .i64 sz')).setg 5 (.int .i64 mem')).setg 6 (.int .i64 al')
      rw [segCells_all s1 ⟨ty', fl', off', ad', sz', mem', al'⟩ l'] at hS3
      obtain ⟨V3, hV3⟩ : ∃ V3, (((((((V01.setCell ⟨g1, 0, none⟩ (.int .i64 ty')).setCell ⟨g1, 1, none⟩ (.int .i64 fl')).setCell ⟨g1, 2, none⟩ (.int .i64 off')).setCell ⟨g1, 3, none⟩ (.int .i64 ad')).setCell ⟨g1, 4, none⟩ (.int .i64 sz')).setCell ⟨g1, 5, none⟩ (.int .i64 mem')).setCell ⟨g1, 6, none⟩ (.int .i64 al')) = V3 := ⟨_, rfl⟩
      rw [hV3] at hS3
      obtain ⟨A9, c9, hv9, hrow, -⟩ := SegRow.of_own hS3.o hBk.wf
      injection hv9 with e1 e2 e3
      subst e1 e3
      clear e2
      have hlm : ((⟨ty', fl', off', ad', sz', mem', al'⟩ : Seg) :: l').length = m := by rw [hm]; rfl
      have hm0 : (0 : Int) < (m : Int) := by omega
      have HTR := Lib.hid (fun v (hv : Below V3.heap.size V3 v) => show SegRow v (some ⟨g1, 0, none⟩) (⟨ty', fl', off', ad', sz', mem', al'⟩ :: l') ∧ Below w.heap.size w v ∧ v.cell? ⟨G, 0, none⟩ = some (.int .i64 kd) ∧ v.cell? ⟨G, 1, none⟩ = some (.int .i64 en) ∧ v.cell? ⟨G, 2, none⟩ = some (.slice (some ⟨g1, 0, none⟩) m cap1) from
        ⟨hrow.below hv, hS3.b.trans (hv.mono hS3.b.size), (hS3.x.below hv hS3.x.lt).at_ 0 _ rfl, (hS3.x.below hv hS3.x.lt).at_ 1 _ rfl, (hS3.x.below hv hS3.x.lt).at_ 2 _ rfl⟩)
      have hhd := fun v (hv : Below V3.heap.size V3 v) => header_any ⟨kd, en, ⟨ty', fl', off', ad', sz', mem', al'⟩ :: l'⟩ (some ⟨g1, 0, none⟩) cap1 v (HTT.out v (HTR.out v hv).2.1) hBk.kind hBk.entry (HTR.out v hv).1 (by show (_ :: l').length ≤ 1000; rw [hlm]; omega)
      have hck := fun v (hv : Below V3.heap.size V3 v) => echeck_any ⟨kd, en, ⟨ty', fl', off', ad', sz', mem', al'⟩ :: l'⟩ (some ⟨g1, 0, none⟩) cap1 size v (HTT.out v (HTR.out v hv).2.1) (HTR.out v hv).1 (by show (_ :: l').length ≤ 1000; rw [hlm]; omega) (i64_wf (by omega))
      rw [err_no hBk.no] at hck
      have hhl : (Img.headL ⟨kd, en, ⟨ty', fl', off', ad', sz', mem', al'⟩ :: l'⟩).length = 64 + 56 * m := by rw [headL_len]; show 64 + 56 * (_ :: l').length = _; rw [hlm]
      have hpar := fun F h2 h3 => brk_parse (F := F) hBk (by decide) (by omega) h2 h3
      try unfold Img.v at hck
      try unfold Img.v at hhd
      simp only [hlm] at hck hhd
      obtain ⟨hl, hhl2⟩ : ∃ h, Img.headL ⟨kd, en, ⟨ty', fl', off', ad', sz', mem', al'⟩ :: l'⟩ = h := ⟨_, rfl⟩
      rw [hhl2] at hhd hhl hpar
      have hF := fun w => rfill_any (mkb hl) size w (i64_wf (by omega)) (by rw [mkb_size]; omega) (by omega)
      have hFa := fun j (hj : j < hl.length) => fill_at (L := hl) (m := size) (j := j) hj (by omega)
      have hFs := fill_size (mkb hl) size
      obtain ⟨F, hFd⟩ : ∃ F, fillS (mkb hl) size = F := ⟨_, rfl⟩
      rw [hFd] at hF hFa hFs
      obtain ⟨H, hH⟩ : ∃ H, mkb hl = H := ⟨_, rfl⟩
      rw [hH] at hhd hF
      have hep := fun v (hv : Below V3.heap.size V3 v) => eparse_any F v (HTT.out v (HTR.out v hv).2.1) (by omega)
      have hE : parseE F = 16 := (hpar F hFs hFa).2
      obtain ⟨px, hpx⟩ : ∃ x, parseX F = x := ⟨_, rfl⟩
      obtain ⟨pe', hpe⟩ : ∃ x, parseE F = x := ⟨_, rfl⟩
      rw [hpx, hpe] at hep
      rw [hpe] at hE
      obtain ⟨pk1, pe1, pl1⟩ := px
      have HEP := Lib.hid (fun v (hv : Below V3.heap.size V3 v) => (hep v hv).mono (R' := fun e v' => ∃ D d, e = .returned (.tuple #[.agg #[.int .i64 pk1, .int .i64 pe1, .slice D pl1.length d], .int .i64 pe']) ∧ Below v.heap.size v v') (by
        rintro e v' ⟨D, d, rfl, -, -, hb⟩
        exact ⟨D, d, rfl, hb⟩))
      have HHD := Lib.hid hhd
      have HCK := Lib.hid hck
      have HF := Lib.hid hF
      have hq3 := Below.refl V3.heap.size V3
      obtain ⟨-, hbw, xx0, xx1, xx2⟩ := HTR.out _ hq3
      generalize pl1.length = pn1 at *
      clear hS hBk hcl hfz hS3 hrow hhd hck hF hFa hFs hFd hH hhl hhl2 hep hpx hpe hm hlm hmc hmx hpar
      subst hE
      go_wp2_with (first
        | (go_at_call 14; with_reducible refine (HHD.out _ hq3).mono ?_; rintro e v4 ⟨rfl, hb4⟩; have hq4 := hq3.trans (hb4.mono hq3.size); clear hb4)
        | (go_at_call 25; with_reducible refine (HF.out _).mono ?_; rintro e v5 ⟨rfl, hb5⟩; have hq5 := hq4.trans (hb5.mono hq4.size); clear hb5)
        | (go_at_call 19; with_reducible refine (HEP.out _ hq5).mono ?_; rintro e v6 ⟨D, d, rfl, hb6⟩
           have hq6 := (hq5.trans (hb6.mono hq5.size)).alloc (Nat.le_trans hq5.size hb6.size) (.cells #[.int .i64 pk1, .int .i64 pe1, .slice D pn1 d] 24)
           clear xx0 xx1 xx2 hbw hb6
           obtain ⟨-, hbw, xx0, xx1, xx2⟩ := HTR.out _ hq6)
        | (go_at_call 12; with_reducible refine (HCK.out _ hq6).mono ?_; rintro e v7 ⟨rfl, hb7⟩; have hq7 := hbw.trans (hb7.mono hbw.size); clear hb7))
      go_ret
      exact ⟨rfl, hq7⟩
    · -- 4
      have hAh := HAH.out
      obtain ⟨V01, hV01⟩ : ∃ V, V0.setCell ⟨T, 3, none⟩ (.int .i64 262144) = V := ⟨_, rfl⟩
      have hS1 := hS0.sett 3 (.int .i64 262144)
      rw [hV01] at hS1
      have y0 : V0.cell? ⟨T, 3, none⟩ = some (.int .i64 ad) := hS0.t.at_ 3 _ rfl
      have f0 : V0.frozen? ⟨T, 3, none⟩ = false := hS0.t.frozen 3
      have HEX := Lib.hid (show Ex w B0 G T 4 size V01 from ⟨kind, entry, ⟨ty, fl, off, 262144, sz, mem, al⟩, ⟨ty, fl, off, ad, sz, mem, al⟩, l, g, n, c, hS1, hAh.b4, HNL.out⟩)
      clear hS0 hAh hS1
      go_upto_region 6 with fail
      rw [HV0.out.1]
      try rw [HV0.out.2]
      clear c0 c1 c2 c3 c4 c5 c6 x2
      go_upto_region 33 with fail
      clear y0 f0 hV01
      obtain ⟨kd, en, ⟨ty', fl', off', ad', sz', mem', al'⟩, s1, l', g1, m, cap1, hS, hBk, hm⟩ := HEX.out
      clear HEX
      have hn1' := hBk.len
      simp only [List.length_cons] at hn1'
      obtain ⟨g2, cap2, hvv, -, -, -, hmc, hmx, hcl, hfz⟩ := own_there hS.o
      injection hvv with e1 e2 e3
      injection e1 with e1
      injection e1 with e1 _ _
      subst e1 e3
      have x0 : V01.cell? ⟨G, 0, none⟩ = some (.int .i64 kd) := hS.x.at_ 0 _ rfl
      have x1 : V01.cell? ⟨G, 1, none⟩ = some (.int .i64 en) := hS.x.at_ 1 _ rfl
      have x2 : V01.cell? ⟨G, 2, none⟩ = some (.slice (some ⟨g1, 0, none⟩) m cap1) := hS.x.at_ 2 _ rfl
      have t0 : V01.cell? ⟨T, 0, none⟩ = some (.int .i64 ty') := hS.t.at_ 0 _ rfl
      have t1 : V01.cell? ⟨T, 1, none⟩ = some (.int .i64 fl') := hS.t.at_ 1 _ rfl
      have t2 : V01.cell? ⟨T, 2, none⟩ = some (.int .i64 off') := hS.t.at_ 2 _ rfl
      have t3 : V01.cell? ⟨T, 3, none⟩ = some (.int .i64 ad') := hS.t.at_ 3 _ rfl
      have t4 : V01.cell? ⟨T, 4, none⟩ = some (.int .i64 sz') := hS.t.at_ 4 _ rfl
      have t5 : V01.cell? ⟨T, 5, none⟩ = some (.int .i64 mem') := hS.t.at_ 5 _ rfl
      have t6 : V01.cell? ⟨T, 6, none⟩ = some (.int .i64 al') := hS.t.at_ 6 _ rfl
      have c0 : V01.cell? ⟨g1, 0, none⟩ = some (.int .i64 s1.ty) := hcl 0 (by omega)
      have c1 : V01.cell? ⟨g1, 1, none⟩ = some (.int .i64 s1.fl) := hcl 1 (by omega)
      have c2 : V01.cell? ⟨g1, 2, none⟩ = some (.int .i64 s1.off) := hcl 2 (by omega)
      have c3 : V01.cell? ⟨g1, 3, none⟩ = some (.int .i64 s1.ad) := hcl 3 (by omega)
      have c4 : V01.cell? ⟨g1, 4, none⟩ = some (.int .i64 s1.sz) := hcl 4 (by omega)
      have c5 : V01.cell? ⟨g1, 5, none⟩ = some (.int .i64 s1.mem) := hcl 5 (by omega)
      have c6 : V01.cell? ⟨g1, 6, none⟩ = some (.int .i64 s1.al) := hcl 6 (by omega)
      have fz0 := hfz 0
      have fz1 := hfz 1
      have fz2 := hfz 2
      have fz3 := hfz 3
      have fz4 := hfz 4
      have fz5 := hfz 5
      have fz6 := hfz 6
      have hS3 := ((((((hS.setg 0 (.int .i64 ty')).setg 1 (.int .i64 fl')).setg 2 (.int .i64 off')).setg 3 (.int .i64 ad')).setg 4 (.int .i64 sz')).setg 5 (.int .i64 mem')).setg 6 (.int .i64 al')
      rw [segCells_all s1 ⟨ty', fl', off', ad', sz', mem', al'⟩ l'] at hS3
      obtain ⟨V3, hV3⟩ : ∃ V3, (((((((V01.setCell ⟨g1, 0, none⟩ (.int .i64 ty')).setCell ⟨g1, 1, none⟩ (.int .i64 fl')).setCell ⟨g1, 2, none⟩ (.int .i64 off')).setCell ⟨g1, 3, none⟩ (.int .i64 ad')).setCell ⟨g1, 4, none⟩ (.int .i64 sz')).setCell ⟨g1, 5, none⟩ (.int .i64 mem')).setCell ⟨g1, 6, none⟩ (.int .i64 al')) = V3 := ⟨_, rfl⟩
      rw [hV3] at hS3
      obtain ⟨A9, c9, hv9, hrow, -⟩ := SegRow.of_own hS3.o hBk.wf
      injection hv9 with e1 e2 e3
      subst e1 e3
      clear e2
      have hlm : ((⟨ty', fl', off', ad', sz', mem', al'⟩ : Seg) :: l').length = m := by rw [hm]; rfl
      have hm0 : (0 : Int) < (m : Int) := by omega
      have HTR := Lib.hid (fun v (hv : Below V3.heap.size V3 v) => show SegRow v (some ⟨g1, 0, none⟩) (⟨ty', fl', off', ad', sz', mem', al'⟩ :: l') ∧ Below w.heap.size w v ∧ v.cell? ⟨G, 0, none⟩ = some (.int .i64 kd) ∧ v.cell? ⟨G, 1, none⟩ = some (.int .i64 en) ∧ v.cell? ⟨G, 2, none⟩ = some (.slice (some ⟨g1, 0, none⟩) m cap1) from
        ⟨hrow.below hv, hS3.b.trans (hv.mono hS3.b.size), (hS3.x.below hv hS3.x.lt).at_ 0 _ rfl, (hS3.x.below hv hS3.x.lt).at_ 1 _ rfl, (hS3.x.below hv hS3.x.lt).at_ 2 _ rfl⟩)
      have hhd := fun v (hv : Below V3.heap.size V3 v) => header_any ⟨kd, en, ⟨ty', fl', off', ad', sz', mem', al'⟩ :: l'⟩ (some ⟨g1, 0, none⟩) cap1 v (HTT.out v (HTR.out v hv).2.1) hBk.kind hBk.entry (HTR.out v hv).1 (by show (_ :: l').length ≤ 1000; rw [hlm]; omega)
      have hck := fun v (hv : Below V3.heap.size V3 v) => echeck_any ⟨kd, en, ⟨ty', fl', off', ad', sz', mem', al'⟩ :: l'⟩ (some ⟨g1, 0, none⟩) cap1 size v (HTT.out v (HTR.out v hv).2.1) (HTR.out v hv).1 (by show (_ :: l').length ≤ 1000; rw [hlm]; omega) (i64_wf (by omega))
      rw [err_no hBk.no] at hck
      have hhl : (Img.headL ⟨kd, en, ⟨ty', fl', off', ad', sz', mem', al'⟩ :: l'⟩).length = 64 + 56 * m := by rw [headL_len]; show 64 + 56 * (_ :: l').length = _; rw [hlm]
      have hpar := fun F h2 h3 => brk_parse (F := F) hBk (by decide) (by omega) h2 h3
      try unfold Img.v at hck
      try unfold Img.v at hhd
      simp only [hlm] at hck hhd
      obtain ⟨hl, hhl2⟩ : ∃ h, Img.headL ⟨kd, en, ⟨ty', fl', off', ad', sz', mem', al'⟩ :: l'⟩ = h := ⟨_, rfl⟩
      rw [hhl2] at hhd hhl hpar
      have hF := fun w => rfill_any (mkb hl) size w (i64_wf (by omega)) (by rw [mkb_size]; omega) (by omega)
      have hFa := fun j (hj : j < hl.length) => fill_at (L := hl) (m := size) (j := j) hj (by omega)
      have hFs := fill_size (mkb hl) size
      obtain ⟨F, hFd⟩ : ∃ F, fillS (mkb hl) size = F := ⟨_, rfl⟩
      rw [hFd] at hF hFa hFs
      obtain ⟨H, hH⟩ : ∃ H, mkb hl = H := ⟨_, rfl⟩
      rw [hH] at hhd hF
      have hep := fun v (hv : Below V3.heap.size V3 v) => eparse_any F v (HTT.out v (HTR.out v hv).2.1) (by omega)
      have hE : parseE F = 16 := (hpar F hFs hFa).2
      obtain ⟨px, hpx⟩ : ∃ x, parseX F = x := ⟨_, rfl⟩
      obtain ⟨pe', hpe⟩ : ∃ x, parseE F = x := ⟨_, rfl⟩
      rw [hpx, hpe] at hep
      rw [hpe] at hE
      obtain ⟨pk1, pe1, pl1⟩ := px
      have HEP := Lib.hid (fun v (hv : Below V3.heap.size V3 v) => (hep v hv).mono (R' := fun e v' => ∃ D d, e = .returned (.tuple #[.agg #[.int .i64 pk1, .int .i64 pe1, .slice D pl1.length d], .int .i64 pe']) ∧ Below v.heap.size v v') (by
        rintro e v' ⟨D, d, rfl, -, -, hb⟩
        exact ⟨D, d, rfl, hb⟩))
      have HHD := Lib.hid hhd
      have HCK := Lib.hid hck
      have HF := Lib.hid hF
      have hq3 := Below.refl V3.heap.size V3
      obtain ⟨-, hbw, xx0, xx1, xx2⟩ := HTR.out _ hq3
      generalize pl1.length = pn1 at *
      clear hS hBk hcl hfz hS3 hrow hhd hck hF hFa hFs hFd hH hhl hhl2 hep hpx hpe hm hlm hmc hmx hpar
      subst hE
      go_wp2_with (first
        | (go_at_call 14; with_reducible refine (HHD.out _ hq3).mono ?_; rintro e v4 ⟨rfl, hb4⟩; have hq4 := hq3.trans (hb4.mono hq3.size); clear hb4)
        | (go_at_call 25; with_reducible refine (HF.out _).mono ?_; rintro e v5 ⟨rfl, hb5⟩; have hq5 := hq4.trans (hb5.mono hq4.size); clear hb5)
        | (go_at_call 19; with_reducible refine (HEP.out _ hq5).mono ?_; rintro e v6 ⟨D, d, rfl, hb6⟩
           have hq6 := (hq5.trans (hb6.mono hq5.size)).alloc (Nat.le_trans hq5.size hb6.size) (.cells #[.int .i64 pk1, .int .i64 pe1, .slice D pn1 d] 24)
           clear xx0 xx1 xx2 hbw hb6
           obtain ⟨-, hbw, xx0, xx1, xx2⟩ := HTR.out _ hq6)
        | (go_at_call 12; with_reducible refine (HCK.out _ hq6).mono ?_; rintro e v7 ⟨rfl, hb7⟩; have hq7 := hbw.trans (hb7.mono hbw.size); clear hb7))
      go_ret
      exact ⟨rfl, hq7⟩
    · -- 5
      have hAh := HAH.out
      obtain ⟨V01, hV01⟩ : ∃ V, V0.setCell ⟨T, 1, none⟩ (.int .i64 8) = V := ⟨_, rfl⟩
      have hS1 := hS0.sett 1 (.int .i64 8)
      rw [hV01] at hS1
      have y0 : V0.cell? ⟨T, 1, none⟩ = some (.int .i64 fl) := hS0.t.at_ 1 _ rfl
      have f0 : V0.frozen? ⟨T, 1, none⟩ = false := hS0.t.frozen 1
      have HEX := Lib.hid (show Ex w B0 G T 5 size V01 from ⟨kind, entry, ⟨ty, 8, off, ad, sz, mem, al⟩, ⟨ty, fl, off, ad, sz, mem, al⟩, l, g, n, c, hS1, hAh.b5, HNL.out⟩)
      clear hS0 hAh hS1
      go_upto_region 6 with fail
      rw [HV0.out.1]
      try rw [HV0.out.2]
      clear c0 c1 c2 c3 c4 c5 c6 x2
      go_upto_region 33 with fail
      clear y0 f0 hV01
      obtain ⟨kd, en, ⟨ty', fl', off', ad', sz', mem', al'⟩, s1, l', g1, m, cap1, hS, hBk, hm⟩ := HEX.out
      clear HEX
      have hn1' := hBk.len
      simp only [List.length_cons] at hn1'
      obtain ⟨g2, cap2, hvv, -, -, -, hmc, hmx, hcl, hfz⟩ := own_there hS.o
      injection hvv with e1 e2 e3
      injection e1 with e1
      injection e1 with e1 _ _
      subst e1 e3
      have x0 : V01.cell? ⟨G, 0, none⟩ = some (.int .i64 kd) := hS.x.at_ 0 _ rfl
      have x1 : V01.cell? ⟨G, 1, none⟩ = some (.int .i64 en) := hS.x.at_ 1 _ rfl
      have x2 : V01.cell? ⟨G, 2, none⟩ = some (.slice (some ⟨g1, 0, none⟩) m cap1) := hS.x.at_ 2 _ rfl
      have t0 : V01.cell? ⟨T, 0, none⟩ = some (.int .i64 ty') := hS.t.at_ 0 _ rfl
      have t1 : V01.cell? ⟨T, 1, none⟩ = some (.int .i64 fl') := hS.t.at_ 1 _ rfl
      have t2 : V01.cell? ⟨T, 2, none⟩ = some (.int .i64 off') := hS.t.at_ 2 _ rfl
      have t3 : V01.cell? ⟨T, 3, none⟩ = some (.int .i64 ad') := hS.t.at_ 3 _ rfl
      have t4 : V01.cell? ⟨T, 4, none⟩ = some (.int .i64 sz') := hS.t.at_ 4 _ rfl
      have t5 : V01.cell? ⟨T, 5, none⟩ = some (.int .i64 mem') := hS.t.at_ 5 _ rfl
      have t6 : V01.cell? ⟨T, 6, none⟩ = some (.int .i64 al') := hS.t.at_ 6 _ rfl
      have c0 : V01.cell? ⟨g1, 0, none⟩ = some (.int .i64 s1.ty) := hcl 0 (by omega)
      have c1 : V01.cell? ⟨g1, 1, none⟩ = some (.int .i64 s1.fl) := hcl 1 (by omega)
      have c2 : V01.cell? ⟨g1, 2, none⟩ = some (.int .i64 s1.off) := hcl 2 (by omega)
      have c3 : V01.cell? ⟨g1, 3, none⟩ = some (.int .i64 s1.ad) := hcl 3 (by omega)
      have c4 : V01.cell? ⟨g1, 4, none⟩ = some (.int .i64 s1.sz) := hcl 4 (by omega)
      have c5 : V01.cell? ⟨g1, 5, none⟩ = some (.int .i64 s1.mem) := hcl 5 (by omega)
      have c6 : V01.cell? ⟨g1, 6, none⟩ = some (.int .i64 s1.al) := hcl 6 (by omega)
      have fz0 := hfz 0
      have fz1 := hfz 1
      have fz2 := hfz 2
      have fz3 := hfz 3
      have fz4 := hfz 4
      have fz5 := hfz 5
      have fz6 := hfz 6
      have hS3 := ((((((hS.setg 0 (.int .i64 ty')).setg 1 (.int .i64 fl')).setg 2 (.int .i64 off')).setg 3 (.int .i64 ad')).setg 4 (.int .i64 sz')).setg 5 (.int .i64 mem')).setg 6 (.int .i64 al')
      rw [segCells_all s1 ⟨ty', fl', off', ad', sz', mem', al'⟩ l'] at hS3
      obtain ⟨V3, hV3⟩ : ∃ V3, (((((((V01.setCell ⟨g1, 0, none⟩ (.int .i64 ty')).setCell ⟨g1, 1, none⟩ (.int .i64 fl')).setCell ⟨g1, 2, none⟩ (.int .i64 off')).setCell ⟨g1, 3, none⟩ (.int .i64 ad')).setCell ⟨g1, 4, none⟩ (.int .i64 sz')).setCell ⟨g1, 5, none⟩ (.int .i64 mem')).setCell ⟨g1, 6, none⟩ (.int .i64 al')) = V3 := ⟨_, rfl⟩
      rw [hV3] at hS3
      obtain ⟨A9, c9, hv9, hrow, -⟩ := SegRow.of_own hS3.o hBk.wf
      injection hv9 with e1 e2 e3
      subst e1 e3
      clear e2
      have hlm : ((⟨ty', fl', off', ad', sz', mem', al'⟩ : Seg) :: l').length = m := by rw [hm]; rfl
      have hm0 : (0 : Int) < (m : Int) := by omega
      have HTR := Lib.hid (fun v (hv : Below V3.heap.size V3 v) => show SegRow v (some ⟨g1, 0, none⟩) (⟨ty', fl', off', ad', sz', mem', al'⟩ :: l') ∧ Below w.heap.size w v ∧ v.cell? ⟨G, 0, none⟩ = some (.int .i64 kd) ∧ v.cell? ⟨G, 1, none⟩ = some (.int .i64 en) ∧ v.cell? ⟨G, 2, none⟩ = some (.slice (some ⟨g1, 0, none⟩) m cap1) from
        ⟨hrow.below hv, hS3.b.trans (hv.mono hS3.b.size), (hS3.x.below hv hS3.x.lt).at_ 0 _ rfl, (hS3.x.below hv hS3.x.lt).at_ 1 _ rfl, (hS3.x.below hv hS3.x.lt).at_ 2 _ rfl⟩)
      have hhd := fun v (hv : Below V3.heap.size V3 v) => header_any ⟨kd, en, ⟨ty', fl', off', ad', sz', mem', al'⟩ :: l'⟩ (some ⟨g1, 0, none⟩) cap1 v (HTT.out v (HTR.out v hv).2.1) hBk.kind hBk.entry (HTR.out v hv).1 (by show (_ :: l').length ≤ 1000; rw [hlm]; omega)
      have hck := fun v (hv : Below V3.heap.size V3 v) => echeck_any ⟨kd, en, ⟨ty', fl', off', ad', sz', mem', al'⟩ :: l'⟩ (some ⟨g1, 0, none⟩) cap1 size v (HTT.out v (HTR.out v hv).2.1) (HTR.out v hv).1 (by show (_ :: l').length ≤ 1000; rw [hlm]; omega) (i64_wf (by omega))
      rw [err_no hBk.no] at hck
      have hhl : (Img.headL ⟨kd, en, ⟨ty', fl', off', ad', sz', mem', al'⟩ :: l'⟩).length = 64 + 56 * m := by rw [headL_len]; show 64 + 56 * (_ :: l').length = _; rw [hlm]
      have hpar := fun F h2 h3 => brk_parse (F := F) hBk (by decide) (by omega) h2 h3
      try unfold Img.v at hck
      try unfold Img.v at hhd
      simp only [hlm] at hck hhd
      obtain ⟨hl, hhl2⟩ : ∃ h, Img.headL ⟨kd, en, ⟨ty', fl', off', ad', sz', mem', al'⟩ :: l'⟩ = h := ⟨_, rfl⟩
      rw [hhl2] at hhd hhl hpar
      have hF := fun w => rfill_any (mkb hl) size w (i64_wf (by omega)) (by rw [mkb_size]; omega) (by omega)
      have hFa := fun j (hj : j < hl.length) => fill_at (L := hl) (m := size) (j := j) hj (by omega)
      have hFs := fill_size (mkb hl) size
      obtain ⟨F, hFd⟩ : ∃ F, fillS (mkb hl) size = F := ⟨_, rfl⟩
      rw [hFd] at hF hFa hFs
      obtain ⟨H, hH⟩ : ∃ H, mkb hl = H := ⟨_, rfl⟩
      rw [hH] at hhd hF
      have hep := fun v (hv : Below V3.heap.size V3 v) => eparse_any F v (HTT.out v (HTR.out v hv).2.1) (by omega)
      have hE : parseE F = 16 := (hpar F hFs hFa).2
      obtain ⟨px, hpx⟩ : ∃ x, parseX F = x := ⟨_, rfl⟩
      obtain ⟨pe', hpe⟩ : ∃ x, parseE F = x := ⟨_, rfl⟩
      rw [hpx, hpe] at hep
      rw [hpe] at hE
      obtain ⟨pk1, pe1, pl1⟩ := px
      have HEP := Lib.hid (fun v (hv : Below V3.heap.size V3 v) => (hep v hv).mono (R' := fun e v' => ∃ D d, e = .returned (.tuple #[.agg #[.int .i64 pk1, .int .i64 pe1, .slice D pl1.length d], .int .i64 pe']) ∧ Below v.heap.size v v') (by
        rintro e v' ⟨D, d, rfl, -, -, hb⟩
        exact ⟨D, d, rfl, hb⟩))
      have HHD := Lib.hid hhd
      have HCK := Lib.hid hck
      have HF := Lib.hid hF
      have hq3 := Below.refl V3.heap.size V3
      obtain ⟨-, hbw, xx0, xx1, xx2⟩ := HTR.out _ hq3
      generalize pl1.length = pn1 at *
      clear hS hBk hcl hfz hS3 hrow hhd hck hF hFa hFs hFd hH hhl hhl2 hep hpx hpe hm hlm hmc hmx hpar
      subst hE
      go_wp2_with (first
        | (go_at_call 14; with_reducible refine (HHD.out _ hq3).mono ?_; rintro e v4 ⟨rfl, hb4⟩; have hq4 := hq3.trans (hb4.mono hq3.size); clear hb4)
        | (go_at_call 25; with_reducible refine (HF.out _).mono ?_; rintro e v5 ⟨rfl, hb5⟩; have hq5 := hq4.trans (hb5.mono hq4.size); clear hb5)
        | (go_at_call 19; with_reducible refine (HEP.out _ hq5).mono ?_; rintro e v6 ⟨D, d, rfl, hb6⟩
           have hq6 := (hq5.trans (hb6.mono hq5.size)).alloc (Nat.le_trans hq5.size hb6.size) (.cells #[.int .i64 pk1, .int .i64 pe1, .slice D pn1 d] 24)
           clear xx0 xx1 xx2 hbw hb6
           obtain ⟨-, hbw, xx0, xx1, xx2⟩ := HTR.out _ hq6)
        | (go_at_call 12; with_reducible refine (HCK.out _ hq6).mono ?_; rintro e v7 ⟨rfl, hb7⟩; have hq7 := hbw.trans (hb7.mono hbw.size); clear hb7))
      go_ret
      exact ⟨rfl, hq7⟩
    · -- 6
      have hAh := HAH.out
      obtain ⟨o2, ho2⟩ : ∃ z, off + 1 = z := ⟨_, rfl⟩
      have w2 : IntKind.i64.wrap (off + 1) = o2 := by rw [IntWalk.i64_in _ (by omega)]; exact ho2
      have hb := hAh.b6
      simp only at hb
      rw [ho2] at hb
      clear ho2
      obtain ⟨V01, hV01⟩ : ∃ V, V0.setCell ⟨T, 2, none⟩ (.int .i64 o2) = V := ⟨_, rfl⟩
      have hS1 := hS0.sett 2 (.int .i64 o2)
      rw [hV01] at hS1
      have y0 : V0.cell? ⟨T, 2, none⟩ = some (.int .i64 off) := hS0.t.at_ 2 _ rfl
      have f0 : V0.frozen? ⟨T, 2, none⟩ = false := hS0.t.frozen 2
      have zT2 : V0.cell? ⟨T, 2, none⟩ = some (.int .i64 off) := hS0.t.at_ 2 _ rfl
      have HEX := Lib.hid (show Ex w B0 G T 6 size V01 from ⟨kind, entry, ⟨ty, fl, o2, ad, sz, mem, al⟩, ⟨ty, fl, off, ad, sz, mem, al⟩, l, g, n, c, hS1, hb, HNL.out⟩)
      clear hS0 hAh hS1
      go_upto_region 6 with fail
      rw [HV0.out.1]
      try rw [HV0.out.2]
      clear c0 c1 c2 c3 c4 c5 c6 x2
      go_upto_region 33 with fail
      clear y0 f0 hV01 zT2
      obtain ⟨kd, en, ⟨ty', fl', off', ad', sz', mem', al'⟩, s1, l', g1, m, cap1, hS, hBk, hm⟩ := HEX.out
      clear HEX
      have hn1' := hBk.len
      simp only [List.length_cons] at hn1'
      obtain ⟨g2, cap2, hvv, -, -, -, hmc, hmx, hcl, hfz⟩ := own_there hS.o
      injection hvv with e1 e2 e3
      injection e1 with e1
      injection e1 with e1 _ _
      subst e1 e3
      have x0 : V01.cell? ⟨G, 0, none⟩ = some (.int .i64 kd) := hS.x.at_ 0 _ rfl
      have x1 : V01.cell? ⟨G, 1, none⟩ = some (.int .i64 en) := hS.x.at_ 1 _ rfl
      have x2 : V01.cell? ⟨G, 2, none⟩ = some (.slice (some ⟨g1, 0, none⟩) m cap1) := hS.x.at_ 2 _ rfl
      have t0 : V01.cell? ⟨T, 0, none⟩ = some (.int .i64 ty') := hS.t.at_ 0 _ rfl
      have t1 : V01.cell? ⟨T, 1, none⟩ = some (.int .i64 fl') := hS.t.at_ 1 _ rfl
      have t2 : V01.cell? ⟨T, 2, none⟩ = some (.int .i64 off') := hS.t.at_ 2 _ rfl
      have t3 : V01.cell? ⟨T, 3, none⟩ = some (.int .i64 ad') := hS.t.at_ 3 _ rfl
      have t4 : V01.cell? ⟨T, 4, none⟩ = some (.int .i64 sz') := hS.t.at_ 4 _ rfl
      have t5 : V01.cell? ⟨T, 5, none⟩ = some (.int .i64 mem') := hS.t.at_ 5 _ rfl
      have t6 : V01.cell? ⟨T, 6, none⟩ = some (.int .i64 al') := hS.t.at_ 6 _ rfl
      have c0 : V01.cell? ⟨g1, 0, none⟩ = some (.int .i64 s1.ty) := hcl 0 (by omega)
      have c1 : V01.cell? ⟨g1, 1, none⟩ = some (.int .i64 s1.fl) := hcl 1 (by omega)
      have c2 : V01.cell? ⟨g1, 2, none⟩ = some (.int .i64 s1.off) := hcl 2 (by omega)
      have c3 : V01.cell? ⟨g1, 3, none⟩ = some (.int .i64 s1.ad) := hcl 3 (by omega)
      have c4 : V01.cell? ⟨g1, 4, none⟩ = some (.int .i64 s1.sz) := hcl 4 (by omega)
      have c5 : V01.cell? ⟨g1, 5, none⟩ = some (.int .i64 s1.mem) := hcl 5 (by omega)
      have c6 : V01.cell? ⟨g1, 6, none⟩ = some (.int .i64 s1.al) := hcl 6 (by omega)
      have fz0 := hfz 0
      have fz1 := hfz 1
      have fz2 := hfz 2
      have fz3 := hfz 3
      have fz4 := hfz 4
      have fz5 := hfz 5
      have fz6 := hfz 6
      have hS3 := ((((((hS.setg 0 (.int .i64 ty')).setg 1 (.int .i64 fl')).setg 2 (.int .i64 off')).setg 3 (.int .i64 ad')).setg 4 (.int .i64 sz')).setg 5 (.int .i64 mem')).setg 6 (.int .i64 al')
      rw [segCells_all s1 ⟨ty', fl', off', ad', sz', mem', al'⟩ l'] at hS3
      obtain ⟨V3, hV3⟩ : ∃ V3, (((((((V01.setCell ⟨g1, 0, none⟩ (.int .i64 ty')).setCell ⟨g1, 1, none⟩ (.int .i64 fl')).setCell ⟨g1, 2, none⟩ (.int .i64 off')).setCell ⟨g1, 3, none⟩ (.int .i64 ad')).setCell ⟨g1, 4, none⟩ (.int .i64 sz')).setCell ⟨g1, 5, none⟩ (.int .i64 mem')).setCell ⟨g1, 6, none⟩ (.int .i64 al')) = V3 := ⟨_, rfl⟩
      rw [hV3] at hS3
      obtain ⟨A9, c9, hv9, hrow, -⟩ := SegRow.of_own hS3.o hBk.wf
      injection hv9 with e1 e2 e3
      subst e1 e3
      clear e2
      have hlm : ((⟨ty', fl', off', ad', sz', mem', al'⟩ : Seg) :: l').length = m := by rw [hm]; rfl
      have hm0 : (0 : Int) < (m : Int) := by omega
      have HTR := Lib.hid (fun v (hv : Below V3.heap.size V3 v) => show SegRow v (some ⟨g1, 0, none⟩) (⟨ty', fl', off', ad', sz', mem', al'⟩ :: l') ∧ Below w.heap.size w v ∧ v.cell? ⟨G, 0, none⟩ = some (.int .i64 kd) ∧ v.cell? ⟨G, 1, none⟩ = some (.int .i64 en) ∧ v.cell? ⟨G, 2, none⟩ = some (.slice (some ⟨g1, 0, none⟩) m cap1) from
        ⟨hrow.below hv, hS3.b.trans (hv.mono hS3.b.size), (hS3.x.below hv hS3.x.lt).at_ 0 _ rfl, (hS3.x.below hv hS3.x.lt).at_ 1 _ rfl, (hS3.x.below hv hS3.x.lt).at_ 2 _ rfl⟩)
      have hhd := fun v (hv : Below V3.heap.size V3 v) => header_any ⟨kd, en, ⟨ty', fl', off', ad', sz', mem', al'⟩ :: l'⟩ (some ⟨g1, 0, none⟩) cap1 v (HTT.out v (HTR.out v hv).2.1) hBk.kind hBk.entry (HTR.out v hv).1 (by show (_ :: l').length ≤ 1000; rw [hlm]; omega)
      have hck := fun v (hv : Below V3.heap.size V3 v) => echeck_any ⟨kd, en, ⟨ty', fl', off', ad', sz', mem', al'⟩ :: l'⟩ (some ⟨g1, 0, none⟩) cap1 size v (HTT.out v (HTR.out v hv).2.1) (HTR.out v hv).1 (by show (_ :: l').length ≤ 1000; rw [hlm]; omega) (i64_wf (by omega))
      rw [err_no hBk.no] at hck
      have hhl : (Img.headL ⟨kd, en, ⟨ty', fl', off', ad', sz', mem', al'⟩ :: l'⟩).length = 64 + 56 * m := by rw [headL_len]; show 64 + 56 * (_ :: l').length = _; rw [hlm]
      have hpar := fun F h2 h3 => brk_parse (F := F) hBk (by decide) (by omega) h2 h3
      try unfold Img.v at hck
      try unfold Img.v at hhd
      simp only [hlm] at hck hhd
      obtain ⟨hl, hhl2⟩ : ∃ h, Img.headL ⟨kd, en, ⟨ty', fl', off', ad', sz', mem', al'⟩ :: l'⟩ = h := ⟨_, rfl⟩
      rw [hhl2] at hhd hhl hpar
      have hF := fun w => rfill_any (mkb hl) size w (i64_wf (by omega)) (by rw [mkb_size]; omega) (by omega)
      have hFa := fun j (hj : j < hl.length) => fill_at (L := hl) (m := size) (j := j) hj (by omega)
      have hFs := fill_size (mkb hl) size
      obtain ⟨F, hFd⟩ : ∃ F, fillS (mkb hl) size = F := ⟨_, rfl⟩
      rw [hFd] at hF hFa hFs
      obtain ⟨H, hH⟩ : ∃ H, mkb hl = H := ⟨_, rfl⟩
      rw [hH] at hhd hF
      have hep := fun v (hv : Below V3.heap.size V3 v) => eparse_any F v (HTT.out v (HTR.out v hv).2.1) (by omega)
      have hE : parseE F = 16 := (hpar F hFs hFa).2
      obtain ⟨px, hpx⟩ : ∃ x, parseX F = x := ⟨_, rfl⟩
      obtain ⟨pe', hpe⟩ : ∃ x, parseE F = x := ⟨_, rfl⟩
      rw [hpx, hpe] at hep
      rw [hpe] at hE
      obtain ⟨pk1, pe1, pl1⟩ := px
      have HEP := Lib.hid (fun v (hv : Below V3.heap.size V3 v) => (hep v hv).mono (R' := fun e v' => ∃ D d, e = .returned (.tuple #[.agg #[.int .i64 pk1, .int .i64 pe1, .slice D pl1.length d], .int .i64 pe']) ∧ Below v.heap.size v v') (by
        rintro e v' ⟨D, d, rfl, -, -, hb⟩
        exact ⟨D, d, rfl, hb⟩))
      have HHD := Lib.hid hhd
      have HCK := Lib.hid hck
      have HF := Lib.hid hF
      have hq3 := Below.refl V3.heap.size V3
      obtain ⟨-, hbw, xx0, xx1, xx2⟩ := HTR.out _ hq3
      generalize pl1.length = pn1 at *
      clear hS hBk hcl hfz hS3 hrow hhd hck hF hFa hFs hFd hH hhl hhl2 hep hpx hpe hm hlm hmc hmx hpar
      subst hE
      go_wp2_with (first
        | (go_at_call 14; with_reducible refine (HHD.out _ hq3).mono ?_; rintro e v4 ⟨rfl, hb4⟩; have hq4 := hq3.trans (hb4.mono hq3.size); clear hb4)
        | (go_at_call 25; with_reducible refine (HF.out _).mono ?_; rintro e v5 ⟨rfl, hb5⟩; have hq5 := hq4.trans (hb5.mono hq4.size); clear hb5)
        | (go_at_call 19; with_reducible refine (HEP.out _ hq5).mono ?_; rintro e v6 ⟨D, d, rfl, hb6⟩
           have hq6 := (hq5.trans (hb6.mono hq5.size)).alloc (Nat.le_trans hq5.size hb6.size) (.cells #[.int .i64 pk1, .int .i64 pe1, .slice D pn1 d] 24)
           clear xx0 xx1 xx2 hbw hb6
           obtain ⟨-, hbw, xx0, xx1, xx2⟩ := HTR.out _ hq6)
        | (go_at_call 12; with_reducible refine (HCK.out _ hq6).mono ?_; rintro e v7 ⟨rfl, hb7⟩; have hq7 := hbw.trans (hb7.mono hbw.size); clear hb7))
      go_ret
      exact ⟨rfl, hq7⟩
    · -- 7
      have hAh := HAH.out
      obtain ⟨V01, hV01⟩ : ∃ V, V0.setCell ⟨T, 5, none⟩ (.int .i64 0) = V := ⟨_, rfl⟩
      have hS1 := hS0.sett 5 (.int .i64 0)
      rw [hV01] at hS1
      have y0 : V0.cell? ⟨T, 5, none⟩ = some (.int .i64 mem) := hS0.t.at_ 5 _ rfl
      have f0 : V0.frozen? ⟨T, 5, none⟩ = false := hS0.t.frozen 5
      obtain ⟨V02, hV02⟩ : ∃ V, V01.setCell ⟨T, 4, none⟩ (.int .i64 0) = V := ⟨_, rfl⟩
      have hS2 := hS1.sett 4 (.int .i64 0)
      rw [hV02] at hS2
      have y1 : V01.cell? ⟨T, 4, none⟩ = some (.int .i64 sz) := hS1.t.at_ 4 _ rfl
      have f1 : V01.frozen? ⟨T, 4, none⟩ = false := hS1.t.frozen 4
      have HEX := Lib.hid (show Ex w B0 G T 7 size V02 from ⟨kind, entry, ⟨ty, fl, off, ad, 0, 0, al⟩, ⟨ty, fl, off, ad, sz, mem, al⟩, l, g, n, c, hS2, hAh.b7, HNL.out⟩)
      clear hS0 hAh hS1 hS2
      go_upto_region 6 with fail
      rw [HV0.out.1]
      try rw [HV0.out.2]
      clear c0 c1 c2 c3 c4 c5 c6 x2
      go_upto_region 33 with fail
      clear y0 f0 hV01 y1 f1 hV02
      obtain ⟨kd, en, ⟨ty', fl', off', ad', sz', mem', al'⟩, s1, l', g1, m, cap1, hS, hBk, hm⟩ := HEX.out
      clear HEX
      have hn1' := hBk.len
      simp only [List.length_cons] at hn1'
      obtain ⟨g2, cap2, hvv, -, -, -, hmc, hmx, hcl, hfz⟩ := own_there hS.o
      injection hvv with e1 e2 e3
      injection e1 with e1
      injection e1 with e1 _ _
      subst e1 e3
      have x0 : V02.cell? ⟨G, 0, none⟩ = some (.int .i64 kd) := hS.x.at_ 0 _ rfl
      have x1 : V02.cell? ⟨G, 1, none⟩ = some (.int .i64 en) := hS.x.at_ 1 _ rfl
      have x2 : V02.cell? ⟨G, 2, none⟩ = some (.slice (some ⟨g1, 0, none⟩) m cap1) := hS.x.at_ 2 _ rfl
      have t0 : V02.cell? ⟨T, 0, none⟩ = some (.int .i64 ty') := hS.t.at_ 0 _ rfl
      have t1 : V02.cell? ⟨T, 1, none⟩ = some (.int .i64 fl') := hS.t.at_ 1 _ rfl
      have t2 : V02.cell? ⟨T, 2, none⟩ = some (.int .i64 off') := hS.t.at_ 2 _ rfl
      have t3 : V02.cell? ⟨T, 3, none⟩ = some (.int .i64 ad') := hS.t.at_ 3 _ rfl
      have t4 : V02.cell? ⟨T, 4, none⟩ = some (.int .i64 sz') := hS.t.at_ 4 _ rfl
      have t5 : V02.cell? ⟨T, 5, none⟩ = some (.int .i64 mem') := hS.t.at_ 5 _ rfl
      have t6 : V02.cell? ⟨T, 6, none⟩ = some (.int .i64 al') := hS.t.at_ 6 _ rfl
      have c0 : V02.cell? ⟨g1, 0, none⟩ = some (.int .i64 s1.ty) := hcl 0 (by omega)
      have c1 : V02.cell? ⟨g1, 1, none⟩ = some (.int .i64 s1.fl) := hcl 1 (by omega)
      have c2 : V02.cell? ⟨g1, 2, none⟩ = some (.int .i64 s1.off) := hcl 2 (by omega)
      have c3 : V02.cell? ⟨g1, 3, none⟩ = some (.int .i64 s1.ad) := hcl 3 (by omega)
      have c4 : V02.cell? ⟨g1, 4, none⟩ = some (.int .i64 s1.sz) := hcl 4 (by omega)
      have c5 : V02.cell? ⟨g1, 5, none⟩ = some (.int .i64 s1.mem) := hcl 5 (by omega)
      have c6 : V02.cell? ⟨g1, 6, none⟩ = some (.int .i64 s1.al) := hcl 6 (by omega)
      have fz0 := hfz 0
      have fz1 := hfz 1
      have fz2 := hfz 2
      have fz3 := hfz 3
      have fz4 := hfz 4
      have fz5 := hfz 5
      have fz6 := hfz 6
      have hS3 := ((((((hS.setg 0 (.int .i64 ty')).setg 1 (.int .i64 fl')).setg 2 (.int .i64 off')).setg 3 (.int .i64 ad')).setg 4 (.int .i64 sz')).setg 5 (.int .i64 mem')).setg 6 (.int .i64 al')
      rw [segCells_all s1 ⟨ty', fl', off', ad', sz', mem', al'⟩ l'] at hS3
      obtain ⟨V3, hV3⟩ : ∃ V3, (((((((V02.setCell ⟨g1, 0, none⟩ (.int .i64 ty')).setCell ⟨g1, 1, none⟩ (.int .i64 fl')).setCell ⟨g1, 2, none⟩ (.int .i64 off')).setCell ⟨g1, 3, none⟩ (.int .i64 ad')).setCell ⟨g1, 4, none⟩ (.int .i64 sz')).setCell ⟨g1, 5, none⟩ (.int .i64 mem')).setCell ⟨g1, 6, none⟩ (.int .i64 al')) = V3 := ⟨_, rfl⟩
      rw [hV3] at hS3
      obtain ⟨A9, c9, hv9, hrow, -⟩ := SegRow.of_own hS3.o hBk.wf
      injection hv9 with e1 e2 e3
      subst e1 e3
      clear e2
      have hlm : ((⟨ty', fl', off', ad', sz', mem', al'⟩ : Seg) :: l').length = m := by rw [hm]; rfl
      have hm0 : (0 : Int) < (m : Int) := by omega
      have HTR := Lib.hid (fun v (hv : Below V3.heap.size V3 v) => show SegRow v (some ⟨g1, 0, none⟩) (⟨ty', fl', off', ad', sz', mem', al'⟩ :: l') ∧ Below w.heap.size w v ∧ v.cell? ⟨G, 0, none⟩ = some (.int .i64 kd) ∧ v.cell? ⟨G, 1, none⟩ = some (.int .i64 en) ∧ v.cell? ⟨G, 2, none⟩ = some (.slice (some ⟨g1, 0, none⟩) m cap1) from
        ⟨hrow.below hv, hS3.b.trans (hv.mono hS3.b.size), (hS3.x.below hv hS3.x.lt).at_ 0 _ rfl, (hS3.x.below hv hS3.x.lt).at_ 1 _ rfl, (hS3.x.below hv hS3.x.lt).at_ 2 _ rfl⟩)
      have hhd := fun v (hv : Below V3.heap.size V3 v) => header_any ⟨kd, en, ⟨ty', fl', off', ad', sz', mem', al'⟩ :: l'⟩ (some ⟨g1, 0, none⟩) cap1 v (HTT.out v (HTR.out v hv).2.1) hBk.kind hBk.entry (HTR.out v hv).1 (by show (_ :: l').length ≤ 1000; rw [hlm]; omega)
      have hck := fun v (hv : Below V3.heap.size V3 v) => echeck_any ⟨kd, en, ⟨ty', fl', off', ad', sz', mem', al'⟩ :: l'⟩ (some ⟨g1, 0, none⟩) cap1 size v (HTT.out v (HTR.out v hv).2.1) (HTR.out v hv).1 (by show (_ :: l').length ≤ 1000; rw [hlm]; omega) (i64_wf (by omega))
      rw [err_no hBk.no] at hck
      have hhl : (Img.headL ⟨kd, en, ⟨ty', fl', off', ad', sz', mem', al'⟩ :: l'⟩).length = 64 + 56 * m := by rw [headL_len]; show 64 + 56 * (_ :: l').length = _; rw [hlm]
      have hpar := fun F h2 h3 => brk_parse (F := F) hBk (by decide) (by omega) h2 h3
      try unfold Img.v at hck
      try unfold Img.v at hhd
      simp only [hlm] at hck hhd
      obtain ⟨hl, hhl2⟩ : ∃ h, Img.headL ⟨kd, en, ⟨ty', fl', off', ad', sz', mem', al'⟩ :: l'⟩ = h := ⟨_, rfl⟩
      rw [hhl2] at hhd hhl hpar
      have hF := fun w => rfill_any (mkb hl) size w (i64_wf (by omega)) (by rw [mkb_size]; omega) (by omega)
      have hFa := fun j (hj : j < hl.length) => fill_at (L := hl) (m := size) (j := j) hj (by omega)
      have hFs := fill_size (mkb hl) size
      obtain ⟨F, hFd⟩ : ∃ F, fillS (mkb hl) size = F := ⟨_, rfl⟩
      rw [hFd] at hF hFa hFs
      obtain ⟨H, hH⟩ : ∃ H, mkb hl = H := ⟨_, rfl⟩
      rw [hH] at hhd hF
      have hep := fun v (hv : Below V3.heap.size V3 v) => eparse_any F v (HTT.out v (HTR.out v hv).2.1) (by omega)
      have hE : parseE F = 16 := (hpar F hFs hFa).2
      obtain ⟨px, hpx⟩ : ∃ x, parseX F = x := ⟨_, rfl⟩
      obtain ⟨pe', hpe⟩ : ∃ x, parseE F = x := ⟨_, rfl⟩
      rw [hpx, hpe] at hep
      rw [hpe] at hE
      obtain ⟨pk1, pe1, pl1⟩ := px
      have HEP := Lib.hid (fun v (hv : Below V3.heap.size V3 v) => (hep v hv).mono (R' := fun e v' => ∃ D d, e = .returned (.tuple #[.agg #[.int .i64 pk1, .int .i64 pe1, .slice D pl1.length d], .int .i64 pe']) ∧ Below v.heap.size v v') (by
        rintro e v' ⟨D, d, rfl, -, -, hb⟩
        exact ⟨D, d, rfl, hb⟩))
      have HHD := Lib.hid hhd
      have HCK := Lib.hid hck
      have HF := Lib.hid hF
      have hq3 := Below.refl V3.heap.size V3
      obtain ⟨-, hbw, xx0, xx1, xx2⟩ := HTR.out _ hq3
      generalize pl1.length = pn1 at *
      clear hS hBk hcl hfz hS3 hrow hhd hck hF hFa hFs hFd hH hhl hhl2 hep hpx hpe hm hlm hmc hmx hpar
      subst hE
      go_wp2_with (first
        | (go_at_call 14; with_reducible refine (HHD.out _ hq3).mono ?_; rintro e v4 ⟨rfl, hb4⟩; have hq4 := hq3.trans (hb4.mono hq3.size); clear hb4)
        | (go_at_call 25; with_reducible refine (HF.out _).mono ?_; rintro e v5 ⟨rfl, hb5⟩; have hq5 := hq4.trans (hb5.mono hq4.size); clear hb5)
        | (go_at_call 19; with_reducible refine (HEP.out _ hq5).mono ?_; rintro e v6 ⟨D, d, rfl, hb6⟩
           have hq6 := (hq5.trans (hb6.mono hq5.size)).alloc (Nat.le_trans hq5.size hb6.size) (.cells #[.int .i64 pk1, .int .i64 pe1, .slice D pn1 d] 24)
           clear xx0 xx1 xx2 hbw hb6
           obtain ⟨-, hbw, xx0, xx1, xx2⟩ := HTR.out _ hq6)
        | (go_at_call 12; with_reducible refine (HCK.out _ hq6).mono ?_; rintro e v7 ⟨rfl, hb7⟩; have hq7 := hbw.trans (hb7.mono hbw.size); clear hb7))
      go_ret
      exact ⟨rfl, hq7⟩
    · -- 8
      have hAh := HAH.out
      obtain ⟨V01, hV01⟩ : ∃ V, V0.setCell ⟨T, 0, none⟩ (.int .i64 7) = V := ⟨_, rfl⟩
      have hS1 := hS0.sett 0 (.int .i64 7)
      rw [hV01] at hS1
      have y0 : V0.cell? ⟨T, 0, none⟩ = some (.int .i64 ty) := hS0.t.at_ 0 _ rfl
      have f0 : V0.frozen? ⟨T, 0, none⟩ = false := hS0.t.frozen 0
      obtain ⟨V02, hV02⟩ : ∃ V, V01.setCell ⟨G, 2, none⟩ (.slice (some ⟨g, 0, none⟩) 1 c) = V := ⟨_, rfl⟩
      have hS2 := hS1.setx 2 (.slice (some ⟨g, 0, none⟩) 1 c)
      rw [hV02] at hS2
      have y1 : V01.cell? ⟨G, 2, none⟩ = some (.slice (some ⟨g, 0, none⟩) n c) := hS1.x.at_ 2 _ rfl
      have f1 : V01.frozen? ⟨G, 2, none⟩ = false := hS1.x.frozen 2
      have HEX := Lib.hid (show Ex w B0 G T 8 size V02 from ⟨kind, entry, ⟨7, fl, off, ad, sz, mem, al⟩, ⟨ty, fl, off, ad, sz, mem, al⟩, [], g, 1, c, hS2.one ⟨ty, fl, off, ad, sz, mem, al⟩ l rfl, hAh.b8, rfl⟩)
      clear hS0 hAh hS1 hS2
      go_upto_region 6 with fail
      rw [HV0.out.1]
      try rw [HV0.out.2]
      clear c0 c1 c2 c3 c4 c5 c6 x2
      go_upto_region 33 with fail
      clear y0 f0 hV01 y1 f1 hV02
      obtain ⟨kd, en, ⟨ty', fl', off', ad', sz', mem', al'⟩, s1, l', g1, m, cap1, hS, hBk, hm⟩ := HEX.out
      clear HEX
      have hn1' := hBk.len
      simp only [List.length_cons] at hn1'
      obtain ⟨g2, cap2, hvv, -, -, -, hmc, hmx, hcl, hfz⟩ := own_there hS.o
      injection hvv with e1 e2 e3
      injection e1 with e1
      injection e1 with e1 _ _
      subst e1 e3
      have x0 : V02.cell? ⟨G, 0, none⟩ = some (.int .i64 kd) := hS.x.at_ 0 _ rfl
      have x1 : V02.cell? ⟨G, 1, none⟩ = some (.int .i64 en) := hS.x.at_ 1 _ rfl
      have x2 : V02.cell? ⟨G, 2, none⟩ = some (.slice (some ⟨g1, 0, none⟩) m cap1) := hS.x.at_ 2 _ rfl
      have t0 : V02.cell? ⟨T, 0, none⟩ = some (.int .i64 ty') := hS.t.at_ 0 _ rfl
      have t1 : V02.cell? ⟨T, 1, none⟩ = some (.int .i64 fl') := hS.t.at_ 1 _ rfl
      have t2 : V02.cell? ⟨T, 2, none⟩ = some (.int .i64 off') := hS.t.at_ 2 _ rfl
      have t3 : V02.cell? ⟨T, 3, none⟩ = some (.int .i64 ad') := hS.t.at_ 3 _ rfl
      have t4 : V02.cell? ⟨T, 4, none⟩ = some (.int .i64 sz') := hS.t.at_ 4 _ rfl
      have t5 : V02.cell? ⟨T, 5, none⟩ = some (.int .i64 mem') := hS.t.at_ 5 _ rfl
      have t6 : V02.cell? ⟨T, 6, none⟩ = some (.int .i64 al') := hS.t.at_ 6 _ rfl
      have c0 : V02.cell? ⟨g1, 0, none⟩ = some (.int .i64 s1.ty) := hcl 0 (by omega)
      have c1 : V02.cell? ⟨g1, 1, none⟩ = some (.int .i64 s1.fl) := hcl 1 (by omega)
      have c2 : V02.cell? ⟨g1, 2, none⟩ = some (.int .i64 s1.off) := hcl 2 (by omega)
      have c3 : V02.cell? ⟨g1, 3, none⟩ = some (.int .i64 s1.ad) := hcl 3 (by omega)
      have c4 : V02.cell? ⟨g1, 4, none⟩ = some (.int .i64 s1.sz) := hcl 4 (by omega)
      have c5 : V02.cell? ⟨g1, 5, none⟩ = some (.int .i64 s1.mem) := hcl 5 (by omega)
      have c6 : V02.cell? ⟨g1, 6, none⟩ = some (.int .i64 s1.al) := hcl 6 (by omega)
      have fz0 := hfz 0
      have fz1 := hfz 1
      have fz2 := hfz 2
      have fz3 := hfz 3
      have fz4 := hfz 4
      have fz5 := hfz 5
      have fz6 := hfz 6
      have hS3 := ((((((hS.setg 0 (.int .i64 ty')).setg 1 (.int .i64 fl')).setg 2 (.int .i64 off')).setg 3 (.int .i64 ad')).setg 4 (.int .i64 sz')).setg 5 (.int .i64 mem')).setg 6 (.int .i64 al')
      rw [segCells_all s1 ⟨ty', fl', off', ad', sz', mem', al'⟩ l'] at hS3
      obtain ⟨V3, hV3⟩ : ∃ V3, (((((((V02.setCell ⟨g1, 0, none⟩ (.int .i64 ty')).setCell ⟨g1, 1, none⟩ (.int .i64 fl')).setCell ⟨g1, 2, none⟩ (.int .i64 off')).setCell ⟨g1, 3, none⟩ (.int .i64 ad')).setCell ⟨g1, 4, none⟩ (.int .i64 sz')).setCell ⟨g1, 5, none⟩ (.int .i64 mem')).setCell ⟨g1, 6, none⟩ (.int .i64 al')) = V3 := ⟨_, rfl⟩
      rw [hV3] at hS3
      obtain ⟨A9, c9, hv9, hrow, -⟩ := SegRow.of_own hS3.o hBk.wf
      injection hv9 with e1 e2 e3
      subst e1 e3
      clear e2
      have hlm : ((⟨ty', fl', off', ad', sz', mem', al'⟩ : Seg) :: l').length = m := by rw [hm]; rfl
      have hm0 : (0 : Int) < (m : Int) := by omega
      have HTR := Lib.hid (fun v (hv : Below V3.heap.size V3 v) => show SegRow v (some ⟨g1, 0, none⟩) (⟨ty', fl', off', ad', sz', mem', al'⟩ :: l') ∧ Below w.heap.size w v ∧ v.cell? ⟨G, 0, none⟩ = some (.int .i64 kd) ∧ v.cell? ⟨G, 1, none⟩ = some (.int .i64 en) ∧ v.cell? ⟨G, 2, none⟩ = some (.slice (some ⟨g1, 0, none⟩) m cap1) from
        ⟨hrow.below hv, hS3.b.trans (hv.mono hS3.b.size), (hS3.x.below hv hS3.x.lt).at_ 0 _ rfl, (hS3.x.below hv hS3.x.lt).at_ 1 _ rfl, (hS3.x.below hv hS3.x.lt).at_ 2 _ rfl⟩)
      have hhd := fun v (hv : Below V3.heap.size V3 v) => header_any ⟨kd, en, ⟨ty', fl', off', ad', sz', mem', al'⟩ :: l'⟩ (some ⟨g1, 0, none⟩) cap1 v (HTT.out v (HTR.out v hv).2.1) hBk.kind hBk.entry (HTR.out v hv).1 (by show (_ :: l').length ≤ 1000; rw [hlm]; omega)
      have hck := fun v (hv : Below V3.heap.size V3 v) => echeck_any ⟨kd, en, ⟨ty', fl', off', ad', sz', mem', al'⟩ :: l'⟩ (some ⟨g1, 0, none⟩) cap1 size v (HTT.out v (HTR.out v hv).2.1) (HTR.out v hv).1 (by show (_ :: l').length ≤ 1000; rw [hlm]; omega) (i64_wf (by omega))
      rw [err_no hBk.no] at hck
      have hhl : (Img.headL ⟨kd, en, ⟨ty', fl', off', ad', sz', mem', al'⟩ :: l'⟩).length = 64 + 56 * m := by rw [headL_len]; show 64 + 56 * (_ :: l').length = _; rw [hlm]
      have hpar := fun F h2 h3 => brk_parse (F := F) hBk (by decide) (by omega) h2 h3
      try unfold Img.v at hck
      try unfold Img.v at hhd
      simp only [hlm] at hck hhd
      obtain ⟨hl, hhl2⟩ : ∃ h, Img.headL ⟨kd, en, ⟨ty', fl', off', ad', sz', mem', al'⟩ :: l'⟩ = h := ⟨_, rfl⟩
      rw [hhl2] at hhd hhl hpar
      have hF := fun w => rfill_any (mkb hl) size w (i64_wf (by omega)) (by rw [mkb_size]; omega) (by omega)
      have hFa := fun j (hj : j < hl.length) => fill_at (L := hl) (m := size) (j := j) hj (by omega)
      have hFs := fill_size (mkb hl) size
      obtain ⟨F, hFd⟩ : ∃ F, fillS (mkb hl) size = F := ⟨_, rfl⟩
      rw [hFd] at hF hFa hFs
      obtain ⟨H, hH⟩ : ∃ H, mkb hl = H := ⟨_, rfl⟩
      rw [hH] at hhd hF
      have hep := fun v (hv : Below V3.heap.size V3 v) => eparse_any F v (HTT.out v (HTR.out v hv).2.1) (by omega)
      have hE : parseE F = 16 := (hpar F hFs hFa).2
      obtain ⟨px, hpx⟩ : ∃ x, parseX F = x := ⟨_, rfl⟩
      obtain ⟨pe', hpe⟩ : ∃ x, parseE F = x := ⟨_, rfl⟩
      rw [hpx, hpe] at hep
      rw [hpe] at hE
      obtain ⟨pk1, pe1, pl1⟩ := px
      have HEP := Lib.hid (fun v (hv : Below V3.heap.size V3 v) => (hep v hv).mono (R' := fun e v' => ∃ D d, e = .returned (.tuple #[.agg #[.int .i64 pk1, .int .i64 pe1, .slice D pl1.length d], .int .i64 pe']) ∧ Below v.heap.size v v') (by
        rintro e v' ⟨D, d, rfl, -, -, hb⟩
        exact ⟨D, d, rfl, hb⟩))
      have HHD := Lib.hid hhd
      have HCK := Lib.hid hck
      have HF := Lib.hid hF
      have hq3 := Below.refl V3.heap.size V3
      obtain ⟨-, hbw, xx0, xx1, xx2⟩ := HTR.out _ hq3
      generalize pl1.length = pn1 at *
      clear hS hBk hcl hfz hS3 hrow hhd hck hF hFa hFs hFd hH hhl hhl2 hep hpx hpe hm hlm hmc hmx hpar
      subst hE
      go_wp2_with (first
        | (go_at_call 14; with_reducible refine (HHD.out _ hq3).mono ?_; rintro e v4 ⟨rfl, hb4⟩; have hq4 := hq3.trans (hb4.mono hq3.size); clear hb4)
        | (go_at_call 25; with_reducible refine (HF.out _).mono ?_; rintro e v5 ⟨rfl, hb5⟩; have hq5 := hq4.trans (hb5.mono hq4.size); clear hb5)
        | (go_at_call 19; with_reducible refine (HEP.out _ hq5).mono ?_; rintro e v6 ⟨D, d, rfl, hb6⟩
           have hq6 := (hq5.trans (hb6.mono hq5.size)).alloc (Nat.le_trans hq5.size hb6.size) (.cells #[.int .i64 pk1, .int .i64 pe1, .slice D pn1 d] 24)
           clear xx0 xx1 xx2 hbw hb6
           obtain ⟨-, hbw, xx0, xx1, xx2⟩ := HTR.out _ hq6)
        | (go_at_call 12; with_reducible refine (HCK.out _ hq6).mono ?_; rintro e v7 ⟨rfl, hb7⟩; have hq7 := hbw.trans (hb7.mono hbw.size); clear hb7))
      go_ret
      exact ⟨rfl, hq7⟩
    · -- 9
      have hAh := HAH.out
      have z2 : V0.cell? ⟨G, 2, none⟩ = some (.slice (some ⟨g, 0, none⟩) n c) := hS0.x.at_ 2 _ rfl
      have t0 : V0.cell? ⟨T, 0, none⟩ = some (.int .i64 ty) := hS0.t.at_ 0 _ rfl
      have t1 : V0.cell? ⟨T, 1, none⟩ = some (.int .i64 fl) := hS0.t.at_ 1 _ rfl
      have t2 : V0.cell? ⟨T, 2, none⟩ = some (.int .i64 off) := hS0.t.at_ 2 _ rfl
      have t3 : V0.cell? ⟨T, 3, none⟩ = some (.int .i64 ad) := hS0.t.at_ 3 _ rfl
      have t4 : V0.cell? ⟨T, 4, none⟩ = some (.int .i64 sz) := hS0.t.at_ 4 _ rfl
      have t5 : V0.cell? ⟨T, 5, none⟩ = some (.int .i64 mem) := hS0.t.at_ 5 _ rfl
      have t6 : V0.cell? ⟨T, 6, none⟩ = some (.int .i64 al) := hS0.t.at_ 6 _ rfl
      have HS0 := Lib.hid hS0
      clear hS0
      obtain ⟨i0, hi, hz0, hz1, hz2⟩ := info_parts infoSeg
      go_upto_region 6 with fail
      rw [HV0.out.1]
      try rw [HV0.out.2]
      clear c0 c1 c2 c3 c4 c5 c6 x2
      go_wp2_with (at_builtin; refine Hid.out ?_)
      refine Lib.hid ?_
      refine wpList_append_own _ rfl _ _ 22 rfl B0 47 i0 _ 7 56 Tryd.underlying22 hi hz0 hz1 hz2 rfl (by decide) _ _ _ rfl (HS0.out.o.alloc _) ⟨V0.heap.size, 0, none⟩ 1 1 [.int .i64 ty, .int .i64 fl, .int .i64 off, .int .i64 ad, .int .i64 sz, .int .i64 mem, .int .i64 al] rfl (by rfl) (fun j u hj => by rw [show (⟨V0.heap.size, 0, none⟩ : Addr).add j = ⟨V0.heap.size, j, none⟩ by unfold Addr.add; split <;> simp_all]; exact (Blk.new V0 _ _).at_ j u (by simpa using hj)) (fun u hu => by simp at hu; rcases hu with rfl | rfl | rfl | rfl | rfl | rfl | rfl <;> rfl) (by unfold maxLen; omega) (by omega) (by have h1 := HS0.out.x.lt; have h2 := HS0.out.d; have h3 := (HS0.out.o.lt g rfl); simp; omega) ?_
      intro v' w1 hown1 hgrow1 _
      have hd := HS0.out.d
      have hgo : ∀ j, (Value.slice (some ⟨g, 0, none⟩) n c).ownBlock = some j → j = g := fun j e => by simp [Value.ownBlock] at e; exact e.symm
      have hwn : w1.ownsRow B0 47 7 v' (n + 1) (segCells (⟨ty, fl, off, ad, sz, mem, al⟩ :: (l ++ [⟨ty, fl, off, ad, sz, mem, al⟩]))) := by
        have e : segCells ((⟨ty, fl, off, ad, sz, mem, al⟩ : Seg) :: (l ++ [⟨ty, fl, off, ad, sz, mem, al⟩])) = segCells (⟨ty, fl, off, ad, sz, mem, al⟩ :: l) ++ [.int .i64 ty, .int .i64 fl, .int .i64 off, .int .i64 ad, .int .i64 sz, .int .i64 mem, .int .i64 al] := segCells_snoc (⟨ty, fl, off, ad, sz, mem, al⟩ :: l) ⟨ty, fl, off, ad, sz, mem, al⟩
        rw [e]
        exact hown1
      have hx1 := (HS0.out.x.alloc (.cells #[.int .i64 ty, .int .i64 fl, .int .i64 off, .int .i64 ad, .int .i64 sz, .int .i64 mem, .int .i64 al] 47)).grown hgrow1 (fun e => by have := hgo _ e.symm; omega)
      have ht1 := (HS0.out.t.alloc (.cells #[.int .i64 ty, .int .i64 fl, .int .i64 off, .int .i64 ad, .int .i64 sz, .int .i64 mem, .int .i64 al] 47)).grown hgrow1 (fun e => by have := hgo _ e.symm; omega)
      have hb1 := (HS0.out.b.alloc HS0.out.b.size (.cells #[.int .i64 ty, .int .i64 fl, .int .i64 off, .int .i64 ad, .int .i64 sz, .int .i64 mem, .int .i64 al] 47)).grown hgrow1 (by have := HS0.out.b.size; simp; omega) (fun k e => by have := hgo _ e; omega)
      obtain ⟨g', cap', rfl, hBg', -, hn', hkc', hcm', -, -⟩ := own_there hwn
      have hgG' : g' ≠ G := by
        rintro rfl
        rcases hwn.2 with ⟨h0, _⟩ | ⟨g2, c2, cur, hv, _, hg, _⟩
        · cases h0
        · injection hv with e1 e2 e3
          injection e1 with e1
          injection e1 with e1 _ _
          subst e1
          have h9 := hx1.symm.trans hg
          injection h9 with h9
          injection h9 with _ h9 _
          exact absurd h9 (by decide)
      have hgT' : g' ≠ T := by
        rintro rfl
        rcases hwn.2 with ⟨h0, _⟩ | ⟨g2, c2, cur, hv, _, hg, h1', _, h3', _⟩
        · cases h0
        · injection hv with e1 e2 e3
          injection e1 with e1
          injection e1 with e1 _ _
          subst e1 e3
          have h9 := ht1.symm.trans hg
          injection h9 with h9
          injection h9 with h9 _ _
          rw [← h9] at h3'
          simp at h3'
          omega
      have hS1 : St w B0 G T g' (n + 1) cap' #[.int .i64 kind, .int .i64 entry, .slice (some ⟨g, 0, none⟩) n c] #[.int .i64 ty, .int .i64 fl, .int .i64 off, .int .i64 ad, .int .i64 sz, .int .i64 mem, .int .i64 al] (segCells (⟨ty, fl, off, ad, sz, mem, al⟩ :: (l ++ [⟨ty, fl, off, ad, sz, mem, al⟩]))) w1 := ⟨hx1, ht1, hwn, hb1, by omega⟩
      have hS2 := hS1.setx 2 (.slice (some ⟨g', 0, none⟩) (n + 1) cap')
      have q2 : w1.cell? ⟨G, 2, none⟩ = some (.slice (some ⟨g, 0, none⟩) n c) := hx1.at_ 2 _ rfl
      have f2 : w1.frozen? ⟨G, 2, none⟩ = false := hx1.frozen 2
      obtain ⟨V2, hV2⟩ : ∃ V, w1.setCell ⟨G, 2, none⟩ (.slice (some ⟨g', 0, none⟩) (n + 1) cap') = V := ⟨_, rfl⟩
      rw [hV2] at hS2
      have HEX := Lib.hid (show Ex w B0 G T 9 size V2 from ⟨kind, entry, ⟨ty, fl, off, ad, sz, mem, al⟩, ⟨ty, fl, off, ad, sz, mem, al⟩, l ++ [(⟨ty, fl, off, ad, sz, mem, al⟩ : Seg)], g', n + 1, cap', hS2, hAh.b9, by have := HNL.out; simp; omega⟩)
      clear hown1 hgrow1 hwn hx1 ht1 hb1 hgG' hgT' hS1 hS2 hAh t0 t1 t2 t3 t4 t5 t6 z2 hBg' hn' hkc' hcm' hd HS0
      go_upto_region 33 with fail
      clear q2 f2 hV2
      obtain ⟨kd, en, ⟨ty', fl', off', ad', sz', mem', al'⟩, s1, l', g1, m, cap1, hS, hBk, hm⟩ := HEX.out
      clear HEX
      have hn1' := hBk.len
      simp only [List.length_cons] at hn1'
      obtain ⟨g2, cap2, hvv, -, -, -, hmc, hmx, hcl, hfz⟩ := own_there hS.o
      injection hvv with e1 e2 e3
      injection e1 with e1
      injection e1 with e1 _ _
      subst e1 e3
      have x0 : V2.cell? ⟨G, 0, none⟩ = some (.int .i64 kd) := hS.x.at_ 0 _ rfl
      have x1 : V2.cell? ⟨G, 1, none⟩ = some (.int .i64 en) := hS.x.at_ 1 _ rfl
      have x2 : V2.cell? ⟨G, 2, none⟩ = some (.slice (some ⟨g1, 0, none⟩) m cap1) := hS.x.at_ 2 _ rfl
      have t0 : V2.cell? ⟨T, 0, none⟩ = some (.int .i64 ty') := hS.t.at_ 0 _ rfl
      have t1 : V2.cell? ⟨T, 1, none⟩ = some (.int .i64 fl') := hS.t.at_ 1 _ rfl
      have t2 : V2.cell? ⟨T, 2, none⟩ = some (.int .i64 off') := hS.t.at_ 2 _ rfl
      have t3 : V2.cell? ⟨T, 3, none⟩ = some (.int .i64 ad') := hS.t.at_ 3 _ rfl
      have t4 : V2.cell? ⟨T, 4, none⟩ = some (.int .i64 sz') := hS.t.at_ 4 _ rfl
      have t5 : V2.cell? ⟨T, 5, none⟩ = some (.int .i64 mem') := hS.t.at_ 5 _ rfl
      have t6 : V2.cell? ⟨T, 6, none⟩ = some (.int .i64 al') := hS.t.at_ 6 _ rfl
      have c0 : V2.cell? ⟨g1, 0, none⟩ = some (.int .i64 s1.ty) := hcl 0 (by omega)
      have c1 : V2.cell? ⟨g1, 1, none⟩ = some (.int .i64 s1.fl) := hcl 1 (by omega)
      have c2 : V2.cell? ⟨g1, 2, none⟩ = some (.int .i64 s1.off) := hcl 2 (by omega)
      have c3 : V2.cell? ⟨g1, 3, none⟩ = some (.int .i64 s1.ad) := hcl 3 (by omega)
      have c4 : V2.cell? ⟨g1, 4, none⟩ = some (.int .i64 s1.sz) := hcl 4 (by omega)
      have c5 : V2.cell? ⟨g1, 5, none⟩ = some (.int .i64 s1.mem) := hcl 5 (by omega)
      have c6 : V2.cell? ⟨g1, 6, none⟩ = some (.int .i64 s1.al) := hcl 6 (by omega)
      have fz0 := hfz 0
      have fz1 := hfz 1
      have fz2 := hfz 2
      have fz3 := hfz 3
      have fz4 := hfz 4
      have fz5 := hfz 5
      have fz6 := hfz 6
      have hS3 := ((((((hS.setg 0 (.int .i64 ty')).setg 1 (.int .i64 fl')).setg 2 (.int .i64 off')).setg 3 (.int .i64 ad')).setg 4 (.int .i64 sz')).setg 5 (.int .i64 mem')).setg 6 (.int .i64 al')
      rw [segCells_all s1 ⟨ty', fl', off', ad', sz', mem', al'⟩ l'] at hS3
      obtain ⟨V3, hV3⟩ : ∃ V3, (((((((V2.setCell ⟨g1, 0, none⟩ (.int .i64 ty')).setCell ⟨g1, 1, none⟩ (.int .i64 fl')).setCell ⟨g1, 2, none⟩ (.int .i64 off')).setCell ⟨g1, 3, none⟩ (.int .i64 ad')).setCell ⟨g1, 4, none⟩ (.int .i64 sz')).setCell ⟨g1, 5, none⟩ (.int .i64 mem')).setCell ⟨g1, 6, none⟩ (.int .i64 al')) = V3 := ⟨_, rfl⟩
      rw [hV3] at hS3
      obtain ⟨A9, c9, hv9, hrow, -⟩ := SegRow.of_own hS3.o hBk.wf
      injection hv9 with e1 e2 e3
      subst e1 e3
      clear e2
      have hlm : ((⟨ty', fl', off', ad', sz', mem', al'⟩ : Seg) :: l').length = m := by rw [hm]; rfl
      have hm0 : (0 : Int) < (m : Int) := by omega
      have HTR := Lib.hid (fun v (hv : Below V3.heap.size V3 v) => show SegRow v (some ⟨g1, 0, none⟩) (⟨ty', fl', off', ad', sz', mem', al'⟩ :: l') ∧ Below w.heap.size w v ∧ v.cell? ⟨G, 0, none⟩ = some (.int .i64 kd) ∧ v.cell? ⟨G, 1, none⟩ = some (.int .i64 en) ∧ v.cell? ⟨G, 2, none⟩ = some (.slice (some ⟨g1, 0, none⟩) m cap1) from
        ⟨hrow.below hv, hS3.b.trans (hv.mono hS3.b.size), (hS3.x.below hv hS3.x.lt).at_ 0 _ rfl, (hS3.x.below hv hS3.x.lt).at_ 1 _ rfl, (hS3.x.below hv hS3.x.lt).at_ 2 _ rfl⟩)
      have hhd := fun v (hv : Below V3.heap.size V3 v) => header_any ⟨kd, en, ⟨ty', fl', off', ad', sz', mem', al'⟩ :: l'⟩ (some ⟨g1, 0, none⟩) cap1 v (HTT.out v (HTR.out v hv).2.1) hBk.kind hBk.entry (HTR.out v hv).1 (by show (_ :: l').length ≤ 1000; rw [hlm]; omega)
      have hck := fun v (hv : Below V3.heap.size V3 v) => echeck_any ⟨kd, en, ⟨ty', fl', off', ad', sz', mem', al'⟩ :: l'⟩ (some ⟨g1, 0, none⟩) cap1 size v (HTT.out v (HTR.out v hv).2.1) (HTR.out v hv).1 (by show (_ :: l').length ≤ 1000; rw [hlm]; omega) (i64_wf (by omega))
      rw [err_no hBk.no] at hck
      have hhl : (Img.headL ⟨kd, en, ⟨ty', fl', off', ad', sz', mem', al'⟩ :: l'⟩).length = 64 + 56 * m := by rw [headL_len]; show 64 + 56 * (_ :: l').length = _; rw [hlm]
      have hpar := fun F h2 h3 => brk_parse (F := F) hBk (by decide) (by omega) h2 h3
      try unfold Img.v at hck
      try unfold Img.v at hhd
      simp only [hlm] at hck hhd
      obtain ⟨hl, hhl2⟩ : ∃ h, Img.headL ⟨kd, en, ⟨ty', fl', off', ad', sz', mem', al'⟩ :: l'⟩ = h := ⟨_, rfl⟩
      rw [hhl2] at hhd hhl hpar
      have hF := fun w => rfill_any (mkb hl) size w (i64_wf (by omega)) (by rw [mkb_size]; omega) (by omega)
      have hFa := fun j (hj : j < hl.length) => fill_at (L := hl) (m := size) (j := j) hj (by omega)
      have hFs := fill_size (mkb hl) size
      obtain ⟨F, hFd⟩ : ∃ F, fillS (mkb hl) size = F := ⟨_, rfl⟩
      rw [hFd] at hF hFa hFs
      obtain ⟨H, hH⟩ : ∃ H, mkb hl = H := ⟨_, rfl⟩
      rw [hH] at hhd hF
      have hep := fun v (hv : Below V3.heap.size V3 v) => eparse_any F v (HTT.out v (HTR.out v hv).2.1) (by omega)
      have hE : parseE F = 16 := (hpar F hFs hFa).2
      obtain ⟨px, hpx⟩ : ∃ x, parseX F = x := ⟨_, rfl⟩
      obtain ⟨pe', hpe⟩ : ∃ x, parseE F = x := ⟨_, rfl⟩
      rw [hpx, hpe] at hep
      rw [hpe] at hE
      obtain ⟨pk1, pe1, pl1⟩ := px
      have HEP := Lib.hid (fun v (hv : Below V3.heap.size V3 v) => (hep v hv).mono (R' := fun e v' => ∃ D d, e = .returned (.tuple #[.agg #[.int .i64 pk1, .int .i64 pe1, .slice D pl1.length d], .int .i64 pe']) ∧ Below v.heap.size v v') (by
        rintro e v' ⟨D, d, rfl, -, -, hb⟩
        exact ⟨D, d, rfl, hb⟩))
      have HHD := Lib.hid hhd
      have HCK := Lib.hid hck
      have HF := Lib.hid hF
      have hq3 := Below.refl V3.heap.size V3
      obtain ⟨-, hbw, xx0, xx1, xx2⟩ := HTR.out _ hq3
      generalize pl1.length = pn1 at *
      clear hS hBk hcl hfz hS3 hrow hhd hck hF hFa hFs hFd hH hhl hhl2 hep hpx hpe hm hlm hmc hmx hpar
      subst hE
      go_wp2_with (first
        | (go_at_call 14; with_reducible refine (HHD.out _ hq3).mono ?_; rintro e v4 ⟨rfl, hb4⟩; have hq4 := hq3.trans (hb4.mono hq3.size); clear hb4)
        | (go_at_call 25; with_reducible refine (HF.out _).mono ?_; rintro e v5 ⟨rfl, hb5⟩; have hq5 := hq4.trans (hb5.mono hq4.size); clear hb5)
        | (go_at_call 19; with_reducible refine (HEP.out _ hq5).mono ?_; rintro e v6 ⟨D, d, rfl, hb6⟩
           have hq6 := (hq5.trans (hb6.mono hq5.size)).alloc (Nat.le_trans hq5.size hb6.size) (.cells #[.int .i64 pk1, .int .i64 pe1, .slice D pn1 d] 24)
           clear xx0 xx1 xx2 hbw hb6
           obtain ⟨-, hbw, xx0, xx1, xx2⟩ := HTR.out _ hq6)
        | (go_at_call 12; with_reducible refine (HCK.out _ hq6).mono ?_; rintro e v7 ⟨rfl, hb7⟩; have hq7 := hbw.trans (hb7.mono hbw.size); clear hb7))
      go_ret
      exact ⟨rfl, hq7⟩
    · -- 10
      have hAh := HAH.out
      obtain ⟨V01, hV01⟩ : ∃ V, V0.setCell ⟨G, 1, none⟩ (.int .i64 524288) = V := ⟨_, rfl⟩
      have hS1 := hS0.setx 1 (.int .i64 524288)
      rw [hV01] at hS1
      have y0 : V0.cell? ⟨G, 1, none⟩ = some (.int .i64 entry) := hS0.x.at_ 1 _ rfl
      have f0 : V0.frozen? ⟨G, 1, none⟩ = false := hS0.x.frozen 1
      have HEX := Lib.hid (show Ex w B0 G T 10 size V01 from ⟨kind, 524288, ⟨ty, fl, off, ad, sz, mem, al⟩, ⟨ty, fl, off, ad, sz, mem, al⟩, l, g, n, c, hS1, hAh.b10, HNL.out⟩)
      clear hS0 hAh hS1
      go_upto_region 6 with fail
      rw [HV0.out.1]
      try rw [HV0.out.2]
      clear c0 c1 c2 c3 c4 c5 c6 x2
      go_upto_region 33 with fail
      clear y0 f0 hV01
      obtain ⟨kd, en, ⟨ty', fl', off', ad', sz', mem', al'⟩, s1, l', g1, m, cap1, hS, hBk, hm⟩ := HEX.out
      clear HEX
      have hn1' := hBk.len
      simp only [List.length_cons] at hn1'
      obtain ⟨g2, cap2, hvv, -, -, -, hmc, hmx, hcl, hfz⟩ := own_there hS.o
      injection hvv with e1 e2 e3
      injection e1 with e1
      injection e1 with e1 _ _
      subst e1 e3
      have x0 : V01.cell? ⟨G, 0, none⟩ = some (.int .i64 kd) := hS.x.at_ 0 _ rfl
      have x1 : V01.cell? ⟨G, 1, none⟩ = some (.int .i64 en) := hS.x.at_ 1 _ rfl
      have x2 : V01.cell? ⟨G, 2, none⟩ = some (.slice (some ⟨g1, 0, none⟩) m cap1) := hS.x.at_ 2 _ rfl
      have t0 : V01.cell? ⟨T, 0, none⟩ = some (.int .i64 ty') := hS.t.at_ 0 _ rfl
      have t1 : V01.cell? ⟨T, 1, none⟩ = some (.int .i64 fl') := hS.t.at_ 1 _ rfl
      have t2 : V01.cell? ⟨T, 2, none⟩ = some (.int .i64 off') := hS.t.at_ 2 _ rfl
      have t3 : V01.cell? ⟨T, 3, none⟩ = some (.int .i64 ad') := hS.t.at_ 3 _ rfl
      have t4 : V01.cell? ⟨T, 4, none⟩ = some (.int .i64 sz') := hS.t.at_ 4 _ rfl
      have t5 : V01.cell? ⟨T, 5, none⟩ = some (.int .i64 mem') := hS.t.at_ 5 _ rfl
      have t6 : V01.cell? ⟨T, 6, none⟩ = some (.int .i64 al') := hS.t.at_ 6 _ rfl
      have c0 : V01.cell? ⟨g1, 0, none⟩ = some (.int .i64 s1.ty) := hcl 0 (by omega)
      have c1 : V01.cell? ⟨g1, 1, none⟩ = some (.int .i64 s1.fl) := hcl 1 (by omega)
      have c2 : V01.cell? ⟨g1, 2, none⟩ = some (.int .i64 s1.off) := hcl 2 (by omega)
      have c3 : V01.cell? ⟨g1, 3, none⟩ = some (.int .i64 s1.ad) := hcl 3 (by omega)
      have c4 : V01.cell? ⟨g1, 4, none⟩ = some (.int .i64 s1.sz) := hcl 4 (by omega)
      have c5 : V01.cell? ⟨g1, 5, none⟩ = some (.int .i64 s1.mem) := hcl 5 (by omega)
      have c6 : V01.cell? ⟨g1, 6, none⟩ = some (.int .i64 s1.al) := hcl 6 (by omega)
      have fz0 := hfz 0
      have fz1 := hfz 1
      have fz2 := hfz 2
      have fz3 := hfz 3
      have fz4 := hfz 4
      have fz5 := hfz 5
      have fz6 := hfz 6
      have hS3 := ((((((hS.setg 0 (.int .i64 ty')).setg 1 (.int .i64 fl')).setg 2 (.int .i64 off')).setg 3 (.int .i64 ad')).setg 4 (.int .i64 sz')).setg 5 (.int .i64 mem')).setg 6 (.int .i64 al')
      rw [segCells_all s1 ⟨ty', fl', off', ad', sz', mem', al'⟩ l'] at hS3
      obtain ⟨V3, hV3⟩ : ∃ V3, (((((((V01.setCell ⟨g1, 0, none⟩ (.int .i64 ty')).setCell ⟨g1, 1, none⟩ (.int .i64 fl')).setCell ⟨g1, 2, none⟩ (.int .i64 off')).setCell ⟨g1, 3, none⟩ (.int .i64 ad')).setCell ⟨g1, 4, none⟩ (.int .i64 sz')).setCell ⟨g1, 5, none⟩ (.int .i64 mem')).setCell ⟨g1, 6, none⟩ (.int .i64 al')) = V3 := ⟨_, rfl⟩
      rw [hV3] at hS3
      obtain ⟨A9, c9, hv9, hrow, -⟩ := SegRow.of_own hS3.o hBk.wf
      injection hv9 with e1 e2 e3
      subst e1 e3
      clear e2
      have hlm : ((⟨ty', fl', off', ad', sz', mem', al'⟩ : Seg) :: l').length = m := by rw [hm]; rfl
      have hm0 : (0 : Int) < (m : Int) := by omega
      have HTR := Lib.hid (fun v (hv : Below V3.heap.size V3 v) => show SegRow v (some ⟨g1, 0, none⟩) (⟨ty', fl', off', ad', sz', mem', al'⟩ :: l') ∧ Below w.heap.size w v ∧ v.cell? ⟨G, 0, none⟩ = some (.int .i64 kd) ∧ v.cell? ⟨G, 1, none⟩ = some (.int .i64 en) ∧ v.cell? ⟨G, 2, none⟩ = some (.slice (some ⟨g1, 0, none⟩) m cap1) from
        ⟨hrow.below hv, hS3.b.trans (hv.mono hS3.b.size), (hS3.x.below hv hS3.x.lt).at_ 0 _ rfl, (hS3.x.below hv hS3.x.lt).at_ 1 _ rfl, (hS3.x.below hv hS3.x.lt).at_ 2 _ rfl⟩)
      have hhd := fun v (hv : Below V3.heap.size V3 v) => header_any ⟨kd, en, ⟨ty', fl', off', ad', sz', mem', al'⟩ :: l'⟩ (some ⟨g1, 0, none⟩) cap1 v (HTT.out v (HTR.out v hv).2.1) hBk.kind hBk.entry (HTR.out v hv).1 (by show (_ :: l').length ≤ 1000; rw [hlm]; omega)
      have hck := fun v (hv : Below V3.heap.size V3 v) => echeck_any ⟨kd, en, ⟨ty', fl', off', ad', sz', mem', al'⟩ :: l'⟩ (some ⟨g1, 0, none⟩) cap1 size v (HTT.out v (HTR.out v hv).2.1) (HTR.out v hv).1 (by show (_ :: l').length ≤ 1000; rw [hlm]; omega) (i64_wf (by omega))
      rw [err_no hBk.no] at hck
      have hhl : (Img.headL ⟨kd, en, ⟨ty', fl', off', ad', sz', mem', al'⟩ :: l'⟩).length = 64 + 56 * m := by rw [headL_len]; show 64 + 56 * (_ :: l').length = _; rw [hlm]
      have hpar := fun F h2 h3 => brk_parse (F := F) hBk (by decide) (by omega) h2 h3
      try unfold Img.v at hck
      try unfold Img.v at hhd
      simp only [hlm] at hck hhd
      obtain ⟨hl, hhl2⟩ : ∃ h, Img.headL ⟨kd, en, ⟨ty', fl', off', ad', sz', mem', al'⟩ :: l'⟩ = h := ⟨_, rfl⟩
      rw [hhl2] at hhd hhl hpar
      have hF := fun w => rfill_any (mkb hl) size w (i64_wf (by omega)) (by rw [mkb_size]; omega) (by omega)
      have hFa := fun j (hj : j < hl.length) => fill_at (L := hl) (m := size) (j := j) hj (by omega)
      have hFs := fill_size (mkb hl) size
      obtain ⟨F, hFd⟩ : ∃ F, fillS (mkb hl) size = F := ⟨_, rfl⟩
      rw [hFd] at hF hFa hFs
      obtain ⟨H, hH⟩ : ∃ H, mkb hl = H := ⟨_, rfl⟩
      rw [hH] at hhd hF
      have hep := fun v (hv : Below V3.heap.size V3 v) => eparse_any F v (HTT.out v (HTR.out v hv).2.1) (by omega)
      have hE : parseE F = 16 := (hpar F hFs hFa).2
      obtain ⟨px, hpx⟩ : ∃ x, parseX F = x := ⟨_, rfl⟩
      obtain ⟨pe', hpe⟩ : ∃ x, parseE F = x := ⟨_, rfl⟩
      rw [hpx, hpe] at hep
      rw [hpe] at hE
      obtain ⟨pk1, pe1, pl1⟩ := px
      have HEP := Lib.hid (fun v (hv : Below V3.heap.size V3 v) => (hep v hv).mono (R' := fun e v' => ∃ D d, e = .returned (.tuple #[.agg #[.int .i64 pk1, .int .i64 pe1, .slice D pl1.length d], .int .i64 pe']) ∧ Below v.heap.size v v') (by
        rintro e v' ⟨D, d, rfl, -, -, hb⟩
        exact ⟨D, d, rfl, hb⟩))
      have HHD := Lib.hid hhd
      have HCK := Lib.hid hck
      have HF := Lib.hid hF
      have hq3 := Below.refl V3.heap.size V3
      obtain ⟨-, hbw, xx0, xx1, xx2⟩ := HTR.out _ hq3
      generalize pl1.length = pn1 at *
      clear hS hBk hcl hfz hS3 hrow hhd hck hF hFa hFs hFd hH hhl hhl2 hep hpx hpe hm hlm hmc hmx hpar
      subst hE
      go_wp2_with (first
        | (go_at_call 14; with_reducible refine (HHD.out _ hq3).mono ?_; rintro e v4 ⟨rfl, hb4⟩; have hq4 := hq3.trans (hb4.mono hq3.size); clear hb4)
        | (go_at_call 25; with_reducible refine (HF.out _).mono ?_; rintro e v5 ⟨rfl, hb5⟩; have hq5 := hq4.trans (hb5.mono hq4.size); clear hb5)
        | (go_at_call 19; with_reducible refine (HEP.out _ hq5).mono ?_; rintro e v6 ⟨D, d, rfl, hb6⟩
           have hq6 := (hq5.trans (hb6.mono hq5.size)).alloc (Nat.le_trans hq5.size hb6.size) (.cells #[.int .i64 pk1, .int .i64 pe1, .slice D pn1 d] 24)
           clear xx0 xx1 xx2 hbw hb6
           obtain ⟨-, hbw, xx0, xx1, xx2⟩ := HTR.out _ hq6)
        | (go_at_call 12; with_reducible refine (HCK.out _ hq6).mono ?_; rintro e v7 ⟨rfl, hb7⟩; have hq7 := hbw.trans (hb7.mono hbw.size); clear hb7))
      go_ret
      exact ⟨rfl, hq7⟩
    · -- 11
      have hAh := HAH.out
      obtain ⟨V01, hV01⟩ : ∃ V, V0.setCell ⟨T, 5, none⟩ (.int .i64 (-1)) = V := ⟨_, rfl⟩
      have hS1 := hS0.sett 5 (.int .i64 (-1))
      rw [hV01] at hS1
      have y0 : V0.cell? ⟨T, 5, none⟩ = some (.int .i64 mem) := hS0.t.at_ 5 _ rfl
      have f0 : V0.frozen? ⟨T, 5, none⟩ = false := hS0.t.frozen 5
      have HEX := Lib.hid (show Ex w B0 G T 11 size V01 from ⟨kind, entry, ⟨ty, fl, off, ad, sz, -1, al⟩, ⟨ty, fl, off, ad, sz, mem, al⟩, l, g, n, c, hS1, hAh.b11, HNL.out⟩)
      clear hS0 hAh hS1
      go_upto_region 6 with fail
      rw [HV0.out.1]
      try rw [HV0.out.2]
      clear c0 c1 c2 c3 c4 c5 c6 x2
      go_upto_region 33 with fail
      clear y0 f0 hV01
      obtain ⟨kd, en, ⟨ty', fl', off', ad', sz', mem', al'⟩, s1, l', g1, m, cap1, hS, hBk, hm⟩ := HEX.out
      clear HEX
      have hn1' := hBk.len
      simp only [List.length_cons] at hn1'
      obtain ⟨g2, cap2, hvv, -, -, -, hmc, hmx, hcl, hfz⟩ := own_there hS.o
      injection hvv with e1 e2 e3
      injection e1 with e1
      injection e1 with e1 _ _
      subst e1 e3
      have x0 : V01.cell? ⟨G, 0, none⟩ = some (.int .i64 kd) := hS.x.at_ 0 _ rfl
      have x1 : V01.cell? ⟨G, 1, none⟩ = some (.int .i64 en) := hS.x.at_ 1 _ rfl
      have x2 : V01.cell? ⟨G, 2, none⟩ = some (.slice (some ⟨g1, 0, none⟩) m cap1) := hS.x.at_ 2 _ rfl
      have t0 : V01.cell? ⟨T, 0, none⟩ = some (.int .i64 ty') := hS.t.at_ 0 _ rfl
      have t1 : V01.cell? ⟨T, 1, none⟩ = some (.int .i64 fl') := hS.t.at_ 1 _ rfl
      have t2 : V01.cell? ⟨T, 2, none⟩ = some (.int .i64 off') := hS.t.at_ 2 _ rfl
      have t3 : V01.cell? ⟨T, 3, none⟩ = some (.int .i64 ad') := hS.t.at_ 3 _ rfl
      have t4 : V01.cell? ⟨T, 4, none⟩ = some (.int .i64 sz') := hS.t.at_ 4 _ rfl
      have t5 : V01.cell? ⟨T, 5, none⟩ = some (.int .i64 mem') := hS.t.at_ 5 _ rfl
      have t6 : V01.cell? ⟨T, 6, none⟩ = some (.int .i64 al') := hS.t.at_ 6 _ rfl
      have c0 : V01.cell? ⟨g1, 0, none⟩ = some (.int .i64 s1.ty) := hcl 0 (by omega)
      have c1 : V01.cell? ⟨g1, 1, none⟩ = some (.int .i64 s1.fl) := hcl 1 (by omega)
      have c2 : V01.cell? ⟨g1, 2, none⟩ = some (.int .i64 s1.off) := hcl 2 (by omega)
      have c3 : V01.cell? ⟨g1, 3, none⟩ = some (.int .i64 s1.ad) := hcl 3 (by omega)
      have c4 : V01.cell? ⟨g1, 4, none⟩ = some (.int .i64 s1.sz) := hcl 4 (by omega)
      have c5 : V01.cell? ⟨g1, 5, none⟩ = some (.int .i64 s1.mem) := hcl 5 (by omega)
      have c6 : V01.cell? ⟨g1, 6, none⟩ = some (.int .i64 s1.al) := hcl 6 (by omega)
      have fz0 := hfz 0
      have fz1 := hfz 1
      have fz2 := hfz 2
      have fz3 := hfz 3
      have fz4 := hfz 4
      have fz5 := hfz 5
      have fz6 := hfz 6
      have hS3 := ((((((hS.setg 0 (.int .i64 ty')).setg 1 (.int .i64 fl')).setg 2 (.int .i64 off')).setg 3 (.int .i64 ad')).setg 4 (.int .i64 sz')).setg 5 (.int .i64 mem')).setg 6 (.int .i64 al')
      rw [segCells_all s1 ⟨ty', fl', off', ad', sz', mem', al'⟩ l'] at hS3
      obtain ⟨V3, hV3⟩ : ∃ V3, (((((((V01.setCell ⟨g1, 0, none⟩ (.int .i64 ty')).setCell ⟨g1, 1, none⟩ (.int .i64 fl')).setCell ⟨g1, 2, none⟩ (.int .i64 off')).setCell ⟨g1, 3, none⟩ (.int .i64 ad')).setCell ⟨g1, 4, none⟩ (.int .i64 sz')).setCell ⟨g1, 5, none⟩ (.int .i64 mem')).setCell ⟨g1, 6, none⟩ (.int .i64 al')) = V3 := ⟨_, rfl⟩
      rw [hV3] at hS3
      obtain ⟨A9, c9, hv9, hrow, -⟩ := SegRow.of_own hS3.o hBk.wf
      injection hv9 with e1 e2 e3
      subst e1 e3
      clear e2
      have hlm : ((⟨ty', fl', off', ad', sz', mem', al'⟩ : Seg) :: l').length = m := by rw [hm]; rfl
      have hm0 : (0 : Int) < (m : Int) := by omega
      have HTR := Lib.hid (fun v (hv : Below V3.heap.size V3 v) => show SegRow v (some ⟨g1, 0, none⟩) (⟨ty', fl', off', ad', sz', mem', al'⟩ :: l') ∧ Below w.heap.size w v ∧ v.cell? ⟨G, 0, none⟩ = some (.int .i64 kd) ∧ v.cell? ⟨G, 1, none⟩ = some (.int .i64 en) ∧ v.cell? ⟨G, 2, none⟩ = some (.slice (some ⟨g1, 0, none⟩) m cap1) from
        ⟨hrow.below hv, hS3.b.trans (hv.mono hS3.b.size), (hS3.x.below hv hS3.x.lt).at_ 0 _ rfl, (hS3.x.below hv hS3.x.lt).at_ 1 _ rfl, (hS3.x.below hv hS3.x.lt).at_ 2 _ rfl⟩)
      have hhd := fun v (hv : Below V3.heap.size V3 v) => header_any ⟨kd, en, ⟨ty', fl', off', ad', sz', mem', al'⟩ :: l'⟩ (some ⟨g1, 0, none⟩) cap1 v (HTT.out v (HTR.out v hv).2.1) hBk.kind hBk.entry (HTR.out v hv).1 (by show (_ :: l').length ≤ 1000; rw [hlm]; omega)
      have hck := fun v (hv : Below V3.heap.size V3 v) => echeck_any ⟨kd, en, ⟨ty', fl', off', ad', sz', mem', al'⟩ :: l'⟩ (some ⟨g1, 0, none⟩) cap1 size v (HTT.out v (HTR.out v hv).2.1) (HTR.out v hv).1 (by show (_ :: l').length ≤ 1000; rw [hlm]; omega) (i64_wf (by omega))
      rw [err_no hBk.no] at hck
      have hhl : (Img.headL ⟨kd, en, ⟨ty', fl', off', ad', sz', mem', al'⟩ :: l'⟩).length = 64 + 56 * m := by rw [headL_len]; show 64 + 56 * (_ :: l').length = _; rw [hlm]
      have hpar : True := trivial
      try unfold Img.v at hck
      try unfold Img.v at hhd
      simp only [hlm] at hck hhd
      obtain ⟨hl, hhl2⟩ : ∃ h, Img.headL ⟨kd, en, ⟨ty', fl', off', ad', sz', mem', al'⟩ :: l'⟩ = h := ⟨_, rfl⟩
      rw [hhl2] at hhd hhl
      have hF := fun w => rfill_any (mkb hl) size w (i64_wf (by omega)) (by rw [mkb_size]; omega) (by omega)
      have hFa := fun j (hj : j < hl.length) => fill_at (L := hl) (m := size) (j := j) hj (by omega)
      have hFs := fill_size (mkb hl) size
      obtain ⟨F, hFd⟩ : ∃ F, fillS (mkb hl) size = F := ⟨_, rfl⟩
      rw [hFd] at hF hFa hFs
      obtain ⟨H, hH⟩ : ∃ H, mkb hl = H := ⟨_, rfl⟩
      rw [hH] at hhd hF
      have hep := fun v (hv : Below V3.heap.size V3 v) => eparse_any F v (HTT.out v (HTR.out v hv).2.1) (by omega)
      have hE : parseE F = 16 ∨ ¬ parseE F = 16 := Decidable.em _
      obtain ⟨px, hpx⟩ : ∃ x, parseX F = x := ⟨_, rfl⟩
      obtain ⟨pe', hpe⟩ : ∃ x, parseE F = x := ⟨_, rfl⟩
      rw [hpx, hpe] at hep
      rw [hpe] at hE
      obtain ⟨pk1, pe1, pl1⟩ := px
      have HEP := Lib.hid (fun v (hv : Below V3.heap.size V3 v) => (hep v hv).mono (R' := fun e v' => ∃ D d, e = .returned (.tuple #[.agg #[.int .i64 pk1, .int .i64 pe1, .slice D pl1.length d], .int .i64 pe']) ∧ Below v.heap.size v v') (by
        rintro e v' ⟨D, d, rfl, -, -, hb⟩
        exact ⟨D, d, rfl, hb⟩))
      have HHD := Lib.hid hhd
      have HCK := Lib.hid hck
      have HF := Lib.hid hF
      have hq3 := Below.refl V3.heap.size V3
      obtain ⟨-, hbw, xx0, xx1, xx2⟩ := HTR.out _ hq3
      generalize pl1.length = pn1 at *
      clear hS hBk hcl hfz hS3 hrow hhd hck hF hFa hFs hFd hH hhl hhl2 hep hpx hpe hm hlm hmc hmx
      rcases hE with hE | hE
      · subst hE
        go_wp2_with (first
          | (go_at_call 14; with_reducible refine (HHD.out _ hq3).mono ?_; rintro e v4 ⟨rfl, hb4⟩; have hq4 := hq3.trans (hb4.mono hq3.size); clear hb4)
          | (go_at_call 25; with_reducible refine (HF.out _).mono ?_; rintro e v5 ⟨rfl, hb5⟩; have hq5 := hq4.trans (hb5.mono hq4.size); clear hb5)
          | (go_at_call 19; with_reducible refine (HEP.out _ hq5).mono ?_; rintro e v6 ⟨D, d, rfl, hb6⟩
             have hq6 := (hq5.trans (hb6.mono hq5.size)).alloc (Nat.le_trans hq5.size hb6.size) (.cells #[.int .i64 pk1, .int .i64 pe1, .slice D pn1 d] 24)
             clear xx0 xx1 xx2 hbw hb6
             obtain ⟨-, hbw, xx0, xx1, xx2⟩ := HTR.out _ hq6)
          | (go_at_call 12; with_reducible refine (HCK.out _ hq6).mono ?_; rintro e v7 ⟨rfl, hb7⟩; have hq7 := hbw.trans (hb7.mono hbw.size); clear hb7))
        go_ret
        exact ⟨rfl, hq7⟩
      · have hE2 : (pe' == 16) = false := by simpa using hE
        go_wp2_with (first
          | (go_at_call 14; with_reducible refine (HHD.out _ hq3).mono ?_; rintro e v4 ⟨rfl, hb4⟩; have hq4 := hq3.trans (hb4.mono hq3.size); clear hb4)
          | (go_at_call 25; with_reducible refine (HF.out _).mono ?_; rintro e v5 ⟨rfl, hb5⟩; have hq5 := hq4.trans (hb5.mono hq4.size); clear hb5)
          | (go_at_call 19; with_reducible refine (HEP.out _ hq5).mono ?_; rintro e v6 ⟨D, d, rfl, hb6⟩
             have hq6 := (hq5.trans (hb6.mono hq5.size)).alloc (Nat.le_trans hq5.size hb6.size) (.cells #[.int .i64 pk1, .int .i64 pe1, .slice D pn1 d] 24)
             clear xx0 xx1 xx2 hbw hb6
             obtain ⟨-, hbw, xx0, xx1, xx2⟩ := HTR.out _ hq6)
          | (go_at_call 12; with_reducible refine (HCK.out _ hq6).mono ?_; rintro e v7 ⟨rfl, hb7⟩; have hq7 := hbw.trans (hb7.mono hbw.size); clear hb7))
        go_ret
        exact ⟨rfl, hq7⟩
open Go.Proofs.YtakmmphjdkapeaaDoor.l8
set_option maxRecDepth 100000 in
theorem lifted (os : Os) (started : os.Started) (H : Type) (enc : TypeId × Value → H) :
    ReturnsInHanded {} Tryd.checked os 8 .any (fun w args => (Rows.elfBrokenSpec.pre enc Tryd.prog Tryd.f8 Rows.elfBrokenRow.domain false w args ∧ laidMet Tryd.prog Rows.elfBrokenRow.laid w) ∧ sizedMet enc Tryd.prog Tryd.f8 (OpenSpec.ofChange Rows.elfBrokenSpec) false w args) (Rows.elfBrokenSpec.post enc Tryd.prog Tryd.f8 false true false false) := by
  refine returnsInHanded_of_change_and (C := Tryd.checked) (X := fun w _ => laidMet Tryd.prog Rows.elfBrokenRow.laid w) (fun _ _ _ hh h => h.of_heap hh) own started (by kernel_rfl) Tryd.func8
    (ChangeSpec.witness_at (enc := enc) (C := Tryd.checked) (os := os) (X := fun w _ => laidMet Tryd.prog Rows.elfBrokenRow.laid w) false (laidWorld os) #[zspecV, .int .i64 0] 8 rfl (by kernel_rfl) (by kernel_rfl) (by kernel_rfl) (by kernel_rfl) (by kernel_rfl) (laid_met os _)) ?_
  intro W base args ds gs before hval0 hW hcnd _ hL _
  have hval : ∀ (j : Nat) t v, Tryd.f8.params[j]? = some t → args[j]? = some v → Value.okWide Tryd.prog W .any base t v := hval0
  have hW' := hW
  obtain ⟨p, q, hA0, hV, rfl, hfz, hnd⟩ := hW
  have hA : DataW.TrodAll enc Tryd.prog W 0 (fun _ => true) true Tryd.f8.params.toList args.toList ds p := hA0
  rw [Tryd.params8] at hA hval
  obtain ⟨v0, vs0, d0, ds0, p0, q0, hargs, rfl, rfl, h0, r0⟩ := trodAll_cons hA
  obtain ⟨v1, vs1, d1, ds1, p1, q1, rfl, rfl, rfl, h1, r1⟩ := trodAll_cons r0
  obtain ⟨rfl, rfl, rfl⟩ := trodAll_nil r1
  obtain rfl : args = #[v0, v1] := by cases args; simp_all
  obtain ⟨rfl, rfl⟩ := trodVars_none hV
  have k0 := h0
  have lt0 : ∀ x ∈ p0, x.block < W.heap.size := by obtain ⟨m, hm⟩ := k0; exact DataW.trod_lt m _ _ _ hm
  obtain ⟨a0, rfl, w0⟩ := open_spec (hval 0 41 v0 rfl rfl) h0
  have k1 := h1
  have lt1 : ∀ x ∈ p1, x.block < W.heap.size := by obtain ⟨m, hm⟩ := k1; exact DataW.trod_lt m _ _ _ hm
  obtain ⟨a1, rfl, _, _, w1⟩ := open_int Tryd.underlying3 (hval 1 3 v1 rfl rfl) h1
  clear hA0 hval0
  refine (walk a0 a1 W w0 w1 (tab_of_laid hL)).mono fun e W' ⟨he, bel⟩ => ?_
  subst he
  exact ⟨_, rfl, _, _, _, [], _, [], hW', trodAll_mk1 (shut_bool Tryd.underlying4 _), (trodAll_cons_mk (Below.trod laidOut (by kernel_rfl) (of_decide_eq_true (by kernel_rfl)) k0 bel lt0) (trodAll_cons_mk (Below.trod laidOut (by kernel_rfl) (of_decide_eq_true (by kernel_rfl)) k1 bel lt1) trodAll_mk0)), rfl, bel.frame _, fun h => by cases h⟩
theorem over : Rows.elfBrokenRow.holds Tryd.pinned (OpenSpec.ofChange Rows.elfBrokenSpec) :=
  OpenClaim.holds_of_wide 8 Tryd.f8 rfl rfl rfl rfl rfl rfl rfl ⟨rfl, rfl, rfl, rfl, rfl⟩ rfl rfl rfl rfl rfl (by kernel_rfl) Tryd.func8 (by kernel_rfl)
    (of_decide_eq_true (by kernel_rfl)) (by unfold Func.isWrapper; first | (rw [if_pos (by decide +kernel)]; kernel_rfl) | (rw [if_neg (by decide +kernel)]; exact ⟨rfl, rfl⟩))
    (fun os started H enc _ => lifted os started H enc)
set_option maxRecDepth 100000 in
/-- The statement. -/
theorem proved : Rows.ElfBrokenCardSaid :=
  Claim7.holds_tied_plain_at .later [] [.data, .data] true _ false over (fun _ h => by cases h) (by kernel_rfl) (fun _ h => by cases h) elfBroken_row_tie rfl ⟨rfl, rfl⟩ (by kernel_rfl) rfl
    (fun f fn hf hfn => by
      obtain rfl : f = 8 := Option.some.inj (hf.symm.trans (by kernel_rfl))
      obtain rfl : fn = Tryd.f8 := Option.some.inj (hfn.symm.trans Tryd.func8)
      refine ⟨by kernel_rfl, fun j t ht => ?_⟩
      rw [Tryd.params8] at ht
      match j, ht with
      | 0, ht =>
        obtain rfl : t = 41 := by simpa using ht.symm
        exact (by kernel_rfl : Tryd.pinned.checked.prog.wantsStandIn 41 = false)
      | 1, ht =>
        obtain rfl : t = 3 := by simpa using ht.symm
        exact (by kernel_rfl : Tryd.pinned.checked.prog.wantsStandIn 3 = false)
      | j + 2, ht => simp at ht)
    (by kernel_rfl)
end Go.Proofs.YtakmmphjdkapeaaDoor.lawBr
