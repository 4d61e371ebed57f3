/- SymbolBack: for any symbol (its place cut to 32 bits, its value to 40) and any number: it is read as it was written, at its number; not beyond the view, nor where no symbols are. -/
import Derived.Test.YtkembimfkoganaaYE
import Derived.Test.YtkembimfkoganaaFill
namespace Go.Proofs.Ytkembimfkoganaa.lawBackY
open Go.ChangeShapes Go.WideShapes Go.ChangeAt Go.RowKit Go.Deep
set_option linter.unusedVariables false
set_option linter.unusedSimpArgs false

theorem i64_and32 (n : Int) : bits .and .i64 n 4294967295 = n % 4294967296 := i64_and_mask n 32 4294967295 (by omega) (by decide)
theorem tmodY (z : Int) {J : Int} (h0 : 0 < J) : -J < z.tmod J ∧ z.tmod J < J := ⟨Int.lt_tmod_of_pos z h0, Int.tmod_lt_of_pos z h0⟩
theorem restY (z J : Int) (h0 : 0 < J) (hJ : J ≤ 100) : ∃ (t : Int) (n : Nat), IntKind.i64.wrap (z.tmod J + J) = t ∧ wrap64 (z.tmod J + J) = t ∧ t.tmod J = (n : Int) ∧ (n : Int) < J := by
  have h1 := tmodY z h0
  have h2 := tmodY (z.tmod J + J) h0
  have h3 : 0 ≤ (z.tmod J + J).tmod J := Int.tmod_nonneg _ (by omega)
  exact ⟨z.tmod J + J, ((z.tmod J + J).tmod J).toNat, IntWalk.i64_in _ (by omega), IntWalk.wrap64_in _ (by omega), by omega, by omega⟩
def dS8 : Dyn := ⟨[], fun j => if j = 3 then 8 else 0⟩
theorem dS8_wf : dS8.wf := ⟨by simp [dS8], fun j => by unfold dS8; by_cases h : j = 3 <;> simp [h] <;> decide⟩
theorem le300 {a k c : Nat} (h : a = c + 24 * k) (hk : (k : Int) < 9) (hc : c ≤ 72) : a ≤ 300 := by omega
def zL (n : Nat) : List UInt8 := List.replicate n 0
theorem fill_z (n : Nat) : fillS ⟨#[]⟩ (n : Int) = mkb (zL n) := by
  unfold fillS
  rw [if_neg (by omega), Int.toNat_natCast]
  simp [fillL, zL]

set_option maxRecDepth 100000 in
set_option maxHeartbeats 1600000 in
theorem walk (s : Sy) (i : Int) (w : World) (ws : s.wf) (wi : (Lit.int .i64 i).wf = true) :
    Calls Try.prog 6 #[.agg s.cs, .int .i64 i] w fun e w' => e = .returned (.bool true) ∧ Below w.heap.size w w' := by
  have HA := Lib.hid (fun v => awakeY_any v)
  obtain ⟨n, d, v⟩ := s
  unfold Sy.cs
  simp only
  obtain ⟨R, hR⟩ : ∃ R, w.heap.size = R := ⟨_, rfl⟩
  obtain ⟨t, k, t1, t1', t2, t3⟩ := restY i 9 (by decide) (by decide)
  have l1 := tmodY i (J := 9) (by decide)
  obtain ⟨ri, hri⟩ : ∃ ri, i.tmod 9 = ri := ⟨_, rfl⟩
  rw [hri] at t1 t1' l1
  have e1 := i64_and32 n
  have e2 := i64_and40 v
  have hB0 := (Below.refl R w).alloc (by omega) (.cells #[.int .i64 n, .bool d, .int .i64 v] 23)
  have hK0 := Blk.new w 23 #[.int .i64 n, .bool d, .int .i64 v]
  rw [hR] at hK0
  go_enter Try.func6, Try.ntmps6
  go_upto_region 1 with fail
  generalize w.alloc (.cells #[.int .i64 n, .bool d, .int .i64 v] 23) = W0 at *
  go_upto_region 2 with (go_at_call 7; refine (HA.out _).mono ?_; rintro e v1 ⟨rfl, hb⟩)
  have hB1 := hB0.trans (hb.mono (by rw [← hR]; exact hB0.size))
  have hK1 := hK0.below hb hK0.lt
  have c0 : v1.cell? ⟨R, 0, none⟩ = some (.int .i64 n) := hK1.at_ 0 _ rfl
  have c1 : v1.cell? ⟨R, 1, none⟩ = some (.bool d) := hK1.at_ 1 _ rfl
  have c2 : v1.cell? ⟨R, 2, none⟩ = some (.int .i64 v) := hK1.at_ 2 _ rfl
  have f0 := hK1.frozen 0
  have f2 := hK1.frozen 2
  clear hb hK0 hB0
  generalize hn' : n % 4294967296 = n' at *
  generalize hv' : v % 1099511627776 = v' at *
  have hK2 : Blk ((v1.setCell ⟨R, 0, none⟩ (.int .i64 n')).setCell ⟨R, 2, none⟩ (.int .i64 v')) R 23 #[.int .i64 n', .bool d, .int .i64 v'] := by
    simpa using (hK1.set_ 0 (.int .i64 n')).set_ 2 (.int .i64 v')
  have hB2 := (hB1.setCell (p := ⟨R, 0, none⟩) (Nat.le_refl _) (.int .i64 n')).setCell (p := ⟨R, 2, none⟩) (Nat.le_refl _) (.int .i64 v')
  have HS2 := Lib.hid (And.intro hK2 hB2)
  clear hK1 hB1 hK2 hB2
  go_upto_region 5 with fail
  generalize hW2 : (v1.setCell ⟨R, 0, none⟩ (.int .i64 n')).setCell ⟨R, 2, none⟩ (.int .i64 v') = W2 at *
  obtain ⟨hK2, hB2⟩ := HS2.out
  clear HS2 hW2 c0 c1 c2 f0 f2
  have c0 : W2.cell? ⟨R, 0, none⟩ = some (.int .i64 n') := hK2.at_ 0 _ rfl
  have c1 : W2.cell? ⟨R, 1, none⟩ = some (.bool d) := hK2.at_ 1 _ rfl
  have c2 : W2.cell? ⟨R, 2, none⟩ = some (.int .i64 v') := hK2.at_ 2 _ rfl
  have hRlt := hK2.lt
  have HK2 := Lib.hid (fun u (h : Below W2.heap.size W2 u) => show Blk u R 23 #[.int .i64 n', .bool d, .int .i64 v'] ∧ Below R w u from ⟨hK2.below h hRlt, hB2.trans (h.mono (Nat.le_of_lt hRlt))⟩)
  have hv0 := Below.refl W2.heap.size W2
  clear hK2 hB2
  have hsm : (⟨n', d, v'⟩ : Sy).small := ⟨show 0 ≤ n' by omega, show n' < 4294967296 by omega, show 0 ≤ v' by omega, show v' ≤ 1099511627776 by omega⟩
  clear hn' hv' e1 e2 t1 t1' l1 hri t2 ws wi
  have HBY := Lib.hid (fun u => sbytes_any ⟨n', d, v'⟩ u hsm.wf)
  have hbl := (⟨n', d, v'⟩ : Sy).bytes_length
  obtain ⟨BL, hBL⟩ : ∃ B, (⟨n', d, v'⟩ : Sy).bytes = B := ⟨_, rfl⟩
  have hrd := rd_at (zL (8 + 24 * k)) (zL 40) ⟨n', d, v'⟩ 8 k (by simp [zL]) (by omega) hsm
  rw [hBL] at HBY hbl hrd
  have hF1 := fun u => rfill_any ⟨#[]⟩ ((8 + 24 * k : Nat) : Int) u (WalkArith.wf_i64 (by omega)) (by decide) (by omega)
  have hF2 := fun u => rfill_any ⟨#[]⟩ ((40 : Nat) : Int) u (by decide) (by decide) (by omega)
  rw [fill_z] at hF1 hF2
  rw [show ((40 : Nat) : Int) = 40 from rfl] at hF2
  obtain ⟨m, hm⟩ : ∃ m : Int, ((8 + 24 * k : Nat) : Int) = m := ⟨_, rfl⟩
  rw [hm] at hF1
  obtain ⟨z, hz0⟩ : ∃ z : Int, 24 * (k : Int) = z := ⟨_, rfl⟩
  have hm1 : (8 : Int) + z = m := by omega
  have hm2 : wrap64 z = z := IntWalk.wrap64_in _ (by omega)
  have hm3 : wrap64 m = m := IntWalk.wrap64_in _ (by omega)
  have hcat : mkb (zL (8 + 24 * k)) ++ mkb BL ++ mkb (zL 40) = mkb (zL (8 + 24 * k) ++ BL ++ zL 40) := by rw [mkb_append, mkb_append]
  have hv : (mkb (zL (8 + 24 * k) ++ BL ++ zL 40)).size = 72 + 24 * k := by rw [mkb_size]; simp [zL, hbl]; omega
  have ha : (mkb (zL (8 + 24 * k))).size = 8 + 24 * k := by rw [mkb_size]; simp [zL]
  have hb : (mkb BL).size = 24 := by rw [mkb_size, hbl]
  have hz : (mkb (zL 40)).size = 40 := by rw [mkb_size]; simp [zL]
  have hno := rd_beyond (mkb (zL (8 + 24 * k) ++ BL ++ zL 40)) 8 ((k : Int) + 3) (by rw [hv]; omega)
  have hno2 := rd_no (s := mkb (zL (8 + 24 * k) ++ BL ++ zL 40)) (f := 0) (i := 0) (by omega)
  generalize mkb (zL (8 + 24 * k)) = VA at *
  generalize mkb (zL 40) = VZ at *
  generalize mkb BL = VB at *
  generalize mkb (zL (8 + 24 * k) ++ BL ++ zL 40) = V at *
  obtain ⟨VAB, hab⟩ : ∃ x, VA ++ VB = x := ⟨_, rfl⟩
  have HCAT := Lib.hid hcat
  clear hcat
  have hvab : VAB.size = 32 + 24 * k := by rw [← hab, ByteArray.size_append, ha, hb]; omega
  have r1 := fun u => sread_any V dS8 (.slice none 0 0) k u dS8_wf (WalkArith.wf_i64 (by omega)) (by omega)
  have r2 := fun u => sread_any V dS8 (.slice none 0 0) ((k : Int) + 3) u dS8_wf (WalkArith.wf_i64 (by omega)) (by omega)
  have r3 := fun u => sread_any V Dyn.none (.slice none 0 0) 0 u Dyn.none_wf (by decide) (by omega)
  rw [show ((dS8 : Dyn).f 3) = 8 from rfl, show (dS8 : Dyn).cs (.slice none 0 0) = #[.slice none 0 0, .int .i64 0, .int .i64 0, .int .i64 8, .int .i64 0, .int .i64 0, .int .i64 0, .int .i64 0, .int .i64 0] from rfl] at r1 r2
  rw [show Dyn.none.f 3 = 0 from rfl, show Dyn.none.cs (.slice none 0 0) = #[.slice none 0 0, .int .i64 0, .int .i64 0, .int .i64 0, .int .i64 0, .int .i64 0, .int .i64 0, .int .i64 0, .int .i64 0] from rfl] at r3
  rw [show ((8 : Nat) : Int) = 8 from rfl] at hrd
  rw [hrd.1, hrd.2] at r1
  rw [hno] at r2
  rw [hno2.1, hno2.2] at r3
  obtain ⟨x2, hx2⟩ : ∃ x, rdS V 8 ((k : Int) + 3) = x := ⟨_, rfl⟩
  rw [hx2] at r2
  obtain ⟨a2, b2, g2⟩ := x2
  unfold Sy.cs at r1 r2 r3 HBY
  simp only at r1 r2 r3 HBY
  have w3 : wrap64 ((k : Int) + 3) = (k : Int) + 3 := IntWalk.wrap64_in _ (by omega)
  have hbd8 : ∀ (w : World), (Instr.build 38 #[(3, .int .i64 8)]).run Try.prog w = .ok (.agg #[.slice none 0 0, .int .i64 0, .int .i64 0, .int .i64 8, .int .i64 0, .int .i64 0, .int .i64 0, .int .i64 0, .int .i64 0]) w := fun w => run_build w 38 _ _ (by kernel_rfl)
  have hbd0 : ∀ (w : World), (Instr.build 38 #[]).run Try.prog w = .ok (.agg #[.slice none 0 0, .int .i64 0, .int .i64 0, .int .i64 0, .int .i64 0, .int .i64 0, .int .i64 0, .int .i64 0, .int .i64 0]) w := fun w => run_build w 38 _ _ (by kernel_rfl)
  have HR1 := Lib.hid r1
  have HR2 := Lib.hid r2
  have HR3 := Lib.hid r3
  have HF1 := Lib.hid hF1
  have HF2 := Lib.hid hF2
  have HVB := Lib.hid hb
  have ha' : VA.size ≤ 300 := le300 ha t3 (by decide)
  have hb' : VB.size ≤ 300 := (Nat.le_trans (Nat.le_of_eq hb) (by decide))
  have hz' : VZ.size ≤ 300 := (Nat.le_trans (Nat.le_of_eq hz) (by decide))
  have hvab' : VAB.size ≤ 300 := le300 hvab t3 (by decide)
  clear ha hb hz hvab hv
  clear r1 r2 r3 hF1 hF2 hx2 hrd hno hno2 hBL hm hsm hab
  go_upto_region 6 with (go_at_call 13; with_reducible refine (HBY.out _).mono ?_; rintro e u1 ⟨rfl, hb1⟩; have hv1 := hv0.trans (hb1.mono (Nat.le_refl _)))
  go_upto_region 7 with (first
    | (go_at_call 19; with_reducible refine (HF1.out _).mono ?_; rintro e u2 ⟨rfl, hb2⟩; have hv2 := hv1.trans (hb2.mono hv1.size))
    | (go_at_call 19; with_reducible refine (HF2.out _).mono ?_; rintro e u3 ⟨rfl, hb3⟩; have hv3 := hv2.trans (hb3.mono hv2.size)))
  rw [HCAT.out]
  have HS3 := Lib.hid (fun (W3 : World) (hW : u3.alloc (.cells #[.slice none 0 0, .int .i64 0, .int .i64 0, .int .i64 8, .int .i64 0, .int .i64 0, .int .i64 0, .int .i64 0, .int .i64 0] 38) = W3) =>
    show Blk W3 u3.heap.size 38 #[.slice none 0 0, .int .i64 0, .int .i64 0, .int .i64 8, .int .i64 0, .int .i64 0, .int .i64 0, .int .i64 0, .int .i64 0] ∧ Below W2.heap.size W2 W3 from by
    subst hW
    exact ⟨Blk.new _ _ _, hv3.alloc hv3.size _⟩)
  clear hv0 hv1 hv2 hv3 hb1 hb2 hb3 HBY HF1 HF2 HCAT c0 c1 c2 ha' hb' hz' hvab' hm1 hm2 hm3 HA
  go_upto_region 8 with fail
  generalize hW3 : u3.alloc (.cells #[.slice none 0 0, .int .i64 0, .int .i64 0, .int .i64 8, .int .i64 0, .int .i64 0, .int .i64 0, .int .i64 0, .int .i64 0] 38) = W3
  obtain ⟨hK3, hB3⟩ := HS3.out W3 hW3
  clear hW3 HS3
  generalize u3.heap.size = X at *
  have HK3 := Lib.hid (fun u (h : Below W3.heap.size W3 u) => show (u.cell? ⟨X, 0, none⟩ = some (.slice none 0 0) ∧ u.cell? ⟨X, 1, none⟩ = some (.int .i64 0) ∧ u.cell? ⟨X, 2, none⟩ = some (.int .i64 0) ∧ u.cell? ⟨X, 3, none⟩ = some (.int .i64 8) ∧ u.cell? ⟨X, 4, none⟩ = some (.int .i64 0) ∧ u.cell? ⟨X, 5, none⟩ = some (.int .i64 0) ∧ u.cell? ⟨X, 6, none⟩ = some (.int .i64 0) ∧ u.cell? ⟨X, 7, none⟩ = some (.int .i64 0) ∧ u.cell? ⟨X, 8, none⟩ = some (.int .i64 0)) ∧ Blk u R 23 #[.int .i64 n', .bool d, .int .i64 v'] ∧ Below R w u from by
    have hk := hK3.below h hK3.lt
    have h2 := HK2.out u (hB3.trans (h.mono hB3.size))
    exact ⟨⟨hk.cell 0, hk.cell 1, hk.cell 2, hk.cell 3, hk.cell 4, hk.cell 5, hk.cell 6, hk.cell 7, hk.cell 8⟩, h2⟩)
  have hv3 := Below.refl W3.heap.size W3
  obtain ⟨⟨c0, c1, c2, c3, c4, c5, c6, c7, c8⟩, -⟩ := HK3.out W3 hv3
  clear hK3 hB3 HK2 hRlt
  go_upto_region 9 with (go_at_call 16; with_reducible refine (HR1.out _).mono ?_; rintro e v4 ⟨rfl, hb4⟩; have hv4 := hv3.trans (hb4.mono hv3.size))
  have hB4 := hv4.alloc hv4.size (.cells #[.int .i64 n', .bool d, .int .i64 v'] 23)
  have hK4 := Blk.new v4 23 #[.int .i64 n', .bool d, .int .i64 v']
  clear hv3 hv4 hb4 c0 c1 c2 c3 c4 c5 c6 c7 c8 HR1
  generalize v4.alloc (.cells #[.int .i64 n', .bool d, .int .i64 v'] 23) = W4 at *
  generalize v4.heap.size = Y at *
  obtain ⟨⟨c0, c1, c2, c3, c4, c5, c6, c7, c8⟩, -⟩ := HK3.out W4 hB4
  go_upto_region 10 with (go_at_call 16; with_reducible refine (HR2.out _).mono ?_; rintro e v5 ⟨rfl, hb5⟩; have hv5 := hB4.trans (hb5.mono hB4.size); have hY5 := hK4.below hb5 hK4.lt)
  have hB5 := hv5.alloc hv5.size (.cells #[.int .i64 a2, .bool b2, .int .i64 g2] 23)
  have hY6 := hY5.alloc (.cells #[.int .i64 a2, .bool b2, .int .i64 g2] 23)
  clear hv5 hb5 c0 c1 c2 c3 c4 c5 c6 c7 c8 HR2 hB4 hK4 hY5
  generalize v5.alloc (.cells #[.int .i64 a2, .bool b2, .int .i64 g2] 23) = W5 at *
  go_upto_region 11 with (go_at_call 16; with_reducible refine (HR3.out _).mono ?_; rintro e v6 ⟨rfl, hb6⟩; have hv6 := hB5.trans (hb6.mono hB5.size); have hY7 := hY6.below hb6 hY6.lt)
  have hB6 := hv6.alloc hv6.size (.cells #[.int .i64 0, .bool false, .int .i64 0] 23)
  have hY8 := hY7.alloc (.cells #[.int .i64 0, .bool false, .int .i64 0] 23)
  have hZ8 := Blk.new v6 23 #[.int .i64 0, .bool false, .int .i64 0]
  clear hv6 hb6 HR3 hB5 hY6 hY7
  generalize v6.alloc (.cells #[.int .i64 0, .bool false, .int .i64 0] 23) = W6 at *
  generalize v6.heap.size = Z at *
  obtain ⟨-, hR6, hBR⟩ := HK3.out W6 hB6
  have x0 : W6.cell? ⟨R, 0, none⟩ = some (.int .i64 n') := hR6.at_ 0 _ rfl
  have x1 : W6.cell? ⟨R, 1, none⟩ = some (.bool d) := hR6.at_ 1 _ rfl
  have x2 : W6.cell? ⟨R, 2, none⟩ = some (.int .i64 v') := hR6.at_ 2 _ rfl
  have y0 : W6.cell? ⟨Y, 0, none⟩ = some (.int .i64 n') := hY8.at_ 0 _ rfl
  have y1 : W6.cell? ⟨Y, 1, none⟩ = some (.bool d) := hY8.at_ 1 _ rfl
  have y2 : W6.cell? ⟨Y, 2, none⟩ = some (.int .i64 v') := hY8.at_ 2 _ rfl
  have q0 : W6.cell? ⟨Z, 0, none⟩ = some (.int .i64 0) := hZ8.at_ 0 _ rfl
  have hvb := HVB.out
  clear hR6 hY8 hZ8 hB6 HK3
  go_wp2
  all_goals (go_ret; exact ⟨by simp, by rw [hR]; exact hBR⟩)

set_option maxRecDepth 100000 in
theorem lifted (os : Os) (started : os.Started) (H : Type) (enc : TypeId × Value → H) :
    ReturnsInHanded {} Try.checked os 6 .any (Rows.symbolBackSpec.pre6 enc Try.prog Try.f6 Rows.symbolBackRow.domain false) (Rows.symbolBackSpec.post enc Try.prog Try.f6 false true false false) := by
  refine returnsInHanded_of_change (C := Try.checked) own started (by kernel_rfl) Try.func6
    (ChangeSpec.witness6 (enc := enc) (C := Try.checked) false ⟨#[], #[zsymV, .int .i64 0], []⟩ 8 (by kernel_rfl) (by kernel_rfl) (by kernel_rfl) (by kernel_rfl)) ?_
  intro W base args ds gs before hval0 hW hcnd _
  have hval : ∀ (j : Nat) t v, Try.f6.params[j]? = some t → args[j]? = some v → Value.okWide Try.prog W .any base t v := hval0
  have hW' := hW
  obtain ⟨p, q, hA0, hV, rfl, hfz, hnd⟩ := hW
  have hA : DataW.TrodAll enc Try.prog W 0 (fun _ => true) true Try.f6.params.toList args.toList ds p := hA0
  rw [Try.params6] at hA hval
  obtain ⟨v0, vs0, d0, ds0, p0, q0, hargs, rfl, rfl, h0, r0⟩ := trodAll_cons hA
  obtain ⟨v1, vs1, d1, ds1, p1, q1, rfl, rfl, rfl, h1, r1⟩ := trodAll_cons r0
  obtain ⟨rfl, rfl, rfl⟩ := trodAll_nil r1
  obtain rfl : args = #[v0, v1] := by cases args; simp_all
  obtain ⟨rfl, rfl⟩ := trodVars_none hV
  have k0 := h0
  have lt0 : ∀ x ∈ p0, x.block < W.heap.size := by obtain ⟨m, hm⟩ := k0; exact DataW.trod_lt m _ _ _ hm
  obtain ⟨a0, rfl, w0⟩ := open_symY (hval 0 23 v0 rfl rfl) h0
  have k1 := h1
  have lt1 : ∀ x ∈ p1, x.block < W.heap.size := by obtain ⟨m, hm⟩ := k1; exact DataW.trod_lt m _ _ _ hm
  obtain ⟨a1, rfl, _, _, w1⟩ := open_int Try.underlying3 (hval 1 3 v1 rfl rfl) h1
  clear hA0 hval0
  refine (walk a0 a1 W w0 w1).mono fun e W' ⟨he, bel⟩ => ?_
  subst he
  exact ⟨_, rfl, _, _, _, [], _, [], hW', trodAll_mk1 (shut_bool Try.underlying4 _), (trodAll_cons_mk (Below.trod laidOut (by kernel_rfl) (of_decide_eq_true (by kernel_rfl)) k0 bel lt0) (trodAll_cons_mk (Below.trod laidOut (by kernel_rfl) (of_decide_eq_true (by kernel_rfl)) k1 bel lt1) trodAll_mk0)), rfl, bel.frame _, fun h => by cases h⟩
theorem over : Rows.symbolBackRow.holds Try.pinned (OpenSpec.ofChange Rows.symbolBackSpec) :=
  OpenClaim.holds_of_wide 6 Try.f6 rfl rfl rfl rfl rfl rfl rfl ⟨rfl, rfl, rfl, rfl, rfl⟩ rfl rfl rfl rfl rfl (by kernel_rfl) Try.func6 (by kernel_rfl)
    (of_decide_eq_true (by kernel_rfl)) (by unfold Func.isWrapper; first | (rw [if_pos (by decide +kernel)]; kernel_rfl) | (rw [if_neg (by decide +kernel)]; exact ⟨rfl, rfl⟩))
    (fun os started H enc _ => lifted os started H enc)
/-- The statement. -/
theorem proved : Rows.SymbolBackSaid := over
end Go.Proofs.Ytkembimfkoganaa.lawBackY
