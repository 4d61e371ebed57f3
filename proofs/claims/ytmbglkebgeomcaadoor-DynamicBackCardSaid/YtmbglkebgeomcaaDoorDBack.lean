/- DynamicBack: for any places that are needed, any numbers and any bytes behind: what was written is read, whatever stands behind it. -/
import Derived.Test.YtmbglkebgeomcaaDoorDJ
import Derived.Deep.RegionLaw
namespace Go.Proofs.YtmbglkebgeomcaaDoor.lawBack9
open Go.RowKit Go.ChangeShapes Go.WideShapes Go.Deep
open Go.ChangeMaps (open_string)
open Go.Proofs.YtmbglkebgeomcaaDoor.l9
set_option linter.unusedVariables false
set_option linter.unusedSimpArgs false

/-- The table, of which so many places are there. -/
def dyB (q0 q1 q2 q3 q4 q5 q6 : Int) (l : List Int) (k : Nat) : Dyn :=
  ⟨(l.take k).map (· % 1099511627776), fun j => if j = 1 then q1 % 1099511627776 else if j = 2 then q5 % 1099511627776 else if j = 3 then q2 % 1099511627776 else if j = 4 then q0 % 1099511627776 else if j = 5 then q3 % 1099511627776 else if j = 6 then 24 * (q4 % 1024) else if j = 7 then q6 % 1099511627776 else if j = 8 then q0 % 4096 * 64 else 0⟩
theorem dyB_ok (q0 q1 q2 q3 q4 q5 q6 : Int) (l : List Int) {k : Nat} (hk : k ≤ 64) : (dyB q0 q1 q2 q3 q4 q5 q6 l k).Ok where
  need := fun n hn => by
    obtain ⟨z, _, rfl⟩ := List.mem_map.1 hn
    omega
  few := by simp [dyB]; omega
  num := fun j => by
    unfold dyB
    simp only
    repeat' split
    all_goals omega
  rel := by show (24 * (q4 % 1024)) % 24 = 0; omega
theorem addr_block (ad : Addr) (k : Nat) : (ad.add k).block = ad.block := by unfold Addr.add; split <;> rfl
theorem Ok_wf {d : Dyn} (h : d.Ok) : d.wf := ⟨fun n hn => WalkArith.wf_i64 (by have := h.need n hn; omega), fun j => WalkArith.wf_i64 (by have := h.num j; omega)⟩

set_option maxRecDepth 100000 in
set_option maxHeartbeats 3200000 in
theorem walk (A : Option Addr) (l : List Int) (c : Nat) (q0 q1 q2 q3 q4 q5 q6 : Int) (s : ByteArray) (w : World) (hm : l.length ≤ maxLen) (hz : IntRow w A l)
    (u0 : (Lit.int .i64 q0).wf = true) (u1 : (Lit.int .i64 q1).wf = true) (u2 : (Lit.int .i64 q2).wf = true) (u3 : (Lit.int .i64 q3).wf = true) (u4 : (Lit.int .i64 q4).wf = true) (u5 : (Lit.int .i64 q5).wf = true) (u6 : (Lit.int .i64 q6).wf = true)
    (ws : s.size ≤ maxLen) (hT : Dyt w) :
    Calls Tryd.prog 3 #[.slice A l.length c, .agg #[.int .i64 q0, .int .i64 q1, .int .i64 q2, .int .i64 q3, .int .i64 q4, .int .i64 q5, .int .i64 q6], .string s] w fun e w' => e = .returned (.bool true) ∧ Below w.heap.size w w' := by
  have hsh := fun v => short9_any s 40 v ws (by omega)
  have hss := shortS9_size s 40
  generalize shortS9 s 40 = S0 at *
  have HSH := Lib.hid hsh
  have HA := Lib.hid (fun v hT => awake9_any v hT)
  obtain ⟨R, hR⟩ : ∃ R, w.heap.size = R := ⟨_, rfl⟩
  have HV := Lib.hid (fun v (hv : Below R w v) => show Dyt v ∧ IntRow v A l from ⟨hT.on (by rw [hR]; exact hv), intRow_below hz hR.symm hv⟩)
  have hB0 : Below R w (w.alloc (.cells #[.int .i64 q0, .int .i64 q1, .int .i64 q2, .int .i64 q3, .int .i64 q4, .int .i64 q5, .int .i64 q6] 23)) := (Below.refl _ _).alloc (by omega) _
  have hK0 := Blk.new w 23 #[.int .i64 q0, .int .i64 q1, .int .i64 q2, .int .i64 q3, .int .i64 q4, .int .i64 q5, .int .i64 q6]
  rw [hR] at hK0
  clear hsh hT hz
  generalize hl : l.length = n at *
  have HL := Lib.hid hl
  unfold maxLen at hm
  clear hl
  go_enter Tryd.func3, Tryd.ntmps3
  go_upto_region 1 with fail
  generalize w.alloc (.cells #[.int .i64 q0, .int .i64 q1, .int .i64 q2, .int .i64 q3, .int .i64 q4, .int .i64 q5, .int .i64 q6] 23) = W0 at *
  go_upto_region 3 with (go_at_call 7; refine (HA.out _ (HV.out _ hB0).1).mono ?_; rintro e v1 ⟨rfl, hb⟩; have hB1 := hB0.trans (hb.mono (by rw [← hR]; exact hB0.size)); have hK1 := hK0.below hb hK0.lt; clear hb hK0 hB0)
  have c0 : v1.cell? ⟨R, 0, none⟩ = some (.int .i64 q0) := hK1.cell 0
  have c1 : v1.cell? ⟨R, 1, none⟩ = some (.int .i64 q1) := hK1.cell 1
  have c2 : v1.cell? ⟨R, 2, none⟩ = some (.int .i64 q2) := hK1.cell 2
  have c3 : v1.cell? ⟨R, 3, none⟩ = some (.int .i64 q3) := hK1.cell 3
  have c4 : v1.cell? ⟨R, 4, none⟩ = some (.int .i64 q4) := hK1.cell 4
  have c5 : v1.cell? ⟨R, 5, none⟩ = some (.int .i64 q5) := hK1.cell 5
  have c6 : v1.cell? ⟨R, 6, none⟩ = some (.int .i64 q6) := hK1.cell 6
  have e0 := i64_and40 q0
  have e1 := i64_and40 q1
  have e2 := i64_and40 q2
  have e3 := i64_and40 q3
  have e4 := i64_and10 q4
  have e5 := i64_and40 q5
  have e6 := i64_and40 q6
  have e7 := i64_and12 q0
  obtain ⟨x4, hx4⟩ : ∃ x, 24 * (q4 % 1024) = x := ⟨_, rfl⟩
  obtain ⟨x7, hx7⟩ : ∃ x, q0 % 4096 * 64 = x := ⟨_, rfl⟩
  have e8 : wrap64 (24 * (q4 % 1024)) = x4 := by rw [IntWalk.wrap64_in _ (by omega)]; exact hx4
  have e9 : wrap64 (q0 % 4096 * 64) = x7 := by rw [IntWalk.wrap64_in _ (by omega)]; exact hx7
  have e10 : IntKind.i64.wrap (24 * (q4 % 1024)) = x4 := by rw [IntWalk.i64_in _ (by omega)]; exact hx4
  have e11 : IntKind.i64.wrap (q0 % 4096 * 64) = x7 := by rw [IntWalk.i64_in _ (by omega)]; exact hx7
  have hD0 : ∀ v, (dyB q0 q1 q2 q3 q4 q5 q6 l 0).cs v = #[v, .int .i64 (q1 % 1099511627776), .int .i64 (q5 % 1099511627776), .int .i64 (q2 % 1099511627776), .int .i64 (q0 % 1099511627776), .int .i64 (q3 % 1099511627776), .int .i64 x4, .int .i64 (q6 % 1099511627776), .int .i64 x7] := fun v => by rw [← hx4, ← hx7]; rfl
  have HOK := Lib.hid (fun k (hk : k ≤ 64) => dyB_ok q0 q1 q2 q3 q4 q5 q6 l hk)
  have HDK := Lib.hid (show (∀ k, (dyB q0 q1 q2 q3 q4 q5 q6 l k).needed = (l.take k).map (· % 1099511627776)) ∧ (∀ k, (dyB q0 q1 q2 q3 q4 q5 q6 l k).f = (dyB q0 q1 q2 q3 q4 q5 q6 l 0).f) from ⟨fun _ => rfl, fun _ => rfl⟩)
  generalize dyB q0 q1 q2 q3 q4 q5 q6 l = DY at *
  clear hx4 hx7
  generalize q0 % 1099511627776 = x0 at *
  generalize q1 % 1099511627776 = x1 at *
  generalize q2 % 1099511627776 = x2 at *
  generalize q3 % 1099511627776 = x3 at *
  generalize q5 % 1099511627776 = x5 at *
  generalize q6 % 1099511627776 = x6 at *
  generalize q4 % 1024 = y4 at *
  generalize q0 % 4096 = y0 at *
  have hbd : ∀ (w : World), (Instr.build 26 #[(4, .int .i64 x0), (1, .int .i64 x1), (3, .int .i64 x2), (5, .int .i64 x3), (6, .int .i64 x4), (2, .int .i64 x5), (7, .int .i64 x6), (8, .int .i64 x7)]).run Tryd.prog w = .ok (.agg #[.slice none 0 0, .int .i64 x1, .int .i64 x5, .int .i64 x2, .int .i64 x0, .int .i64 x3, .int .i64 x4, .int .i64 x6, .int .i64 x7]) w := fun w => run_build w 26 _ _ (by kernel_rfl)
  have HS := Lib.hid (fun (W1 : World) (hW : v1.alloc (.cells #[.slice none 0 0, .int .i64 x1, .int .i64 x5, .int .i64 x2, .int .i64 x0, .int .i64 x3, .int .i64 x4, .int .i64 x6, .int .i64 x7] 26) = W1) =>
    show Sd v1.heap.size (v1.heap.size + 1) (.slice none 0 0) (DY 0) W1 ∧ Below R w W1 from by
    subst hW
    refine ⟨⟨by rw [hD0]; exact Blk.new _ _ _, ?_, by simp⟩, hB1.alloc (by rw [← hR]; exact hB1.size) _⟩
    rw [HDK.out.1]
    exact World.ownsRow_nil _ _ _ _)
  have hXR : R ≤ v1.heap.size := by rw [← hR]; exact hB1.size
  clear hK1 hB1 hD0
  go_upto_region 4 with fail
  generalize hW : v1.alloc (.cells #[.slice none 0 0, .int .i64 x1, .int .i64 x5, .int .i64 x2, .int .i64 x0, .int .i64 x3, .int .i64 x4, .int .i64 x6, .int .i64 x7] 26) = W1
  obtain ⟨hS, hBW⟩ := HS.out W1 hW
  clear hW HS c0 c1 c2 c3 c4 c5 c6 e0 e1 e2 e3 e4 e5 e6 e7 e8 e9 e10 e11 hbd
  generalize v1.heap.size = X at *
  have H0 := Lib.hid hS
  have HB0 := Lib.hid hBW
  clear hS hBW
  obtain ⟨i0, hi, hz0, hz1, hz2⟩ := info_parts infoInt
  go_wp2_with fail
  go_loopw [10] (fun i wr => ∃ (k : Nat) (v : Value), k ≤ n ∧ k ≤ 64 ∧ i = .int .i64 k ∧ Hid (Sd X (X + 1) v (DY k) wr) ∧ Hid (Below R w wr)) (fun i _ => n - (intOf i).toNat)
  case atStart => exact ⟨0, _, Nat.zero_le _, by omega, rfl, H0, HB0⟩
  case round =>
    obtain ⟨k, v, hk, hk64, rfl, HS, HBE⟩ := hrel
    by_cases hlt : k < n ∧ k < 64
    · obtain ⟨hlt1, hlt2⟩ := hlt
      have hkl : k < l.length := by rw [HL.out]; exact hlt1
      obtain ⟨ad, rfl, hblt, d0, hwf⟩ := (HV.out wr HBE.out).2 k hkl
      obtain ⟨z, hz⟩ : ∃ z, l[k] = z := ⟨_, rfl⟩
      rw [hz] at d0 hwf
      have ez := i64_and40 z
      have hdn : (DY k).needed.length = k := by rw [HDK.out.1, List.length_map, List.length_take, HL.out]; omega
      have hnx : dints (DY (k + 1)).needed = dints (DY k).needed ++ [.int .i64 (z % 1099511627776)] := by
        rw [HDK.out.1, HDK.out.1, List.take_succ_eq_append_getElem hkl, List.map_append, hz]
        simp [dints]
      have hcs : ∀ u u' : Value, ((DY k).cs u).setIfInBounds 0 u' = (DY (k + 1)).cs u' := fun u u' => by
        unfold Dyn.cs
        rw [HDK.out.2 k, HDK.out.2 (k + 1)]
        rfl
      have hdn2 : (DY (k + 1)).needed.length = k + 1 := by rw [HDK.out.1, List.length_map, List.length_take, HL.out]; omega
      generalize z % 1099511627776 = y at *
      have hblk := HS.out.blk
      have hown := HS.out.own
      rw [hdn] at hown
      have x0 : wr.cell? ⟨X, 0, none⟩ = some v := hblk.cell 0
      have x1 : (wr.alloc (.cells #[.int .i64 y] 3)).cell? ⟨X, 0, none⟩ = some v := (hblk.alloc _).cell 0
      have d1 : (wr.alloc (.cells #[.int .i64 y] 3)).cell? (ad.add k) = some (.int .i64 z) := (((Below.refl _ wr).alloc (Nat.le_refl _) _).cell (by rw [addr_block]; exact hblt)).trans d0
      have k0 : (0 : Int) ≤ (k : Int) := by omega
      have k1 : (k : Int) < (n : Int) := by omega
      have k2 : (k : Int) < 64 := by omega
      have HLE := HS.out.le
      have HBK := Lib.hid hblk
      have HO := Lib.hid hown
      have HNX := Lib.hid (And.intro hnx (And.intro hdn hdn2))
      have HCS := Lib.hid hcs
      have hne : v.ownBlock ≠ some X := fun e => by have := (hown.lt _ e).1; omega
      clear hnx hdn hdn2 hcs hblk hown
      obtain ⟨dl, hdl⟩ : ∃ dl, dints (DY k).needed = dl := ⟨_, rfl⟩
      rw [hdl] at HO HNX
      clear hdl hwf hz
      go_wp2_with fail
      go_region_law (first
        | (go_loud (refine step_append_lies _ (by rfl) _ _ _ (by rfl) (X + 1) 3 i0 _ 1 8 Tryd.underlying22 hi hz0 hz1 hz2 rfl (by omega) v k dl (by rfl) (HO.out.alloc (.cells #[.int .i64 y] 3)) ⟨wr.heap.size, 0, none⟩ 1 1 [.int .i64 y] (by rfl) (by rfl) (World.news_of_block (cs := #[.int .i64 y]) (t := 3) (fr := (0, 0)) (heap_alloc_new wr (.cells #[.int .i64 y] 3))) (by simp [Value.oneCell']) (by omega) (by unfold maxLen; omega) (by omega) (by simp; omega) (wr.heap.size + 1) (by simp) ?_)
           intro gg cap w1 hown1 hgrow hat hlt1
           have HX1 := Lib.hid ((HBK.out.alloc (.cells #[.int .i64 y] 3)).drew.grown hgrow (by exact fun e => hne e.symm))
           have p1 : w1.cell? ⟨X, 0, none⟩ = some v := HX1.out.cell 0
           have f1 := HX1.out.frozen 0
           have HO1 := Lib.hid hown1
           have HG1 := Lib.hid hgrow
           clear hown1 hgrow hat))
      all_goals
        have HSD := Lib.hid (show Sd X (X + 1) (.slice (some ⟨gg, 0, none⟩) (k + 1) cap) (DY (k + 1)) (w1.setCell ⟨X, 0, none⟩ (.slice (some ⟨gg, 0, none⟩) (k + 1) cap)) from
          ⟨by rw [← HCS.out v]; exact HX1.out.set_ 0 _, by rw [HNX.out.1, HNX.out.2.2]; exact own_setD HO1.out (p := ⟨X, 0, none⟩) (Nat.lt_succ_self X) _, by
            have h1 := HG1.out.size
            have h2 : (w1.setCell ⟨X, 0, none⟩ (.slice (some ⟨gg, 0, none⟩) (k + 1) cap)).heap.size = w1.heap.size := by simp
            simp at h1
            omega⟩)
        have HBE2 := Lib.hid ((((HBE.out.alloc (by omega) (.cells #[.int .i64 y] 3)).drew).grown HG1.out (by simp; omega) (fun j e => by have := (HO.out.lt j e).1; omega)).setCell (p := ⟨X, 0, none⟩) hXR (.slice (some ⟨gg, 0, none⟩) (k + 1) cap))
        clear HX1 HO1 HG1
        go_wp2_with fail
        go_roundw
        case rel => exact ⟨k + 1, _, by omega, by omega, by go_num, HSD, HBE2⟩
        case measure => simp [intOf]; omega
    · have hex : (k < n ∧ ¬ k < 64) ∨ ¬ k < n := by omega
      have hok := HOK.out k hk64
      have hblk := HS.out.blk
      obtain ⟨-, A2, c2, rfl, hrow⟩ := intRow_own HS.out.own (Ok_wf hok).need
      generalize DY k = D at *
      clear HS HDK HOK H0 HB0
      have hbe := HBE.out
      obtain ⟨G, hG⟩ : ∃ G, wr.heap.size = G := ⟨_, rfl⟩
      have hRG : R ≤ G := by rw [← hG, ← hR]; exact hbe.size
      have hlen := hok.few
      obtain ⟨m, hml⟩ : ∃ m, D.needed.length = m := ⟨_, rfl⟩
      obtain ⟨T, hT⟩ : ∃ T, mkb D.tabL = T := ⟨_, rfl⟩
      have htl : T.size = 16 * D.ents.length + 16 := by rw [← hT, mkb_size]; unfold Dyn.tabL; rw [entsL_length]; simp; omega
      have hent := D.ents_le
      have hcat : T ++ S0 = mkb (D.tabL ++ S0.data.toList) := by rw [← mkb_append, hT, mkb_of]
      have hr1 := hok.read S0.data.toList
      have hr2 := hok.less
      have hcut : T.extract 0 (T.size - 1) = mkb (D.tabL.take (D.tabL.length - 1)) := by
        rw [extract_mkb, ← hT, mkb_data, mkb_size]
        simp
      rw [← hcat] at hr1
      rw [← hcut] at hr2
      have hsm := hok.same
      obtain ⟨E, hE⟩ : ∃ E, dynL D.ents = E := ⟨_, rfl⟩
      rw [hE] at hsm
      have hEl : E.needed.length ≤ 200 := by rw [← hE]; have := needed_le D.ents; omega
      have h1 : readD (T ++ S0) = E ∧ readE (T ++ S0) = 0 := by unfold readD readE; rw [hr1]; exact ⟨hE, rfl⟩
      have h2 : readD (T.extract 0 (T.size - 1)) = Dyn.none ∧ readE (T.extract 0 (T.size - 1)) = 17 := by unfold readD readE; rw [hr2]; exact ⟨rfl, rfl⟩
      have hcs1 : (T ++ S0).size = T.size + S0.size := by simp
      have hcs2 : (T.extract 0 (T.size - 1)).size ≤ T.size := by rw [extract_mkb, mkb_size]; simp
      have hrd1 := fun v => dread_any (T ++ S0) v (by rw [hcs1, htl]; omega)
      have hrd2 := fun v => dread_any (T.extract 0 (T.size - 1)) v (by omega)
      rw [h1.1, h1.2] at hrd1
      rw [h2.1, h2.2] at hrd2
      have HXC := Lib.hid (fun v (hv : Below G wr v) => show Blk v X 26 (D.cs (.slice A2 m c2)) ∧ IntRow v A2 D.needed ∧ Dyt v ∧ Below R w v from by
        have hbv := hbe.trans (hv.mono hRG)
        exact ⟨by rw [← hml]; exact hblk.below hv (by rw [← hG]; exact hblk.lt), intRow_below hrow hG.symm hv, (HV.out v hbv).1, hbv⟩)
      have HVAL := Lib.hid (fun v (h : Blk v X 26 (D.cs (.slice A2 m c2))) => dyn_vals D h)
      have HBY := Lib.hid (fun v (h1 : Dyt v) (h2 : IntRow v A2 D.needed) => show Calls Tryd.prog 9 #[.agg (D.cs (.slice A2 m c2))] v fun e w' => e = .returned (.string T) ∧ Below v.heap.size v w' from by
        rw [← hml, ← hT]
        exact dbytes_any D A2 c2 v h1 (Ok_wf hok) h2 (by omega))
      have HSAME := Lib.hid (fun v A3 c3 (h1 : Dyt v) (h2 : IntRow v A3 E.needed) (h3 : IntRow v A2 D.needed) => show Calls Tryd.prog 11 #[.agg (E.cs (.slice A3 E.needed.length c3)), .agg (D.cs (.slice A2 m c2))] v fun e w' => e = .returned (.bool true) ∧ Below v.heap.size v w' from by
        have := dsame_any E D A3 A2 c3 c2 v h1 h2 h3 (by omega) (by omega)
        rw [hsm, hml] at this
        exact this)
      have HVE := Lib.hid (fun v Y (u : Value) (h : Blk v Y 26 (E.cs u)) => dyn_vals E h)
      have HR1 := Lib.hid hrd1
      have HR2 := Lib.hid hrd2
      obtain ⟨tl, htl2⟩ : ∃ tl, T.size = tl := ⟨_, rfl⟩
      have ht16 : 16 ≤ tl ∧ tl ≤ 2000 := by omega
      rw [htl2] at HR2
      obtain ⟨K, hK⟩ : ∃ K, tl - 1 = K := ⟨_, rfl⟩
      rw [hK] at HR2
      have hK1 : IntKind.i64.wrap ((tl : Int) - 1) = (K : Int) := by rw [← hK, IntWalk.i64_in _ (by omega)]; omega
      have hK2 : decide ((tl : Int) < 16) = false := decide_eq_false (by omega)
      have hK3 : K ≤ tl := by omega
      have hK4 : (K : Int) ≤ (tl : Int) := by omega
      clear hK
      have k64 : decide ((k : Int) < 64) = decide ((k : Int) < 64) := rfl
      clear hok hblk hrow hlen hml hT htl hent hcat hr1 hr2 hcut hsm hE h1 h2 hcs1 hcs2 hrd1 hrd2 k64 hlt
      unfold DynET at HR1 HR2
      unfold Dyn.cs at HXC HVAL HBY HSAME HVE HR1 HR2
      unfold Dyn.none at HR2
      simp only [List.length_nil] at HR2
      have hG0 := Below.refl G wr
      obtain ⟨hb0, hr0, hT0, -⟩ := HXC.out wr hG0
      obtain ⟨x0, x1, x2, x3, x4, x5, x6, x7, x8⟩ := HVAL.out wr hb0
      clear hb0
      rcases hex with ⟨k1, k2⟩ | k1
      all_goals
        go_upto_region 9 with (first
          | (go_at_call 9; refine (HBY.out _ hT0 hr0).mono ?_; rintro e v1 ⟨rfl, hb1⟩; have hG1 := hG0.trans (hb1.mono (by omega)); clear hb1 hT0 hr0 x0 x1 x2 x3 x4 x5 x6 x7 x8)
          | (go_at_call 10; refine (HSH.out _).mono ?_; rintro e w' ⟨rfl, rfl⟩)
          | (go_at_call 8; refine (HR1.out _).mono ?_; rintro e v2 ⟨A3, c3, rfl, hrow, hb2⟩
             have hG2 := hG1.trans (hb2.mono (by have := hG1.size; omega))
             clear hb2))
        have HW3 := Lib.hid (fun (W3 : World) (hW : v2.alloc (.cells #[.slice A3 E.needed.length c3, .int .i64 (E.f 1), .int .i64 (E.f 2), .int .i64 (E.f 3), .int .i64 (E.f 4), .int .i64 (E.f 5), .int .i64 (E.f 6), .int .i64 (E.f 7), .int .i64 (E.f 8)] 26) = W3) =>
          show Blk W3 v2.heap.size 26 #[.slice A3 E.needed.length c3, .int .i64 (E.f 1), .int .i64 (E.f 2), .int .i64 (E.f 3), .int .i64 (E.f 4), .int .i64 (E.f 5), .int .i64 (E.f 6), .int .i64 (E.f 7), .int .i64 (E.f 8)] ∧ IntRow W3 A3 E.needed ∧ Below G wr W3 from by
          subst hW
          exact ⟨Blk.new _ _ _, intRow_below hrow rfl ((Below.refl _ _).alloc (Nat.le_refl _) _), hG2.alloc (by rw [← hG]; exact hG2.size) _⟩)
        generalize hW3 : v2.alloc (.cells #[.slice A3 E.needed.length c3, .int .i64 (E.f 1), .int .i64 (E.f 2), .int .i64 (E.f 3), .int .i64 (E.f 4), .int .i64 (E.f 5), .int .i64 (E.f 6), .int .i64 (E.f 7), .int .i64 (E.f 8)] 26) = W3
        obtain ⟨hbE, hrE, hG3⟩ := HW3.out W3 hW3
        clear HW3 hW3 hrow hG2
        generalize v2.heap.size = Y at *
        obtain ⟨hbX, hrX, hTX, -⟩ := HXC.out W3 hG3
        obtain ⟨x0, x1, x2, x3, x4, x5, x6, x7, x8⟩ := HVAL.out W3 hbX
        have HE3 := Lib.hid (fun v (hv : Below W3.heap.size W3 v) => show Blk v Y 26 #[.slice A3 E.needed.length c3, .int .i64 (E.f 1), .int .i64 (E.f 2), .int .i64 (E.f 3), .int .i64 (E.f 4), .int .i64 (E.f 5), .int .i64 (E.f 6), .int .i64 (E.f 7), .int .i64 (E.f 8)] ∧ IntRow v A3 E.needed ∧ Below G wr v from
          ⟨hbE.below hv hbE.lt, intRow_below hrE rfl hv, hG3.trans (hv.mono (by rw [← hG]; exact hG3.size))⟩)
        have hv3 := Below.refl W3.heap.size W3
        clear hbX hbE hrE hG3
        go_upto_region 13 with (first
          | (go_at_call 9; refine (HBY.out _ hTX hrX).mono ?_; rintro e v4 ⟨rfl, hb4⟩; have hv4 := hv3.trans hb4; clear hb4 hTX hrX x0 x1 x2 x3 x4 x5 x6 x7 x8)
          | (go_at_call 8; refine (HR2.out _).mono ?_; rintro e v5 ⟨A5, c5, rfl, -, hb5⟩
             have hv5 := hv4.trans (hb5.mono hv4.size)
             clear hb5))
        generalize hW6 : v5.alloc (.cells #[.slice A5 0 c5, .int .i64 0, .int .i64 0, .int .i64 0, .int .i64 0, .int .i64 0, .int .i64 0, .int .i64 0, .int .i64 0] 26) = W6
        have hv6 : Below W3.heap.size W3 W6 := by rw [← hW6]; exact hv5.alloc hv5.size _
        clear hW6 hv5
        obtain ⟨hbE, hrE, hG6⟩ := HE3.out W6 hv6
        obtain ⟨hbX, hrX, hTX, hBX⟩ := HXC.out W6 hG6
        obtain ⟨x0, x1, x2, x3, x4, x5, x6, x7, x8⟩ := HVAL.out W6 hbX
        obtain ⟨y0, y1, y2, y3, y4, y5, y6, y7, y8⟩ := HVE.out W6 Y _ hbE
        have HS6 := Lib.hid (HSAME.out W6 A3 c3 hTX hrE hrX)
        have HBX := Lib.hid hBX
        have HBL := Lib.hid (show R ≤ W6.heap.size from by rw [← hR]; exact hBX.size)
        clear hbE hrE hG6 hbX hrX hTX hBX hv6
        go_wp2_with (go_at_call 11; refine HS6.out.mono ?_; rintro e v7 ⟨rfl, hb7⟩)
        go_ret
        exact ⟨rfl, by rw [hR]; exact HBX.out.trans (hb7.mono HBL.out)⟩

set_option maxRecDepth 100000 in
theorem lifted (os : Os) (started : os.Started) (H : Type) (enc : TypeId × Value → H) :
    ReturnsInHanded {} Tryd.checked os 3 .any (fun w args => (Rows.dynamicBackSpec.pre enc Tryd.prog Tryd.f3 Rows.dynamicBackRow.domain false w args ∧ laidMet Tryd.prog Rows.dynamicBackRow.laid w) ∧ sizedMet enc Tryd.prog Tryd.f3 (OpenSpec.ofChange Rows.dynamicBackSpec) false w args) (Rows.dynamicBackSpec.post enc Tryd.prog Tryd.f3 false true false false) := by
  refine returnsInHanded_of_change_and (C := Tryd.checked) (X := fun w _ => laidMet Tryd.prog Rows.dynamicBackRow.laid w) (fun _ _ _ hh h => h.of_heap hh) own started (by kernel_rfl) Tryd.func3
    (ChangeSpec.witness_at (enc := enc) (C := Tryd.checked) (os := os) (X := fun w _ => laidMet Tryd.prog Rows.dynamicBackRow.laid w) false (laidWorld os) #[.slice none 0 0, .agg #[.int .i64 0, .int .i64 0, .int .i64 0, .int .i64 0, .int .i64 0, .int .i64 0, .int .i64 0], .string ⟨#[]⟩] 8 rfl (by kernel_rfl) (by kernel_rfl) (by kernel_rfl) (by kernel_rfl) (by kernel_rfl) (laid_met os _)) ?_
  intro W base args ds gs before hval0 hW hcnd _ hL _
  have hval : ∀ (j : Nat) t v, Tryd.f3.params[j]? = some t → args[j]? = some v → Value.okWide Tryd.prog W .any base t v := hval0
  have hW' := hW
  obtain ⟨p, q, hA0, hV, rfl, hfz, hnd⟩ := hW
  have hA : DataW.TrodAll enc Tryd.prog W 0 (fun _ => true) true Tryd.f3.params.toList args.toList ds p := hA0
  rw [Tryd.params3] at hA hval
  obtain ⟨v0, vs0, d0, ds0, p0, q0, hargs, rfl, rfl, h0, r0⟩ := trodAll_cons hA
  obtain ⟨v1, vs1, d1, ds1, p1, q1, rfl, rfl, rfl, h1, r1⟩ := trodAll_cons r0
  obtain ⟨v2, vs2, d2, ds2, p2, q2, rfl, rfl, rfl, h2, r2⟩ := trodAll_cons r1
  obtain ⟨rfl, rfl, rfl⟩ := trodAll_nil r2
  obtain rfl : args = #[v0, v1, v2] := by cases args; simp_all
  obtain ⟨rfl, rfl⟩ := trodVars_none hV
  have k0 := h0
  have lt0 : ∀ x ∈ p0, x.block < W.heap.size := by obtain ⟨m, hm⟩ := k0; exact DataW.trod_lt m _ _ _ hm
  obtain ⟨LA0, Ll0, Lc0, rfl, Lm0, Lr0⟩ := openInts9 (hval 0 22 v0 rfl rfl) h0
  have k1 := h1
  have lt1 : ∀ x ∈ p1, x.block < W.heap.size := by obtain ⟨m, hm⟩ := k1; exact DataW.trod_lt m _ _ _ hm
  obtain ⟨z1, e1, hl1, hw1⟩ := open_ints_array Tryd.underlying23 Tryd.underlying3 (by kernel_rfl) (by kernel_rfl) (hval 1 23 v1 rfl rfl) h1
  obtain ⟨a1_0, a1_1, a1_2, a1_3, a1_4, a1_5, a1_6, rfl⟩ : ∃ a1_0 a1_1 a1_2 a1_3 a1_4 a1_5 a1_6, z1 = [a1_0, a1_1, a1_2, a1_3, a1_4, a1_5, a1_6] := by
    match z1, hl1 with
    | [a1_0, a1_1, a1_2, a1_3, a1_4, a1_5, a1_6], _ => exact ⟨_, _, _, _, _, _, _, rfl⟩
  obtain rfl : v1 = .agg #[.int .i64 a1_0, .int .i64 a1_1, .int .i64 a1_2, .int .i64 a1_3, .int .i64 a1_4, .int .i64 a1_5, .int .i64 a1_6] := e1
  have k2 := h2
  have lt2 : ∀ x ∈ p2, x.block < W.heap.size := by obtain ⟨m, hm⟩ := k2; exact DataW.trod_lt m _ _ _ hm
  obtain ⟨a2, rfl, _, _, w2⟩ := open_string Tryd.underlying9 (hval 2 9 v2 rfl rfl) h2
  clear hA0 hval0
  refine (walk LA0 Ll0 Lc0 a1_0 a1_1 a1_2 a1_3 a1_4 a1_5 a1_6 a2 W Lm0 Lr0 (hw1 a1_0 (by simp)) (hw1 a1_1 (by simp)) (hw1 a1_2 (by simp)) (hw1 a1_3 (by simp)) (hw1 a1_4 (by simp)) (hw1 a1_5 (by simp)) (hw1 a1_6 (by simp)) w2 (tab_of_laid hL)).mono fun e W' ⟨he, bel⟩ => ?_
  subst he
  exact ⟨_, rfl, _, _, _, [], _, [], hW', trodAll_mk1 (shut_bool Tryd.underlying4 _), (trodAll_cons_mk (Below.trod laidOut (by kernel_rfl) (of_decide_eq_true (by kernel_rfl)) k0 bel lt0) (trodAll_cons_mk (Below.trod laidOut (by kernel_rfl) (of_decide_eq_true (by kernel_rfl)) k1 bel lt1) (trodAll_cons_mk (Below.trod laidOut (by kernel_rfl) (of_decide_eq_true (by kernel_rfl)) k2 bel lt2) trodAll_mk0))), rfl, bel.frame _, fun h => by cases h⟩
theorem over : Rows.dynamicBackRow.holds Tryd.pinned (OpenSpec.ofChange Rows.dynamicBackSpec) :=
  OpenClaim.holds_of_wide 3 Tryd.f3 rfl rfl rfl rfl rfl rfl rfl ⟨rfl, rfl, rfl, rfl, rfl⟩ rfl rfl rfl rfl rfl (by kernel_rfl) Tryd.func3 (by kernel_rfl)
    (of_decide_eq_true (by kernel_rfl)) (by unfold Func.isWrapper; first | (rw [if_pos (by decide +kernel)]; kernel_rfl) | (rw [if_neg (by decide +kernel)]; exact ⟨rfl, rfl⟩))
    (fun os started H enc _ => lifted os started H enc)
set_option maxRecDepth 100000 in
/-- The statement. -/
theorem proved : Rows.DynamicBackCardSaid :=
  Claim7.holds_tied_plain_at .later [] [.data] true _ false over (fun _ h => by cases h) (by kernel_rfl) (fun _ h => by cases h) dynamicBack_row_tie rfl ⟨rfl, rfl⟩ (by kernel_rfl) rfl
    (fun f fn hf hfn => by
      obtain rfl : f = 3 := Option.some.inj (hf.symm.trans (by kernel_rfl))
      obtain rfl : fn = Tryd.f3 := Option.some.inj (hfn.symm.trans Tryd.func3)
      refine ⟨by kernel_rfl, fun j t ht => ?_⟩
      rw [Tryd.params3] at ht
      match j, ht with
      | 0, ht =>
        obtain rfl : t = 22 := by simpa using ht.symm
        exact (by kernel_rfl : Tryd.pinned.checked.prog.wantsStandIn 22 = false)
      | 1, ht =>
        obtain rfl : t = 23 := by simpa using ht.symm
        exact (by kernel_rfl : Tryd.pinned.checked.prog.wantsStandIn 23 = false)
      | 2, ht =>
        obtain rfl : t = 9 := by simpa using ht.symm
        exact (by kernel_rfl : Tryd.pinned.checked.prog.wantsStandIn 9 = false)
      | j + 3, ht => simp at ht)
    (by kernel_rfl)
end Go.Proofs.YtmbglkebgeomcaaDoor.lawBack9
