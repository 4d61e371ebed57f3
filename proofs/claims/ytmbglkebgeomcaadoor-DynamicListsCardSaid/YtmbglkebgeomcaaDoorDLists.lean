/- DynamicLists: for any words, places and picks: names that stand one behind the other are told in the order of the places that are needed; an empty one, or one beyond the names' end, is none. -/
import Derived.Test.YtmbglkebgeomcaaDoorDK
import Derived.Deep.RegionLaw
import Derived.Deep.CutBlock
import Derived.Maps.AppendAt
namespace Go.Proofs.YtmbglkebgeomcaaDoor.lawLists9
open Go.RowKit Go.ChangeShapes Go.WideShapes Go.Deep
open Go.Proofs.YtmbglkebgeomcaaDoor.l9
set_option linter.unusedVariables false
set_option linter.unusedSimpArgs false

theorem addr_block (ad : Addr) (k : Nat) : (ad.add k).block = ad.block := by unfold Addr.add; split <;> rfl
theorem but_cell {S : Nat → Prop} {w v : World} (h : But S w v) {p : Addr} (hlt : p.block < w.heap.size) (hS : ¬ S p.block) : v.cell? p = w.cell? p := by
  unfold World.cell?
  rw [h.block _ hlt hS]
def pF (l : List Int) (i : Nat) : Nat := 97 + (l.getD i 0 % 8).toNat
def qF (i : Nat) : Nat := 48 + i
theorem lets (l : List Int) {J : Nat} (h : J ≤ 6) : Lets (pF l) qF J := ⟨fun i hi => by unfold pF; omega, fun i hi => by unfold qF; omega⟩
def nmsF (l : List Int) (k : Nat) : List ByteArray := (List.range k).map fun i => mkb (wB (pF l) qF i)
def plsF (k : Nat) : List Int := (List.range k).map fun i => ((3 * i : Nat) : Int)
theorem nmsF_succ (l : List Int) (k : Nat) : strs (nmsF l (k + 1)) = strs (nmsF l k) ++ [.string (mkb (wB (pF l) qF k))] := by
  unfold nmsF
  rw [List.range_succ, List.map_append, List.map_cons, List.map_nil, strs_snoc]
theorem plsF_succ (k : Nat) : dints (plsF (k + 1)) = dints (plsF k) ++ [.int .i64 ((3 * k : Nat) : Int)] := by
  unfold plsF
  rw [List.range_succ, List.map_append, List.map_cons, List.map_nil, dints_snoc]
theorem nmsF_len (l : List Int) (k : Nat) : (strs (nmsF l k)).length = k := by simp [strs, nmsF]
theorem plsF_len (k : Nat) : (dints (plsF k)).length = k := by simp [dints, plsF]
theorem view_size (a : Nat) (l : List Int) (k : Nat) : (mkb (viewL a (pF l) qF k)).size = a + 3 * k := by rw [mkb_size]; simp [viewL, zB_length]
theorem view_succ (a : Nat) (l : List Int) (k : Nat) : mkb (viewL a (pF l) qF k) ++ mkb (wB (pF l) qF k) ++ ⟨#[0]⟩ = mkb (viewL a (pF l) qF (k + 1)) := by
  rw [show (⟨#[0]⟩ : ByteArray) = mkb [0] from rfl, mkb_append, mkb_append]
  unfold viewL
  rw [zB_succ, List.append_assoc, List.append_assoc]
def ndsF (K : List Nat) : List Int := K.map fun k => ((3 * k : Nat) : Int)
def wtsF (l : List Int) (K : List Nat) : List ByteArray := K.map fun k => mkb (wB (pF l) qF k)
theorem ndsF_snoc (K : List Nat) (k : Nat) : dints (ndsF (K ++ [k])) = dints (ndsF K) ++ [.int .i64 ((3 * k : Nat) : Int)] := by unfold ndsF; rw [List.map_append, List.map_cons, List.map_nil, dints_snoc]
theorem wtsF_snoc (l : List Int) (K : List Nat) (k : Nat) : strs (wtsF l (K ++ [k])) = strs (wtsF l K) ++ [.string (mkb (wB (pF l) qF k))] := by unfold wtsF; rw [List.map_append, List.map_cons, List.map_nil, strs_snoc]
theorem ndsF_len (K : List Nat) : (dints (ndsF K)).length = K.length := by simp [dints, ndsF]
theorem wtsF_len (l : List Int) (K : List Nat) : (strs (wtsF l K)).length = K.length := by simp [strs, wtsF]
theorem plsF_at {k J : Nat} (h : k < J) (h2 : k < (plsF J).length) : (plsF J)[k] = ((3 * k : Nat) : Int) := by simp [plsF]
theorem nmsF_at (l : List Int) {k J : Nat} (h : k < J) (h2 : k < (nmsF l J).length) : (nmsF l J)[k] = mkb (wB (pF l) qF k) := by simp [nmsF]
theorem tmod_in (z : Int) {J : Int} (h0 : 0 < J) : -J < z.tmod J ∧ z.tmod J < J := ⟨Int.lt_tmod_of_pos z h0, Int.tmod_lt_of_pos z h0⟩
theorem dL_cs (a J : Nat) (l : List Int) (v : Value) : (dL a J l).cs v = #[v, .int .i64 a, .int .i64 ((3 * J : Nat) : Int), .int .i64 0, .int .i64 0, .int .i64 0, .int .i64 0, .int .i64 0, .int .i64 0] := rfl
/-- Which name is picked. -/
def pickN (J : Nat) (x : Int) : Nat := ((x.tmod J + J).tmod J).toNat

set_option maxRecDepth 100000 in
set_option maxHeartbeats 3200000 in
theorem walk (A : Option Addr) (l : List Int) (c : Nat) (ah : Int) (A2 : Option Addr) (l2 : List Int) (c2 : Nat) (w : World) (hm : l.length ≤ maxLen) (hz : IntRow w A l) (wa : (Lit.int .i64 ah).wf = true) (hm2 : l2.length ≤ maxLen) (hz2 : IntRow w A2 l2) (hT : Dyt w) :
    Calls Tryd.prog 4 #[.slice A l.length c, .int .i64 ah, .slice A2 l2.length c2] w fun e w' => e = .returned (.bool true) ∧ Below w.heap.size w w' := by
  have HA := Lib.hid (fun v hT => awake9_any v hT)
  obtain ⟨R, hR⟩ : ∃ R, w.heap.size = R := ⟨_, rfl⟩
  have HV := Lib.hid (fun v (hv : Below R w v) => show Dyt v ∧ IntRow v A l ∧ IntRow v A2 l2 from ⟨hT.on (by rw [hR]; exact hv), intRow_below hz hR.symm hv, intRow_below hz2 hR.symm hv⟩)
  have hand := i64_and6 ah
  obtain ⟨a, haa⟩ : ∃ a : Nat, ah % 64 = a := ⟨(ah % 64).toNat, by omega⟩
  rw [haa] at hand
  have ha64 : a < 64 := by omega
  have hfl : fillS ⟨#[]⟩ (a : Int) = mkb (List.replicate a 0) := by
    unfold fillS
    rw [if_neg (by omega)]
    simp [fillL]
  have hfill := fun v => rfill_any ⟨#[]⟩ a v (WalkArith.wf_i64 (by omega)) (by decide) (by omega)
  rw [hfl] at hfill
  obtain ⟨Z, hZ⟩ : ∃ Z, mkb (List.replicate a 0) = Z := ⟨_, rfl⟩
  have hZs : Z.size = a := by rw [← hZ, mkb_size, List.length_replicate]
  have hZ0 : Z = mkb (viewL a (pF l) qF 0) := by rw [← hZ]; simp [viewL, zB]
  rw [hZ] at hfill
  have HFI := Lib.hid hfill
  have HZ0 := Lib.hid hZ0
  clear hfill hfl hZ hZ0 haa hz hz2
  have hT0 := hT
  have hB0 := Below.refl R w
  have hbd : ∀ (x : Int) (w : World), (Instr.build 26 #[(1, .int .i64 x)]).run Tryd.prog w = .ok (.agg #[.slice none 0 0, .int .i64 x, .int .i64 0, .int .i64 0, .int .i64 0, .int .i64 0, .int .i64 0, .int .i64 0, .int .i64 0]) w := fun x w => run_build w 26 _ _ (by kernel_rfl)
  generalize hl : l.length = n at *
  generalize hl2 : l2.length = n2 at *
  have HL := Lib.hid (And.intro hl hl2)
  unfold maxLen at hm hm2
  clear hl hl2
  go_enter Tryd.func4, Tryd.ntmps4
  go_upto_region 4 with (first
    | (go_at_call 7; refine (HA.out _ hT0).mono ?_; rintro e v1 ⟨rfl, hb⟩; rw [hR] at hb; have hB1 := hB0.trans hb; clear hb hT0 hB0)
    | (go_at_call 12; refine (HFI.out _).mono ?_; rintro e v2 ⟨rfl, hb⟩; have hB2 := hB1.trans (hb.mono (by have := hB1.size; omega)); clear hb hB1))
  have HS := Lib.hid (fun (W1 : World) (hW : v2.alloc (.cells #[.slice none 0 0, .int .i64 a, .int .i64 0, .int .i64 0, .int .i64 0, .int .i64 0, .int .i64 0, .int .i64 0, .int .i64 0] 26) = W1) =>
    show Blk W1 v2.heap.size 26 #[.slice none 0 0, .int .i64 a, .int .i64 0, .int .i64 0, .int .i64 0, .int .i64 0, .int .i64 0, .int .i64 0, .int .i64 0] ∧ Below R w W1 ∧ v2.heap.size + 1 ≤ W1.heap.size from by
    subst hW
    exact ⟨Blk.new _ _ _, hB2.alloc (by rw [← hR]; exact hB2.size) _, by simp⟩)
  have hXR : R ≤ v2.heap.size := by rw [← hR]; exact hB2.size
  generalize hW : v2.alloc (.cells #[.slice none 0 0, .int .i64 a, .int .i64 0, .int .i64 0, .int .i64 0, .int .i64 0, .int .i64 0, .int .i64 0, .int .i64 0] 26) = W1
  obtain ⟨hS, hBW, hX1⟩ := HS.out W1 hW
  clear hW HS hB2 HFI hand wa hbd
  generalize v2.heap.size = X at *
  have H0 := Lib.hid hS
  have HB0 := Lib.hid hBW
  clear hS hBW
  obtain ⟨i0, hi, hz0, hz1, hz2⟩ := info_parts infoInt
  obtain ⟨s0, hs, hs0, hs1, hs2⟩ := info_parts infoStr
  go_upto_block 0 with fail
  go_cut [8, 10, 11, 12, 13] from 31 to 68 (fun vw nm pl _ _ wx => ∃ k : Nat, k ≤ 6 ∧ vw = .string (mkb (viewL a (pF l) qF k)) ∧ Hid (Tr wx (X + 1) 9 3 nm pl (strs (nmsF l k)) (dints (plsF k))) ∧ Hid (Blk wx X 26 #[.slice none 0 0, .int .i64 a, .int .i64 0, .int .i64 0, .int .i64 0, .int .i64 0, .int .i64 0, .int .i64 0, .int .i64 0]) ∧ Hid (Below R w wx) ∧ X + 1 ≤ wx.heap.size)
  case first =>
    go_wp2_with fail
    go_loopw [8, 10, 11, 12] (fun vw nm pl i wr => ∃ k : Nat, k ≤ n ∧ k ≤ 6 ∧ i = .int .i64 k ∧ vw = .string (mkb (viewL a (pF l) qF k)) ∧ Hid (Tr wr (X + 1) 9 3 nm pl (strs (nmsF l k)) (dints (plsF k))) ∧ Hid (Blk wr X 26 #[.slice none 0 0, .int .i64 a, .int .i64 0, .int .i64 0, .int .i64 0, .int .i64 0, .int .i64 0, .int .i64 0, .int .i64 0]) ∧ Hid (Below R w wr) ∧ X + 1 ≤ wr.heap.size) (fun _ _ _ i _ => n - (intOf i).toNat)
    case atStart => exact ⟨0, Nat.zero_le _, by omega, rfl, by rw [HZ0.out], Lib.hid (Tr.start _ _ _ _), H0, HB0, hX1⟩
    case round =>
      clear H0 HB0 hX1 HZ0 hZs
      obtain ⟨k, hk, hk6, rfl, rfl, HTR, HBX, HBE, hXs⟩ := hrel
      by_cases hlt : k < n ∧ k < 6
      · obtain ⟨hlt1, hlt2⟩ := hlt
        have hkl : k < l.length := by rw [HL.out.1]; exact hlt1
        obtain ⟨ad, rfl, hblt, d0, hwf⟩ := (HV.out wr HBE.out).2.1 k hkl
        obtain ⟨z, hzz⟩ : ∃ z, l[k] = z := ⟨_, rfl⟩
        rw [hzz] at d0 hwf
        have ez := i64_and3 z
        have hpk : pF l k = 97 + (z % 8).toNat := by unfold pF; rw [show l.getD k 0 = z by rw [← hzz]; simp [List.getD_eq_getElem?_getD, hkl]]
        obtain ⟨y, hy⟩ : ∃ y, z % 8 = y := ⟨_, rfl⟩
        rw [hy] at ez hpk
        have hy8 : 0 ≤ y ∧ y < 8 := by omega
        obtain ⟨P, hP⟩ : ∃ P : Nat, pF l k = P := ⟨_, rfl⟩
        obtain ⟨Q, hQ⟩ : ∃ Q : Nat, qF k = Q := ⟨_, rfl⟩
        have hP1 : IntKind.i64.wrap (97 + y) = (P : Int) := by rw [← hP, hpk, IntWalk.i64_in _ (by omega)]; omega
        have hQ0 : Q = 48 + k := hQ.symm
        have hQ1 : IntKind.i64.wrap (48 + (k : Int)) = (Q : Int) := by rw [hQ0, IntWalk.i64_in _ (by omega)]; omega
        have hPb : P < 256 := by rw [← hP, hpk]; omega
        have hQb : Q < 256 := by omega
        have hP2 : IntKind.u8.wrap (P : Int) = (P : Int) := by simp [IntKind.wrap, IntKind.bits, IntKind.signed]; omega
        have hQ2 : IntKind.u8.wrap (Q : Int) = (Q : Int) := by simp [IntKind.wrap, IntKind.bits, IntKind.signed]; omega
        obtain ⟨Wb, hWb⟩ : ∃ Wb, mkb (wB (pF l) qF k) = Wb := ⟨_, rfl⟩
        have hWs : Wb.size = 2 := by rw [← hWb, mkb_size]; rfl
        have hcells : (Lib.byteCells (wB (pF l) qF k)).toArray = #[.int .u8 (P : Int), .int .u8 (Q : Int)] := by
          unfold wB
          rw [hP, hQ]
          simp only [Lib.byteCells, List.map_cons, List.map_nil, UInt8.toNat_ofNat']
          rw [Nat.mod_eq_of_lt (by omega), Nat.mod_eq_of_lt (by omega)]
        have hcv := run_string_blk (P := Tryd.prog) (wr.alloc (.cells #[.int .u8 (P : Int), .int .u8 (Q : Int)] 5)) 35 9 5 wr.heap.size 2 5 (wB (pF l) qF k) 2 rfl Tryd.underlying35 Tryd.underlying5 Tryd.underlying9 (by rw [hcells]; exact Blk.new _ _ _)
        rw [hWb] at hcv
        have hview := view_succ a l k
        have hvsz := view_size a l k
        have hns := nmsF_succ l k
        have hps := plsF_succ k
        rw [hWb] at hview hns
        have HVN := Lib.hid hview
        have HNS := Lib.hid (And.intro hns hps)
        obtain ⟨Vb, hVb⟩ : ∃ Vb, mkb (viewL a (pF l) qF k) = Vb := ⟨_, rfl⟩
        rw [hVb] at hvsz HVN
        rw [hVb]
        have k0 : (0 : Int) ≤ (k : Int) := by omega
        have k1 : (k : Int) < (n : Int) := by omega
        have k2 : (k : Int) < 6 := by omega
        clear hzz hwf hpk hy hP hQ hQ0 hWb hcells hview hns hps hVb
        go_upto_region 10 with fail
        generalize hW1 : wr.alloc (.cells #[.int .u8 (P : Int), .int .u8 (Q : Int)] 5) = W2
        have hb1 : Below wr.heap.size wr W2 := by rw [← hW1]; exact (Below.refl _ _).alloc (Nat.le_refl _) _
        have tr1 := HTR.out.on hb1
        have HBX1 := Lib.hid (HBX.out.below hb1 HBX.out.lt)
        have HBE1 := Lib.hid (HBE.out.trans (hb1.mono (by omega)))
        have hX2 : X + 1 ≤ W2.heap.size := Nat.le_trans hXs hb1.size
        clear hW1 hb1 hcv HTR HBX HBE
        go_wp2_with (at_builtin; refine Hid.out ?_)
        refine Lib.hid ?_
        refine wpList_append_own_at _ rfl _ _ 34 rfl (X + 1) 9 s0 (.string ⟨#[]⟩) 1 16 Tryd.underlying34 hs hs0 hs1 hs2 rfl (by decide) u10 (strs (nmsF l k)).length (strs (nmsF l k)) rfl (tr1.a.alloc _) ⟨W2.heap.size, 0, none⟩ 1 1 [.string Wb] rfl rfl (cell_one _ _ _) (fun u hu => by simp at hu; subst hu; rfl) (by rw [nmsF_len]; unfold maxLen; omega) (by rw [nmsF_len]; omega) (by simp; omega) ?_
        intro nm' w3 hown3 hgrow3 _ hat3
        have hb2 : Below W2.heap.size W2 (W2.alloc (.cells #[.string Wb] 9)) := (Below.refl _ _).alloc (Nat.le_refl _) _
        have tr2 := tr1.push1 hb2 hown3 hgrow3 hat3
        rw [← HNS.out.1] at tr2
        have HBX2 := Lib.hid ((HBX1.out.alloc _).grown hgrow3 (fun e => by have := (tr1.a.lt _ e.symm).1; omega))
        have HBE2 := Lib.hid ((HBE1.out.alloc (by omega) (.cells #[.string Wb] 9)).grown hgrow3 (by simp; omega) (fun j e => by have := (tr1.a.lt _ e).1; omega))
        have hX3 : X + 1 ≤ w3.heap.size := by have := hgrow3.size; simp at this; omega
        have x1 : w3.cell? ⟨X, 1, none⟩ = some (.int .i64 a) := HBX2.out.cell 1
        have HT2 := Lib.hid tr2
        obtain ⟨pl3, hpl3⟩ : ∃ pl3 : Nat, 3 * k = pl3 := ⟨_, rfl⟩
        obtain ⟨vs, hvs⟩ : ∃ vs : Nat, a + 3 * k = vs := ⟨_, rfl⟩
        rw [hvs] at hvsz
        have hsub : (vs : Int) - (a : Int) = (pl3 : Int) := by omega
        have hvsb : vs ≤ 1000 := by omega
        have hsub2 : IntKind.i64.wrap ((vs : Int) - (a : Int)) = (pl3 : Int) := by rw [hsub]; exact IntWalk.i64_in _ (by omega)
        have hsub3 : IntKind.i64.wrap (pl3 : Int) = (pl3 : Int) := IntWalk.i64_in _ (by omega)
        have hNS2 := HNS.out.2
        rw [hpl3] at hNS2
        have HNS2 := Lib.hid hNS2
        clear hown3 hgrow3 hat3 tr1 tr2 hb2 HBX1 HBE1 HNS hNS2 hpl3 hvs
        go_upto_region 12 with (at_builtin; refine wpList_append_own_at _ rfl _ _ 22 rfl (X + 1) 3 i0 (.int .i64 0) 1 8 Tryd.underlying22 hi hz0 hz1 hz2 rfl (by decide) u11 (dints (plsF k)).length (dints (plsF k)) rfl (HT2.out.b.alloc _) ⟨w3.heap.size, 0, none⟩ 1 1 [.int .i64 (pl3 : Nat)] rfl rfl (cell_one _ _ _) (ints_oneCell .i64 [((pl3 : Nat) : Int)]) (by rw [plsF_len]; unfold maxLen; omega) (by rw [plsF_len]; omega) (by simp; omega) ?_; intro pl' w4 hown4 hgrow4 _ hat4
                                have HT4 := Lib.hid (HT2.out.push2 ((Below.refl _ _).alloc (Nat.le_refl _) _) hown4 hgrow4 hat4)
                                have HG4 := Lib.hid hgrow4
                                clear hown4 hgrow4 hat4)
        have HBX4 := Lib.hid ((HBX2.out.alloc _).grown HG4.out (fun e => by have := (HT2.out.b.lt _ e.symm).1; omega))
        have HBE4 := Lib.hid ((HBE2.out.alloc (by omega) (.cells #[.int .i64 (pl3 : Nat)] 3)).grown HG4.out (by simp; omega) (fun j e => by have := (HT2.out.b.lt _ e).1; omega))
        have hX4 : X + 1 ≤ w4.heap.size := by have := HG4.out.size; simp at this; omega
        rw [← HNS2.out] at HT4
        clear HBX2 HBE2 HT2 HG4 HNS2 x1 hX2 hX3
        go_wp2_with fail
        go_roundw
        case rel => exact ⟨k + 1, by omega, by omega, by go_num, by rw [HVN.out], HT4, HBX4, HBE4, hX4⟩
        case measure => simp [intOf]; omega
      · have hex : (k < n ∧ ¬ k < 6) ∨ ¬ k < n := by omega
        clear hlt
        rcases hex with ⟨k1, k2⟩ | k1
        all_goals
          go_wp2_with fail
          go_meet
          exact ⟨k, hk6, rfl, HTR, HBX, HBE, hXs⟩
  case rest =>
    obtain ⟨k, hk6, rfl, HTR, HBX, HBE, hXs⟩ := hcut
    clear H0 HB0 hX1 HZ0 hZs
    have hvsz := view_size a l k
    have hlets := lets l hk6
    obtain ⟨VL, hVL⟩ : ∃ VL, mkb (viewL a (pF l) qF k) = VL := ⟨_, rfl⟩
    obtain ⟨pl, hpl⟩ : ∃ pl : Nat, 3 * k = pl := ⟨_, rfl⟩
    obtain ⟨vs, hvs⟩ : ∃ vs : Nat, a + 3 * k = vs := ⟨_, rfl⟩
    rw [hVL, hvs] at hvsz
    rw [hVL]
    have hsub : (vs : Int) - (a : Int) = (pl : Int) := by omega
    have hvsb : vs ≤ 1000 := by omega
    have hsub2 : IntKind.i64.wrap ((vs : Int) - (a : Int)) = (pl : Int) := by rw [hsub]; exact IntWalk.i64_in _ (by omega)
    have hsub3 : IntKind.i64.wrap (pl : Int) = (pl : Int) := IntWalk.i64_in _ (by omega)
    have x1 : wc.cell? ⟨X, 1, none⟩ = some (.int .i64 a) := HBX.out.cell 1
    have x2 : wc.cell? ⟨X, 2, none⟩ = some (.int .i64 0) := HBX.out.cell 2
    have f2 := HBX.out.frozen 2
    have HS5 := Lib.hid (fun (W5 : World) (hW : wc.setCell ⟨X, 2, none⟩ (.int .i64 pl) = W5) =>
      show Tr W5 (X + 1) 9 3 u10 u11 (strs (nmsF l k)) (dints (plsF k)) ∧ Blk W5 X 26 ((dL a k []).cs (.slice none 0 0)) ∧ Below R w W5 ∧ X + 1 ≤ W5.heap.size from by
      subst hW
      refine ⟨HTR.out.set (p := ⟨X, 2, none⟩) (Nat.lt_succ_self X) _, ?_, HBE.out.setCell (p := ⟨X, 2, none⟩) hXR _, by simpa using hXs⟩
      have := HBX.out.set_ 2 (.int .i64 pl)
      rw [dL_cs, hpl]
      simpa using this)
    clear HBX HTR HBE hXs
    go_upto_region 14 with fail
    generalize hW5 : wc.setCell ⟨X, 2, none⟩ (.int .i64 pl) = W5
    obtain ⟨hTR, hBX, hBE, hXs⟩ := HS5.out W5 hW5
    clear hW5 HS5 x1 x2 f2
    obtain ⟨-, A3, c3, rfl, hN0⟩ := strRow_own hTR.a (fun x hx => by
      obtain ⟨i, _, rfl⟩ := List.mem_map.1 hx
      rw [mkb_size]
      simp [wB, maxLen])
    obtain ⟨-, A4, c4, rfl, hP0⟩ := intRow_own hTR.b (fun x hx => by
      obtain ⟨i, hi, rfl⟩ := List.mem_map.1 hx
      exact WalkArith.wf_i64 (by have := List.mem_range.1 hi; omega))
    have e3 : (nmsF l k).length = k := by simp [nmsF]
    have e4 : (plsF k).length = k := by simp [plsF]
    rw [e3, e4] at hTR ⊢
    obtain ⟨B, hB⟩ : ∃ B, W5.heap.size = B := ⟨_, rfl⟩
    have HOLD := Lib.hid (fun v (hv : But (fun j => j = X ∨ B ≤ j) W5 v) => show (∀ i (hi : i < k), ∃ ad, A3 = some ad ∧ ad.block < v.heap.size ∧ ad.block < B ∧ v.cell? (ad.add i) = some (.string (mkb (wB (pF l) qF i)))) ∧ (∀ i (hi : i < k), ∃ ad, A4 = some ad ∧ ad.block < v.heap.size ∧ ad.block < B ∧ ad.block ≠ X ∧ v.cell? (ad.add i) = some (.int .i64 ((3 * i : Nat) : Int))) ∧ Below R w v ∧ IntRow v A2 l2 ∧ Dyt v from by
      have hbe : Below R w v := hBE.trans (hv.below (by have := hBE.size; omega) (fun j hj => by omega))
      refine ⟨fun i hi => ?_, fun i hi => ?_, hbe, (HV.out v hbe).2.2, (HV.out v hbe).1⟩
      · obtain ⟨ad, h1, h2, h3, -⟩ := hN0 i (by omega)
        subst h1
        have hoB := hTR.a.lt ad.block rfl
        refine ⟨ad, rfl, Nat.lt_of_lt_of_le h2 hv.size, by omega, ?_⟩
        rw [nmsF_at l hi] at h3
        exact (but_cell hv (by rw [addr_block]; exact h2) (by rw [addr_block]; omega)).trans h3
      · obtain ⟨ad, h1, h2, h3, -⟩ := hP0 i (by omega)
        subst h1
        have hoB := hTR.b.lt ad.block rfl
        refine ⟨ad, rfl, Nat.lt_of_lt_of_le h2 hv.size, by omega, by omega, ?_⟩
        rw [plsF_at hi] at h3
        exact (but_cell hv (by rw [addr_block]; exact h2) (by rw [addr_block]; omega)).trans h3)
    have HB5 := Lib.hid hBX
    have hB5 : B ≤ W5.heap.size := Nat.le_of_eq hB.symm
    have hXB : X < B := by omega
    have HN2 := Lib.hid HL.out.2
    clear hTR hBX hBE hXs hN0 hP0 e3 e4 hvs hpl hsub hsub2 hsub3
    generalize hJ : k = J at *
    clear hJ
    go_upto_block 2 with fail
    go_cut [14, 15, 16] from 75 to 118 (fun wt _ _ wx => ∃ (K : List Nat) (nd : Value), (∀ x ∈ K, x < J) ∧ K.length ≤ 8 ∧ Hid (Tr wx B 3 9 nd wt (dints (ndsF K)) (strs (wtsF l K))) ∧ Hid (Blk wx X 26 ((dL a J (ndsF K)).cs nd)) ∧ Hid (But (fun j => j = X ∨ B ≤ j) W5 wx))
    case first =>
      go_wp2_with fail
      go_loopw [14, 15] (fun wt i wr => ∃ (K : List Nat) (nd : Value), K.length ≤ n2 ∧ i = .int .i64 (K.length : Nat) ∧ (∀ x ∈ K, x < J) ∧ K.length ≤ 8 ∧ Hid (Tr wr B 3 9 nd wt (dints (ndsF K)) (strs (wtsF l K))) ∧ Hid (Blk wr X 26 ((dL a J (ndsF K)).cs nd)) ∧ Hid (But (fun j => j = X ∨ B ≤ j) W5 wr)) (fun _ i _ => n2 - (intOf i).toNat)
      case atStart => exact ⟨[], _, Nat.zero_le _, rfl, by simp, by simp, Lib.hid (Tr.start _ _ _ _), HB5, Lib.hid (But.refl _ _)⟩
      case round =>
        obtain ⟨K, nd, hk, rfl, hK, hK8, HTR, HBX, HBT⟩ := hrel
        obtain ⟨j, hj⟩ : ∃ j, K.length = j := ⟨_, rfl⟩
        rw [hj] at hk hK8 ⊢
        by_cases hlt : j < n2 ∧ j < 8 ∧ 0 < J
        · obtain ⟨hlt1, hlt2, hJ0⟩ := hlt
          have hold := HOLD.out wr HBT.out
          obtain ⟨ad, rfl, hblt, d0, hwf⟩ := hold.2.2.2.1 j (by rw [HN2.out]; exact hlt1)
          obtain ⟨z, hzz⟩ : ∃ z, l2[j]'(by rw [HN2.out]; exact hlt1) = z := ⟨_, rfl⟩
          rw [hzz] at d0
          have ht1 := tmod_in z (J := (J : Int)) (by omega)
          obtain ⟨t1, hte1⟩ : ∃ t1, z.tmod (J : Int) = t1 := ⟨_, rfl⟩
          rw [hte1] at ht1
          obtain ⟨t2, hte2⟩ : ∃ t2, t1 + (J : Int) = t2 := ⟨_, rfl⟩
          have hte2w : IntKind.i64.wrap (t1 + (J : Int)) = t2 := by rw [hte2]; exact IntWalk.i64_in _ (by omega)
          obtain ⟨κ, hκ, hκJ⟩ : ∃ κ : Nat, t2.tmod (J : Int) = (κ : Int) ∧ κ < J := by
            have h1 := tmod_in t2 (J := (J : Int)) (by omega)
            have h2 : 0 ≤ t2.tmod (J : Int) := Int.tmod_nonneg _ (by omega)
            exact ⟨(t2.tmod (J : Int)).toNat, by omega, by omega⟩
          have hw1 : IntKind.i64.wrap t1 = t1 := IntWalk.i64_in _ (by omega)
          have hw2 : IntKind.i64.wrap (κ : Int) = (κ : Int) := IntWalk.i64_in _ (by omega)
          have hJne : ((J : Int) == 0) = false := by simp; omega
          obtain ⟨an, rfl, an1, an2, cn⟩ := hold.1 κ hκJ
          obtain ⟨ap, rfl, ap1, ap2, ap3, cp⟩ := hold.2.1 κ hκJ
          have k0 : (0 : Int) ≤ (j : Int) := by omega
          have k1 : (j : Int) < (n2 : Int) := by omega
          have k2 : (j : Int) < 8 := by omega
          have k3 : (0 : Int) < (J : Int) := by omega
          have k4 : (0 : Int) ≤ (κ : Int) := by omega
          have k5 : (κ : Int) < (J : Int) := by omega
          clear hold hwf hzz ht1 hte2
          go_upto_region 19 with fail
          obtain ⟨i0, hi, hz0, hz1, hz2⟩ := info_parts infoInt
          obtain ⟨s0, hs, hs0, hs1, hs2⟩ := info_parts infoStr
          have hnn := ndsF_snoc K κ
          have hww := wtsF_snoc l K κ
          have hcs : ∀ u u' : Value, ((dL a J (ndsF K)).cs u).setIfInBounds 0 u' = (dL a J (ndsF (K ++ [κ]))).cs u' := fun u u' => rfl
          have hnl := ndsF_len K
          have hwl := wtsF_len l K
          rw [hj] at hnl hwl
          obtain ⟨pl2, hpl2⟩ : ∃ pl2 : Nat, 3 * κ = pl2 := ⟨_, rfl⟩
          rw [hpl2] at hnn cp
          obtain ⟨dn, hdn⟩ : ∃ dn, dints (ndsF K) = dn := ⟨_, rfl⟩
          obtain ⟨dw, hdw⟩ : ∃ dw, strs (wtsF l K) = dw := ⟨_, rfl⟩
          rw [hdn] at HTR hnn hnl
          rw [hdw] at HTR hww hwl
          have htr := HTR.out
          have hblk := HBX.out
          have hbt := HBT.out
          have x0 : wr.cell? ⟨X, 0, none⟩ = some nd := hblk.cell 0
          have x1 : (wr.alloc (.cells #[.int .i64 (pl2 : Nat)] 3)).cell? ⟨X, 0, none⟩ = some nd := (hblk.alloc _).cell 0
          have cp1 : (wr.alloc (.cells #[.int .i64 (pl2 : Nat)] 3)).cell? (ap.add κ) = some (.int .i64 (pl2 : Nat)) := (((Below.refl _ wr).alloc (Nat.le_refl _) _).cell (by rw [addr_block]; exact ap1)).trans cp
          have hsz5 : B ≤ wr.heap.size := Nat.le_trans hB5 hbt.size
          have hne : nd.ownBlock ≠ some X := fun e => by have := (htr.a.lt _ e).1; omega
          have HO := Lib.hid (show wr.ownsRow B 3 1 nd j dn from by rw [← hnl]; exact htr.a)
          have HBK := Lib.hid hblk
          have HT := Lib.hid htr
          have HBTT := Lib.hid hbt
          have HNX := Lib.hid (And.intro hnn (And.intro hww hcs))
          have HLN := Lib.hid (And.intro hnl hwl)
          have HJ := Lib.hid hj
          clear htr hblk hbt hnn hww hcs hnl hwl hdn hdw HTR HBX HBT hpl2 hj
          go_wp2_with fail
          go_region_law (first
            | (go_loud (refine step_append_lies _ (by rfl) _ _ _ (by rfl) B 3 i0 _ 1 8 Tryd.underlying22 hi hz0 hz1 hz2 rfl (by omega) nd j dn (by rfl) (HO.out.alloc (.cells #[.int .i64 (pl2 : Nat)] 3)) ⟨wr.heap.size, 0, none⟩ 1 1 [.int .i64 (pl2 : Nat)] (by rfl) (by rfl) (World.news_of_block (cs := #[.int .i64 (pl2 : Nat)]) (t := 3) (fr := (0, 0)) (heap_alloc_new wr (.cells #[.int .i64 (pl2 : Nat)] 3))) (by simp [Value.oneCell']) (by omega) (by unfold maxLen; omega) (by omega) (by simp; omega) (wr.heap.size + 1) (by simp) ?_)
               intro gg cap w1 hown1 hgrow hat hlt1
               have HX1 := Lib.hid ((HBK.out.alloc (.cells #[.int .i64 (pl2 : Nat)] 3)).drew.grown hgrow (by exact fun e => hne e.symm))
               have p1 : w1.cell? ⟨X, 0, none⟩ = some nd := HX1.out.cell 0
               have f1 := HX1.out.frozen 0
               have HO1 := Lib.hid hown1
               have HG1 := Lib.hid hgrow
               have HA1 := Lib.hid hat
               clear hown1 hgrow hat))
          all_goals
            have hbz : Below wr.heap.size wr (wr.alloc (.cells #[.int .i64 (pl2 : Nat)] 3)).drew := ((Below.refl _ _).alloc (Nat.le_refl _) _).drew
            have htr1 := HT.out.push1 hbz (v' := .slice (some ⟨gg, 0, none⟩) (j + 1) cap) (x := .int .i64 (pl2 : Nat)) (by rw [HLN.out.1]; exact HO1.out) HG1.out (by
              rcases HA1.out with h | h
              · exact .inl h.symm
              · exact .inr (by rw [h]; show some _ = some _; congr 1; simp))
            have HS6 := Lib.hid (fun (W6 : World) (hW : w1.setCell ⟨X, 0, none⟩ (.slice (some ⟨gg, 0, none⟩) (j + 1) cap) = W6) =>
              show Tr W6 B 3 9 (.slice (some ⟨gg, 0, none⟩) (j + 1) cap) u14 (dints (ndsF (K ++ [κ]))) dw ∧ Blk W6 X 26 ((dL a J (ndsF (K ++ [κ]))).cs (.slice (some ⟨gg, 0, none⟩) (j + 1) cap)) ∧ But (fun j => j = X ∨ B ≤ j) W5 W6 from by
              subst hW
              refine ⟨by rw [HNX.out.1]; exact htr1.set (p := ⟨X, 0, none⟩) hXB _, by rw [← HNX.out.2.2 nd]; exact HX1.out.set_ 0 _, ?_⟩
              exact ((((HBTT.out.alloc (.cells #[.int .i64 (pl2 : Nat)] 3)).drew).grown HG1.out (fun i e => .inl (.inr (HO.out.lt i e.symm.symm).1))).setCell (p := ⟨X, 0, none⟩) (.inl (.inl rfl)) _))
            clear hbz htr1 HX1 HO1 HG1 HA1
            go_upto_region 20 with fail
            generalize hW6 : w1.setCell ⟨X, 0, none⟩ (.slice (some ⟨gg, 0, none⟩) (j + 1) cap) = W6
            obtain ⟨htr6, hbk6, hbt6⟩ := HS6.out W6 hW6
            clear hW6 HS6 p1 f1 x0 x1 cp1 cp cn
            obtain ⟨an', hane, -, -, cn⟩ := (HOLD.out W6 hbt6).1 κ hκJ
            cases hane
            obtain ⟨WB, hWB⟩ : ∃ WB, mkb (wB (pF l) qF κ) = WB := ⟨_, rfl⟩
            rw [hWB] at cn HNX
            have hsz6 : B ≤ W6.heap.size := Nat.le_trans hB5 hbt6.size
            have HBK6 := Lib.hid hbk6
            have HBT6 := Lib.hid hbt6
            clear hWB hbk6 hbt6
            go_wp2_with (at_builtin; refine Hid.out ?_)
            refine Lib.hid ?_
            refine wpList_append_own_at _ rfl _ _ 34 rfl B 9 s0 (.string ⟨#[]⟩) 1 16 Tryd.underlying34 hs hs0 hs1 hs2 rfl (by decide) u14 dw.length dw rfl (htr6.b.alloc _) ⟨W6.heap.size, 0, none⟩ 1 1 [.string WB] rfl rfl (cell_one _ _ _) (fun u hu => by simp at hu; subst hu; rfl) (by rw [HLN.out.2]; unfold maxLen; omega) (by rw [HLN.out.2]; omega) (by simp; omega) ?_
            intro wt' w7 hown7 hgrow7 _ hat7
            have htr7 := htr6.push2 ((Below.refl _ _).alloc (Nat.le_refl _) (.cells #[.string WB] 9)) hown7 hgrow7 hat7
            rw [← HNX.out.2.1] at htr7
            have HTR7 := Lib.hid htr7
            have HBK7 := Lib.hid ((HBK6.out.alloc (.cells #[.string WB] 9)).grown hgrow7 (fun e => by have := (htr6.b.lt _ e.symm).1; omega))
            have HBT7 := Lib.hid ((HBT6.out.alloc (.cells #[.string WB] 9)).grown hgrow7 (fun i e => .inl (.inr (htr6.b.lt i e.symm.symm).1)))
            have hKs : ∀ x ∈ K ++ [κ], x < J := fun x hx => by
              rcases List.mem_append.1 hx with h | h
              · exact hK x h
              · rw [List.mem_singleton.1 h]; exact hκJ
            have hjl : (K ++ [κ]).length = j + 1 := by rw [List.length_append, HJ.out]; rfl
            clear hown7 hgrow7 hat7 htr6 htr7 HBK6 HBT6 cn
            go_wp2_with fail
            go_roundw
            case rel => exact ⟨K ++ [κ], _, by omega, by rw [hjl]; go_num, hKs, by omega, HTR7, HBK7, HBT7⟩
            case measure => simp [intOf]; omega
        · have hex : (j < n2 ∧ j < 8 ∧ ¬ 0 < J) ∨ (j < n2 ∧ ¬ j < 8) ∨ ¬ j < n2 := by omega
          clear hlt
          rcases hex with ⟨k1, k2, k3⟩ | ⟨k1, k2⟩ | k1
          all_goals
            go_wp2_with fail
            go_meet
            exact ⟨K, nd, hK, by omega, HTR, HBX, HBT⟩
    case rest =>
      obtain ⟨K, nd, hK, hK8, HTR, HBX, HBT⟩ := hcut
      have hbe := (HOLD.out wc HBT.out).2.2.1
      obtain ⟨D, hD⟩ : ∃ D, dL a J (ndsF K) = D := ⟨_, rfl⟩
      have hD2 : D.f 2 = ((3 * J : Nat) : Int) := by rw [← hD]; rfl
      have hDn : D.needed = ndsF K := by rw [← hD]; rfl
      have hwf : D.wf := by
        rw [← hD]
        refine dL_wf (by omega) (by omega) fun x hx => ?_
        obtain ⟨i, hi, rfl⟩ := List.mem_map.1 hx
        exact WalkArith.wf_i64 (by have := hK i hi; omega)
      have hDw : (⟨D.needed ++ [D.f 2], D.f⟩ : Dyn).wf := ⟨fun x hx => by
        rcases List.mem_append.1 hx with h | h
        · exact hwf.need x h
        · rw [List.mem_singleton.1 h]; exact hwf.num 2, hwf.num⟩
      have hD' : (⟨D.needed ++ [D.f 2], D.f⟩ : Dyn) = dL a J (ndsF K ++ [((3 * J : Nat) : Int)]) := by rw [hD2, hDn, ← hD]; rfl
      have hblk := HBX.out
      rw [hD] at hblk
      have htr := HTR.out
      have hkl : (ndsF K).length = K.length := by simp [ndsF]
      obtain ⟨-, A5, c5, rfl, hN5⟩ := intRow_own htr.a (by rw [← hDn]; exact hwf.need)
      obtain ⟨-, A6, c6, rfl, hW6⟩ := strRow_own htr.b (fun x hx => by
        obtain ⟨i, _, rfl⟩ := List.mem_map.1 hx
        rw [mkb_size]
        simp [wB, maxLen])
      have hwl : (wtsF l K).length = K.length := by simp [wtsF]
      have hvm : VL ++ (⟨#[109, 111, 114, 101, 0]⟩ : ByteArray) = mkb (viewL a (pF l) qF J ++ moreL) := by rw [← hVL, show (⟨#[109, 111, 114, 101, 0]⟩ : ByteArray) = mkb moreL from rfl, mkb_append]
      have hin := names_in (a := a) hlets K hK
      have hou := names_out (a := a) (J := J) (p := pF l) (q := qF) (ndsF K)
      have hno := (name_out (a := a) (J := J) (p := pF l) (q := qF) (l := ndsF K)).2
      rw [← hvm] at hin hou hno
      rw [show (K.map fun k => ((3 * k : Nat) : Int)) = ndsF K from rfl, hD] at hin
      rw [hD, ← hD2] at hno
      rw [← hD'] at hou
      obtain ⟨VM, hVM⟩ : ∃ VM, VL ++ (⟨#[109, 111, 114, 101, 0]⟩ : ByteArray) = VM := ⟨_, rfl⟩
      have hvms : VM.size ≤ 2000 := by
        have : VM.size = VL.size + 5 := by rw [← hVM]; simp; rfl
        omega
      rw [hVM] at hin hou hno
      have HN1 := Lib.hid (fun v (h : IntRow v A5 D.needed) => show Calls Tryd.prog 13 #[.string VM, .agg (D.cs (.slice A5 D.needed.length c5))] v (TextsT v (wtsF l K) 0) from by
        have := names_any VM D A5 c5 v hwf h (by rw [hDn, hkl]; omega) (by omega)
        rw [hin.1, hin.2] at this
        exact this)
      have HN2 := Lib.hid (fun v A8 c8 (h : IntRow v A8 (D.needed ++ [D.f 2])) => show Calls Tryd.prog 13 #[.string VM, .agg ((⟨D.needed ++ [D.f 2], D.f⟩ : Dyn).cs (.slice A8 (D.needed ++ [D.f 2]).length c8))] v (TextsT v [] 17) from by
        have := names_any VM ⟨D.needed ++ [D.f 2], D.f⟩ A8 c8 v hDw h (by simp; rw [hDn, hkl]; omega) (by omega)
        rw [hou.1, hou.2] at this
        exact this)
      have HNA := Lib.hid (fun v (u : Value) => show Calls Tryd.prog 15 #[.string VM, .agg (D.cs u), .int .i64 (D.f 2)] v fun e w' => e = .returned (.tuple #[.string (nameS VM D (D.f 2)), .bool false]) ∧ Below v.heap.size v w' from by
        have := name_any VM D u (D.f 2) v hwf (hwf.num 2) (by omega)
        rw [hno] at this
        exact this)
      have HST := Lib.hid (fun v A7 c7 (h1 : StrRow v A7 (wtsF l K)) (h2 : StrRow v A6 (wtsF l K)) => show Calls Tryd.prog 14 #[.slice A7 (wtsF l K).length c7, .slice A6 (wtsF l K).length c6] v fun e w' => e = .returned (.bool true) ∧ Below v.heap.size v w' from by
        have := texts_any (wtsF l K) (wtsF l K) A7 A6 c7 c6 v h1 h2 (by omega) (by omega)
        rw [decide_eq_true rfl] at this
        exact this)
      have HV9 := Lib.hid (fun v (u : Value) (h : Blk v X 26 (D.cs u)) => dyn_vals D h)
      have hown := htr.a
      rw [show (dints (ndsF K)).length = (ndsF K).length by simp [dints]] at hown
      rw [← hDn] at hown hblk
      have hnl : D.needed.length ≤ 8 := by rw [hDn, hkl]; omega
      rw [← hDn] at hN5
      have HKEEP := Lib.hid (fun v (hv : Below wc.heap.size wc v) => show Blk v X 26 (D.cs (.slice A5 D.needed.length c5)) ∧ StrRow v A6 (wtsF l K) ∧ v.ownsRow B 3 1 (.slice A5 D.needed.length c5) D.needed.length (dints D.needed) ∧ Below R w v ∧ B ≤ v.heap.size ∧ IntRow v A5 D.needed from
        ⟨hblk.below hv hblk.lt, strRow_below hW6 rfl hv, own_below hown hv, hbe.trans (hv.mono (by rw [← hR]; exact hbe.size)), Nat.le_trans (Nat.le_trans hB5 HBT.out.size) hv.size, intRow_below hN5 rfl hv⟩)
      obtain ⟨nl, hnl2⟩ : ∃ nl, D.needed.length = nl := ⟨_, rfl⟩
      have hdl : (dints D.needed).length = nl := by rw [dints_length, hnl2]
      have hlen2 : (D.needed ++ [D.f 2]).length = nl + 1 := by rw [List.length_append, hnl2]; rfl
      have hd2 : dints (D.needed ++ [D.f 2]) = dints D.needed ++ [.int .i64 (D.f 2)] := dints_snoc _ _
      rw [hnl2] at HN1 HKEEP hnl
      rw [hlen2] at HN2
      have HWF2 := Lib.hid hDw.need
      have HD2 := Lib.hid (And.intro hd2 hlen2)
      have hblk0 := (HKEEP.out wc (Below.refl _ _)).1
      have hcsd : ∀ u u' : Value, (D.cs u).setIfInBounds 0 u' = (⟨D.needed ++ [D.f 2], D.f⟩ : Dyn).cs u' := fun u u' => rfl
      have HCSD := Lib.hid hcsd
      clear hnl2 hown hblk htr hN5 hW6 hvm hin hou hno hd2 hlen2 hDw hwf hD' hD hD2 hDn hbe HTR HBX HBT HOLD hkl hwl hcsd hlets hK HL HV HA HB5
      have HCS2 := Lib.hid (show ∀ u : Value, (⟨D.needed ++ [D.f 2], D.f⟩ : Dyn).cs u = #[u, .int .i64 (D.f 1), .int .i64 (D.f 2), .int .i64 (D.f 3), .int .i64 (D.f 4), .int .i64 (D.f 5), .int .i64 (D.f 6), .int .i64 (D.f 7), .int .i64 (D.f 8)] from fun _ => rfl)
      have HCS1 := Lib.hid (show ∀ u : Value, D.cs u = #[u, .int .i64 (D.f 1), .int .i64 (D.f 2), .int .i64 (D.f 3), .int .i64 (D.f 4), .int .i64 (D.f 5), .int .i64 (D.f 6), .int .i64 (D.f 7), .int .i64 (D.f 8)] from fun _ => rfl)
      obtain ⟨q0, q1, q2, q3, q4, q5, q6, q7, q8⟩ := HV9.out wc _ hblk0
      have hr0 := (HKEEP.out wc (Below.refl _ _)).2.2.2.2.2
      simp only [Dyn.cs] at HN1 HN2 HNA
      clear hblk0
      go_upto_region 22 with (go_at_call 13; refine (HN1.out _ hr0).mono ?_; rintro e v1 ⟨A7, c7, rfl, hrow7, hb1⟩)
      have HS1 := Lib.hid (HST.out v1 A7 c7 hrow7 (HKEEP.out v1 hb1).2.1)
      clear q0 q1 q2 q3 q4 q5 q6 q7 q8 hr0 hrow7 HN1 HST
      go_upto_region 23 with (go_at_call 14; refine HS1.out.mono ?_; rintro e v2 ⟨rfl, hb2⟩)
      have hv2 := hb1.trans (hb2.mono hb1.size)
      clear hb1 hb2 HS1
      have hblk2 := (HKEEP.out v2 hv2).1
      obtain ⟨q0, q1, q2, q3, q4, q5, q6, q7, q8⟩ := HV9.out v2 _ hblk2
      clear hblk2
      go_upto_region 24 with (go_at_call 15; refine (HNA.out _ _).mono ?_; rintro e v3 ⟨rfl, hb3⟩)
      have hv3 := hv2.trans (hb3.mono hv2.size)
      clear hv2 hb3 q0 q1 q2 q3 q4 q5 q6 q7 q8 HNA
      obtain ⟨hblk3, -, hown3, hbe3, hB3, -⟩ := HKEEP.out v3 hv3
      have q0 : v3.cell? ⟨X, 0, none⟩ = some (.slice A5 nl c5) := hblk3.cell 0
      have q2 : v3.cell? ⟨X, 2, none⟩ = some (.int .i64 (D.f 2)) := (HV9.out v3 _ hblk3).2.2.1
      obtain ⟨i0, hi, hz0, hz1, hz2⟩ := info_parts infoInt
      have HK3 := Lib.hid hblk3
      have HO3 := Lib.hid hown3
      have HE3 := Lib.hid hbe3
      clear hblk3 hown3 hbe3 hv3 HKEEP
      go_wp2_with (at_builtin; refine Hid.out ?_)
      refine Lib.hid ?_
      refine wpList_append_own _ rfl _ _ 22 rfl B 3 i0 (.int .i64 0) 1 8 Tryd.underlying22 hi hz0 hz1 hz2 rfl (by decide) (.slice A5 nl c5) nl (dints D.needed) rfl (HO3.out.alloc _) ⟨v3.heap.size, 0, none⟩ 1 1 [.int .i64 (D.f 2)] rfl rfl (cell_one _ _ _) (ints_oneCell .i64 [D.f 2]) (by unfold maxLen; omega) (by omega) (by simp; omega) ?_
      intro v' w4 hown4 hgrow _
      obtain ⟨A8, c8, rfl⟩ := own_slice hown4
      have hq : some X ≠ (Value.slice A5 nl c5).ownBlock := fun e => absurd (HO3.out.lt _ e.symm).1 (by omega)
      have hblk4 : Blk w4 X 26 (D.cs (.slice A5 nl c5)) := (HK3.out.alloc _).grown hgrow hq
      have f0 := hblk4.frozen 0
      have p0 : w4.cell? ⟨X, 0, none⟩ = some (.slice A5 nl c5) := hblk4.cell 0
      have HS7 := Lib.hid (fun (W7 : World) (hW : w4.setCell ⟨X, 0, none⟩ (.slice A8 (nl + 1) c8) = W7) =>
        show Blk W7 X 26 ((⟨D.needed ++ [D.f 2], D.f⟩ : Dyn).cs (.slice A8 (nl + 1) c8)) ∧ IntRow W7 A8 (D.needed ++ [D.f 2]) ∧ Below R w W7 from by
        subst hW
        have ho5 : (w4.setCell ⟨X, 0, none⟩ (.slice A8 (nl + 1) c8)).ownsRow B 3 1 (.slice A8 (nl + 1) c8) (nl + 1) (dints (D.needed ++ [D.f 2])) := by
          rw [HD2.out.1]
          exact own_setD (p := ⟨X, 0, none⟩) hown4 hXB _
        obtain ⟨-, A9, c9, hv9, hr9⟩ := intRow_own ho5 HWF2.out
        have hA : A9 = A8 := by injection hv9 with h _ _; exact h.symm
        rw [hA] at hr9
        refine ⟨by rw [← HCSD.out (.slice A5 nl c5)]; exact hblk4.set_ 0 _, hr9, ?_⟩
        exact ((HE3.out.alloc (by have := HE3.out.size; omega) (.cells #[.int .i64 (D.f 2)] 3)).grown hgrow (by have := HE3.out.size; simp; omega) (fun i e => by have := (HO3.out.lt i e).1; omega)).setCell (p := ⟨X, 0, none⟩) hXR _)
      clear hq hblk4 hown4 hgrow HO3 HK3 HE3 q0 q2
      go_upto_region 25 with fail
      generalize hW7 : w4.setCell ⟨X, 0, none⟩ (.slice A8 (nl + 1) c8) = W7
      obtain ⟨hblk7, hrow7, hbe7⟩ := HS7.out W7 hW7
      clear hW7 HS7 f0 p0
      rw [HCS2.out, ← HCS1.out] at hblk7
      obtain ⟨q0, q1, q2, q3, q4, q5, q6, q7, q8⟩ := HV9.out W7 _ hblk7
      have HBE7 := Lib.hid hbe7
      clear hblk7 hbe7
      go_wp2_with (go_at_call 13; refine (HN2.out _ _ _ hrow7).mono ?_; rintro e v8 ⟨A9, c9, rfl, -, hb8⟩)
      go_ret
      exact ⟨rfl, by rw [hR]; exact HBE7.out.trans (hb8.mono (by rw [← hR]; exact HBE7.out.size))⟩

set_option maxRecDepth 100000 in
theorem lifted (os : Os) (started : os.Started) (H : Type) (enc : TypeId × Value → H) :
    ReturnsInHanded {} Tryd.checked os 4 .any (fun w args => (Rows.dynamicListsSpec.pre enc Tryd.prog Tryd.f4 Rows.dynamicListsRow.domain false w args ∧ laidMet Tryd.prog Rows.dynamicListsRow.laid w) ∧ sizedMet enc Tryd.prog Tryd.f4 (OpenSpec.ofChange Rows.dynamicListsSpec) false w args) (Rows.dynamicListsSpec.post enc Tryd.prog Tryd.f4 false true false false) := by
  refine returnsInHanded_of_change_and (C := Tryd.checked) (X := fun w _ => laidMet Tryd.prog Rows.dynamicListsRow.laid w) (fun _ _ _ hh h => h.of_heap hh) own started (by kernel_rfl) Tryd.func4
    (ChangeSpec.witness_at (enc := enc) (C := Tryd.checked) (os := os) (X := fun w _ => laidMet Tryd.prog Rows.dynamicListsRow.laid w) false (laidWorld os) #[.slice none 0 0, .int .i64 0, .slice none 0 0] 8 rfl (by kernel_rfl) (by kernel_rfl) (by kernel_rfl) (by kernel_rfl) (by kernel_rfl) (laid_met os _)) ?_
  intro W base args ds gs before hval0 hW hcnd _ hL _
  have hval : ∀ (j : Nat) t v, Tryd.f4.params[j]? = some t → args[j]? = some v → Value.okWide Tryd.prog W .any base t v := hval0
  have hW' := hW
  obtain ⟨p, q, hA0, hV, rfl, hfz, hnd⟩ := hW
  have hA : DataW.TrodAll enc Tryd.prog W 0 (fun _ => true) true Tryd.f4.params.toList args.toList ds p := hA0
  rw [Tryd.params4] at hA hval
  obtain ⟨v0, vs0, d0, ds0, p0, q0, hargs, rfl, rfl, h0, r0⟩ := trodAll_cons hA
  obtain ⟨v1, vs1, d1, ds1, p1, q1, rfl, rfl, rfl, h1, r1⟩ := trodAll_cons r0
  obtain ⟨v2, vs2, d2, ds2, p2, q2, rfl, rfl, rfl, h2, r2⟩ := trodAll_cons r1
  obtain ⟨rfl, rfl, rfl⟩ := trodAll_nil r2
  obtain rfl : args = #[v0, v1, v2] := by cases args; simp_all
  obtain ⟨rfl, rfl⟩ := trodVars_none hV
  have k0 := h0
  have lt0 : ∀ x ∈ p0, x.block < W.heap.size := by obtain ⟨m, hm⟩ := k0; exact DataW.trod_lt m _ _ _ hm
  obtain ⟨LA0, Ll0, Lc0, rfl, Lm0, Lr0⟩ := openInts9 (hval 0 22 v0 rfl rfl) h0
  have k1 := h1
  have lt1 : ∀ x ∈ p1, x.block < W.heap.size := by obtain ⟨m, hm⟩ := k1; exact DataW.trod_lt m _ _ _ hm
  obtain ⟨a1, rfl, _, _, w1⟩ := open_int Tryd.underlying3 (hval 1 3 v1 rfl rfl) h1
  have k2 := h2
  have lt2 : ∀ x ∈ p2, x.block < W.heap.size := by obtain ⟨m, hm⟩ := k2; exact DataW.trod_lt m _ _ _ hm
  obtain ⟨LA2, Ll2, Lc2, rfl, Lm2, Lr2⟩ := openInts9 (hval 2 22 v2 rfl rfl) h2
  clear hA0 hval0
  refine (walk LA0 Ll0 Lc0 a1 LA2 Ll2 Lc2 W Lm0 Lr0 w1 Lm2 Lr2 (tab_of_laid hL)).mono fun e W' ⟨he, bel⟩ => ?_
  subst he
  exact ⟨_, rfl, _, _, _, [], _, [], hW', trodAll_mk1 (shut_bool Tryd.underlying4 _), (trodAll_cons_mk (Below.trod laidOut (by kernel_rfl) (of_decide_eq_true (by kernel_rfl)) k0 bel lt0) (trodAll_cons_mk (Below.trod laidOut (by kernel_rfl) (of_decide_eq_true (by kernel_rfl)) k1 bel lt1) (trodAll_cons_mk (Below.trod laidOut (by kernel_rfl) (of_decide_eq_true (by kernel_rfl)) k2 bel lt2) trodAll_mk0))), rfl, bel.frame _, fun h => by cases h⟩
theorem over : Rows.dynamicListsRow.holds Tryd.pinned (OpenSpec.ofChange Rows.dynamicListsSpec) :=
  OpenClaim.holds_of_wide 4 Tryd.f4 rfl rfl rfl rfl rfl rfl rfl ⟨rfl, rfl, rfl, rfl, rfl⟩ rfl rfl rfl rfl rfl (by kernel_rfl) Tryd.func4 (by kernel_rfl)
    (of_decide_eq_true (by kernel_rfl)) (by unfold Func.isWrapper; first | (rw [if_pos (by decide +kernel)]; kernel_rfl) | (rw [if_neg (by decide +kernel)]; exact ⟨rfl, rfl⟩))
    (fun os started H enc _ => lifted os started H enc)
set_option maxRecDepth 100000 in
/-- The statement. -/
theorem proved : Rows.DynamicListsCardSaid :=
  Claim7.holds_tied_plain_at .later [] [.data] true _ false over (fun _ h => by cases h) (by kernel_rfl) (fun _ h => by cases h) dynamicLists_row_tie rfl ⟨rfl, rfl⟩ (by kernel_rfl) rfl
    (fun f fn hf hfn => by
      obtain rfl : f = 4 := Option.some.inj (hf.symm.trans (by kernel_rfl))
      obtain rfl : fn = Tryd.f4 := Option.some.inj (hfn.symm.trans Tryd.func4)
      refine ⟨by kernel_rfl, fun j t ht => ?_⟩
      rw [Tryd.params4] at ht
      match j, ht with
      | 0, ht =>
        obtain rfl : t = 22 := by simpa using ht.symm
        exact (by kernel_rfl : Tryd.pinned.checked.prog.wantsStandIn 22 = false)
      | 1, ht =>
        obtain rfl : t = 3 := by simpa using ht.symm
        exact (by kernel_rfl : Tryd.pinned.checked.prog.wantsStandIn 3 = false)
      | 2, ht =>
        obtain rfl : t = 22 := by simpa using ht.symm
        exact (by kernel_rfl : Tryd.pinned.checked.prog.wantsStandIn 22 = false)
      | j + 3, ht => simp at ht)
    (by kernel_rfl)
end Go.Proofs.YtmbglkebgeomcaaDoor.lawLists9
