/- NeedsMany: for any number: of 60 to 67 libraries in a row, each of which needs the next one, there is no order if there are more than 64; else there is one of all, none needs itself, and the last one is as deep as it is far. -/
import Derived.Test.YtinbedplmbnkaacGq
namespace Go.Proofs.Ytinbedplmbnkaac.lawMany
open Go.ChangeShapes Go.WideShapes Go.ChangeAt Go.RowKit
set_option linter.unusedVariables false
set_option linter.unusedSimpArgs false

theorem i64_and7 (n : Int) : bits .and .i64 n 7 = n % 8 := i64_and_mask n 3 7 (by omega) (by decide)
theorem infoLib : (Try.prog.info? 27).map (fun i => (i.zero, i.size, i.bytes)) = some (some (.agg #[.string ⟨#[]⟩, .slice none 0 0]), 2, 40) := by kernel_rfl
theorem cat_l (k : Nat) : (⟨#[108]⟩ : ByteArray) ++ mkb [UInt8.ofNat k] = lB k := by
  rw [show (⟨#[108]⟩ : ByteArray) = mkb [108] from rfl, mkb_append]
  rfl
theorem conv_byte (k : Nat) (hk : k < 256) (v : World) : (convert 24 9 (.slice (some ⟨v.heap.size, 0, none⟩) 1 1)).run Try.prog (v.alloc (.cells #[.int .u8 ((k : Nat) : Int)] 5)) = .ok (.string (mkb [UInt8.ofNat k])) (v.alloc (.cells #[.int .u8 ((k : Nat) : Int)] 5)) :=
  run_string_blk (P := Try.prog) (v.alloc (.cells #[.int .u8 ((k : Nat) : Int)] 5)) 24 9 5 v.heap.size 1 5 [UInt8.ofNat k] 1 rfl Try.underlying24 Try.underlying5 Try.underlying9 (by
    have : (Lib.byteCells [UInt8.ofNat k]).toArray = #[.int .u8 ((k : Nat) : Int)] := by
      simp [Lib.byteCells]
      omega
    rw [this]
    exact Blk.new v _ _)
theorem cell_twoG (w : World) (x y : Value) (t : TypeId) : ∀ j u, [x, y][j]? = some u → (w.alloc (.cells #[x, y] t)).cell? ((⟨w.heap.size, 0, none⟩ : Addr).add j) = some u := fun j u hj => by
  rw [addr0]
  exact (Blk.new w _ _).at_ j u (by simpa using hj)
theorem chL_small (m : Nat) : (∀ b ∈ chL m, b.name.size ≤ maxLen) ∧ (∀ b ∈ chL m, ∀ x ∈ b.need, x.size ≤ maxLen) ∧ (∀ b ∈ chL m, b.need.length ≤ 100000) := by
  have h2 : (2 : Nat) ≤ maxLen := by decide
  refine ⟨?_, ?_, ?_⟩ <;> intro b hb <;> obtain ⟨i, _, rfl⟩ := List.mem_map.1 hb
  · show (lB i).size ≤ maxLen
    rw [lB_size]; exact h2
  · intro x hx
    unfold chB at hx
    simp only at hx
    split at hx
    · simp at hx; rw [hx, lB_size]; exact h2
    · simp at hx
  · unfold chB
    simp only
    split <;> simp
set_option maxRecDepth 100000 in
set_option maxHeartbeats 3200000 in
theorem walk (n : Int) (w : World) (wn : (Lit.int .i64 n).wf = true) :
    Calls Try.prog 3 #[.int .i64 n] w fun e w' => e = .returned (.bool true) ∧ Below w.heap.size w w' := by
  have HA := Lib.hid (fun v => awake_any v)
  have e7 := i64_and7 n
  obtain ⟨q, hq⟩ : ∃ q : Nat, n % 8 = q := ⟨(n % 8).toNat, by omega⟩
  rw [hq] at e7
  have hq8 : q < 8 := by omega
  obtain ⟨m, hm⟩ : ∃ m, 60 + q = m := ⟨_, rfl⟩
  have hm1 : (60 : Int) + (q : Int) = (m : Int) := by omega
  have hm2 : IntKind.i64.wrap (60 + (q : Int)) = (m : Int) := by rw [hm1]; exact IntWalk.i64_in _ (by omega)
  have hm60 : 60 ≤ m ∧ m ≤ 67 := by omega
  obtain ⟨t1, t2, t3, t4⟩ := ch_told (m := m) (by omega) (by omega)
  have HT := Lib.hid (And.intro t1 (And.intro t2 (And.intro t3 t4)))
  have HCAT := Lib.hid cat_l
  obtain ⟨R, hR⟩ : ∃ R, w.heap.size = R := ⟨_, rfl⟩
  have HR := Lib.hid hR
  have HCV := Lib.hid conv_byte
  clear hq hq8 hm hm1 t1 t2 t3 t4 hR
  go_enter Try.func3, Try.ntmps3
  go_wp2_with (go_at_call 4; refine (HA.out _).mono ?_; rintro e w1 ⟨rfl, hb1⟩; have HB1 := Lib.hid hb1; clear hb1)
  go_loopw [5, 6] (fun v i wr => ∃ (k : Nat) (As : List (Option Addr × Nat)), k ≤ m ∧ i = .int .i64 k ∧ Hid (Bld R v ((chL m).take k) As wr) ∧ Hid (Below R w wr)) (fun _ i _ => m - (intOf i).toNat)
  case atStart => exact ⟨0, [], Nat.zero_le _, rfl, Lib.hid (Bld.start _ _), Lib.hid (by rw [← HR.out]; exact HB1.out)⟩
  case round =>
    obtain ⟨k, As, hk, rfl, HBL, HLOW⟩ := hrel
    by_cases hlt : k < m
    · have hk256 : IntKind.u8.wrap (k : Int) = (k : Int) := by
        have e : IntKind.u8.wrap (k : Int) = (k : Int) % 256 := rfl
        rw [e]; omega
      have hcv := fun v => HCV.out k (by omega) v
      have hcat := HCAT.out k
      have hsz : ∀ x, (mkb [UInt8.ofNat x]).size = 1 := fun x => by rw [mkb_size]; rfl
      have hsz1 := hsz k
      by_cases hl2 : k + 1 < m
      · obtain ⟨j, hj⟩ : ∃ j, k + 1 = j := ⟨_, rfl⟩
        have hkn : IntKind.i64.wrap ((k : Int) + 1) = (j : Int) := by rw [show (k : Int) + 1 = (j : Int) by omega]; exact IntWalk.i64_in _ (by omega)
        have hjm : (j : Int) < (m : Int) := by omega
        have hj256 : IntKind.u8.wrap (j : Int) = (j : Int) := by
          have e : IntKind.u8.wrap (j : Int) = (j : Int) % 256 := rfl
          rw [e]; omega
        have hcv2 := HCV.out j (by omega) ((wr.alloc (.cells #[.int .u8 ((k : Nat) : Int)] 5)).alloc (.cells #[.string (lB k), .slice none 0 0] 27))
        simp only [World.size_alloc] at hcv2
        have hcat2 := HCAT.out j
        have hsz2 := hsz j
        have HJ := Lib.hid hj
        clear hj hsz
        have HFA := Lib.hid (fun W9 (h : (((wr.alloc (.cells #[.int .u8 ((k : Nat) : Int)] 5)).alloc (.cells #[.string (lB k), .slice (some ⟨wr.heap.size + 1 + 1 + 1, 0, none⟩) 1 1] 27)).alloc (.cells #[.int .u8 ((j : Nat) : Int)] 5)).alloc (.cells #[.string (lB j)] 9) = W9) => show Blk W9 (wr.heap.size + 1) 27 #[.string (lB k), .slice (some ⟨wr.heap.size + 1 + 1 + 1, 0, none⟩) 1 1] ∧ SRow W9 (some ⟨wr.heap.size + 1 + 1 + 1, 0, none⟩) [lB j] ∧ Below wr.heap.size wr W9 from by
          subst h
          have b3 := Blk.new (((wr.alloc (.cells #[.int .u8 ((k : Nat) : Int)] 5)).alloc (.cells #[.string (lB k), .slice (some ⟨wr.heap.size + 1 + 1 + 1, 0, none⟩) 1 1] 27)).alloc (.cells #[.int .u8 ((j : Nat) : Int)] 5)) 9 #[.string (lB j)]
          simp only [World.size_alloc] at b3
          exact ⟨((blk_two wr _ _ _).alloc _).alloc _, .inr ⟨_, _, rfl, b3, rfl⟩, ((((Below.refl _ _).alloc (Nat.le_refl _) _).alloc (by simp) _).alloc (by simp; omega) _).alloc (by simp; omega) _⟩)
        go_upto_region 10 with fail
        generalize hW9 : (((wr.alloc (.cells #[.int .u8 ((k : Nat) : Int)] 5)).alloc (.cells #[.string (lB k), .slice (some ⟨wr.heap.size + 1 + 1 + 1, 0, none⟩) 1 1] 27)).alloc (.cells #[.int .u8 ((j : Nat) : Int)] 5)).alloc (.cells #[.string (lB j)] 9) = W9
        obtain ⟨x1, x2, x3⟩ := HFA.out _ hW9
        have y0 := x1.cell 0
        have y1 := x1.cell 1
        have HX := Lib.hid (And.intro x2 x3)
        obtain ⟨A5, c5, hv⟩ := HBL.out.slice
        obtain ⟨L, hL⟩ : ∃ L, (chL m).take k = L := ⟨_, rfl⟩
        have hLl : L.length = k := by rw [← hL, List.length_take, chL_len]; omega
        have hsn : (chL m).take (k + 1) = L ++ [⟨lB k, [lB j]⟩] := by
          rw [List.take_succ_eq_append_getElem (by rw [chL_len]; exact hlt), chL_at, hL]
          unfold chB
          rw [HJ.out, if_pos (by have := HJ.out; omega)]
        rw [hL] at HBL
        rw [hL, hLl] at hv
        subst hv
        have HSN := Lib.hid hsn
        have HLL := Lib.hid hLl
        obtain ⟨i0, hi, hz0, hz1, hz2⟩ := info_parts infoLib
        clear x1 x2 x3 hsn hL hLl hW9 HFA hcv hcv2 hcat hcat2 hsz1 hsz2 hj256 hk256 hkn hjm
        go_wp2_with (at_builtin; refine Hid.out ?_)
        refine Lib.hid ?_
        have hown := (HBL.out.below rfl HX.out.2).own
        rw [HLL.out] at hown
        refine wpList_append_own _ rfl _ _ 23 rfl R 27 i0 _ 2 40 Try.underlying23 hi hz0 hz1 hz2 rfl (by decide) (.slice A5 k c5) k (libCells L As) rfl (hown.alloc _) ⟨W9.heap.size, 0, none⟩ 1 1 [.string (lB k), .slice (some ⟨wr.heap.size + 1 + 1 + 1, 0, none⟩) 1 1] rfl rfl (cell_twoG _ _ _ _) (fun u hu => by simp at hu; rcases hu with rfl | rfl <;> rfl) (by unfold maxLen; omega) (by omega) (by have := HX.out.2.size; have := HLOW.out.size; have := HR.out; simp; omega) ?_
        intro v' w1 hown1 hgrow1 _
        have hB2 := HBL.out.push (b := ⟨lB k, [lB j]⟩) HX.out.2 HX.out.1 _ (by rw [HLL.out]; exact hown1) hgrow1
        rw [← HSN.out] at hB2
        have HB2 := Lib.hid hB2
        have HLW2 := Lib.hid ((((HLOW.out.trans (HX.out.2.mono (by have := HLOW.out.size; have := HR.out; omega))).alloc (by have := HX.out.2.size; have := HLOW.out.size; have := HR.out; omega) (.cells #[.string (lB k), .slice (some ⟨wr.heap.size + 1 + 1 + 1, 0, none⟩) 1 1] 27))).grown hgrow1 (by have := HX.out.2.size; have := HLOW.out.size; have := HR.out; simp; omega) (fun j hj => (hown.lt j hj).1))
        clear hown hown1 hgrow1 hB2
        go_wp2_with fail
        go_roundw
        case rel => exact ⟨k + 1, _, by omega, by go_num, HB2, HLW2⟩
        case measure => simp [intOf]; omega
      · have hkn : IntKind.i64.wrap ((k : Int) + 1) = (m : Int) := by rw [show (k : Int) + 1 = (m : Int) by omega]; exact IntWalk.i64_in _ (by omega)
        have HFA := Lib.hid (fun W9 (h : (wr.alloc (.cells #[.int .u8 ((k : Nat) : Int)] 5)).alloc (.cells #[.string (lB k), .slice none 0 0] 27) = W9) => show Blk W9 (wr.heap.size + 1) 27 #[.string (lB k), .slice none 0 0] ∧ SRow W9 none [] ∧ Below wr.heap.size wr W9 from by
          subst h
          exact ⟨blk_two wr _ _ _, .inl rfl, ((Below.refl _ _).alloc (Nat.le_refl _) _).alloc (by simp) _⟩)
        go_upto_region 10 with fail
        generalize hW9 : (wr.alloc (.cells #[.int .u8 ((k : Nat) : Int)] 5)).alloc (.cells #[.string (lB k), .slice none 0 0] 27) = W9
        obtain ⟨x1, x2, x3⟩ := HFA.out _ hW9
        have y0 := x1.cell 0
        have y1 := x1.cell 1
        have HX := Lib.hid (And.intro x2 x3)
        obtain ⟨A5, c5, hv⟩ := HBL.out.slice
        obtain ⟨L, hL⟩ : ∃ L, (chL m).take k = L := ⟨_, rfl⟩
        have hLl : L.length = k := by rw [← hL, List.length_take, chL_len]; omega
        have hsn : (chL m).take (k + 1) = L ++ [⟨lB k, []⟩] := by
          rw [List.take_succ_eq_append_getElem (by rw [chL_len]; exact hlt), chL_at, hL]
          unfold chB
          rw [if_neg hl2]
        rw [hL] at HBL
        rw [hL, hLl] at hv
        subst hv
        have HSN := Lib.hid hsn
        have HLL := Lib.hid hLl
        obtain ⟨i0, hi, hz0, hz1, hz2⟩ := info_parts infoLib
        clear x1 x2 x3 hsn hL hLl hW9 HFA hcv hcat hsz1 hk256 hkn hsz
        go_wp2_with (at_builtin; refine Hid.out ?_)
        refine Lib.hid ?_
        have hown := (HBL.out.below rfl HX.out.2).own
        rw [HLL.out] at hown
        refine wpList_append_own _ rfl _ _ 23 rfl R 27 i0 _ 2 40 Try.underlying23 hi hz0 hz1 hz2 rfl (by decide) (.slice A5 k c5) k (libCells L As) rfl (hown.alloc _) ⟨W9.heap.size, 0, none⟩ 1 1 [.string (lB k), .slice none 0 0] rfl rfl (cell_twoG _ _ _ _) (fun u hu => by simp at hu; rcases hu with rfl | rfl <;> rfl) (by unfold maxLen; omega) (by omega) (by have := HX.out.2.size; have := HLOW.out.size; have := HR.out; simp; omega) ?_
        intro v' w1 hown1 hgrow1 _
        have hB2 := HBL.out.push (b := ⟨lB k, []⟩) HX.out.2 HX.out.1 _ (by rw [HLL.out]; exact hown1) hgrow1
        rw [← HSN.out] at hB2
        have HB2 := Lib.hid hB2
        have HLW2 := Lib.hid ((((HLOW.out.trans (HX.out.2.mono (by have := HLOW.out.size; have := HR.out; omega))).alloc (by have := HX.out.2.size; have := HLOW.out.size; have := HR.out; omega) (.cells #[.string (lB k), .slice none 0 0] 27))).grown hgrow1 (by have := HX.out.2.size; have := HLOW.out.size; have := HR.out; simp; omega) (fun j hj => (hown.lt j hj).1))
        clear hown hown1 hgrow1 hB2
        go_wp2_with fail
        go_roundw
        case rel => exact ⟨k + 1, _, by omega, by go_num, HB2, HLW2⟩
        case measure => simp [intOf]; omega
    · obtain rfl : k = m := by omega
      have hbl := HBL.out
      rw [List.take_of_length_le (by rw [chL_len]; exact Nat.le_refl _)] at hbl
      obtain ⟨s1, s2, s3⟩ := chL_small k
      obtain ⟨A5, c5, hv, hrow⟩ := hbl.row s1 s2 s3
      rw [chL_len] at hv
      subst hv
      obtain ⟨t1, t2, t3, t4⟩ := HT.out
      have hl0 : (lB 0).size ≤ maxLen := by rw [lB_size]; decide
      have hln : (lB (k - 1)).size ≤ maxLen := by rw [lB_size]; decide
      have hlen := chL_len k
      have HO : Hid (Calls Try.prog 5 #[.slice A5 k c5, .string ⟨#[108, 0]⟩] wr fun e v' => ∃ A c, e = .returned (.tuple #[.slice A (if 64 < k then 0 else k) c, .int .i64 (if 64 < k then 17 else 0)]) ∧ Below wr.heap.size wr v') := Lib.hid (by
        have h := order_any (chL k) (lB 0) A5 c5 wr hrow (by omega) hl0
        rw [hlen] at h
        refine h.mono ?_
        rintro e v' ⟨A, c, he, _, hb⟩
        rw [t1, t2] at he
        exact ⟨A, c, he, hb⟩)
      have HRo : Hid (∀ v, Below wr.heap.size wr v → Calls Try.prog 6 #[.slice A5 k c5, .string ⟨#[108, 0]⟩] v fun e v' => e = .returned (.bool false) ∧ Below v.heap.size v v') := Lib.hid (fun v hv => by
        have h := round_any (chL k) (lB 0) A5 c5 v (hrow.below rfl hv) (by omega) hl0
        rw [hlen, t3] at h
        exact h)
      have HDe : Hid (∀ v, Below wr.heap.size wr v → Calls Try.prog 7 #[.slice A5 k c5, .string ⟨#[108, 0]⟩, .string (lB (k - 1))] v fun e v' => e = .returned (.int .i64 ((k - 1 : Nat) : Int)) ∧ Below v.heap.size v v') := Lib.hid (fun v hv => by
        have h := depth_any (chL k) (lB 0) (lB (k - 1)) A5 c5 v (hrow.below rfl hv) (by omega) hl0 hln
        rw [hlen, t4] at h
        exact h)
      have hk1 : k - 1 < (chL k).length := by rw [hlen]; omega
      obtain ⟨ad, An, cn, rfl, hblt, hlb⟩ := hrow (k - 1) hk1
      have HAT : Hid (∀ v, Below wr.heap.size wr v → v.cell? (ad.add ((k - 1) * 2)) = some (.string (lB (k - 1)))) := Lib.hid (fun v hv => by
        have := (hlb.below hblt rfl hv).c0
        rw [chL_at] at this
        exact this)
      have HLW := Lib.hid (show Below w.heap.size w wr from by rw [HR.out]; exact HLOW.out)
      have hkm : IntKind.i64.wrap ((k : Int) - 1) = ((k - 1 : Nat) : Int) := by rw [show (k : Int) - 1 = ((k - 1 : Nat) : Int) by omega]; exact IntWalk.i64_in _ (by omega)
      have hq0 : (0 : Int) ≤ ((k - 1 : Nat) : Int) := by omega
      have hq1 : ((k - 1 : Nat) : Int) < (k : Int) := by omega
      obtain ⟨p, hp⟩ : ∃ p, k - 1 = p := ⟨_, rfl⟩
      rw [hp] at HDe HAT hkm hq0 hq1
      clear hbl s1 s2 s3 hrow t1 t2 t3 t4 hl0 hln hlen hk1 hlb HBL HLOW hp HT
      by_cases h64 : 64 < k
      · have h64' : (64 : Int) < (k : Int) := by omega
        simp only [if_pos h64] at HO
        go_wp2_with (go_at_call 5; refine HO.out.mono ?_; rintro e w2 ⟨A6, c6, rfl, hb2⟩; have HB2 := Lib.hid hb2; clear hb2)
        go_ret
        exact ⟨rfl, HLW.out.trans (HB2.out.mono HLW.out.size)⟩
      · have h64' : ¬ (64 : Int) < (k : Int) := by omega
        simp only [if_neg h64] at HO
        go_wp2_with (first
          | (go_at_call 5; refine HO.out.mono ?_; rintro e w2 ⟨A6, c6, rfl, hb2⟩; have HB2 := Lib.hid hb2; clear hb2)
          | (go_at_call 6; refine (HRo.out _ HB2.out).mono ?_; rintro e w3 ⟨rfl, hb3⟩; have HB3 := Lib.hid (HB2.out.trans (hb3.mono HB2.out.size)); have ca := HAT.out _ HB3.out; clear hb3)
          | (go_at_call 7; refine (HDe.out _ HB3.out).mono ?_; rintro e w4 ⟨rfl, hb4⟩; have HB4 := Lib.hid (HB3.out.trans (hb4.mono HB3.out.size)); clear hb4))
        go_ret
        exact ⟨by simp, HLW.out.trans (HB4.out.mono HLW.out.size)⟩

set_option maxRecDepth 100000 in
theorem lifted (os : Os) (started : os.Started) (H : Type) (enc : TypeId × Value → H) :
    ReturnsInHanded {} Try.checked os 3 .any (Rows.needsManySpec.pre6 enc Try.prog Try.f3 Rows.needsManyRow.domain false) (Rows.needsManySpec.post enc Try.prog Try.f3 false true false false) := by
  refine returnsInHanded_of_change (C := Try.checked) own started (by kernel_rfl) Try.func3
    (ChangeSpec.witness6 (enc := enc) (C := Try.checked) false ⟨#[], #[.int .i64 0], []⟩ 8 (by kernel_rfl) (by kernel_rfl) (by kernel_rfl) (by kernel_rfl)) ?_
  intro W base args ds gs before hval0 hW hcnd _
  have hval : ∀ (j : Nat) t v, Try.f3.params[j]? = some t → args[j]? = some v → Value.okWide Try.prog W .any base t v := hval0
  have hW' := hW
  obtain ⟨p, q, hA0, hV, rfl, hfz, hnd⟩ := hW
  have hA : DataW.TrodAll enc Try.prog W 0 (fun _ => true) true Try.f3.params.toList args.toList ds p := hA0
  rw [Try.params3] at hA hval
  obtain ⟨v0, vs0, d0, ds0, p0, q0, hargs, rfl, rfl, h0, r0⟩ := trodAll_cons hA
  obtain ⟨rfl, rfl, rfl⟩ := trodAll_nil r0
  obtain rfl : args = #[v0] := by cases args; simp_all
  obtain ⟨rfl, rfl⟩ := trodVars_none hV
  have k0 := h0
  have lt0 : ∀ x ∈ p0, x.block < W.heap.size := by obtain ⟨m, hm⟩ := k0; exact DataW.trod_lt m _ _ _ hm
  obtain ⟨a0, rfl, _, _, w0⟩ := open_int Try.underlying3 (hval 0 3 v0 rfl rfl) h0
  clear hA0 hval0
  refine (walk a0 W w0).mono fun e W' ⟨he, bel⟩ => ?_
  subst he
  exact ⟨_, rfl, _, _, _, [], _, [], hW', trodAll_mk1 (shut_bool Try.underlying4 _), (trodAll_cons_mk (Below.trod laidOut (by kernel_rfl) (of_decide_eq_true (by kernel_rfl)) k0 bel lt0) trodAll_mk0), rfl, bel.frame _, fun h => by cases h⟩
theorem over : Rows.needsManyRow.holds Try.pinned (OpenSpec.ofChange Rows.needsManySpec) :=
  OpenClaim.holds_of_wide 3 Try.f3 rfl rfl rfl rfl rfl rfl rfl ⟨rfl, rfl, rfl, rfl, rfl⟩ rfl rfl rfl rfl rfl (by kernel_rfl) Try.func3 (by kernel_rfl)
    (of_decide_eq_true (by kernel_rfl)) (by unfold Func.isWrapper; first | (rw [if_pos (by decide +kernel)]; kernel_rfl) | (rw [if_neg (by decide +kernel)]; exact ⟨rfl, rfl⟩))
    (fun os started H enc _ => lifted os started H enc)
/-- The statement. -/
theorem proved : Rows.NeedsManySaid := over
end Go.Proofs.Ytinbedplmbnkaac.lawMany
