/- NeedsAny: of any libraries whatsoever (to ten, short names, six needed), closures are told as the document says. -/
import Derived.Test.YtmkaehnekhejmaaHc
import Derived.Test.YtmkaehnekhejmaaGs
import Derived.Test.YtmkaehnekhejmaaGl
import Derived.Test.YtmkaehnekhejmaaGn
namespace Go.Proofs.Ytmkaehnekhejmaa.lawAny
open Go.ChangeShapes Go.WideShapes Go.ChangeAt Go.RowKit
open Go.ChangeMaps (open_string)
set_option linter.unusedVariables false
set_option linter.unusedSimpArgs false

def shLb (b : Lb) : Lb := ⟨shortB b.name, (b.need.take 6).map shortB⟩
theorem sh_small (L : List Lb) : (∀ b ∈ L.map shLb, b.name.size ≤ maxLen) ∧ (∀ b ∈ L.map shLb, ∀ x ∈ b.need, x.size ≤ maxLen) ∧ (∀ b ∈ L.map shLb, b.need.length ≤ 100000) := by
  have h2 : (3 : Nat) ≤ maxLen := by decide
  refine ⟨?_, ?_, ?_⟩ <;> intro b hb <;> obtain ⟨i, _, rfl⟩ := List.mem_map.1 hb
  · exact Nat.le_trans (shortB_size _) h2
  · intro x hx
    obtain ⟨z, _, rfl⟩ := List.mem_map.1 hx
    exact Nat.le_trans (shortB_size _) h2
  · unfold shLb
    simp
    omega
theorem bd_run {L : List Lb} {r : ByteArray} (hn : ∀ b ∈ L, b.need.length ≤ 100000) : ∀ (n : Nat) (x : Wk × Nat), Inv L r x.1 x.2 → Bd x.1 x.2 → Bd (runW L n x).1 (runW L n x).2
  | 0, x, _, h => h
  | n + 1, x, hi, h => by
    unfold runW
    split
    · rename_i hg
      exact bd_run hn n _ (hi.step hg) (h.step hn (by rw [hi.len]; exact hg))
    · exact h
theorem bd_clo {L : List Lb} (r : ByteArray) (hn : ∀ b ∈ L, b.need.length ≤ 100000) : (cloW L r).M.length ≤ 1 + L.length * 100000 := by
  have h := bd_run hn (L.length + 1) (startW L r, 0) (Inv.start L r) (Bd.start L r)
  rw [run_clo L r (L.length + 1) (Nat.lt_succ_self _)] at h
  have h1 := h.nm
  have h2 := (clo_inv L r).many
  simp only at h1
  have h3 : (cloW L r).N.length * 100000 ≤ L.length * 100000 := Nat.mul_le_mul_right _ h2
  omega
theorem ord_le (L : List Lb) (r : ByteArray) : (ordN L r).length ≤ L.length := by
  unfold ordN
  split
  · exact (clo_inv L r).many
  · exact Nat.zero_le _
set_option maxRecDepth 100000 in
set_option maxHeartbeats 6400000 in
theorem walk (A : Option Addr) (L : List Lb) (c : Nat) (root : ByteArray) (w : World) (hl : L.length ≤ maxLen) (hz : LibsIn w A L) (hroot : root.size ≤ maxLen) :
    Calls Try.prog 3 #[.slice A L.length c, .string root] w fun e w' => e = .returned (.bool true) ∧ Below w.heap.size w w' := by
  have HA := Lib.hid (fun v => awake_any v)
  obtain ⟨R, hR⟩ : ∃ R, w.heap.size = R := ⟨_, rfl⟩
  have HZ := Lib.hid (fun v (hv : Below R w v) => hz.below hR.symm hv)
  have HR := Lib.hid hR
  have HRT := Lib.hid (fun v => short_any root v hroot)
  obtain ⟨n, hn⟩ : ∃ n, L.length = n := ⟨_, rfl⟩
  rw [hn] at hl ⊢
  unfold maxLen at hl
  have HN := Lib.hid hn
  clear hz hn
  go_enter Try.func3, Try.ntmps3
  go_upto_region 2 with (go_at_call 7; refine (HA.out _).mono ?_; rintro e v1 ⟨rfl, hb1⟩)
  rw [hR] at hb1
  obtain ⟨lo, hlo⟩ : ∃ lo, v1.heap.size = lo := ⟨_, rfl⟩
  have HB1 := Lib.hid (And.intro hb1 hlo)
  have hRlo : R ≤ lo := by rw [← hlo, ← hR]; exact Nat.le_trans (by rw [hR]; exact Nat.le_refl _) (by have := hb1.size; omega)
  clear hb1 hlo hR
  go_wp2_with fail
  go_loopw [6, 7] (fun v i wr => ∃ (k : Nat) (As : List (Option Addr × Nat)), k ≤ n ∧ k ≤ 10 ∧ i = .int .i64 k ∧ Hid (Bld lo v ((L.take k).map shLb) As wr) ∧ Hid (Below lo v1 wr)) (fun _ i _ => 10 - (intOf i).toNat)
  case atStart => exact ⟨0, [], Nat.zero_le _, by omega, rfl, Lib.hid (Bld.start _ _), Lib.hid (Below.refl _ _)⟩
  case round =>
    obtain ⟨k, As, hk, hk10, rfl, HBL, HLOW⟩ := hrel
    have HBR := Lib.hid (HB1.out.1.trans (HLOW.out.mono hRlo))
    by_cases hlt : k < n ∧ k < 10
    · obtain ⟨hlt1, hlt2⟩ := hlt
      have hi1 : (k : Int) < (n : Int) := by omega
      have hi2 : (k : Int) < 10 := by omega
      have hi0 : (0 : Int) ≤ (k : Int) := by omega
      have hk1 : k < L.length := by rw [HN.out]; exact hlt1
      have HSN := Lib.hid (show (L.take (k + 1)).map shLb = (L.take k).map shLb ++ [shLb L[k]] from by rw [List.take_succ_eq_append_getElem hk1, List.map_append]; rfl)
      obtain ⟨ad, An, cn, rfl, hblt, hlb⟩ := HZ.out w (Below.refl _ _) k hk1
      rw [HR.out] at hblt
      obtain ⟨nm, hnm⟩ : ∃ b, L[k] = b := ⟨_, rfl⟩
      rw [hnm] at HSN hlb
      obtain ⟨lz, hlz⟩ : ∃ q, nm.need.length = q := ⟨_, rfl⟩
      have hlzm := hlb.len
      rw [hlz] at hlzm
      unfold maxLen at hlzm
      have HLB := Lib.hid (fun v (hv : Below R w v) => show v.cell? (ad.add (k * 2)) = some (.string nm.name) ∧ v.cell? ⟨(ad.add (k * 2)).block, (ad.add (k * 2)).off + 1, none⟩ = some (.slice An lz cn) ∧ StrRow v An nm.need from
        ⟨(hv.cell (by rw [addr_blockG]; omega)).trans hlb.c0, by rw [← hlz]; exact (hv.cell (by show (ad.add (k * 2)).block < R; rw [addr_blockG]; omega)).trans hlb.c1, strRow_belowG hlb.row HR.out.symm hv⟩)
      have HLZ := Lib.hid hlz
      have HSH := Lib.hid (fun v => short_any nm.name v hlb.nm)
      have HIT := Lib.hid (show (shLb nm).name = shortB nm.name ∧ (shLb nm).need = (nm.need.take 6).map shortB from ⟨rfl, rfl⟩)
      obtain ⟨c0, c1, -⟩ := HLB.out _ HBR.out
      obtain ⟨X, hX⟩ : ∃ X, wr.heap.size = X := ⟨_, rfl⟩
      have HXb := Lib.hid (show ∀ W3, wr.alloc (.cells #[.string (shortB nm.name), .slice none 0 0] 27) = W3 → Xb X (shortB nm.name) (.slice none 0 0) [] W3 ∧ Below X wr W3 ∧ X < W3.heap.size from fun W3 h => by
        subst h
        rw [← hX]
        exact ⟨⟨Blk.new wr _ _, World.ownsRow_nil _ _ _ _⟩, (Below.refl _ _).alloc (Nat.le_refl _) _, by simp⟩)
      have hRX : R ≤ X := by rw [← hX, ← HR.out]; exact HBR.out.size
      have hloX : lo ≤ X := by rw [← hX, ← HB1.out.2]; exact HLOW.out.size
      clear hlb hlz hnm hblt hk1
      go_upto_region 7 with (go_at_call 8; with_reducible refine (HSH.out _).mono ?_; rintro e w2 ⟨rfl, rfl⟩)
      generalize hW3 : World.alloc _ _ = W3
      obtain ⟨hxb, hbw, hXW⟩ := HXb.out W3 hW3
      have HWW := Lib.hid (And.intro hbw (And.intro hXW hX))
      have HXB := Lib.hid hxb
      have HBV := Lib.hid (fun v (hv : But (fun j => X ≤ j) W3 v) => show Below R w v from HBR.out.trans ((HWW.out.1.mono hRX).trans (hv.below (by have := HWW.out.2.1; omega) (fun j hj => by omega))))
      have HBX := Lib.hid (fun v (hv : But (fun j => X ≤ j) W3 v) => show Bld lo u6 ((L.take k).map shLb) As v ∧ Below lo v1 v ∧ lo ≤ v.heap.size from by
        have h1 : Below X w2 v := HWW.out.1.trans (hv.below (by have := HWW.out.2.1; omega) (fun j hj => hj))
        exact ⟨HBL.out.below hX.symm h1, HLOW.out.trans (h1.mono hloX), Nat.le_trans (by rw [hX]; exact hloX) h1.size⟩)
      clear hxb hbw hXW HXb hW3 c0 c1 hX
      go_wp2_with fail
      go_loopw [9] (fun z wr => ∃ (j : Nat) (vN : Value), j ≤ lz ∧ j ≤ 6 ∧ z = .int .i64 j ∧ Hid (Xb X (shortB nm.name) vN ((nm.need.take j).map shortB) wr) ∧ Hid (But (fun j => X ≤ j) W3 wr)) (fun z _ => 6 - (intOf z).toNat)
      case atStart => exact ⟨0, _, Nat.zero_le _, by omega, rfl, HXB, Lib.hid (But.refl _ _)⟩
      case round =>
        obtain ⟨j, vN, hj, hj6, rfl, HXJ, HBT⟩ := hrel
        obtain ⟨-, b1, hsr⟩ := HLB.out _ (HBV.out _ HBT.out)
        by_cases hlt3 : j < lz ∧ j < 6
        · obtain ⟨hl1, hl2⟩ := hlt3
          have hl1' : (j : Int) < (lz : Int) := by omega
          have hl2' : (j : Int) < 6 := by omega
          have hj0 : (0 : Int) ≤ (j : Int) := by omega
          have hj1 : j < nm.need.length := by rw [HLZ.out]; exact hl1
          obtain ⟨ae, rfl, -, q0, hzs⟩ := hsr j hj1
          have hsn : (nm.need.take (j + 1)).map shortB = (nm.need.take j).map shortB ++ [shortB nm.need[j]] := by
            rw [List.take_succ_eq_append_getElem hj1, List.map_append]
            rfl
          generalize nm.need[j] = z at q0 hzs hsn
          obtain ⟨l, hl9⟩ : ∃ l, (nm.need.take j).map shortB = l := ⟨_, rfl⟩
          rw [hl9] at HXJ hsn
          have hll : l.length = j := by rw [← hl9, List.length_map, List.length_take, HLZ.out]; omega
          obtain ⟨AN, cN, hvN, -⟩ := own_atG HXJ.out.own
          rw [hll] at hvN
          subst hvN
          have y1 := HXJ.out.blk.cell 1
          have HNZ := Lib.hid (fun v => short_any z v hzs)
          have HSNJ := Lib.hid hsn
          have HLL := Lib.hid hll
          generalize shortB z = nz at *
          have HAD := Lib.hid (fun W5 (h : wr.drew = W5) => show Xb X (shortB nm.name) (.slice AN j cN) l W5 ∧ But (fun j => X ≤ j) W3 W5 ∧ W5.cell? ⟨X, 1, none⟩ = some (.slice AN j cN) ∧ W5.cell? ⟨(ad.add (k * 2)).block, (ad.add (k * 2)).off + 1, none⟩ = some (.slice (some ae) lz cn) ∧ W5.cell? (ae.add j) = some (.string z) from by
            subst h
            exact ⟨HXJ.out.below rfl (Below.refl _ _).drew, HBT.out.drewN 1, y1, b1, q0⟩)
          obtain ⟨s0, hjs, hs0, hs1, hs2⟩ := info_parts infoStr
          clear hsn hl9 hll
          go_wp2_with fail
          go_region_law (first
            | (go_simp; go_at_call 8; refine (HNZ.out _).mono ?_; rintro e v5 ⟨rfl, he5⟩
               obtain ⟨hx5, hb5, z1, z2, z3⟩ := HAD.out v5 he5.symm
               have z1b := cellA z1 (.cells #[.string nz] 9)
               have HX5 := Lib.hid hx5
               have HB5 := Lib.hid hb5
               have HO5 := Lib.hid (show v5.ownsRow (X + 1) 9 1 (.slice AN j cN) j (strs l) from by have := hx5.own; rw [HLL.out] at this; exact this)
               have HXS := Lib.hid (show X < v5.heap.size from hx5.blk.lt)
               clear hx5 hb5 he5)
            | (refine step_append_lies _ (by rfl) _ _ _ (by rfl) (X + 1) 9 s0 _ 1 16 Try.underlying25 hjs hs0 hs1 hs2 rfl (by decide) (.slice AN j cN) j (strs l) (by rfl) (HO5.out.alloc (.cells #[.string nz] 9)) ⟨v5.heap.size, 0, none⟩ 1 1 [.string nz] (by rfl) (by rfl) (World.news_of_block (cs := #[.string nz]) (t := 9) (fr := (0, 0)) (heap_alloc_new v5 (.cells #[.string nz] 9))) (by simp [Value.oneCell']) (by omega) (by unfold maxLen; omega) (by omega) (by have := HXS.out; simp; omega) (v5.heap.size + 1) (by simp) ?_
               intro gg cap w1 hown1 hgrow hat hlt1
               obtain ⟨u1, u2, u3, u4⟩ := HX5.out.push (s := nz) (g := gg) (c := cap) (.cells #[.string nz] 9) (by rw [HLL.out]; exact hown1) hgrow
               have HU := Lib.hid (And.intro u1 u2)
               clear u1 u2 hown1 hgrow hat))
          all_goals
            have HFIN := Lib.hid (show Xb X (shortB nm.name) (.slice (some ⟨gg, 0, none⟩) (j + 1) cap) ((nm.need.take (j + 1)).map shortB) (w1.setCell ⟨X, 1, none⟩ (.slice (some ⟨gg, 0, none⟩) (j + 1) cap)) ∧ But (fun j => X ≤ j) W3 (w1.setCell ⟨X, 1, none⟩ (.slice (some ⟨gg, 0, none⟩) (j + 1) cap)) from by
              have h := HU.out
              rw [HLL.out] at h
              rw [HSNJ.out]
              exact ⟨h.1, HB5.out.trans h.2⟩)
            clear HU
            go_wp2_with fail
            go_roundw
            case rel => exact ⟨j + 1, _, by omega, by omega, by go_num, Lib.hid HFIN.out.1, Lib.hid HFIN.out.2⟩
            case measure => simp [intOf]; omega
        · have hfull : (nm.need.take j).map shortB = (shLb nm).need := by
            rw [HIT.out.2]
            by_cases h6 : j = 6
            · rw [h6]
            · rw [List.take_of_length_le (by rw [HLZ.out]; omega), List.take_of_length_le (by rw [HLZ.out]; omega)]
          have HFX := Lib.hid (show Xb X (shLb nm).name vN (shLb nm).need wr ∧ But (fun j => X ≤ j) W3 wr from by rw [HIT.out.1, ← hfull]; exact ⟨HXJ.out, HBT.out⟩)
          have HNX := HIT.out.1
          clear hfull hsr
          by_cases hl1 : j < lz
          all_goals
            first
              | (have hl1' : ¬ (j : Int) < (lz : Int) := by omega)
              | (have hl1' : (j : Int) < (lz : Int) := by omega
                 have hl2' : ¬ (j : Int) < 6 := by omega)
            go_upto_region 11 with fail
            obtain ⟨hxb, hbt⟩ := HFX.out
            obtain ⟨hbl, hlow, hlov⟩ := HBX.out _ hbt
            obtain ⟨AN, cN, hvN, hsrr⟩ := SRow.own hxb.own
            have y0 := hxb.blk.cell 0
            have y1 := hxb.blk.cell 1
            rw [HIT.out.1] at y0
            subst hvN
            obtain ⟨A5, c5, hv⟩ := hbl.slice
            obtain ⟨N1, hN1⟩ : ∃ N1, (shLb nm).need.length = N1 := ⟨_, rfl⟩
            have hLl : ((L.take k).map shLb).length = k := by rw [List.length_map, List.length_take, HN.out]; omega
            rw [hLl] at hv
            rw [hN1] at y1
            subst hv
            have hown := hbl.own
            rw [hLl] at hown
            obtain ⟨i0, hi, hz0, hz1, hz2⟩ := info_parts infoLibG
            have HOW := Lib.hid (And.intro hown (And.intro hbl (And.intro hlow hlov)))
            have HSR := Lib.hid (And.intro hsrr (And.intro hN1 hLl))
            clear hxb hbt hbl hlow hlov hsrr hown hN1 hLl HFX
            go_wp2_with (at_builtin; refine Hid.out ?_)
            refine Lib.hid ?_
            refine wpList_append_own _ rfl _ _ 22 rfl lo 27 i0 _ 2 40 Try.underlying22 hi hz0 hz1 hz2 rfl (by decide) (.slice A5 k c5) k (libCells ((L.take k).map shLb) As) rfl (HOW.out.1.alloc _) ⟨wr.heap.size, 0, none⟩ 1 1 [.string (shortB nm.name), .slice AN N1 cN] rfl rfl (cell_two _ _ _ _) (fun u hu => by simp at hu; rcases hu with rfl | rfl <;> rfl) (by unfold maxLen; omega) (by omega) (by have := HOW.out.2.2.2; simp; omega) ?_
            intro v' w1 hown1 hgrow1 _
            have hB2 := HOW.out.2.1.push (b := shLb nm) (Below.refl _ _) HSR.out.1 _ (by rw [HSR.out.2.1, HSR.out.2.2]; exact hown1) hgrow1
            rw [← HSN.out] at hB2
            have HB2 := Lib.hid hB2
            have HLW2 := Lib.hid ((HOW.out.2.2.1.alloc HOW.out.2.2.2 (.cells #[.string (shortB nm.name), .slice AN N1 cN] 27)).grown hgrow1 (by have := HOW.out.2.2.2; simp; omega) (fun j hj => (HOW.out.1.lt j hj).1))
            clear hown1 hgrow1 hB2
            go_wp2_with fail
            go_roundw
            case rel => exact ⟨k + 1, _, by omega, by omega, by go_num, HB2, HLW2⟩
            case measure => simp [intOf]; omega
    · have hM : (L.take k).map shLb = (L.take 10).map shLb := by
        by_cases h10 : k = 10
        · rw [h10]
        · rw [List.take_of_length_le (by rw [HN.out]; omega), List.take_of_length_le (by rw [HN.out]; omega)]
      have hbl := HBL.out
      rw [hM] at hbl
      obtain ⟨s1, s2, s3⟩ := sh_small (L.take 10)
      obtain ⟨A5, c5, hv, hrow⟩ := hbl.row s1 s2 s3
      have hml : ((L.take 10).map shLb).length ≤ 10 := by rw [List.length_map, List.length_take]; omega
      obtain ⟨M, hMM⟩ : ∃ M, (L.take 10).map shLb = M := ⟨_, rfl⟩
      obtain ⟨rt, hrt⟩ : ∃ b, shortB root = b := ⟨_, rfl⟩
      have hrs : rt.size ≤ maxLen := by rw [← hrt]; exact Nat.le_trans (shortB_size _) (by decide)
      rw [hMM] at hv hrow hml
      rw [hrt] at HRT
      subst hv
      have hmb : (cloW M rt).M.length ≤ 1 + M.length * 100000 := bd_clo rt (by rw [← hMM]; exact s3)
      have hob := ord_le M rt
      have hOR := fun v (hv : Below wr.heap.size wr v) => order_any M rt A5 c5 v (hrow.below rfl hv) (by omega) hrs
      have hRO := fun v (hv : Below wr.heap.size wr v) => rorder_any M rt A5 c5 v (hrow.below rfl hv) (by omega) hrs
      have hMI := fun v (hv : Below wr.heap.size wr v) => missing_any M rt A5 c5 v (hrow.below rfl hv) (by omega) hrs
      have hOF := fun v (hv : Below wr.heap.size wr v) => of_any M rt A5 c5 v (hrow.below rfl hv) (by omega) hrs
      have hRN := fun v (hv : Below wr.heap.size wr v) => round_any M rt A5 c5 v (hrow.below rfl hv) (by omega) hrs
      have hRR := fun v (hv : Below wr.heap.size wr v) => rround_any M rt A5 c5 v (hrow.below rfl hv) (by omega) hrs
      unfold OrdT at hOR hRO
      unfold NamesT at hMI
      unfold OfT at hOF
      obtain ⟨er, her⟩ : ∃ e, ordE M rt = e := ⟨_, rfl⟩
      obtain ⟨N9, hN9⟩ : ∃ l, ordN M rt = l := ⟨_, rfl⟩
      obtain ⟨n9, hn9⟩ : ∃ l, N9.length = l := ⟨_, rfl⟩
      obtain ⟨S, hS⟩ : ∃ S, cloW M rt = S := ⟨_, rfl⟩
      obtain ⟨M9, hM9⟩ : ∃ l, S.M = l := ⟨_, rfl⟩
      obtain ⟨m9, hm9⟩ : ∃ l, M9.length = l := ⟨_, rfl⟩
      obtain ⟨k9, hk9⟩ : ∃ l, S.N.length = l := ⟨_, rfl⟩
      obtain ⟨bv, hbv⟩ : ∃ b, rndW M rt = b := ⟨_, rfl⟩
      obtain ⟨q, hq⟩ : ∃ q, M.length = q := ⟨_, rfl⟩
      rw [her, hN9, hn9, hq] at hOR hRO
      rw [hS, hM9, hm9, hq] at hMI
      rw [hS, hM9, hm9, hk9, hq] at hOF
      rw [hbv, hq] at hRN hRR
      rw [hS, hM9, hm9, hq] at hmb
      rw [hN9, hn9, hq] at hob
      rw [hq] at hml ⊢
      have HT1 := Lib.hid (fun (A B : Option Addr) (c d : Nat) v (h1 : StrRow v A N9) (h2 : StrRow v B N9) => show Calls Try.prog 11 #[.slice A n9 c, .slice B n9 d] v fun e w' => e = .returned (.bool true) ∧ Below v.heap.size v w' from by
        have h := texts_any N9 N9 A B c d v h1 h2 (by omega) (by omega)
        rw [hn9] at h
        simpa using h)
      have HT2 := Lib.hid (fun (A B : Option Addr) (c d : Nat) v (h1 : StrRow v A M9) (h2 : StrRow v B M9) => show Calls Try.prog 11 #[.slice A m9 c, .slice B m9 d] v fun e w' => e = .returned (.bool true) ∧ Below v.heap.size v w' from by
        have h := texts_any M9 M9 A B c d v h1 h2 (by omega) (by omega)
        rw [hm9] at h
        simpa using h)
      have hfd : ∀ (A1 : Option Addr) (c1 : Nat) (A2 : Option Addr) (c2 : Nat) (A3 : Option Addr) (c3 : Nat) (w : World), (Instr.field 35 (.agg #[.slice A1 k9 c1, .slice A2 k9 c2, .slice A3 m9 c3]) 2).run Try.prog w = .ok (.slice A3 m9 c3) w := fun _ _ _ _ _ _ _ => by kernel_rfl
      have HOR := Lib.hid hOR
      have HRO := Lib.hid hRO
      have HMI := Lib.hid hMI
      have HOF := Lib.hid hOF
      have HRN := Lib.hid hRN
      have HRR := Lib.hid hRR
      have HWW := Lib.hid (show Below w.heap.size w wr from by rw [HR.out]; exact HBR.out)
      clear hM hbl s1 s2 s3 hrow hMM hrt hrs hOR hRO hMI hOF hRN hRR her hN9 hn9 hS hM9 hm9 hk9 hbv hq HBL HZ HN HR HB1 HA
      by_cases hl1 : k < n
      all_goals
        first
          | (have hl1' : ¬ (k : Int) < (n : Int) := by omega)
          | (have hl1' : (k : Int) < (n : Int) := by omega
             have hl2' : ¬ (k : Int) < 10 := by omega)
        go_wp2_with (first
          | (go_at_call 8; with_reducible refine (HRT.out _).mono ?_; rintro e v1 ⟨rfl, rfl⟩)
          | (go_at_call 9; (with_reducible refine (HOR.out _ (Below.refl _ _)).mono ?_); rintro e v2 ⟨A6, c6, rfl, hr2, hb2⟩; have HB2 := Lib.hid hb2; have HR2 := Lib.hid hr2; clear hb2 hr2)
          | (go_at_call 10; (with_reducible refine (HRO.out _ HB2.out).mono ?_); rintro e v3 ⟨A7, c7, rfl, hr3, hb3⟩; have HB3 := Lib.hid (HB2.out.trans (hb3.mono HB2.out.size)); have HR3 := Lib.hid (And.intro (strRow_belowG HR2.out rfl hb3) hr3); clear hb3 hr3)
          | (go_at_call 11; (with_reducible refine (HT1.out _ _ _ _ _ HR3.out.1 HR3.out.2).mono ?_); rintro e v4 ⟨rfl, hb4⟩; have HB4 := Lib.hid (HB3.out.trans (hb4.mono HB3.out.size)); clear hb4)
          | (go_at_call 12; (with_reducible refine (HMI.out _ HB4.out).mono ?_); rintro e v5 ⟨u, rfl, A8, c8, rfl, hr5, hb5⟩; have HB5 := Lib.hid (HB4.out.trans (hb5.mono HB4.out.size)); have HR5 := Lib.hid hr5; clear hb5 hr5)
          | (go_at_call 13; (with_reducible refine (HOF.out _ HB5.out).mono ?_); rintro e v6 ⟨A9, c9, A10, c10, A11, c11, rfl, -, -, hr6, hb6⟩; have HB6 := Lib.hid (HB5.out.trans (hb6.mono HB5.out.size)); have HR6 := Lib.hid (And.intro (strRow_belowG HR5.out rfl hb6) hr6); clear hb6 hr6)
          | (go_at_call 11; (with_reducible refine (HT2.out _ _ _ _ _ HR6.out.1 HR6.out.2).mono ?_); rintro e v7 ⟨rfl, hb7⟩; have HB7 := Lib.hid (HB6.out.trans (hb7.mono HB6.out.size)); clear hb7)
          | (go_at_call 14; (with_reducible refine (HRN.out _ HB7.out).mono ?_); rintro e v8 ⟨rfl, hb8⟩; have HB8 := Lib.hid (HB7.out.trans (hb8.mono HB7.out.size)); clear hb8)
          | (go_at_call 15; (with_reducible refine (HRR.out _ HB8.out).mono ?_); rintro e v9 ⟨rfl, hb9⟩; have HB9 := Lib.hid (HB8.out.trans (hb9.mono HB8.out.size)); clear hb9))
        go_ret
        exact ⟨by simp, HWW.out.trans (HB9.out.mono HWW.out.size)⟩

set_option maxRecDepth 100000 in
theorem lifted (os : Os) (started : os.Started) (H : Type) (enc : TypeId × Value → H) :
    ReturnsInHanded {} Try.checked os 3 .any (Rows.needsAnySpec.pre6 enc Try.prog Try.f3 Rows.needsAnyRow.domain false) (Rows.needsAnySpec.post enc Try.prog Try.f3 false true false false) := by
  refine returnsInHanded_of_change (C := Try.checked) own started (by kernel_rfl) Try.func3
    (ChangeSpec.witness6 (enc := enc) (C := Try.checked) false ⟨#[], #[.slice none 0 0, .string ⟨#[]⟩], []⟩ 8 (by kernel_rfl) (by kernel_rfl) (by kernel_rfl) (by kernel_rfl)) ?_
  intro W base args ds gs before hval0 hW hcnd _
  have hval : ∀ (j : Nat) t v, Try.f3.params[j]? = some t → args[j]? = some v → Value.okWide Try.prog W .any base t v := hval0
  have hW' := hW
  obtain ⟨p, q, hA0, hV, rfl, hfz, hnd⟩ := hW
  have hA : DataW.TrodAll enc Try.prog W 0 (fun _ => true) true Try.f3.params.toList args.toList ds p := hA0
  rw [Try.params3] at hA hval
  obtain ⟨v0, vs0, d0, ds0, p0, q0, hargs, rfl, rfl, h0, r0⟩ := trodAll_cons hA
  obtain ⟨v1, vs1, d1, ds1, p1, q1, rfl, rfl, rfl, h1, r1⟩ := trodAll_cons r0
  obtain ⟨rfl, rfl, rfl⟩ := trodAll_nil r1
  obtain rfl : args = #[v0, v1] := by cases args; simp_all
  obtain ⟨rfl, rfl⟩ := trodVars_none hV
  have k0 := h0
  have lt0 : ∀ x ∈ p0, x.block < W.heap.size := by obtain ⟨m, hm⟩ := k0; exact DataW.trod_lt m _ _ _ hm
  obtain ⟨LA0, Ll0, Lc0, rfl, Lm0, Lr0⟩ := open_libsG (hval 0 22 v0 rfl rfl) h0
  have k1 := h1
  have lt1 : ∀ x ∈ p1, x.block < W.heap.size := by obtain ⟨m, hm⟩ := k1; exact DataW.trod_lt m _ _ _ hm
  obtain ⟨a1, rfl, _, _, w1⟩ := open_string Try.underlying9 (hval 1 9 v1 rfl rfl) h1
  clear hA0 hval0
  refine (walk LA0 Ll0 Lc0 a1 W Lm0 Lr0 w1).mono fun e W' ⟨he, bel⟩ => ?_
  subst he
  exact ⟨_, rfl, _, _, _, [], _, [], hW', trodAll_mk1 (shut_bool Try.underlying4 _), (trodAll_cons_mk (Below.trod laidOut (by kernel_rfl) (of_decide_eq_true (by kernel_rfl)) k0 bel lt0) (trodAll_cons_mk (Below.trod laidOut (by kernel_rfl) (of_decide_eq_true (by kernel_rfl)) k1 bel lt1) trodAll_mk0)), rfl, bel.frame _, fun h => by cases h⟩
theorem over : Rows.needsAnyRow.holds Try.pinned (OpenSpec.ofChange Rows.needsAnySpec) :=
  OpenClaim.holds_of_wide 3 Try.f3 rfl rfl rfl rfl rfl rfl rfl ⟨rfl, rfl, rfl, rfl, rfl⟩ rfl rfl rfl rfl rfl (by kernel_rfl) Try.func3 (by kernel_rfl)
    (of_decide_eq_true (by kernel_rfl)) (by unfold Func.isWrapper; first | (rw [if_pos (by decide +kernel)]; kernel_rfl) | (rw [if_neg (by decide +kernel)]; exact ⟨rfl, rfl⟩))
    (fun os started H enc _ => lifted os started H enc)
/-- The statement. -/
theorem proved : Rows.NeedsAnySaid := over
end Go.Proofs.Ytmkaehnekhejmaa.lawAny
