/- Layer 12: the list that a Spec means. -/
import Derived.Test.YtmkaehnekhejmaaGr
namespace Go.Proofs.Ytmkaehnekhejmaa
open Go.RowKit
set_option linter.unusedVariables false
set_option linter.unusedSimpArgs false

def specB (nd : List (List Int)) (i : Nat) : Lb := ⟨nameN i, ((nd.getD i []).take 8).map nameB⟩
def specL (nd : List (List Int)) (n : Nat) : List Lb := (List.range n).map (specB nd)
def cntS (many : Int) : Nat := 1 + (many % 16).toNat
theorem specL_len (nd : List (List Int)) (n : Nat) : (specL nd n).length = n := by simp [specL]
theorem specL_at {nd : List (List Int)} {n i : Nat} (h : i < (specL nd n).length) : (specL nd n)[i] = specB nd i := by simp [specL]
theorem nameB_size (n : Int) : (nameB n).size = 1 := nameN_size _
theorem nameB_nat {k : Nat} (h : k < 16) : nameB (k : Int) = nameN k := by
  unfold nameB
  congr 1
  omega
theorem specL_small (nd : List (List Int)) (n : Nat) : (∀ b ∈ specL nd n, b.name.size ≤ maxLen) ∧ (∀ b ∈ specL nd n, ∀ x ∈ b.need, x.size ≤ maxLen) ∧ (∀ b ∈ specL nd n, b.need.length ≤ 100000) := by
  have h2 : (1 : Nat) ≤ maxLen := by decide
  refine ⟨?_, ?_, ?_⟩ <;> intro b hb <;> obtain ⟨i, _, rfl⟩ := List.mem_map.1 hb
  · show (nameN i).size ≤ maxLen
    rw [nameN_size]; exact h2
  · intro x hx
    obtain ⟨z, _, rfl⟩ := List.mem_map.1 hx
    rw [nameB_size]; exact h2
  · unfold specB
    simp
    omega
theorem infoLibG : (Try.prog.info? 27).map (fun i => (i.zero, i.size, i.bytes)) = some (some (.agg #[.string ⟨#[]⟩, .slice none 0 0]), 2, 40) := by kernel_rfl
theorem cell_two (w : World) (x y : Value) (t : TypeId) : ∀ j u, [x, y][j]? = some u → (w.alloc (.cells #[x, y] t)).cell? ((⟨w.heap.size, 0, none⟩ : Addr).add j) = some u := fun j u hj => by
  rw [addr0]
  exact (Blk.new w _ _).at_ j u (by simpa using hj)
theorem RowsRow.below {w w' : World} {A : Option Addr} {nd : List (List Int)} (h : RowsRow w A nd) {n : Nat} (hn : n = w.heap.size) (hb : Below n w w') : RowsRow w' A nd := fun i hi => by
  obtain ⟨ad, Ai, ci, h1, h2, h3, h4, h5⟩ := h i hi
  refine ⟨ad, Ai, ci, h1, Nat.lt_of_lt_of_le h2 hb.size, (hb.cell (by rw [addr_blockG]; omega)).trans h3, fun j hj => ?_, h5⟩
  obtain ⟨ae, q1, q2, q3, q4⟩ := h4 j hj
  exact ⟨ae, q1, Nat.lt_of_lt_of_le q2 hb.size, (hb.cell (by rw [addr_blockG]; omega)).trans q3, q4⟩
/-- A library that is put together: its box, and its needs in a row of the call's own. -/
structure Xb (X : Nat) (nm : ByteArray) (v : Value) (l : List ByteArray) (w : World) : Prop where
  blk : Blk w X 27 #[.string nm, v]
  own : w.ownsRow (X + 1) 9 1 v l.length (strs l)
theorem Xb.below {X : Nat} {nm : ByteArray} {v : Value} {l : List ByteArray} {w w' : World} (h : Xb X nm v l w) {n : Nat} (hn : n = w.heap.size) (hb : Below n w w') : Xb X nm v l w' :=
  ⟨h.blk.below hb (by rw [hn]; exact h.blk.lt), own_below h.own (by rw [← hn]; exact hb)⟩
theorem Xb.push {X g c : Nat} {nm s : ByteArray} {v : Value} {l : List ByteArray} {w w1 : World} (h : Xb X nm v l w) (o : Obj)
    (ho : w1.ownsRow (X + 1) 9 1 (.slice (some ⟨g, 0, none⟩) (l.length + 1) c) (l.length + 1) (strs l ++ [.string s])) (hg : (w.alloc o).grownBy w1 v.ownBlock) :
    Xb X nm (.slice (some ⟨g, 0, none⟩) (l.length + 1) c) (l ++ [s]) (w1.setCell ⟨X, 1, none⟩ (.slice (some ⟨g, 0, none⟩) (l.length + 1) c)) ∧ But (fun k => X ≤ k) w (w1.setCell ⟨X, 1, none⟩ (.slice (some ⟨g, 0, none⟩) (l.length + 1) c)) ∧ w1.cell? ⟨X, 1, none⟩ = some v ∧ w1.frozen? ⟨X, 1, none⟩ = false := by
  have hv : ∀ k, v.ownBlock = some k → X + 1 ≤ k := fun k hk => (h.own.lt k hk).1
  have b1 := (h.blk.alloc o).grown hg (fun e => by have := hv X e.symm; omega)
  have hB : But (fun k => X ≤ k) w w1 := ((But.refl _ w).alloc o).grown hg (fun k e => .inl (by have := hv k e; omega))
  refine ⟨⟨b1.set_ 1 _, ?_⟩, hB.setCell (.inl (Nat.le_refl _)) _, b1.cell 1, b1.frozen 1⟩
  rw [strs_snoc, List.length_append]
  exact own_setG ho (p := ⟨X, 1, none⟩) (Nat.lt_succ_self _) _

set_option maxRecDepth 100000 in
set_option maxHeartbeats 3200000 in
theorem list_any2 (s : SpecIn) (w : World) (hs : s.In w) : Calls Try.prog 16 #[.agg s.cs] w fun e w' => ∃ A c As lo, e = .returned (.slice A (cntS s.many) c) ∧ LibRow w' A (specL s.nd (cntS s.many)) ∧ Below w.heap.size w w' ∧ Bld lo (.slice A (cntS s.many) c) (specL s.nd (cntS s.many)) As w' ∧ (∀ a ∈ As, a.1 = none → a.2 = 0) := by
  obtain ⟨h1, h2, h3⟩ := hs
  obtain ⟨nd, many, A, c⟩ := s
  unfold SpecIn.cs
  simp only at *
  unfold maxLen at h1
  have e15 := i64_and15 many
  obtain ⟨q, hq⟩ : ∃ q : Nat, many % 16 = q := ⟨(many % 16).toNat, by omega⟩
  have hcnt : cntS many = 1 + q := by unfold cntS; rw [hq]; rfl
  have hq16 : q < 16 := by omega
  rw [hq] at e15
  rw [hcnt]
  obtain ⟨m, hm⟩ : ∃ m, 1 + q = m := ⟨_, rfl⟩
  rw [hm]
  have hm2 : IntKind.i64.wrap (1 + (q : Int)) = (m : Int) := by rw [show 1 + (q : Int) = (m : Int) by omega]; exact IntWalk.i64_in _ (by omega)
  have hm16 : m ≤ 16 := by omega
  obtain ⟨B, hB⟩ : ∃ B, w.heap.size = B := ⟨_, rfl⟩
  have HR := Lib.hid (fun v (hv : Below B w v) => h2.below hB.symm hv)
  obtain ⟨n, hn⟩ : ∃ n, nd.length = n := ⟨_, rfl⟩
  rw [hn] at h1 ⊢
  have HN := Lib.hid (And.intro hn hB)
  have HNM := Lib.hid (fun (z : Int) v => name_any z v)
  have hK0 := Blk.new w 40 #[.slice A n c, .int .i64 many]
  have hB0 : Below B w (w.alloc (.cells #[.slice A n c, .int .i64 many] 40)) := by rw [← hB]; exact (Below.refl _ _).alloc (Nat.le_refl _) _
  rw [hB] at hK0
  obtain ⟨W0, hW0⟩ : ∃ W0, w.alloc (.cells #[.slice A n c, .int .i64 many] 40) = W0 := ⟨_, rfl⟩
  rw [hW0] at hK0 hB0
  have HW := Lib.hid (And.intro hK0 (And.intro hB0 hW0))
  clear hK0 hB0 hW0 hq hcnt hm hn h2 h3 hq16
  go_enter Try.func16, Try.ntmps16
  go_upto_region 3 with fail
  rw [HW.out.2.2]
  clear hB
  go_loopw [3, 4] (fun v i wr => ∃ (k : Nat) (As : List (Option Addr × Nat)), k ≤ m ∧ i = .int .i64 k ∧ Hid (Bld (B + 1) v ((specL nd m).take k) As wr) ∧ Hid (Below (B + 1) W0 wr) ∧ Hid (∀ a ∈ As, a.1 = none → a.2 = 0)) (fun _ i _ => m - (intOf i).toNat)
  case atStart => exact ⟨0, [], Nat.zero_le _, rfl, Lib.hid (Bld.start _ _), Lib.hid (Below.refl _ _), Lib.hid (by simp)⟩
  case round =>
    obtain ⟨k, As, hk, rfl, HBL, HLOW, HNIL⟩ := hrel
    have hbx := HW.out.1.below HLOW.out (by omega)
    have x0 := hbx.cell 0
    have x1 := hbx.cell 1
    by_cases hlt : k < m
    · have hnk := nameB_nat (k := k) (by omega)
      have hnm := HNM.out (k : Int)
      rw [hnk] at hnm
      have HNK := Lib.hid hnm
      clear hnm hnk
      go_upto_region 6 with (go_at_call 17; with_reducible refine (HNK.out _).mono ?_; rintro e w2 ⟨rfl, hb2⟩)
      obtain ⟨X, hX⟩ : ∃ X, w2.heap.size = X := ⟨_, rfl⟩
      have hXw : wr.heap.size ≤ X := by rw [← hX]; exact hb2.size
      have HXb := Lib.hid (show ∀ W3, w2.alloc (.cells #[.string (nameN k), .slice none 0 0] 27) = W3 → Xb X (nameN k) (.slice none 0 0) [] W3 ∧ Below wr.heap.size wr W3 ∧ X < W3.heap.size from fun W3 h => by
        subst h
        rw [← hX]
        exact ⟨⟨Blk.new w2 _ _, World.ownsRow_nil _ _ _ _⟩, hb2.alloc hb2.size _, by simp⟩)
      rw [hX]
      generalize hW3 : w2.alloc (.cells #[.string (nameN k), .slice none 0 0] 27) = W3
      obtain ⟨hxb, hbw, hXW⟩ := HXb.out W3 hW3
      clear HXb hW3 hb2 hX
      have hlow3 : Below (B + 1) W0 W3 := HLOW.out.trans (hbw.mono (by have := HLOW.out.size; have := HW.out.1.lt; omega))
      have hbx3 := HW.out.1.below hlow3 (by omega)
      have z0 := hbx3.cell 0
      have HBX := Lib.hid (And.intro hbw (And.intro hlow3 (And.intro hXw hXW)))
      have HXB := Lib.hid hxb
      have hndk : (nd.getD k []).length ≤ maxLen := by
        rw [List.getD_eq_getElem?_getD]
        by_cases h : k < nd.length
        · rw [List.getElem?_eq_getElem h]
          obtain ⟨_, _, _, _, _, _, _, h5⟩ := HR.out w (Below.refl _ _) k h
          exact h5
        · rw [List.getElem?_eq_none (by omega)]
          exact Nat.zero_le _
      have HNDK := Lib.hid hndk
      clear hxb hbw hlow3 hbx3 hndk x0 x1
      go_upto_if 22 with fail
      go_cut [6, 22] from 23 to 50 (fun _ _ wx => ∃ vN, Xb X (nameN k) vN (specB nd k).need wx ∧ But (fun j => X ≤ j) W3 wx)
      case first =>
        by_cases hkn : k < n
        · have hkn' : (k : Int) < (n : Int) := by omega
          have hk0 : (0 : Int) ≤ (k : Int) := by omega
          have hkl : k < nd.length := by rw [HN.out.1]; exact hkn
          obtain ⟨zs, hzs⟩ : ∃ zs, nd[k] = zs := ⟨_, rfl⟩
          have hneed : (specB nd k).need = (zs.take 8).map nameB := by
            unfold specB
            simp only
            rw [List.getD_eq_getElem?_getD, List.getElem?_eq_getElem hkl, Option.getD_some, hzs]
          have HROW := Lib.hid (fun v (hv : Below B w v) => show ∃ ad Ai ci, A = some ad ∧ v.cell? (ad.add k) = some (.slice Ai zs.length ci) ∧ IntRow v Ai zs from by
            obtain ⟨ad, Ai, ci, e1, _, e2, e3, _⟩ := HR.out v hv k hkl
            rw [hzs] at e2 e3
            exact ⟨ad, Ai, ci, e1, e2, e3⟩)
          have hzl : zs.length ≤ maxLen := by
            obtain ⟨_, _, _, _, _, _, _, h5⟩ := HR.out w (Below.refl _ _) k hkl
            rw [hzs] at h5; exact h5
          unfold maxLen at hzl
          have HNE := Lib.hid hneed
          clear hneed hzs hkl
          obtain ⟨lz, hlz⟩ : ∃ lz, zs.length = lz := ⟨_, rfl⟩
          have HLZ := Lib.hid hlz
          rw [hlz] at hzl
          have HWB := Lib.hid (fun wx (hb : But (fun j => X ≤ j) W3 wx) => show Below B w wx ∧ wx.cell? ⟨B, 0, none⟩ = some (.slice A n c) from by
            have h1 : Below (B + 1) W0 wx := HBX.out.2.1.trans (hb.below (by have := HBX.out.2.1.size; have := HW.out.1.lt; omega) (fun j hj => by have := HLOW.out.size; have := HW.out.1.lt; have := HBX.out.2.2.1; omega))
            exact ⟨HW.out.2.1.trans (h1.mono (by omega)), (HW.out.1.below h1 (by omega)).cell 0⟩)
          clear hlz
          first
            | rw [show decide ((k : Int) < (n : Int)) = true from decide_eq_true hkn']
            | rw [show decide (k < n) = true from decide_eq_true hkn]
          go_wp2_with fail
          clear z0
          go_loopw [6] (fun z wr => ∃ (j : Nat) (vN : Value), j ≤ lz ∧ j ≤ 8 ∧ z = .int .i64 j ∧ Hid (Xb X (nameN k) vN ((zs.take j).map nameB) wr) ∧ Hid (But (fun j => X ≤ j) W3 wr)) (fun z _ => 8 - (intOf z).toNat)
          case atStart => exact ⟨0, _, Nat.zero_le _, by omega, rfl, HXB, Lib.hid (But.refl _ _)⟩
          case round =>
            obtain ⟨j, vN, hj, hj8, rfl, HXJ, HBT⟩ := hrel
            obtain ⟨hbw, b0⟩ := HWB.out _ HBT.out
            obtain ⟨ad, Ai, ci, rfl, r0, hir⟩ := HROW.out _ hbw
            rw [HLZ.out] at r0
            by_cases hlt2 : j < lz ∧ j < 8
            · obtain ⟨hl1, hl2⟩ := hlt2
              have hl1' : (j : Int) < (lz : Int) := by omega
              have hl2' : (j : Int) < 8 := by omega
              have hj0 : (0 : Int) ≤ (j : Int) := by omega
              obtain ⟨ae, rfl, hblt, q0, -⟩ := hir j (by rw [HLZ.out]; exact hl1)
              have hsn : (zs.take (j + 1)).map nameB = (zs.take j).map nameB ++ [nameB (zs[j]'(by rw [HLZ.out]; exact hl1))] := by
                rw [List.take_succ_eq_append_getElem (by rw [HLZ.out]; exact hl1), List.map_append]
                rfl
              generalize zs[j]'(by rw [HLZ.out]; exact hl1) = z at *
              obtain ⟨l, hl⟩ : ∃ l, (zs.take j).map nameB = l := ⟨_, rfl⟩
              rw [hl] at HXJ hsn
              have hll : l.length = j := by rw [← hl, List.length_map, List.length_take, HLZ.out]; omega
              obtain ⟨AN, cN, hvN, -⟩ := own_atG HXJ.out.own
              rw [hll] at hvN
              subst hvN
              have y1 := HXJ.out.blk.cell 1
              have HNZ := Lib.hid (HNM.out z)
              have HSN := Lib.hid hsn
              have HLL := Lib.hid hll
              generalize nameB z = nz at *
              have HX2 := Lib.hid (show X < wr.heap.size from HXJ.out.blk.lt)
              obtain ⟨s0, hjs, hs0, hs1, hs2⟩ := info_parts infoStr
              clear hsn hl hll hir hblt hbw
              go_wp2_with fail
              go_region_law (first
                | (go_simp; go_at_call 17; refine (HNZ.out _).mono ?_; rintro e v5 ⟨rfl, hb5⟩
                   have hx5 := (HXJ.out.below rfl (Below.refl _ _).drew).below rfl hb5
                   have y1a := hx5.blk.cell 1
                   have y1b := cellA y1a (.cells #[.string nz] 9)
                   have HX5 := Lib.hid hx5
                   have HB5 := Lib.hid ((HBT.out.drewN 1).trans (But.of_below (S := fun j => X ≤ j) hb5))
                   have HO5 := Lib.hid (show v5.ownsRow (X + 1) 9 1 (.slice AN j cN) j (strs l) from by have := hx5.own; rw [HLL.out] at this; exact this)
                   have HXS := Lib.hid (Nat.lt_of_lt_of_le HX2.out hb5.size)
                   clear hb5 hx5)
                | (refine step_append_lies _ (by rfl) _ _ _ (by rfl) (X + 1) 9 s0 _ 1 16 Try.underlying25 hjs hs0 hs1 hs2 rfl (by decide) (.slice AN j cN) j (strs l) (by rfl) (HO5.out.alloc (.cells #[.string nz] 9)) ⟨v5.heap.size, 0, none⟩ 1 1 [.string nz] (by rfl) (by rfl) (World.news_of_block (cs := #[.string nz]) (t := 9) (fr := (0, 0)) (heap_alloc_new v5 (.cells #[.string nz] 9))) (by simp [Value.oneCell']) (by omega) (by unfold maxLen; omega) (by omega) (by have := HXS.out; simp; omega) (v5.heap.size + 1) (by simp) ?_
                   intro gg cap w1 hown1 hgrow hat hlt1
                   obtain ⟨u1, u2, u3, u4⟩ := HX5.out.push (s := nz) (g := gg) (c := cap) (.cells #[.string nz] 9) (by rw [HLL.out]; exact hown1) hgrow
                   have HU := Lib.hid (And.intro u1 u2)
                   clear u1 u2 hown1 hgrow hat))
              all_goals
                have HFIN := Lib.hid (show Xb X (nameN k) (.slice (some ⟨gg, 0, none⟩) (j + 1) cap) ((zs.take (j + 1)).map nameB) (w1.setCell ⟨X, 1, none⟩ (.slice (some ⟨gg, 0, none⟩) (j + 1) cap)) ∧ But (fun j => X ≤ j) W3 (w1.setCell ⟨X, 1, none⟩ (.slice (some ⟨gg, 0, none⟩) (j + 1) cap)) from by
                  have h := HU.out
                  rw [HLL.out] at h
                  rw [HSN.out]
                  exact ⟨h.1, HB5.out.trans h.2⟩)
                clear HU
                go_wp2_with fail
                go_roundw
                case rel => exact ⟨j + 1, _, by omega, by omega, by go_num, Lib.hid HFIN.out.1, Lib.hid HFIN.out.2⟩
                case measure => simp [intOf]; omega
            · have hfull : (zs.take j).map nameB = (zs.take 8).map nameB := by
                by_cases h8 : j = 8
                · rw [h8]
                · rw [List.take_of_length_le (by rw [HLZ.out]; omega), List.take_of_length_le (by rw [HLZ.out]; omega)]
              have HFIN := Lib.hid (show Xb X (nameN k) vN (specB nd k).need wr ∧ But (fun j => X ≤ j) W3 wr from by rw [HNE.out, ← hfull]; exact ⟨HXJ.out, HBT.out⟩)
              clear hfull hir
              by_cases hl1 : j < lz
              · have hl1' : (j : Int) < (lz : Int) := by omega
                have hl2' : ¬ (j : Int) < 8 := by omega
                go_wp2_with fail
                go_meet
                exact ⟨_, HFIN.out.1, HFIN.out.2⟩
              · have hl1' : ¬ (j : Int) < (lz : Int) := by omega
                go_wp2_with fail
                go_meet
                exact ⟨_, HFIN.out.1, HFIN.out.2⟩
        · have hnil : (specB nd k).need = [] := by
            unfold specB
            simp only
            rw [List.getD_eq_getElem?_getD, List.getElem?_eq_none (by have := HN.out.1; omega)]
            rfl
          have hkn' : ¬ (k : Int) < (n : Int) := by omega
          go_wp2
          go_meet
          exact ⟨_, by rw [hnil]; exact HXB.out, But.refl _ _⟩
      case rest =>
        obtain ⟨vN, hxb, hbt⟩ := hcut
        obtain ⟨AN, cN, hvN, hsr⟩ := SRow.own hxb.own
        have HNIL2 := Lib.hid (show ∀ a ∈ As ++ [(AN, cN)], a.1 = none → a.2 = 0 from fun a ha h => by
          rcases List.mem_append.1 ha with h1 | h1
          · exact HNIL.out a h1 h
          · simp at h1
            subst h1
            rcases hxb.own.2 with ⟨e, _⟩ | ⟨g, cap, cur, e, _⟩
            · rw [hvN] at e; injection e with e1 e2 e3
            · rw [hvN] at e; injection e with e1 e2 e3; simp only at h; rw [h] at e1; cases e1)
        have y0 := hxb.blk.cell 0
        have y1 := hxb.blk.cell 1
        subst hvN
        have hbwc : Below wr.heap.size wr wc := HBX.out.1.trans (hbt.below (by have := HBX.out.2.2.1; have := HBX.out.2.2.2; omega) (fun j hj => by have := HBX.out.2.2.1; omega))
        obtain ⟨A5, c5, hv⟩ := HBL.out.slice
        obtain ⟨L, hL⟩ : ∃ L, (specL nd m).take k = L := ⟨_, rfl⟩
        have hLl : L.length = k := by rw [← hL, List.length_take, specL_len]; omega
        have hsn : (specL nd m).take (k + 1) = L ++ [specB nd k] := by
          rw [List.take_succ_eq_append_getElem (by rw [specL_len]; exact hlt), specL_at, hL]
        rw [hL] at HBL
        rw [hL, hLl] at hv
        subst hv
        have hBLc := HBL.out.below rfl hbwc
        have hown := hBLc.own
        rw [hLl] at hown
        obtain ⟨i0, hi, hz0, hz1, hz2⟩ := info_parts infoLibG
        have HSN := Lib.hid (And.intro hsn hLl)
        have HCB := Lib.hid (And.intro hbwc (And.intro hsr hown))
        obtain ⟨N1, hN1⟩ : ∃ N1, (specB nd k).need.length = N1 := ⟨_, rfl⟩
        have HN1 := Lib.hid hN1
        rw [hN1] at y1
        clear hxb hbt hsn hLl hL hsr hbwc hBLc hown hN1
        go_wp2_with (at_builtin; refine Hid.out ?_)
        refine Lib.hid ?_
        refine wpList_append_own _ rfl _ _ 22 rfl (B + 1) 27 i0 _ 2 40 Try.underlying22 hi hz0 hz1 hz2 rfl (by decide) (.slice A5 k c5) k (libCells L As) rfl (HCB.out.2.2.alloc _) ⟨wc.heap.size, 0, none⟩ 1 1 [.string (nameN k), .slice AN N1 cN] rfl rfl (cell_two _ _ _ _) (fun u hu => by simp at hu; rcases hu with rfl | rfl <;> rfl) (by unfold maxLen; omega) (by omega) (by have := HCB.out.1.size; have := HLOW.out.size; have := HW.out.1.lt; simp; omega) ?_
        intro v' w1 hown1 hgrow1 _
        have hB2 := HBL.out.push (b := specB nd k) HCB.out.1 HCB.out.2.1 _ (by rw [HSN.out.2, HN1.out]; exact hown1) hgrow1
        rw [← HSN.out.1] at hB2
        have HB2 := Lib.hid hB2
        have HLW2 := Lib.hid ((((HLOW.out.trans (HCB.out.1.mono (by have := HLOW.out.size; have := HW.out.1.lt; omega))).alloc (by have := HCB.out.1.size; have := HLOW.out.size; have := HW.out.1.lt; omega) (.cells #[.string (nameN k), .slice AN N1 cN] 27))).grown hgrow1 (by have := HCB.out.1.size; have := HLOW.out.size; have := HW.out.1.lt; simp; omega) (fun j hj => (HCB.out.2.2.lt j hj).1))
        clear hown1 hgrow1 hB2 HCB HBL
        go_wp2_with fail
        go_roundw
        case rel => exact ⟨k + 1, _, by omega, by go_num, HB2, HLW2, HNIL2⟩
        case measure => simp [intOf]; omega
    · obtain rfl : k = m := by omega
      have hbl := HBL.out
      rw [List.take_of_length_le (by rw [specL_len]; exact Nat.le_refl _)] at hbl
      obtain ⟨s1, s2, s3⟩ := specL_small nd k
      obtain ⟨A5, c5, hv, hrow⟩ := hbl.row s1 s2 s3
      rw [specL_len] at hv
      subst hv
      have HB9 := Lib.hid hbl
      have HF := Lib.hid (And.intro hrow (show Below w.heap.size w wr from by rw [HN.out.2]; exact HW.out.2.1.trans (HLOW.out.mono (by omega))))
      clear hbl s1 s2 s3 hrow
      go_wp2
      go_ret
      exact ⟨A5, c5, As, B + 1, rfl, HF.out.1, HF.out.2, HB9.out, HNIL.out⟩
theorem list_any (s : SpecIn) (w : World) (hs : s.In w) : Calls Try.prog 16 #[.agg s.cs] w fun e w' => ∃ A c, e = .returned (.slice A (cntS s.many) c) ∧ LibRow w' A (specL s.nd (cntS s.many)) ∧ Below w.heap.size w w' :=
  (list_any2 s w hs).mono (fun e w' ⟨A, c, _, _, h1, h2, h3, _, _⟩ => ⟨A, c, h1, h2, h3⟩)
end Go.Proofs.Ytmkaehnekhejmaa
