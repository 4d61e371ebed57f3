/- BlockLast: for any row of writes and any two numbers: what was written last is read, of each sector; sealed ones never change. -/
import Derived.Test.YtialbdpfgkefjaaBF
import Derived.Test.YtialbdpfgkefjaaBits
namespace Go.Proofs.Ytialbdpfgkefjaa.lawLast
open Go.ChangeShapes Go.WideShapes Go.ChangeAt Go.RowKit
set_option linter.unusedVariables false

/-- A slice of pairs of bytes. -/
def PairRow (w : World) (A : Option Addr) (l : List (Int × Int)) : Prop := ∀ i (hi : i < l.length), ∃ ad, A = some ad ∧ ad.block < w.heap.size ∧ w.cell? (ad.add (i * 2)) = some (.int .u8 l[i].1) ∧ w.cell? (ad.add (i * 2 + 1)) = some (.int .u8 l[i].2) ∧ (Lit.int .u8 l[i].1).wf = true ∧ (Lit.int .u8 l[i].2).wf = true
theorem openPairs {H : Type} {enc : TypeId × Value → H} {w : World} {base : Nat} {spare : Nat → Bool} {held : Bool} {r : Reach} {b0 : Nat} {v : Value} {d : DataW H} {ps : List MemPlace}
    (hv : Value.okWide Try.prog w r b0 45 v) (h : DataW.Trod enc Try.prog w base spare held 45 v d ps) : ∃ A l c, v = .slice A (List.length l) c ∧ l.length ≤ maxLen ∧ PairRow w A l := by
  have hc2 : Try.prog.cellsOf 47 = 2 := by kernel_rfl
  have hc1 : Try.prog.cellsOf 5 = 1 := by kernel_rfl
  obtain ⟨A, n, c, rfl, hn, hi⟩ := open_row_n Try.underlying45 hv h (by rw [hc2]; omega)
  obtain ⟨zs, hl, hz⟩ := list_of (Q := fun i (z : Int × Int) => ∃ ad, A = some ad ∧ ad.block < w.heap.size ∧ w.cell? (ad.add (i * 2)) = some (.int .u8 z.1) ∧ w.cell? (ad.add (i * 2 + 1)) = some (.int .u8 z.2) ∧ (Lit.int .u8 z.1).wf = true ∧ (Lit.int .u8 z.2).wf = true) n (fun i h => by
    obtain ⟨ad, rfl, hb, fuel, cs, y, hlen, hat, hy⟩ := hi i h
    rw [hc2] at hlen hat
    obtain ⟨xs, m, _, _, _, hxl, hel⟩ := DataW.trod_array Try.underlying47 hy
    match cs, hlen with
    | [c0, c1], _ =>
      have h0 := hel 0 (by omega)
      have h1 := hel 1 (by omega)
      rw [hc1, List.getElem?_eq_getElem (by omega)] at h0 h1
      obtain ⟨z0, e0, _, w0⟩ := DataW.trod_int Try.underlying5 h0
      obtain ⟨z1, e1, _, w1⟩ := DataW.trod_int Try.underlying5 h1
      simp at e0 e1
      subst e0 e1
      exact ⟨(z0, z1), ad, rfl, hb, by simpa using hat 0 (by omega), by simpa using hat 1 (by omega), w0, w1⟩)
  subst hl
  exact ⟨A, zs, c, rfl, hn, hz⟩

theorem u8_and7 (x : Int) : ∃ j : Nat, bits .and .u8 x 7 = (j : Int) ∧ j < 8 := by
  refine ⟨(BitVec.ofInt 8 x &&& BitVec.ofInt 8 7).toNat, ?_, ?_⟩
  · show IntKind.u8.wrap ((BitVec.ofInt 8 x &&& BitVec.ofInt 8 7).toNat : Int) = _
    have h : (BitVec.ofInt 8 x &&& BitVec.ofInt 8 7).toNat < 256 := (BitVec.ofInt 8 x &&& BitVec.ofInt 8 7).isLt
    rw [IntKind.wrap_u8]
    omega
  · rw [BitVec.toNat_and]
    have : (BitVec.ofInt 8 x).toNat &&& (BitVec.ofInt 8 7).toNat ≤ 7 := Nat.and_le_right
    omega

/-- The disk at p, g, and a row of bytes at a, of the law's own. -/
structure St (w cur : World) (p g a : Nat) (D : Dsk) (W : List Int) : Prop where
  wp : w.heap.size ≤ p
  wg : w.heap.size ≤ g
  wa : w.heap.size ≤ a
  pa : p ≠ a
  ga : g ≠ a
  bel : Below w.heap.size w cur
  dk : Dk cur p g D
  blk : Blk cur a 46 (W.map (Value.int .u8)).toArray
section
variable {w cur nxt : World} {p g a : Nat} {D E : Dsk} {W : List Int}
theorem St.on (h : St w cur p g a D W) (hb : Below cur.heap.size cur nxt) : St w nxt p g a D W :=
  ⟨h.wp, h.wg, h.wa, h.pa, h.ga, h.bel.trans (hb.mono h.bel.size), h.dk.below hb h.dk.head.lt h.dk.row.lt, h.blk.below hb h.blk.lt⟩
theorem St.but (h : St w cur p g a D W) (hb : But (fun j => j = p ∨ j = g) cur nxt) (hd : Dk nxt p g E) : St w nxt p g a E W :=
  ⟨h.wp, h.wg, h.wa, h.pa, h.ga, h.bel.trans (hb.below h.bel.size (fun j e => by have := h.wp; have := h.wg; omega)), hd, h.blk.but hb (by rintro (e | e); exact h.pa e.symm; exact h.ga e.symm)⟩
theorem St.but1 (h : St w cur p g a D W) (hb : But (· = p) cur nxt) (hd : Dk nxt p g E) : St w nxt p g a E W := h.but (hb.mono fun _ e => .inl e) hd
theorem St.store (h : St w cur p g a D W) (j : Nat) (y : Int) : St w (cur.setCell ⟨a, j, none⟩ (.int .u8 y)) p g a D (W.set j y) := by
  refine ⟨h.wp, h.wg, h.wa, h.pa, h.ga, h.bel.setCell (p := ⟨a, j, none⟩) h.wa _, ⟨h.dk.ne, h.dk.head.far (p := ⟨a, j, none⟩) h.pa _, h.dk.row.far (p := ⟨a, j, none⟩) h.ga _, h.dk.all, h.dk.len⟩, ?_⟩
  have := h.blk.set_ j (.int .u8 y)
  rw [List.map_set]
  simpa using this
end

/-- What the disk is: the sectors are those that were wanted, those below m are sealed. -/
structure Las (D : Dsk) (W : List Int) (m : Int) : Prop where
  S : D.S = W.map secOf
  len : W.length = 8
  low : D.low = m
  rd : D.rd = 0
  wf : ∀ u ∈ W, (Lit.int .u8 u).wf = true
theorem Las.wr {D : Dsk} {W : List Int} {m : Int} (h : Las D W m) {j : Nat} (hj : j < 8) (y : Int) : D.wrE j (secOf y) = if (j : Int) < m then 13 else 0 := by
  rw [wrE_in (has_of (by omega) (by rw [h.S, List.length_map, h.len]; omega)) (secOf_size y), h.low]
theorem Las.no {D : Dsk} {W : List Int} {m : Int} (h : Las D W m) {j : Nat} (hj : j < 8) (y : Int) (hm : (j : Int) < m) : D.wrD j (secOf y) = D := by
  unfold Dsk.wrD
  rw [h.wr hj, if_pos hm]
  rfl
theorem Las.yes {D : Dsk} {W : List Int} {m : Int} (h : Las D W m) {j : Nat} (hj : j < 8) (y : Int) (hy : (Lit.int .u8 y).wf = true) (hm : ¬ (j : Int) < m) : Las (D.wrD j (secOf y)) (W.set j y) m := by
  unfold Dsk.wrD
  rw [h.wr hj, if_neg hm, if_pos rfl]
  exact ⟨by rw [List.map_set, ← h.S]; rfl, by simpa using h.len, h.low, h.rd, fun u hu => by
    rcases List.mem_or_eq_of_mem_set hu with h1 | h1
    · exact h.wf u h1
    · rw [h1]; exact hy⟩
theorem Las.shut {D : Dsk} {W : List Int} (h : Las D W 0) {q : Int} (hq : 0 ≤ q) : Las ((D.seal_ q).seal_ (q - 1)) W q :=
  ⟨h.S, h.len, by show max (max D.low q) (q - 1) = q; rw [h.low]; omega, h.rd, h.wf⟩

set_option maxRecDepth 100000 in
set_option maxHeartbeats 6400000 in
theorem walk (A : Option Addr) (l : List (Int × Int)) (c : Nat) (sl bh : Int) (w : World) (hm : l.length ≤ maxLen) (hz : PairRow w A l) (hs : (Lit.int .i64 sl).wf = true) (hb : (Lit.int .i64 bh).wf = true) :
    Calls Try.prog 5 #[.slice A l.length c, .int .i64 sl, .int .i64 bh] w fun e w' => e = .returned (.bool true) ∧ Below w.heap.size w w' := by
  unfold maxLen at hm
  obtain ⟨q, hq, hq0, hq8⟩ : ∃ q : Int, bits .and .i64 sl 7 = q ∧ 0 ≤ q ∧ q < 8 := ⟨sl % 8, i64_and3 sl, by omega, by omega⟩
  obtain ⟨B, hBh⟩ : ∃ B : Int, bits .and .i64 bh 31 = B := ⟨_, rfl⟩
  have HA := Lib.hid (fun w => awake3_any w)
  have HN := Lib.hid (fun w => new_made 8 w (by omega) (by omega))
  have HX := Lib.hid (fun w c => lsec_any c w)
  have HZ := Lib.hid hz
  clear hz
  have hB := Below.refl w.heap.size w
  go_enter Try.func5, Try.ntmps5
  go_wp2_with (first
    | (go_at_call 9; refine (HA.out _).mono ?_; rintro e v1 ⟨rfl, hb⟩; replace hB := hB.trans (hb.mono hB.size); clear hb)
    | (go_at_call 10; refine (HN.out _).mono ?_; rintro e v2 ⟨p, g, rfl, hp, hg, hb, hd⟩; have hp' := Nat.le_trans hB.size hp; have hg' := Nat.le_trans hB.size hg; replace hB := hB.trans (hb.mono hB.size); clear hb hp hg))
  have hSt : St w (v2.alloc (.cells #[.int .u8 0, .int .u8 0, .int .u8 0, .int .u8 0, .int .u8 0, .int .u8 0, .int .u8 0, .int .u8 0] 46)) p g v2.heap.size (newD 8) [0, 0, 0, 0, 0, 0, 0, 0] :=
    ⟨hp', hg', hB.size, Nat.ne_of_lt hd.head.lt, Nat.ne_of_lt hd.row.lt, hB.alloc hB.size _, hd.alloc _, Blk.new _ _ _⟩
  have HS := Lib.hid hSt
  clear hSt hd hB
  generalize v2.heap.size = a at *
  go_loopw [10, 11] (fun n i wr => ∃ (k : Nat) (m : Int) (D : Dsk) (W : List Int), k ≤ l.length ∧ k ≤ 30 ∧ i = .int .i64 k ∧ n = .int .i64 m ∧ 0 ≤ m ∧ m < 8 ∧ ((k : Int) ≤ B → m = 0) ∧ St w wr p g a D W ∧ Las D W m) (fun _ i _ => l.length - (intOf i).toNat)
  case atStart => exact ⟨0, 0, newD 8, _, Nat.zero_le _, by omega, rfl, rfl, by omega, by omega, fun _ => rfl, HS.out, ⟨rfl, rfl, rfl, rfl, by decide⟩⟩
  case round =>
    clear HS
    obtain ⟨k, m, D, W, hk, hk30, rfl, rfl, hm0, hm8, hmB, hS, hL⟩ := hrel
    have HL := Lib.hid hL
    have HM := Lib.hid hmB
    clear hL hmB
    by_cases hlt : k < l.length ∧ k < 30
    · obtain ⟨h1, h2⟩ := hlt
      obtain ⟨ad, rfl, hab, hc0, hc1, hw0, hw1⟩ := HZ.out k h1
      have hbk : ∀ i, (ad.add i).block < w.heap.size := fun i => by rw [show (ad.add i).block = ad.block by unfold Addr.add; split <;> rfl]; exact hab
      have hc2 : ∀ v, Below w.heap.size w v → v.cell? (ad.add (k * 2)) = some (.int .u8 l[k].1) := fun v h => (h.cell (hbk _)).trans hc0
      have hc3 : ∀ v, Below w.heap.size w v → v.cell? { block := (ad.add (k * 2)).block, off := (ad.add (k * 2)).off + 1, spot := none } = some (.int .u8 l[k].2) := fun v h => by
        show v.cell? ((ad.add (k * 2)).add 1) = _
        rw [Go.Deep.add_add]
        exact (h.cell (hbk _)).trans hc1
      clear hc0 hc1 hw0 hbk
      generalize l[k].1 = x at *
      generalize l[k].2 = y at *
      obtain ⟨j, hj, hj8⟩ := u8_and7 x
      have HC2 := Lib.hid hc2
      have HC3 := Lib.hid hc3
      clear hc2 hc3
      obtain ⟨u, hu⟩ : ∃ u, (W.map (Value.int .u8)).toArray[j]? = some (.int .u8 u) := by
        have hl := HL.out.len
        exact ⟨W[j]'(by omega), by simp [List.getElem?_map, List.getElem?_eq_getElem (show j < W.length by omega)]⟩
      have hWj : Hid ((W.map (Value.int .u8)).toArray[j]? = some (.int .u8 u)) := Lib.hid hu
      clear hu
      by_cases hkB : (k : Int) = B
      · have hm00 := HM.out (by omega)
        subst hm00
        have hkb : ((k : Int) == B) = true := by simpa using hkB
        replace HL := Lib.hid (HL.out.shut hq0)
        have hkb2 := Lib.hid hkB
        clear hkB HM
        by_cases hjm : (j : Int) < q
        · have hW : ∀ w', Dk w' p g ((D.seal_ q).seal_ (q - 1)) → Calls Try.prog 17 #[.pointer (some ⟨p, 0, none⟩), .int .i64 j, .string (secOf y)] w' fun e w'' => e = .returned (.int .i64 13) ∧ But (fun j => j = p ∨ j = g) w' w'' ∧ Dk w'' p g ((D.seal_ q).seal_ (q - 1)) := fun w' h => by
            have h1 := write_any h j (secOf y) (by rw [secOf_size]; omega)
            rw [HL.out.wr hj8, if_pos hjm, HL.out.no hj8 y hjm] at h1
            exact h1
          have HW := Lib.hid hW
          clear hW
          go_wp2_with (first
          | (go_at_call 14; refine (seal_any hS.dk _).mono ?_; rintro e v3 ⟨rfl, hb3, hd3⟩; replace hS := hS.but1 hb3 hd3; have c2 := HC2.out _ hS.bel; have c3 := HC3.out _ hS.bel; clear hb3 hd3)
            | (go_at_call 16; refine (HX.out _ _ hw1).mono ?_; rintro e v4 ⟨rfl, hb4⟩; replace hS := hS.on hb4; clear hb4)
            | (go_at_call 17; refine (HW.out _ hS.dk).mono ?_; rintro e v5 ⟨rfl, hb5, hd5⟩; replace hS := hS.but hb5 hd5; have c6 := HC3.out _ hS.bel; have c7 := hS.blk.at_ j _ hWj; have f7 := hS.blk.frozen j; clear hb5 hd5))
          go_roundw
          case rel => exact ⟨k + 1, q, _, W, by omega, by omega, by go_num, rfl, by omega, by omega, fun h => absurd h (by have := hkb2.out; omega), hS, HL.out⟩
          case measure => simp [intOf]; omega
        · have hW : ∀ w', Dk w' p g ((D.seal_ q).seal_ (q - 1)) → Calls Try.prog 17 #[.pointer (some ⟨p, 0, none⟩), .int .i64 j, .string (secOf y)] w' fun e w'' => e = .returned (.int .i64 0) ∧ But (fun j => j = p ∨ j = g) w' w'' ∧ Dk w'' p g (((D.seal_ q).seal_ (q - 1)).wrD j (secOf y)) := fun w' h => by
            have h1 := write_any h j (secOf y) (by rw [secOf_size]; omega)
            rw [HL.out.wr hj8, if_neg hjm] at h1
            exact h1
          have HY := Lib.hid (HL.out.yes hj8 y hw1 hjm)
          have HW := Lib.hid hW
          clear hW
          go_wp2_with (first
          | (go_at_call 14; refine (seal_any hS.dk _).mono ?_; rintro e v3 ⟨rfl, hb3, hd3⟩; replace hS := hS.but1 hb3 hd3; have c2 := HC2.out _ hS.bel; have c3 := HC3.out _ hS.bel; clear hb3 hd3)
            | (go_at_call 16; refine (HX.out _ _ hw1).mono ?_; rintro e v4 ⟨rfl, hb4⟩; replace hS := hS.on hb4; clear hb4)
            | (go_at_call 17; refine (HW.out _ hS.dk).mono ?_; rintro e v5 ⟨rfl, hb5, hd5⟩; replace hS := hS.but hb5 hd5; have c6 := HC3.out _ hS.bel; have c7 := hS.blk.at_ j _ hWj; have f7 := hS.blk.frozen j; clear hb5 hd5))
          go_roundw
          case rel => exact ⟨k + 1, q, _, _, by omega, by omega, by go_num, rfl, by omega, by omega, fun h => absurd h (by have := hkb2.out; omega), hS.store j y, HY.out⟩
          case measure => simp [intOf]; omega
      · have hkb : ((k : Int) == B) = false := by simpa using hkB
        clear hkB
        have c2 := HC2.out _ hS.bel
        have c3 := HC3.out _ hS.bel
        by_cases hjm : (j : Int) < m
        · have hW : ∀ w', Dk w' p g D → Calls Try.prog 17 #[.pointer (some ⟨p, 0, none⟩), .int .i64 j, .string (secOf y)] w' fun e w'' => e = .returned (.int .i64 13) ∧ But (fun j => j = p ∨ j = g) w' w'' ∧ Dk w'' p g D := fun w' h => by
            have h1 := write_any h j (secOf y) (by rw [secOf_size]; omega)
            rw [HL.out.wr hj8, if_pos hjm, HL.out.no hj8 y hjm] at h1
            exact h1
          have HW := Lib.hid hW
          clear hW
          go_wp2_with (first
            | (go_at_call 16; refine (HX.out _ _ hw1).mono ?_; rintro e v4 ⟨rfl, hb4⟩; replace hS := hS.on hb4; clear hb4)
            | (go_at_call 17; refine (HW.out _ hS.dk).mono ?_; rintro e v5 ⟨rfl, hb5, hd5⟩; replace hS := hS.but hb5 hd5; have c6 := HC3.out _ hS.bel; have c7 := hS.blk.at_ j _ hWj; have f7 := hS.blk.frozen j; clear hb5 hd5))
          go_roundw
          case rel => exact ⟨k + 1, m, D, W, by omega, by omega, by go_num, rfl, by omega, by omega, fun h => HM.out (by omega), hS, HL.out⟩
          case measure => simp [intOf]; omega
        · have hW : ∀ w', Dk w' p g D → Calls Try.prog 17 #[.pointer (some ⟨p, 0, none⟩), .int .i64 j, .string (secOf y)] w' fun e w'' => e = .returned (.int .i64 0) ∧ But (fun j => j = p ∨ j = g) w' w'' ∧ Dk w'' p g (D.wrD j (secOf y)) := fun w' h => by
            have h1 := write_any h j (secOf y) (by rw [secOf_size]; omega)
            rw [HL.out.wr hj8, if_neg hjm] at h1
            exact h1
          have HY := Lib.hid (HL.out.yes hj8 y hw1 hjm)
          have HW := Lib.hid hW
          clear hW
          go_wp2_with (first
            | (go_at_call 16; refine (HX.out _ _ hw1).mono ?_; rintro e v4 ⟨rfl, hb4⟩; replace hS := hS.on hb4; clear hb4)
            | (go_at_call 17; refine (HW.out _ hS.dk).mono ?_; rintro e v5 ⟨rfl, hb5, hd5⟩; replace hS := hS.but hb5 hd5; have c6 := HC3.out _ hS.bel; have c7 := hS.blk.at_ j _ hWj; have f7 := hS.blk.frozen j; clear hb5 hd5))
          go_roundw
          case rel => exact ⟨k + 1, m, _, _, by omega, by omega, by go_num, rfl, by omega, by omega, fun h => HM.out (by omega), hS.store j y, HY.out⟩
          case measure => simp [intOf]; omega
    · have hl2 : (k < l.length ∧ ¬ k < 30) ∨ ¬ k < l.length := by omega
      clear hlt HM
      have HS := Lib.hid hS
      clear hS
      rcases hl2 with ⟨h1, h2⟩ | h1
      all_goals
        go_wp2
        go_loopw [14] (fun i wr2 => ∃ (t : Nat) (E : Dsk), t ≤ 8 ∧ i = .int .i64 t ∧ E.S = W.map secOf ∧ E.rd = (t : Int) ∧ St w wr2 p g a E W) (fun i _ => 8 - (intOf i).toNat)
        case atStart => exact ⟨0, D, by omega, rfl, HL.out.S, HL.out.rd, HS.out⟩
        case round =>
          obtain ⟨t, E, ht, rfl, hES, hEr, hS⟩ := hrel
          by_cases ht8 : t < 8
          · have hWl := HL.out.len
            obtain ⟨u, hu⟩ : ∃ u, W[t]? = some u := ⟨W[t]'(by omega), List.getElem?_eq_getElem (by omega)⟩
            have huw := HL.out.wf u (List.mem_of_getElem? hu)
            have hh : E.has t = true := has_of (by omega) (by rw [hES, List.length_map, hWl]; omega)
            have e1 : E.rdS t = secOf u := by
              unfold Dsk.rdS
              rw [if_pos hh, hES, Int.toNat_natCast, List.getD, List.getElem?_map, hu]
              rfl
            have e2 : E.rdE t = 0 := by unfold Dsk.rdE; rw [if_pos hh]
            have e3 : (E.rdD t).rd = ((t + 1 : Nat) : Int) := by
              unfold Dsk.rdD
              rw [if_pos hh]
              show wrap64 (E.rd + 1) = _
              rw [hEr]
              unfold wrap64
              omega
            have hR := fun w' (h : Dk w' p g E) => read_any h t
            rw [e1, e2] at hR
            have HR := Lib.hid hR
            have H3 := Lib.hid e3
            have H4 := Lib.hid ((rdD_S E t).trans hES)
            have HU : Hid ((W.map (Value.int .u8)).toArray[t]? = some (.int .u8 u)) := by
              show _ = _
              simp [List.getElem?_map, hu]
            have HSX := Lib.hid (fun w => lsec_any u w huw)
            clear e1 e2 e3 hR hu huw hh hES hEr hWl
            generalize secOf u = F at *
            go_wp2_with (first
              | (go_at_call 12; refine (HR.out _ hS.dk).mono ?_; rintro e v5 ⟨rfl, hb5, hd5⟩; replace hS := hS.but1 hb5 hd5; have c7 := hS.blk.at_ t _ HU; clear hb5 hd5)
              | (go_at_call 16; refine (HSX.out _).mono ?_; rintro e v4 ⟨rfl, hb4⟩; replace hS := hS.on hb4; clear hb4))
            go_roundw
            case rel => exact ⟨t + 1, _, by omega, by go_num, H4.out, H3.out, hS⟩
            case measure => simp [intOf]; omega
          · obtain rfl : t = 8 := by omega
            have hr := reads_any hS.dk
            rw [hEr] at hr
            have HR := Lib.hid hr
            clear hr hES hEr
            go_wp2_with (go_at_call 20; refine HR.out.mono ?_; rintro e v3 ⟨rfl, rfl⟩)
            go_ret
            exact ⟨rfl, hS.bel⟩

set_option maxRecDepth 100000 in
theorem lifted (os : Os) (started : os.Started) (H : Type) (enc : TypeId × Value → H) :
    ReturnsInHanded {} Try.checked os 5 .any (Rows.blockLastSpec.pre6 enc Try.prog Try.f5 Rows.blockLastRow.domain false) (Rows.blockLastSpec.post enc Try.prog Try.f5 false true false false) := by
  refine returnsInHanded_of_change (C := Try.checked) own started (by kernel_rfl) Try.func5
    (ChangeSpec.witness6 (enc := enc) (C := Try.checked) false ⟨#[], #[.slice none 0 0, .int .i64 0, .int .i64 0], []⟩ 8 (by kernel_rfl) (by kernel_rfl) (by kernel_rfl) (by kernel_rfl)) ?_
  intro W base args ds gs before hval0 hW hcnd _
  have hval : ∀ (j : Nat) t v, Try.f5.params[j]? = some t → args[j]? = some v → Value.okWide Try.prog W .any base t v := hval0
  have hW' := hW
  obtain ⟨p, q, hA0, hV, rfl, hfz, hnd⟩ := hW
  have hA : DataW.TrodAll enc Try.prog W 0 (fun _ => true) true Try.f5.params.toList args.toList ds p := hA0
  rw [Try.params5] at hA hval
  obtain ⟨v0, vs0, d0, ds0, p0, q0, hargs, rfl, rfl, h0, r0⟩ := trodAll_cons hA
  obtain ⟨v1, vs1, d1, ds1, p1, q1, rfl, rfl, rfl, h1, r1⟩ := trodAll_cons r0
  obtain ⟨v2, vs2, d2, ds2, p2, q2, rfl, rfl, rfl, h2, r2⟩ := trodAll_cons r1
  obtain ⟨rfl, rfl, rfl⟩ := trodAll_nil r2
  obtain rfl : args = #[v0, v1, v2] := by cases args; simp_all
  obtain ⟨rfl, rfl⟩ := trodVars_none hV
  have k0 := h0
  have lt0 : ∀ x ∈ p0, x.block < W.heap.size := by obtain ⟨m, hm⟩ := k0; exact DataW.trod_lt m _ _ _ hm
  obtain ⟨LA0, Ll0, Lc0, rfl, Lm0, Lr0⟩ := openPairs (hval 0 45 v0 rfl rfl) h0
  have k1 := h1
  have lt1 : ∀ x ∈ p1, x.block < W.heap.size := by obtain ⟨m, hm⟩ := k1; exact DataW.trod_lt m _ _ _ hm
  obtain ⟨a1, rfl, _, _, w1⟩ := open_int Try.underlying3 (hval 1 3 v1 rfl rfl) h1
  have k2 := h2
  have lt2 : ∀ x ∈ p2, x.block < W.heap.size := by obtain ⟨m, hm⟩ := k2; exact DataW.trod_lt m _ _ _ hm
  obtain ⟨a2, rfl, _, _, w2⟩ := open_int Try.underlying3 (hval 2 3 v2 rfl rfl) h2
  clear hA0 hval0
  refine (walk LA0 Ll0 Lc0 a1 a2 W Lm0 Lr0 w1 w2).mono fun e W' ⟨he, bel⟩ => ?_
  subst he
  exact ⟨_, rfl, _, _, _, [], _, [], hW', trodAll_mk1 (shut_bool Try.underlying4 _), (trodAll_cons_mk (Below.trod laidOut (by kernel_rfl) (of_decide_eq_true (by kernel_rfl)) k0 bel lt0) (trodAll_cons_mk (Below.trod laidOut (by kernel_rfl) (of_decide_eq_true (by kernel_rfl)) k1 bel lt1) (trodAll_cons_mk (Below.trod laidOut (by kernel_rfl) (of_decide_eq_true (by kernel_rfl)) k2 bel lt2) trodAll_mk0))), rfl, bel.frame _, fun h => by cases h⟩
theorem over : Rows.blockLastRow.holds Try.pinned (OpenSpec.ofChange Rows.blockLastSpec) :=
  OpenClaim.holds_of_wide 5 Try.f5 rfl rfl rfl rfl rfl rfl rfl ⟨rfl, rfl, rfl, rfl, rfl⟩ rfl rfl rfl rfl rfl (by kernel_rfl) Try.func5 (by kernel_rfl)
    (of_decide_eq_true (by kernel_rfl)) (by unfold Func.isWrapper; first | (rw [if_pos (by decide +kernel)]; kernel_rfl) | (rw [if_neg (by decide +kernel)]; exact ⟨rfl, rfl⟩))
    (fun os started H enc _ => lifted os started H enc)
/-- The statement. -/
theorem proved : Rows.BlockLastSaid := over
end Go.Proofs.Ytialbdpfgkefjaa.lawLast
