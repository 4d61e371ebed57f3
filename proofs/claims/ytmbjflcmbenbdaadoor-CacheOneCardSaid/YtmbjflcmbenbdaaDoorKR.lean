/- The reference of layer 4: Open. -/
import Derived.Test.YtmbjflcmbenbdaaDoorFRf
import Derived.Test.YtmbjflcmbenbdaaDoorOctF
import Derived.Deep.RegionHeld3
import Derived.Deep.CutRange
import Derived.Deep.RegionLaw
import Derived.Deep.AppendLies
import Derived.BigQuiet
namespace Go.Proofs.YtmbjflcmbenbdaaDoor
open Go.RowKit Go.Shelf
set_option linter.unusedVariables false
set_option linter.unusedSimpArgs false

/-- A number that stands in a text. -/
theorem getN_put (a b : List UInt8) (v W : Nat) (h1 : 1 ≤ W) (h8 : W ≤ 4) (hv : v < 256 ^ W) (hl : a.length + b.length ≤ 1000) :
    getN (mkb (a ++ putL v W ++ b)) a.length W = (v : Int) ∧ hol (mkb (a ++ putL v W ++ b)).size a.length W = true := by
  have hsz : (mkb (a ++ putL v W ++ b)).size = a.length + W + b.length := by rw [mkb_size]; simp [putL_length]; omega
  have hh : hol (mkb (a ++ putL v W ++ b)).size a.length W = true := hol_iff.2 ⟨by omega, by omega, by omega, by omega, by omega⟩
  refine ⟨?_, hh⟩
  unfold getN
  rw [hh, if_pos rfl, Int.toNat_natCast, Int.toNat_natCast]
  unfold partL
  rw [mkb_data, List.append_assoc, List.drop_left, List.take_append_of_le_length (by rw [putL_length]; exact Nat.le_refl _), List.take_of_length_le (by rw [putL_length]; exact Nat.le_refl _), getL_putL3, Nat.mod_eq_of_lt hv]
theorem rget_put (a b : List UInt8) (v W : Nat) (w : World) (h1 : 1 ≤ W) (h8 : W ≤ 4) (hv : v < 256 ^ W) (hl : a.length + b.length ≤ 1000) (za zW : Int) (ha : za = a.length) (hW : zW = W) :
    Calls Tryd.prog 30 #[.string (mkb (a ++ putL v W ++ b)), .int .i64 za, .int .i64 zW] w fun e w' => e = .returned (.tuple #[.int .u64 (v : Int), .bool true]) ∧ w = w' := by
  subst ha hW
  have hsz : (mkb (a ++ putL v W ++ b)).size = a.length + W + b.length := by rw [mkb_size]; simp [putL_length]; omega
  have h := rget_any (mkb (a ++ putL v W ++ b)) a.length W w (WalkArith.wf_i64 (by omega)) (WalkArith.wf_i64 (by omega)) (by omega)
  obtain ⟨e1, e2⟩ := getN_put a b v W h1 h8 hv hl
  rw [e1, e2] at h
  exact h
theorem rget_ino (x : Ino) (h : InoFits x) (w : World) (a b : List UInt8) (v W : Nat) (z zW : Int) (he : a ++ putL v W ++ b = inoL x ++ inoZ x) (h1 : 1 ≤ W) (h8 : W ≤ 4) (hv : v < 256 ^ W) (ha : z = a.length) (hW : zW = W) :
    Calls Tryd.prog 30 #[.string (inoS x), .int .i64 z, .int .i64 zW] w fun e w' => e = .returned (.tuple #[.int .u64 (v : Int), .bool true]) ∧ w = w' := by
  have hl := congrArg List.length he
  simp only [List.length_append, putL_length, inoL_length, inoZ, List.length_replicate] at hl
  have := h.many
  rw [inoS_split h, ← he]
  exact rget_put a b v W w h1 h8 hv (by omega) z zW ha hW
theorem rget_ext1 (x : Ino) (h : InoFits x) (j : Nat) (hj : j < x.ext.length) (w : World) : Calls Tryd.prog 30 #[.string (inoS x), .int .i64 (30 + 4 * (j : Int)), .int .i64 2] w fun e w' => e = .returned (.tuple #[.int .u64 (x.ext[j].1 : Nat), .bool true]) ∧ w = w' := by
  have hb := h.nums _ (List.getElem_mem hj)
  refine rget_ino x h w (inoBase x ++ (x.ext.take j).flatMap extT) (putL x.ext[j].2 2 ++ ((x.ext.drop (j + 1)).flatMap extT ++ inoZ x)) x.ext[j].1 2 _ 2 ?_ (by omega) (by omega) (by omega) (by simp only [List.length_append, inoBase_length, extT_length, List.length_take, putL_length]; omega) rfl
  unfold inoL
  rw [ext_split x.ext hj]
  simp only [List.append_assoc]
theorem rget_ext2 (x : Ino) (h : InoFits x) (j : Nat) (hj : j < x.ext.length) (w : World) : Calls Tryd.prog 30 #[.string (inoS x), .int .i64 (32 + 4 * (j : Int)), .int .i64 2] w fun e w' => e = .returned (.tuple #[.int .u64 (x.ext[j].2 : Nat), .bool true]) ∧ w = w' := by
  have hb := h.nums _ (List.getElem_mem hj)
  refine rget_ino x h w (inoBase x ++ (x.ext.take j).flatMap extT ++ putL x.ext[j].1 2) ((x.ext.drop (j + 1)).flatMap extT ++ inoZ x) x.ext[j].2 2 _ 2 ?_ (by omega) (by omega) (by omega) (by simp only [List.length_append, inoBase_length, extT_length, List.length_take, putL_length]; omega) rfl
  unfold inoL
  rw [ext_split x.ext hj]
  simp only [List.append_assoc]
theorem zat_name {n : ByteArray} (h : (0 : UInt8) ∉ n.data.toList) (m : Nat) : zat (mkb (n.data.toList ++ List.replicate (m + 1) 0)) 0 = n.size := by
  unfold zat
  rw [mkb_data, List.drop_zero, List.findIdx_append]
  have e : (n.data.toList).findIdx (· == 0) = n.data.toList.length := by
    rw [List.findIdx_eq_length]
    intro x hx
    simp
    rintro rfl
    exact h hx
  rw [e, if_neg (by omega), List.replicate_succ, List.findIdx_cons]
  simp [len_data]
theorem rtext_name (x : Ino) (h : InoFits x) (w : World) : Calls Tryd.prog 31 #[.string ((inoS x).extract 0 24 ++ ⟨#[0]⟩), .int .i64 0, .int .i64 24] w fun e w' => e = .returned (.tuple #[.string x.name, .bool true]) ∧ w = w' := by
  obtain ⟨hn1, hn2, hn3⟩ := nameOk_iff.1 h.name
  have e1 : (inoS x).extract 0 24 = mkb (x.name.data.toList ++ List.replicate (24 - x.name.size) 0) := by
    have := inoS_name h
    unfold partS at this
    rw [show inn 0 24 (inoS x).size = true by rw [inoS_size]; decide, if_pos rfl] at this
    exact this
  have e2 : (inoS x).extract 0 24 ++ ⟨#[0]⟩ = mkb (x.name.data.toList ++ List.replicate (24 - x.name.size + 1) 0) := by
    rw [e1, List.replicate_succ', ← List.append_assoc]
    show mkb _ ++ mkb [0] = mkb _
    rw [mkb_append]
  have hz := zat_name hn3 (24 - x.name.size)
  have hs : (mkb (x.name.data.toList ++ List.replicate (24 - x.name.size + 1) 0)).size = 25 := by rw [mkb_size]; simp [len_data]; omega
  have ht : textOk (mkb (x.name.data.toList ++ List.replicate (24 - x.name.size + 1) 0)) 0 24 = true := by
    unfold textOk
    rw [show (0 : Int).toNat = 0 from rfl, hz, hs]
    simp
    omega
  have h2 := rtext_any (mkb (x.name.data.toList ++ List.replicate (24 - x.name.size + 1) 0)) 0 24 w (by decide) (by decide) (by rw [hs]; omega)
  have h3 : textS (mkb (x.name.data.toList ++ List.replicate (24 - x.name.size + 1) 0)) 0 24 = x.name := by
    unfold textS
    rw [ht, if_pos rfl, show (0 : Int).toNat = 0 from rfl, hz, extract_mkb, mkb_data, List.drop_zero, Nat.zero_add, Nat.sub_zero, ← len_data, List.take_left, mkb_of]
  rw [ht, h3] at h2
  rw [e2]
  exact h2

/-- Files that the reference opened: so many of them. -/
structure RSo (w W : World) (g c : Nat) (L : List ByteArray) (used gp : Nat) (xs : List Ino) (val : Value) (vs : List Value) : Prop where
  box : Blk W gp 79 #[.slice (some ⟨g, 0, none⟩) L.length c, .int .i64 used, val]
  row : InoRow W w.heap.size val xs vs
  txt : TextRow W (.slice (some ⟨g, 0, none⟩) L.length c) L
  gpw : w.heap.size ≤ gp
  bel : Below w.heap.size w W
theorem TextRow.belowK {W W' : World} {v : Value} {L : List ByteArray} (h : TextRow W v L) (hb : Below W.heap.size W W') : TextRow W' v L := by
  obtain ⟨g, c, cur, hv, hk, ht⟩ := h
  exact ⟨g, c, cur, hv, hk.below hb hk.lt, ht⟩
theorem TextRow.butK {S : Nat → Prop} {W W' : World} {g n c : Nat} {L : List ByteArray} (h : TextRow W (.slice (some ⟨g, 0, none⟩) n c) L) (hb : But S W W') (hS : ¬ S g) : TextRow W' (.slice (some ⟨g, 0, none⟩) n c) L := by
  obtain ⟨g', c', cur, hv, hk, ht⟩ := h
  injection hv with e1 e2 e3
  injection e1 with e1
  injection e1 with e1 _ _
  subst e1
  exact ⟨g, c', cur, by rw [e2, e3], hk.but hb hS, ht⟩
section
variable {w W W' : World} {g c used gp : Nat} {L : List ByteArray} {xs : List Ino} {val : Value} {vs : List Value}
theorem RSo.below (h : RSo w W g c L used gp xs val vs) (hb : Below W.heap.size W W') : RSo w W' g c L used gp xs val vs :=
  ⟨h.box.below hb h.box.lt, h.row.but (S := fun _ => False) (But.of_below hb) (fun _ h => h.elim), h.txt.belowK hb, h.gpw, h.bel.trans (hb.mono h.bel.size)⟩
end
theorem InoRow.at_ {W : World} {B : Nat} {val : Value} {xs : List Ino} {vs : List Value} (h : InoRow W B val xs vs) (j : Nat) (hj : j < xs.length) (hj' : j < vs.length) : ∃ g cap, val = .slice (some ⟨g, 0, none⟩) xs.length cap ∧ W.cell? ⟨g, j * 3, none⟩ = some (.string xs[j].name) ∧ W.cell? ⟨g, j * 3 + 1, none⟩ = some (.int .i64 xs[j].size) ∧ W.cell? ⟨g, j * 3 + 2, none⟩ = some vs[j] := by
  rcases h.own.2 with ⟨_, h0⟩ | ⟨g, cap, cur, h1, h2, h3, h4, h5, h6, h7⟩
  · omega
  · obtain ⟨k0, k1, k2⟩ := inoCells_at xs vs j hj hj'
    have hcell : ∀ i, i < 3 → ∀ u, (inoCells xs vs)[j * 3 + i]? = some u → W.cell? ⟨g, j * 3 + i, none⟩ = some u := fun i hi u hu => by
      refine Blk.at_ (show Blk W g 67 cur from h3) _ _ ?_
      rw [← h7, List.getElem?_take, if_pos (by omega)] at hu
      simpa using hu
    exact ⟨g, cap, h1, hcell 0 (by omega) _ k0, hcell 1 (by omega) _ k1, hcell 2 (by omega) _ k2⟩
theorem InoRow.nameAt {W : World} {B : Nat} {val : Value} {xs : List Ino} {vs : List Value} (h : InoRow W B val xs vs) (j : Nat) (hj : j < xs.length) : ∃ g cap, val = .slice (some ⟨g, 0, none⟩) xs.length cap ∧ W.cell? ⟨g, j * 3, none⟩ = some (.string xs[j].name) := by
  obtain ⟨g, cap, h1, h2, _⟩ := h.at_ j hj (by rw [h.len]; exact hj)
  exact ⟨g, cap, h1, h2⟩
end Go.Proofs.YtmbjflcmbenbdaaDoor

/- The reference of layer 4: Open, of a disk that was built. -/
namespace Go.Proofs.YtmbjflcmbenbdaaDoor
open Go.RowKit Go.Shelf
set_option linter.unusedVariables false
set_option linter.unusedSimpArgs false

/-- The reference opened it. -/
def ROpened (w : World) (g c : Nat) (L : List ByteArray) (used : Nat) (xs : List Ino) (e : Ending) (w' : World) : Prop := ∃ gp val vs, e = .returned (.tuple #[.pointer (some ⟨gp, 0, none⟩), .int .i64 0]) ∧ RSo w w' g c L used gp xs val vs
set_option maxRecDepth 100000 in
set_option maxHeartbeats 8000000 in
theorem ropen_yes (g c used : Nat) (L : List ByteArray) (xs : List Ino) (w : World) (ht : TextRow w (.slice (some ⟨g, 0, none⟩) L.length c) L) (ho : OnDisk ⟨L, 0, 0, 0⟩ used xs) (hx1 : 1 + xs.length ≤ used) :
    Calls Tryd.prog 8 #[.slice (some ⟨g, 0, none⟩) L.length c] w (ROpened w g c L used xs) := by
  have hmany := ho.many
  have hfull : used = L.length := ho.full
  have hroom : L.length ≤ 16384 := ho.room
  have h0 : w.cell? ⟨g, 0, none⟩ = some (.string (headS xs.length used)) := by
    have e := ho.head
    have hl : 0 < L.length := by omega
    have := ht.at_ 0 hl
    rw [show L[0] = headS xs.length used from by rw [List.getElem?_eq_getElem hl] at e; exact Option.some.inj e] at this
    exact this
  have e1 : headS xs.length used = mkb ([70, 76, 89, 49] ++ putL xs.length 2 ++ (putL used 4 ++ List.replicate 54 0)) := by
    unfold headS headL
    rw [fillL_split _ _ _ (by simp [putL_length])]
    simp [putL_length]
  have e2 : headS xs.length used = mkb ((([70, 76, 89, 49] : List UInt8) ++ putL xs.length 2) ++ putL used 4 ++ List.replicate 54 0) := by rw [e1]; simp
  have q1 := fun w => rget_put [70, 76, 89, 49] (putL used 4 ++ List.replicate 54 0) xs.length 2 w (by omega) (by omega) (by omega) (by simp [putL_length]) 4 2 rfl rfl
  have q2 := fun w => rget_put (([70, 76, 89, 49] : List UInt8) ++ putL xs.length 2) (List.replicate 54 0) used 4 w (by omega) (by omega) (by omega) (by simp [putL_length]) 6 4 (by simp [putL_length]) rfl
  rw [← e1] at q1
  rw [← e2] at q2
  have q3 := fun w => rhead_any xs.length used w (by omega) (by omega)
  clear e1 e2
  generalize headS xs.length used = S0 at *
  have Q1 := Lib.hid q1
  have Q2 := Lib.hid q2
  have Q3 := Lib.hid q3
  have HT := Lib.hid ht
  have HO := Lib.hid ho
  obtain ⟨n, hn⟩ : ∃ n, xs.length = n := ⟨_, rfl⟩
  obtain ⟨m, hm⟩ : ∃ m, L.length = m := ⟨_, rfl⟩
  have HN := Lib.hid hn
  have HMl := Lib.hid hm
  rw [hn] at hmany hx1 Q1 Q3
  rw [hm] at hfull hroom HT ⊢
  clear q1 q2 q3 ht ho hn hm
  have a0 : w.drew.cell? ⟨g, 0, none⟩ = some (.string S0) := h0
  have hgl : g < w.heap.size := by
    obtain ⟨g', c', cur, e, hb, _⟩ := HT.out
    injection e with e _ _
    injection e with e
    injection e with e _ _
    subst e
    exact hb.lt
  have hds : w.drew.heap.size = w.heap.size := rfl
  have d1 : decide ((64 : Int) < (n : Int)) = false := decide_eq_false (by omega)
  have d1b : decide (64 < n) = false := decide_eq_false (by omega)
  have d2 : decide ((m : Int) < (used : Int)) = false := decide_eq_false (by omega)
  have d2b : decide (m < used) = false := decide_eq_false (by omega)
  have d3 : decide ((used : Int) < 1 + (n : Int)) = false := decide_eq_false (by omega)
  have d3b : decide (used < 1 + n) = false := decide_eq_false (by omega)
  have HA0 := Lib.hid a0
  have hm1 : 1 ≤ m := by omega
  obtain ⟨i0, hi, hz0, hz1, hz2⟩ := info_parts infoExt
  have HI := Lib.hid hi
  clear hi
  have hu : used ≤ 16384 := by omega
  have v1 : IntKind.i64.wrap (n : Int) = (n : Int) := IntWalk.i64_in _ (by omega)
  have v2 : IntKind.i64.wrap (used : Int) = (used : Int) := IntWalk.i64_in _ (by omega)
  have v3 : IntKind.i64.wrap (1 + (n : Int)) = 1 + (n : Int) := IntWalk.i64_in _ (by omega)
  have hm2 : (0 : Int) < (m : Int) := by omega
  have hm3 : 0 < m := by omega
  clear hfull
  go_enter Tryd.func8, Tryd.ntmps8
  go_wp2_with (first
    | (go_at_call 30; with_reducible refine (Q1.out _).mono ?_; rintro e v1 ⟨rfl, rfl⟩)
    | (go_at_call 30; with_reducible refine (Q2.out _).mono ?_; rintro e v1 ⟨rfl, rfl⟩))
  go_region_held3 (fun w' => w'.cell? ⟨g, 0, none⟩ = some (.string S0))
    (first | exact a0)
    (first
    | (go_at_call 28; with_reducible refine (Q3.out _).mono ?_; rintro e v2 ⟨rfl, hb2⟩; rw [hds] at hb2; have HB2 : Hid (Below w.heap.size w v2) := Lib.hid (((Below.refl w.heap.size w).drew).trans hb2); clear a0; have a0 : v2.cell? ⟨g, 0, none⟩ = some (.string S0) := (hb2.cell (p := ⟨g, 0, none⟩) hgl).trans HA0.out; clear hb2))
  go_wp2
  have hinit : RSo w (v2.alloc (.cells #[.slice (some ⟨g, 0, none⟩) m c, .int .i64 used, .slice none 0 0] 79)) g c L used v2.heap.size [] (.slice none 0 0) [] := by
    refine ⟨by rw [HMl.out]; exact Blk.new v2 _ _, InoRow.nil _ _, ?_, HB2.out.size, HB2.out.alloc HB2.out.size _⟩
    rw [HMl.out]
    exact (HT.out.belowK HB2.out).belowK ((Below.refl _ _).alloc (Nat.le_refl _) _)
  have HINIT := Lib.hid hinit
  obtain ⟨gp, hgp⟩ : ∃ gp, v2.heap.size = gp := ⟨_, rfl⟩
  rw [hgp] at HINIT ⊢
  clear hinit hgp a0 HA0 Q1 Q2 Q3 d1 d1b d2 d2b d3 d3b h0
  go_loopw [9] (fun i wr => ∃ (k : Nat) (val : Value) (vs : List Value), k ≤ n ∧ i = .int .i64 k ∧ Hid (RSo w wr g c L used gp (xs.take k) val vs)) (fun i _ => n - (intOf i).toNat)
  case atStart => exact ⟨0, _, _, Nat.zero_le _, rfl, HINIT⟩
  case round =>
    clear HINIT HB2
    obtain ⟨k, val, vs, hk, rfl, HS⟩ := hrel
    by_cases hlt : k < n
    · have hkx : k < xs.length := by have := HN.out; omega
      have hfit := (HO.out.fits _ (List.getElem_mem hkx)).1
      have hstd := (HO.out.fits _ (List.getElem_mem hkx)).2
      have hsec : ∃ h : 1 + k < L.length, L[1 + k] = inoS xs[k] := by
        have e := HO.out.inos k hkx
        exact List.getElem?_eq_some_iff.1 e
      obtain ⟨hl1, hl2⟩ := hsec
      have c0 : wr.cell? ⟨g, 1 + k, none⟩ = some (.string (inoS xs[k])) := by rw [← hl2]; exact HS.out.txt.at_ (1 + k) hl1
      have htk : xs.take (k + 1) = xs.take k ++ [xs[k]] := List.take_succ_eq_append_getElem hkx
      have hnm : ∀ j (hj : j < k), (xs[j]'(by omega)).name ≠ xs[k].name := fun j hj e => by
        have := (List.pairwise_iff_getElem.1 HO.out.names) j k (by simpa using (by omega : j < xs.length)) (by simpa using hkx) hj
        simp only [List.getElem_map] at this
        exact this e
      clear hl1 hl2
      generalize xs[k] = x at *
      have HNM := Lib.hid hnm
      have HTK := Lib.hid htk
      have hsm := hfit.small
      have hfm := hfit.many
      have hfs := hfit.size
      have hfn := nameOk_iff.1 hfit.name
      -- what the sector says
      have q4 := fun w => rtext_name x hfit w
      have q5 := fun w => rget_ino x hfit w (fillL x.name.data.toList 24) (putL x.ext.length 2 ++ (x.ext.flatMap extT ++ inoZ x)) x.size 4 24 4 (by simp [inoL, inoBase]) (by omega) (by omega) (by omega) (by simp [fillL_length]) rfl
      have q6 := fun w => rget_ino x hfit w (fillL x.name.data.toList 24 ++ putL x.size 4) (x.ext.flatMap extT ++ inoZ x) x.ext.length 2 28 2 (by simp [inoL, inoBase]) (by omega) (by omega) (by omega) (by simp [fillL_length, putL_length]) rfl
      have q7 := fun w => rcheck_any x.name w (by unfold maxLen; omega)
      rw [hfit.name] at q7
      have q8 := fun w => rpages_any x.size w (by omega)
      have q9 := rget_ext1 x hfit
      have q10 := rget_ext2 x hfit
      have q11 := fun v w (hv : ExtRow w v x.ext) => rinode_any x v w (by omega) (by omega) hsm hv
      have hstd1 := hstd.1
      have hstd3 := hstd.2.2
      rw [HN.out] at hstd1
      unfold inoV at q11
      clear hnm htk hstd hfit
      have hT : (inoS x).size = 64 := inoS_size x
      generalize inoS x = T at *
      obtain ⟨nm, sz, ext⟩ := x
      dsimp only at *
      have Q4 := Lib.hid q4
      have Q5 := Lib.hid q5
      have Q6 := Lib.hid q6
      have Q7 := Lib.hid q7
      have Q8 := Lib.hid q8
      have Q9 := Lib.hid q9
      have Q10 := Lib.hid q10
      have Q11 := Lib.hid q11
      clear q4 q5 q6 q7 q8 q9 q10 q11
      have hk2 : 1 + k < m := by
        have h1 : L.length = m := HMl.out
        have h2 : used = L.length := HO.out.full
        omega
      have hk1 : (1 : Int) + (k : Int) < (m : Int) := by omega
      have hki : (k : Int) < (n : Int) := by omega
      have hsz1 : ((sz : Nat) : Int) ≤ 1048576 := by omega
      have g1 : decide ((1048576 : Int) < (sz : Int)) = false := decide_eq_false (by omega)
      have g1b : decide (1048576 < sz) = false := decide_eq_false (by omega)
      have g2 : decide ((4 : Int) < (ext.length : Int)) = false := decide_eq_false (by omega)
      have g2b : decide (4 < ext.length) = false := decide_eq_false (by omega)
      have y1 : IntKind.i64.wrap (sz : Int) = (sz : Int) := IntWalk.i64_in _ (by omega)
      have y2 : IntKind.i64.wrap (ext.length : Int) = (ext.length : Int) := IntWalk.i64_in _ (by omega)
      go_wp2_with (first
        | (go_at_call 31; with_reducible refine (Q4.out _).mono ?_; rintro e v4 ⟨rfl, rfl⟩)
        | (go_at_call 30; with_reducible refine (Q5.out _).mono ?_; rintro e v4 ⟨rfl, rfl⟩)
        | (go_at_call 30; with_reducible refine (Q6.out _).mono ?_; rintro e v4 ⟨rfl, rfl⟩)
        | (go_at_call 24; with_reducible refine (Q7.out _).mono ?_; rintro e v4 ⟨rfl, rfl⟩)
        | (go_at_call 25; with_reducible refine (Q8.out _).mono ?_; rintro e v4 ⟨rfl, rfl⟩))
      clear Q4 Q5 Q6 Q7 Q8 g1 g1b g2 g2b c0
      generalize wr = V at *
      have HX := Lib.hid (Blk.new V 67 #[.string nm, .int .i64 sz, .slice none 0 0])
      have HBV := Lib.hid ((Below.refl V.heap.size V).alloc (Nat.le_refl _) (.cells #[.string nm, .int .i64 sz, .slice none 0 0] 67))
      obtain ⟨bx, hbx⟩ : ∃ bx, V.heap.size = bx := ⟨_, rfl⟩
      rw [hbx] at HX HBV ⊢
      have HBX := Lib.hid hbx
      have HA3 := Lib.hid (fun kk => show ahd ext kk ≤ pgs sz from by rw [← hstd3, ahd_full]; exact ahd_le ext kk)
      have hpgb : pgs sz ≤ 16384 := by unfold pgs; omega
      have HST1 := Lib.hid hstd1
      have HST3 := Lib.hid hstd3
      clear hbx hstd1 hstd3
      go_loopw [19, 20] (fun l i wr => ∃ (kk : Nat) (v : Value), kk ≤ ext.length ∧ i = .int .i64 kk ∧ l = .int .i64 ((pgs sz : Int) - (ahd ext kk : Int)) ∧ Hid (Blk wr bx 67 #[.string nm, .int .i64 sz, v]) ∧ Hid (wr.ownsRow bx 70 2 v kk (extCells (ext.take kk))) ∧ Hid (Below bx V wr)) (fun _ i _ => ext.length - (intOf i).toNat)
      case atStart => exact ⟨0, _, Nat.zero_le _, rfl, by simp [ahd], HX, Lib.hid (World.ownsRow_nil _ _ _ _), HBV⟩
      case round =>
        clear HX HBV
        obtain ⟨kk, v, hkk, rfl, rfl, HX, HOW, HBV⟩ := hrel
        by_cases hlt2 : kk < ext.length
        · obtain ⟨e1, e2, e3⟩ := HST1.out _ (List.getElem_mem hlt2)
          have n1 := Q9.out kk hlt2
          have n2 := Q10.out kk hlt2
          have hsa := ahd_succ ext hlt2
          have hle := HA3.out (kk + 1)
          have hcs : extCells (ext.take (kk + 1)) = extCells (ext.take kk) ++ [.int .i64 (ext[kk].1 : Nat), .int .i64 (ext[kk].2 : Nat)] := by
            rw [List.take_succ_eq_append_getElem hlt2]
            exact extCells_snoc _ _ _
          have HCS := Lib.hid hcs
          have HSA := Lib.hid hsa
          rw [hsa] at hle
          have N1 := Lib.hid n1
          have N2 := Lib.hid n2
          clear hcs hsa n1 n2
          generalize ext[kk].1 = pp at *
          generalize ext[kk].2 = qq at *
          obtain ⟨l0, hl0⟩ : ∃ l0 : Int, (pgs sz : Int) - (ahd ext kk : Int) = l0 := ⟨_, rfl⟩
          have hl1 : (qq : Int) ≤ l0 := by omega
          have hl2 : l0 ≤ 16384 := by omega
          rw [hl0]
          have HL0 := Lib.hid hl0
          clear hl0 hle
          have hki2 : (kk : Int) < (ext.length : Int) := by omega
          have hkk3 : kk ≤ 3 := by omega
          have z1 : IntKind.i64.wrap (pp : Int) = (pp : Int) := IntWalk.i64_in _ (by omega)
          have z2 : IntKind.i64.wrap (qq : Int) = (qq : Int) := IntWalk.i64_in _ (by omega)
          have z3 : IntKind.u64.wrap ((pp : Int) + (qq : Int)) = (pp : Int) + (qq : Int) := by rw [IntKind.wrap_u64]; omega
          have z4 : IntKind.i64.wrap ((pp : Int) + (qq : Int)) = (pp : Int) + (qq : Int) := IntWalk.i64_in _ (by omega)
          have z5 : IntKind.i64.wrap (l0 - (qq : Int)) = l0 - (qq : Int) := IntWalk.i64_in _ (by omega)
          have x1 : ¬ (pp : Int) < 1 + (n : Int) := by omega
          have x2 : ¬ (qq : Int) < 1 := by omega
          have x3 : ¬ (used : Int) < (pp : Int) + (qq : Int) := by omega
          have b1 : decide ((pp : Int) < 1 + (n : Int)) = false := decide_eq_false x1
          have b2 : decide ((qq : Int) < 1) = false := decide_eq_false x2
          have b3 : decide ((used : Int) < (pp : Int) + (qq : Int)) = false := decide_eq_false x3
          have b4 : decide (qq < 1) = false := decide_eq_false (by omega)
          have b5 : decide (pp < 1 + n) = false := decide_eq_false (by omega)
          have b6 : decide (used < pp + qq) = false := decide_eq_false (by omega)
          have c2 := HX.out.at_ 2 _ rfl
          have f2 := HX.out.frozen 2
          have c2a := (HX.out.alloc (.cells #[.int .i64 (pp : Int), .int .i64 (qq : Int)] 70)).at_ 2 _ rfl
          have hne := HX.out.not_row (by decide) HOW.out
          have hbw : bx ≤ wr.heap.size := by have := HX.out.lt; omega
          have HOA := Lib.hid (HOW.out.alloc (.cells #[.int .i64 (pp : Int), .int .i64 (qq : Int)] 70))
          go_wp2_with (first
            | (go_at_call 30; with_reducible refine (N1.out _).mono ?_; rintro e v5 ⟨rfl, rfl⟩)
            | (go_at_call 30; with_reducible refine (N2.out _).mono ?_; rintro e v5 ⟨rfl, rfl⟩)
            | (at_builtin; refine wpList_append_own _ rfl _ _ 65 rfl bx 70 i0 _ 2 16 Tryd.underlying65 HI.out hz0 hz1 hz2 rfl (by decide) v kk (extCells (ext.take kk)) rfl HOA.out ⟨wr.heap.size, 0, none⟩ 1 1 [.int .i64 (pp : Int), .int .i64 (qq : Int)] rfl rfl (World.news_of_block (cs := #[.int .i64 (pp : Int), .int .i64 (qq : Int)]) (t := 70) (fr := (0, 0)) (heap_alloc_new wr (.cells #[.int .i64 (pp : Int), .int .i64 (qq : Int)] 70))) (fun u hu => by simp at hu; rcases hu with rfl | rfl <;> rfl) (by unfold maxLen; omega) (by omega) (by simp; omega) ?_; intro v' w6 hown6 hgrow6 _
               obtain ⟨A6, c6, hv6⟩ := own_slice2 hown6
               subst hv6
               have HX6 := Lib.hid ((HX.out.alloc (.cells #[.int .i64 (pp : Int), .int .i64 (qq : Int)] 70)).grown hgrow6 (by exact fun e => hne e.symm))
               have q1 := HX6.out.at_ 2 _ rfl
               have f1 := HX6.out.frozen 2
               have HO6 := Lib.hid hown6
               have HG6 := Lib.hid hgrow6
               clear hown6 hgrow6))
          have hgb : (Value.slice A6 (kk + 1) c6).ownBlock ≠ some bx := HX6.out.not_row (by decide) HO6.out
          go_roundw
          case rel =>
            refine ⟨kk + 1, _, by omega, by go_num, ?_, Lib.hid (by simpa using HX6.out.set_ 2 (.slice A6 (kk + 1) c6)), Lib.hid (by rw [HCS.out]; exact own_far HO6.out hgb _), Lib.hid (((HBV.out.alloc hbw (.cells #[.int .i64 (pp : Int), .int .i64 (qq : Int)] 70)).grown HG6.out (by simp; omega) (fun j e => (HOW.out.lt j e).1)).setCell (p := ⟨bx, 2, none⟩) (Nat.le_refl _) _)⟩
            have h1 := HSA.out
            have h2 := HL0.out
            rw [h1]
            congr 1
            omega
          case measure => simp [intOf]; omega
        · have hkk2 : kk = ext.length := by omega
          have hz : (pgs sz : Int) - (ahd ext kk : Int) = 0 := by have := HST3.out; rw [hkk2]; omega
          have htk2 : ext.take kk = ext := by rw [hkk2]; exact List.take_length
          obtain ⟨Av, cv, hv⟩ := own_slice2 HOW.out
          subst hv
          have hex : ExtRow wr (.slice Av kk cv) ext := by
            have := HOW.out
            rw [htk2] at this
            exact ExtRow.of_own this
          have hexb : ∀ g, (Value.slice Av kk cv).ownBlock = some g → bx ≤ g := fun g hg => (HOW.out.lt g hg).1
          rw [hz]
          have hs1 : RSo w wr g c L used gp (xs.take k) val vs := HS.out.below (by rw [HBX.out]; exact HBV.out)
          have hkn : ¬ (kk : Int) < (ext.length : Int) := by omega
          have HEX := Lib.hid hex
          have HEXB := Lib.hid hexb
          have HS1 := Lib.hid hs1
          have c0 := HX.out.at_ 0 _ rfl
          have c1 := HX.out.at_ 1 _ rfl
          have c2 := HX.out.at_ 2 _ rfl
          have HKK := Lib.hid hkk2
          have HWB := Lib.hid (show w.heap.size ≤ bx from by have := HS.out.bel.size; have := HBX.out; omega)
          clear hz htk2 hex hexb hs1 HOW HBV HS HST1 HST3 HA3 hkk2 hkk hlt2
          go_wp2_with (go_at_call 29; refine (Q11.out _ _ HEX.out).mono ?_; rintro e v7 ⟨rfl, hb7⟩; have HS7 := Lib.hid (HS1.out.below hb7); have HX7 := Lib.hid (HX.out.below hb7 HX.out.lt); have HEX7 := Lib.hid (HEX.out.below hb7); clear hb7 c0 c1 c2)
          clear HX HEX HS1 Q11 Q9 Q10
          have hkl : (xs.take k).length = k := by have := HN.out; simp; omega
          have HKL := Lib.hid hkl
          clear hkl
          go_loopw [25] (fun i wr => ∃ j : Nat, j ≤ k ∧ i = .int .i64 j ∧ Hid (RSo w wr g c L used gp (xs.take k) val vs) ∧ Hid (Blk wr bx 67 #[.string nm, .int .i64 sz, .slice Av kk cv]) ∧ Hid (ExtRow wr (.slice Av kk cv) ext)) (fun i _ => k - (intOf i).toNat)
          case atStart => exact ⟨0, by omega, rfl, HS7, HX7, HEX7⟩
          case round =>
            clear HS7 HX7 HEX7
            obtain ⟨j, hj, rfl, HS7, HX7, HEX7⟩ := hrel
            by_cases hlt3 : j < k
            · obtain ⟨gv, capv, hval, hc⟩ := HS7.out.row.nameAt j (by rw [HKL.out]; exact hlt3)
              rw [HKL.out] at hval
              have hne : (xs.take k)[j]'(by rw [HKL.out]; exact hlt3) = xs[j]'(by have := HN.out; omega) := List.getElem_take
              rw [hne] at hc
              have hnn := HNM.out j hlt3
              generalize (xs[j]'(by have := HN.out; omega)).name = nj at *
              have hb1 := beq_no4 hnn
              have hbx := HS7.out.box.at_ 2 _ rfl
              rw [hval] at hbx
              have hjk : (j : Int) < (k : Int) := by omega
              have HV := Lib.hid hval
              clear hne hval
              go_wp2
              go_roundw
              case rel => exact ⟨j + 1, by omega, by go_num, HS7, HX7, HEX7⟩
              case measure => simp [intOf]; omega
            · have hjk : ¬ (j : Int) < (k : Int) := by omega
              obtain ⟨i1, hi1, hy0, hy1, hy2⟩ := info_parts infoIno
              have HI1 := Lib.hid hi1
              have hown := HS7.out.row.own
              rw [HKL.out] at hown
              have HO1 := Lib.hid hown
              have hnb := HS7.out.box.not_row (by decide) hown
              have a0 := HX7.out.at_ 0 _ rfl
              have a1 := HX7.out.at_ 1 _ rfl
              have a2 := HX7.out.at_ 2 _ rfl
              have b2 := HS7.out.box.at_ 2 _ rfl
              have b2a := (HS7.out.box.alloc (.cells #[.string nm, .int .i64 sz, .slice Av kk cv] 67)).at_ 2 _ rfl
              have hwr : w.heap.size ≤ wr.heap.size := HS7.out.bel.size
              have hk63 : k ≤ 64 := by omega
              clear hi1 hown HNM HO hj hlt3
              go_wp2_with fail
              go_region_law (first
                | (refine step_append_lies _ (by rfl) _ _ _ (by rfl) w.heap.size 67 i1 _ 3 48 Tryd.underlying64 HI1.out hy0 hy1 hy2 rfl (by omega) val k (inoCells (xs.take k) vs) (by rfl) (HO1.out.alloc (.cells #[.string nm, .int .i64 sz, .slice Av kk cv] 67)) ⟨wr.heap.size, 0, none⟩ 1 1 [.string nm, .int .i64 sz, .slice Av kk cv] (by rfl) (by rfl) (World.news_of_block (cs := #[.string nm, .int .i64 sz, .slice Av kk cv]) (t := 67) (fr := (0, 0)) (heap_alloc_new wr (.cells #[.string nm, .int .i64 sz, .slice Av kk cv] 67))) (by simp [Value.oneCell']) (by omega) (by unfold maxLen; omega) (by omega) (by simp; omega) (wr.heap.size + 1) (by simp) ?_
                   intro gg cap w1 hown1 hgrow hat hlt1
                   have HF1 := Lib.hid ((HS7.out.box.alloc (.cells #[.string nm, .int .i64 sz, .slice Av kk cv] 67)).drew.grown hgrow (by exact fun e => hnb e.symm))
                   have q1 := HF1.out.at_ 2 _ rfl
                   have f1 := HF1.out.frozen 2
                   have HO2 := Lib.hid hown1
                   have HG1 := Lib.hid hgrow
                   clear hown1 hgrow hat))
              all_goals
                have hgp : (Value.slice (some ⟨gg, 0, none⟩) (k + 1) cap).ownBlock ≠ some gp := HF1.out.not_row (by decide) HO2.out
                obtain ⟨SS, hSS⟩ : ∃ SS : Nat → Prop, SS = fun j => val.ownBlock = some j ∨ j = gp := ⟨_, rfl⟩
                have hbut : But SS wr (w1.setCell ⟨gp, 2, none⟩ (.slice (some ⟨gg, 0, none⟩) (k + 1) cap)) := by
                  rw [hSS]
                  exact But.setCell (S := fun j => val.ownBlock = some j ∨ j = gp) (p := ⟨gp, 2, none⟩) ((((But.refl _ wr).alloc (.cells #[.string nm, .int .i64 sz, .slice Av kk cv] 67)).drew).grown HG1.out (fun j e => .inl (.inl e))) (.inl (.inr rfl)) _
                have hSB : ∀ j, SS j → w.heap.size ≤ j := fun j hj => by
                  rw [hSS] at hj
                  rcases hj with h1 | h1
                  · exact own_ge HO1.out h1
                  · rw [h1]; exact HS7.out.gpw
                have hSe : ∀ u l g, ExtRow wr u l → u.ownBlock = some g → ¬ SS g := fun u l g hu hg hj => by
                  rw [hSS] at hj
                  rcases hj with h1 | h1
                  · exact ext_not_row hu HO1.out hg h1
                  · exact ext_not_blk hu HS7.out.box (by decide) hg h1
                have hSg : ¬ SS g := fun hj => by
                  obtain ⟨g', c', cur, e, hbk, _⟩ := HS7.out.txt
                  injection e with e _ _
                  injection e with e
                  injection e with e _ _
                  subst e
                  rw [hSS] at hj
                  rcases hj with h1 | h1
                  · exact hbk.not_row (by decide) HO1.out h1
                  · subst h1
                    have h2 := HS7.out.box
                    unfold Blk at hbk h2
                    rw [hbk] at h2
                    injection h2 with h2
                    injection h2 with _ h2 _
                    exact absurd h2 (by decide)
                have hfin : RSo w (w1.setCell ⟨gp, 2, none⟩ (.slice (some ⟨gg, 0, none⟩) (k + 1) cap)) g c L used gp (xs.take (k + 1)) (.slice (some ⟨gg, 0, none⟩) (k + 1) cap) (vs ++ [.slice Av kk cv]) := by
                  refine ⟨by simpa using HF1.out.set_ 2 (.slice (some ⟨gg, 0, none⟩) (k + 1) cap), ?_, HS7.out.txt.butK hbut hSg, HS7.out.gpw, HS7.out.bel.trans (hbut.below HS7.out.bel.size hSB)⟩
                  rw [HTK.out]
                  refine HS7.out.row.snoc SS (KpC.of_but hbut) hSe HEX7.out (fun q hq => Nat.le_trans HWB.out (HEXB.out q hq)) ?_
                  rw [HKL.out]
                  exact own_far HO2.out hgp _
                go_wp2
                go_roundw
                case rel => exact ⟨k + 1, _, _, by omega, by go_num, Lib.hid hfin⟩
                case measure => simp [intOf]; omega
    · obtain rfl : k = n := by omega
      have hfin := HS.out
      have htk : xs.take k = xs := by rw [← HN.out]; exact List.take_length
      rw [htk] at hfin
      have HFIN := Lib.hid hfin
      have hkn : ¬ (k : Int) < (k : Int) := by omega
      clear hfin htk HS HO HT
      go_wp2
      go_ret2
      exact ⟨gp, val, vs, rfl, HFIN.out⟩
end Go.Proofs.YtmbjflcmbenbdaaDoor

/- The reference of layer 4: Bytes, Page. -/
namespace Go.Proofs.YtmbjflcmbenbdaaDoor
open Go.RowKit Go.Shelf
set_option linter.unusedVariables false
set_option linter.unusedSimpArgs false

theorem fillL_addK (l : List UInt8) (a b : Nat) : fillL l (a + b) = fillL l a ++ fillL (l.drop a) b := by
  unfold fillL
  rcases Nat.le_total a l.length with h | h
  · rw [List.take_add, List.length_drop, show a - l.length = 0 by omega, show a + b - l.length = b - (l.length - a) by omega]
    simp
  · rw [List.take_of_length_le (by omega), List.take_of_length_le h, List.drop_of_length_le h, show a + b - l.length = (a - l.length) + b by omega, ← List.replicate_append_replicate]
    simp
/-- The first n pages of a file. -/
def pgT (d : ByteArray) (n : Nat) : ByteArray := mkb (fillL d.data.toList (64 * n))
theorem pgT_zero (d : ByteArray) : pgT d 0 = ⟨#[]⟩ := by unfold pgT fillL; simp; rfl
theorem pgT_succ (d : ByteArray) (n : Nat) : pgT d n ++ pageOf d n = pgT d (n + 1) := by
  unfold pgT pageOf
  rw [mkb_append, Nat.mul_succ, fillL_addK]
theorem pgT_size (d : ByteArray) (n : Nat) : (pgT d n).size = 64 * n := by unfold pgT; rw [mkb_size, fillL_length]
theorem pgT_all (d : ByteArray) : (pgT d (pgs d.size)).extract 0 d.size = d := by
  unfold pgT
  rw [extract_mkb, mkb_data, List.drop_zero, Nat.sub_zero]
  have hl := len_data d
  have h : d.data.toList.length ≤ 64 * pgs d.size := by unfold pgs; omega
  unfold fillL
  rw [List.take_of_length_le h, ← hl, List.take_append_of_le_length (Nat.le_refl _), List.take_length, mkb_of]
theorem ExtRow.at_ {W : World} {A : Option Addr} {n c : Nat} {l : List (Nat × Nat)} (h : ExtRow W (.slice A n c) l) (k : Nat) (hk : k < l.length) : ∃ g, A = some ⟨g, 0, none⟩ ∧ W.cell? ⟨g, k * 2, none⟩ = some (.int .i64 (l[k].1 : Nat)) ∧ W.cell? ⟨g, k * 2 + 1, none⟩ = some (.int .i64 (l[k].2 : Nat)) := by
  rcases h with ⟨_, h0⟩ | ⟨g, cap, cur, h1, h2, h3⟩
  · subst h0; simp at hk
  · injection h1 with e1 e2 e3
    obtain ⟨k0, k1⟩ := extCells_at l k hk
    have hcell : ∀ i, i < 2 → ∀ u, (extCells l)[k * 2 + i]? = some u → W.cell? ⟨g, k * 2 + i, none⟩ = some u := fun i hi u hu => by
      refine h2.at_ _ _ ?_
      rw [← h3, List.getElem?_take, if_pos (by omega)] at hu
      simpa using hu
    exact ⟨g, e1, hcell 0 (by omega) _ k0, hcell 1 (by omega) _ k1⟩

/-- Files that the reference opened: what it reads of them. -/
structure RSb (B : Nat) (W : World) (g c : Nat) (L : List ByteArray) (used gp : Nat) (xs : List Ino) (val : Value) (vs : List Value) : Prop where
  box : Blk W gp 79 #[.slice (some ⟨g, 0, none⟩) L.length c, .int .i64 used, val]
  row : InoRow W B val xs vs
  txt : TextRow W (.slice (some ⟨g, 0, none⟩) L.length c) L
theorem RSo.b {w W : World} {g c used gp : Nat} {L : List ByteArray} {xs : List Ino} {val : Value} {vs : List Value} (h : RSo w W g c L used gp xs val vs) : RSb w.heap.size W g c L used gp xs val vs := ⟨h.box, h.row, h.txt⟩
set_option maxRecDepth 100000 in
set_option maxHeartbeats 4000000 in
theorem rbytes_yes {W : World} {B g c used gp : Nat} {L : List ByteArray} {xs : List Ino} {val : Value} {vs : List Value} (h : RSb B W g c L used gp xs val vs) (ho : OnDisk ⟨L, 0, 0, 0⟩ used xs) (k : Nat) (hk : k < xs.length) (d : ByteArray) (hd : HasData ⟨L, 0, 0, 0⟩ xs[k] d) :
    Calls Tryd.prog 37 #[.pointer (some ⟨gp, 0, none⟩), .int .i64 (k : Int)] W fun e w' => e = .returned (.tuple #[.string d, .int .i64 0]) ∧ ∃ r, w' = W.drewN r := by
  obtain ⟨hfit, hstd⟩ := ho.fits _ (List.getElem_mem hk)
  have hroom : L.length ≤ 16384 := ho.room
  have hmany := ho.many
  have hfull : used = L.length := ho.full
  have hkv : k < vs.length := by rw [h.row.len]; exact hk
  obtain ⟨gv, capv, hval, n0, n1, n2⟩ := h.row.at_ k hk hkv
  have hex := (h.row.ext k hk hkv).1
  obtain ⟨Ae, ce, hv⟩ := hex.slice
  rw [hv] at n2 hex
  have b0 := h.box.at_ 0 _ rfl
  have b2 := h.box.at_ 2 _ rfl
  rw [hval] at b2
  have htx := fun q (hq : q < L.length) => h.txt.at_ q hq
  have hsz := hd.size
  have hat := hd.at_
  have hst1 := hstd.1
  have hst3 := hstd.2.2
  have hfs := hfit.size
  have hfm := hfit.many
  clear hv hval h hd ho hfit hstd
  generalize xs[k] = x at *
  obtain ⟨nm, sz, ext⟩ := x
  dsimp only at *
  obtain ⟨n, hn⟩ : ∃ n, xs.length = n := ⟨_, rfl⟩
  obtain ⟨m, hm⟩ : ∃ m, L.length = m := ⟨_, rfl⟩
  rw [hn] at b2 hk hmany
  rw [hm] at b0 hroom hfull
  have HTX := Lib.hid htx
  have HAT := Lib.hid hat
  have HST1 := Lib.hid hst1
  have HEX := Lib.hid hex
  have HA3 := Lib.hid (fun kk => show ahd ext kk ≤ pgs sz from by rw [← hst3, ahd_full]; exact ahd_le ext kk)
  have HM := Lib.hid hm
  have hki : (k : Int) < (n : Int) := by omega
  have hk0 : (0 : Int) ≤ (k : Int) := by omega
  obtain ⟨q0, hq0⟩ : ∃ q, ext.length = q := ⟨_, rfl⟩
  have HQ0 := Lib.hid hq0
  rw [hq0] at n2
  have hP := Lib.hid (pgT_zero d)
  have HST3 := Lib.hid hst3
  have HSZ := Lib.hid hsz
  have HXC := Lib.hid (show ∀ kk (hkk : kk < ext.length), ∃ ge, Ae = some ⟨ge, 0, none⟩ ∧ W.cell? ⟨ge, kk * 2, none⟩ = some (.int .i64 (ext[kk].1 : Nat)) ∧ W.cell? ⟨ge, kk * 2 + 1, none⟩ = some (.int .i64 (ext[kk].2 : Nat)) from fun kk hkk => hex.at_ kk hkk)
  have hq4 : q0 ≤ 4 := by omega
  have HSB := Lib.hid (show pgs sz ≤ 16384 by unfold pgs; omega)
  clear htx hat hst1 hex hm hn hq0 hst3 hsz hfm
  go_enter Tryd.func37, Tryd.ntmps37
  go_wp2
  go_loopw [6, 8] (fun s i wr => ∃ e r : Nat, e ≤ q0 ∧ i = .int .i64 e ∧ s = .string (pgT d (ahd ext e)) ∧ wr = W.drewN r) (fun _ i _ => q0 - (intOf i).toNat)
  case atStart => exact ⟨0, 0, Nat.zero_le _, rfl, by rw [show ahd ext 0 = 0 from rfl, hP.out], (World.drewN_zero W).symm⟩
  case round =>
    obtain ⟨e, r, he, rfl, rfl, rfl⟩ := hrel
    by_cases hlt : e < q0
    · have hel : e < ext.length := by have := HQ0.out; omega
      obtain ⟨ge, hge, x0, x1⟩ := HXC.out e hel
      obtain ⟨e1, e2, e3⟩ := HST1.out _ (List.getElem_mem hel)
      have hdat := fun q hq => HAT.out e hel q hq
      have HSA := Lib.hid (ahd_succ ext hel)
      generalize ext[e].1 = pp at *
      generalize ext[e].2 = qq at *
      subst hge
      have HD := Lib.hid hdat
      have hei : (e : Int) < (q0 : Int) := by omega
      clear hdat
      go_wp2
      go_loopw [6, 9] (fun s i wr => ∃ t r : Nat, t ≤ qq ∧ i = .int .i64 t ∧ s = .string (pgT d (ahd ext e + t)) ∧ wr = W.drewN r) (fun _ i _ => qq - (intOf i).toNat)
      case atStart => exact ⟨0, r, Nat.zero_le _, rfl, rfl, rfl⟩
      case round =>
        obtain ⟨t, r, ht, rfl, rfl, rfl⟩ := hrel
        by_cases hlt2 : t < qq
        · have hpt : pp + t < L.length := by have := HM.out; omega
          have hS : W.cell? ⟨g, pp + t, none⟩ = some (.string (pageOf d (ahd ext e + t))) := by
            have h1 := HTX.out (pp + t) hpt
            have h2 := HD.out t hlt2
            rw [List.getElem?_eq_getElem hpt] at h2
            rw [h1, Option.some.inj h2]
          have happ := pgT_succ d (ahd ext e + t)
          have hsz2 := pgT_size d (ahd ext e + t)
          have hti : (t : Int) < (qq : Int) := by omega
          have hpm : pp + t < m := by have := HM.out; omega
          have w1 : IntKind.i64.wrap ((pp : Int) + (t : Int)) = (pp : Int) + (t : Int) := IntWalk.i64_in _ (by omega)
          have hpi : (pp : Int) + (t : Int) < (m : Int) := by omega
          have hS2 : W.cell? ⟨g, ((pp : Int) + (t : Int)).toNat, none⟩ = some (.string (pageOf d (ahd ext e + t))) := by rw [show ((pp : Int) + (t : Int)).toNat = pp + t by omega]; exact hS
          have hpz : (0 : Int) ≤ (pp : Int) + (t : Int) := by omega
          have HAPP := Lib.hid happ
          have hle : ahd ext e + t ≤ 16384 := by
            have h1 := HA3.out (e + 1)
            have h2 := HSA.out
            have h3 := HSB.out
            omega
          have hsp := pageOf_size d (ahd ext e + t)
          clear happ
          generalize pgT d (ahd ext e + t) = S0 at *
          generalize pageOf d (ahd ext e + t) = P0 at *
          obtain ⟨sk, hsk⟩ : ∃ sk, 64 * (ahd ext e + t) = sk := ⟨_, rfl⟩
          rw [hsk] at hsz2
          have hskb : sk ≤ 1048576 := by omega
          go_wp2_with fail
          go_quiet (fail)
          go_wp2
          go_roundw
          case rel => exact ⟨t + 1, _, by omega, by go_num, by rw [HAPP.out]; rfl, rfl⟩
          case measure => simp [intOf]; omega
        · obtain rfl : t = qq := by omega
          have hti : ¬ (t : Int) < (t : Int) := by omega
          go_wp2
          go_roundw
          case rel => exact ⟨e + 1, _, by omega, by go_num, by rw [HSA.out], rfl⟩
          case measure => simp [intOf]; omega
    · obtain rfl : e = q0 := by omega
      have hei : ¬ (e : Int) < (e : Int) := by omega
      have hall : ahd ext e = pgs d.size := by rw [← HQ0.out, HST3.out, HSZ.out]
      have hcut := pgT_all d
      have hsz2 := pgT_size d (pgs d.size)
      have hz := HSZ.out
      have hb := HSB.out
      rw [hall]
      have hup : d.size ≤ 64 * pgs d.size := by unfold pgs; omega
      have HCUT := Lib.hid hcut
      have HUP := Lib.hid hup
      clear hcut
      generalize pgT d (pgs d.size) = S0 at *
      have hn1 : W.cell? ⟨gv, k * 3 + 1, none⟩ = some (.int .i64 (d.size : Nat)) := by rw [n1, hz]
      have hz2 : d.size ≤ S0.size := by rw [hsz2]; exact hup
      have hz3 : (d.size : Int) ≤ (S0.size : Int) := by omega
      clear n1 hsz2 hup
      go_wp2
      go_ret2
      exact ⟨by rw [HCUT.out]; rfl, _, rfl⟩
set_option maxRecDepth 100000 in
set_option maxHeartbeats 4000000 in
theorem rpage_yes {W : World} {B g c used gp : Nat} {L : List ByteArray} {xs : List Ino} {val : Value} {vs : List Value} (h : RSb B W g c L used gp xs val vs) (ho : OnDisk ⟨L, 0, 0, 0⟩ used xs) (k : Nat) (hk : k < xs.length) (d : ByteArray) (hd : HasData ⟨L, 0, 0, 0⟩ xs[k] d) (q : Nat) (hq : q < pgs d.size) :
    Calls Tryd.prog 13 #[.pointer (some ⟨gp, 0, none⟩), .int .i64 (k : Int), .int .i64 (q : Int)] W fun e w' => e = .returned (.tuple #[.string (pageOf d q), .int .i64 0]) ∧ Below W.heap.size W w' := by
  have hsz : d.size ≤ 1048576 := by
    have h1 := (ho.fits _ (List.getElem_mem hk)).1.size
    have h2 := hd.size
    omega
  have HB := Lib.hid (rbytes_yes h ho k hk d hd)
  have HP := Lib.hid (fun v => rpages_any d.size v (by omega))
  have h64 : 64 * q ≤ d.size := by unfold pgs at hq; omega
  have hf := fun v => rfill_any (d.extract (64 * q) d.size) 64 v (by decide) (by rw [ByteArray.size_extract]; omega) (by decide)
  rw [fillS_page] at hf
  have HF := Lib.hid hf
  have q0 : ¬ (q : Int) < 0 := by omega
  have q1 : ¬ ((pgs d.size : Nat) : Int) ≤ (q : Int) := by omega
  have q2 : decide ((q : Int) < 0) = false := decide_eq_false q0
  have q3 : decide (((pgs d.size : Nat) : Int) ≤ (q : Int)) = false := decide_eq_false q1
  have q4 : IntKind.i64.wrap (64 * (q : Int)) = ((64 * q : Nat) : Int) := by rw [IntWalk.i64_in _ (by omega)]; omega
  have q5 : ((64 * q : Nat) : Int) ≤ (d.size : Int) := by omega
  have q6 : (0 : Int) ≤ ((64 * q : Nat) : Int) := by omega
  have q7 : decide (pgs d.size ≤ q) = false := decide_eq_false (by omega)
  have hpg : pgs d.size ≤ 16384 := by unfold pgs; omega
  clear hf h ho hd
  go_enter Tryd.func13, Tryd.ntmps13
  go_wp2_with (first
    | (go_at_call 37; with_reducible refine HB.out.mono ?_; rintro e v1 ⟨rfl, r, rfl⟩)
    | (go_at_call 25; with_reducible refine (HP.out _).mono ?_; rintro e v2 ⟨rfl, rfl⟩)
    | (go_at_call 27; with_reducible refine (HF.out _).mono ?_; rintro e v3 ⟨rfl, hb3⟩))
  go_ret2
  exact ⟨rfl, (Below.drewN2 (Below.refl _ W) r).trans hb3⟩
end Go.Proofs.YtmbjflcmbenbdaaDoor
