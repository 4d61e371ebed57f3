/- The reference of layer 4: Check, pages, head; same. -/
import Derived.Test.YtmbjflcmbenbdaaDoorFU
import Derived.Test.YtmbjflcmbenbdaaDoorOctE
import Derived.BigQuiet
import Derived.Deep.QuietTactic
import Derived.Deep.RegionHeld3
namespace Go.Proofs.YtmbjflcmbenbdaaDoor
open Go.RowKit Go.Shelf
set_option linter.unusedVariables false
set_option linter.unusedSimpArgs false

set_option maxHeartbeats 800000 in
theorem rcheck_any (s : ByteArray) (w : World) (hs : s.size ≤ maxLen) : Calls Tryd.prog 24 #[.string s] w fun e w' => e = .returned (.bool (nameOk s)) ∧ w = w' := by
  unfold maxLen at hs
  obtain ⟨ok, hok⟩ : ∃ ok, nameOk s = ok := ⟨_, rfl⟩
  rw [hok]
  have HOK := Lib.hid hok
  clear hok
  go_enter Tryd.func24, Tryd.ntmps24
  go_wp2
  go_loop [3] (fun i => ∃ k : Nat, k ≤ s.size ∧ i = .int .i64 k ∧ Hid (∀ j (h : j < s.size), j < k → s[j] ≠ 0)) (fun i => s.size - (intOf i).toNat)
  case atStart => exact ⟨0, Nat.zero_le _, rfl, Lib.hid (fun j _ h => by omega)⟩
  case round =>
    obtain ⟨k, hk, rfl, hno⟩ := hrel
    by_cases hlt : k < s.size
    · by_cases hz : s[k] = 0
      · have hbad : ok = false := by
          rw [← HOK.out]
          have hmem : (0 : UInt8) ∈ s.data.toList := by
            rw [← hz, ByteArray.getElem_eq_getElem_data]
            exact Array.mem_toList_iff.2 (Array.getElem_mem _)
          simp [nameOk, hmem]
        have hx : (((s[k]).toNat : Int) == 0) = true := by rw [hz]; rfl
        clear hz
        subst hbad
        go_wp2
        go_ret
        exact ⟨rfl, rfl⟩
      · have hx : (((s[k]).toNat : Int) == 0) = false := by
          have h2 : (s[k]).toNat ≠ 0 := fun e => hz (UInt8.toNat_inj.1 (by simpa using e))
          simpa using h2
        have HN := Lib.hid (fun j (h : j < s.size) (hj : j < k + 1) => show s[j] ≠ 0 from by
          rcases Nat.lt_or_ge j k with h1 | h1
          · exact hno.out j h h1
          · have : j = k := by omega
            subst this
            exact hz)
        clear hz
        go_wp2
        go_round
        case rel => exact ⟨k + 1, by omega, by go_num, Lib.hid HN.out⟩
        case measure => simp [intOf]; omega
    · obtain rfl : k = s.size := by omega
      have hmem : (0 : UInt8) ∉ s.data.toList := fun hm => by
        obtain ⟨j, hj, e⟩ := List.getElem_of_mem hm
        have hj' : j < s.size := by rw [← len_data]; exact hj
        exact hno.out j hj' hj' (by rw [ByteArray.getElem_eq_getElem_data]; simpa using e)
      by_cases h1 : 1 ≤ s.size
      · by_cases h2 : s.size ≤ 24
        · have e : ok = true := by rw [← HOK.out]; exact nameOk_iff.2 ⟨h1, h2, hmem⟩
          subst e
          have hd : decide ((s.size : Int) ≤ 24) = true := decide_eq_true (by omega)
          clear hmem
          go_wp2
          go_ret
          exact ⟨rfl, rfl⟩
        · have e : ok = false := by rw [← HOK.out]; simp [nameOk, h2]
          subst e
          have hd : decide ((s.size : Int) ≤ 24) = false := decide_eq_false (by omega)
          clear hmem
          go_wp2
          go_ret
          exact ⟨rfl, rfl⟩
      · have e : ok = false := by rw [← HOK.out]; simp [nameOk, h1]
        subst e
        clear hmem
        go_wp2
        go_ret
        exact ⟨rfl, rfl⟩
set_option maxHeartbeats 400000 in
theorem rpages_any (n : Nat) (w : World) (hn : n ≤ 1000000000000) : Calls Tryd.prog 25 #[.int .i64 n] w fun e w' => e = .returned (.int .i64 (pgs n)) ∧ w = w' := by
  have e : ((pgs n : Nat) : Int) = ((n : Int) + 63) / 64 := by unfold pgs; omega
  rw [e]
  clear e
  go_enter Tryd.func25, Tryd.ntmps25
  go_wp2
  go_ret
  exact ⟨rfl, rfl⟩
set_option maxHeartbeats 800000 in
theorem rhead_any (c u : Nat) (w : World) (hc : c ≤ 1000000000000) (hu : u ≤ 1000000000000) :
    Calls Tryd.prog 28 #[.int .i64 c, .int .i64 u] w fun e w' => e = .returned (.string (headS c u)) ∧ Below w.heap.size w w' := by
  have h1 := fun w => rput_any c 2 w (wf_u64b (by omega)) (by decide)
  have h2 := fun w => rput_any u 4 w (wf_u64b (by omega)) (by decide)
  simp only [Int.toNat_natCast, show wide 2 = 2 by decide, show wide 4 = 4 by decide] at h1 h2
  have s1 : (mkb (putL c 2)).size = 2 := by rw [mkb_size, putL_length]
  have s2 : (mkb (putL u 4)).size = 4 := by rw [mkb_size, putL_length]
  have s3 : ((⟨#[70, 76, 89, 49]⟩ : ByteArray) ++ mkb (putL c 2)).size = 6 := by rw [ByteArray.size_append, s1]; rfl
  have hcat : ((⟨#[70, 76, 89, 49]⟩ : ByteArray) ++ mkb (putL c 2)) ++ mkb (putL u 4) = mkb (headL c u) := by
    show (mkb [70, 76, 89, 49] ++ _) ++ _ = _
    rw [mkb_append, mkb_append]
    rfl
  have h3 := fun w => rfill_any (((⟨#[70, 76, 89, 49]⟩ : ByteArray) ++ mkb (putL c 2)) ++ mkb (putL u 4)) 64 w (by decide) (by rw [ByteArray.size_append, s3, s2]; decide) (by decide)
  have hfs : fillS (((⟨#[70, 76, 89, 49]⟩ : ByteArray) ++ mkb (putL c 2)) ++ mkb (putL u 4)) 64 = headS c u := by
    rw [hcat]
    unfold fillS headS
    rw [if_neg (by decide), mkb_data]
    rfl
  rw [hfs] at h3
  generalize headS c u = HS at *
  generalize mkb (putL c 2) = P at *
  generalize mkb (putL u 4) = U at *
  have H1 := Lib.hid h1
  have H2 := Lib.hid h2
  have H3 := Lib.hid h3
  have hB := Below.refl w.heap.size w
  have w1 := u64w hc
  have w2 := u64w hu
  clear h1 h2 hcat h3 hfs
  go_enter Tryd.func28, Tryd.ntmps28
  go_wp2_with (first
    | (go_at_call 50; with_reducible refine (H1.out _).mono ?_; rintro e v1 ⟨rfl, hb⟩; replace hB := hB.trans (hb.mono hB.size); clear hb)
    | (go_at_call 50; with_reducible refine (H2.out _).mono ?_; rintro e v2 ⟨rfl, hb⟩; replace hB := hB.trans (hb.mono hB.size); clear hb)
    | (go_at_call 27; with_reducible refine (H3.out _).mono ?_; rintro e v3 ⟨rfl, hb⟩; replace hB := hB.trans (hb.mono hB.size); clear hb))
  go_ret
  exact ⟨rfl, hB⟩

/-- The slice A holds these texts. -/
def TextRow (w : World) (v : Value) (L : List ByteArray) : Prop := ∃ g c cur, v = .slice (some ⟨g, 0, none⟩) L.length c ∧ Blk w g 9 cur ∧ cur.toList.take L.length = strs L
theorem TextRow.at_ {w : World} {g n c : Nat} {L : List ByteArray} (h : TextRow w (.slice (some ⟨g, 0, none⟩) n c) L) (k : Nat) (hk : k < L.length) : w.cell? ⟨g, k, none⟩ = some (.string L[k]) := by
  obtain ⟨g', c', cur, hv, hb, ht⟩ := h
  injection hv with h1 h2 h3
  cases h1
  have h4 : (strs L)[k]? = some (.string L[k]) := by unfold strs; rw [List.getElem?_map, List.getElem?_eq_getElem hk]; rfl
  rw [← ht, List.getElem?_take, if_pos hk] at h4
  exact hb.at_ _ _ (by simpa using h4)
end Go.Proofs.YtmbjflcmbenbdaaDoor

/- The reference of layer 4: cuts, inode. -/
namespace Go.Proofs.YtmbjflcmbenbdaaDoor
open Go.RowKit Go.Shelf
set_option linter.unusedVariables false
set_option linter.unusedSimpArgs false

theorem infoIntb : (Tryd.prog.info? 3).map (fun i => (i.zero, i.size, i.bytes)) = some (some (.int .i64 0), 1, 8) := by kernel_rfl
theorem intCells_snoc (l : List Nat) (x : Nat) : intCells (l ++ [x]) = intCells l ++ [.int .i64 (x : Int)] := by simp [intCells]
/-- What was cut. -/
def CutTold (w : World) (L : List Nat) (e : Ending) (w' : World) : Prop := ∃ A c, e = .returned (.slice A L.length c) ∧ w'.ownsRow w.heap.size 3 1 (.slice A L.length c) L.length (intCells L) ∧ Below w.heap.size w w'
set_option maxRecDepth 100000 in
set_option maxHeartbeats 1600000 in
theorem rcuts_any (n s : Nat) (w : World) (hn : n ≤ 1000000000000) (h1 : 1 ≤ s) (hs : (Lit.int .i64 s).wf = true) : Calls Tryd.prog 26 #[.int .i64 n, .int .i64 s] w (CutTold w (cutsL n s)) := by
  obtain ⟨_, _⟩ := bounds_i64 hs
  obtain ⟨i0, hi, hz0, hz1, hz2⟩ := info_parts infoIntb
  unfold CutTold
  obtain ⟨L, hL⟩ : ∃ L, cutsL n s = L := ⟨_, rfl⟩
  rw [hL]
  have hL0 : L = [] ++ cutF s 3 n := hL.symm
  have HL0 := Lib.hid hL0
  clear hL hL0 hs
  go_enter Tryd.func26, Tryd.ntmps26
  go_wp2
  go_loopw [0, 5] (fun v0 out wr => ∃ (f rest : Nat) (pre : List Nat), f ≤ 3 ∧ pre.length + f = 3 ∧ rest ≤ n ∧ v0 = .int .i64 rest ∧ Hid (L = pre ++ cutF s f rest) ∧ wr.ownsRow w.heap.size 3 1 out pre.length (intCells pre) ∧ Below w.heap.size w wr) (fun v0 _ _ => (intOf v0).toNat)
  case atStart => exact ⟨3, n, [], Nat.le_refl _, rfl, Nat.le_refl _, rfl, HL0, ⟨rfl, .inl ⟨rfl, rfl⟩⟩, Below.refl _ _⟩
  case round =>
    obtain ⟨f, rest, pre, hf, hpf, hrest, rfl, hL, hown, hB⟩ := hrel
    obtain ⟨A', c', rfl⟩ := own_slice2 hown
    have HOWN := Lib.hid hown
    have HB := Lib.hid hB
    have hsz := hB.size
    clear hown hB HL0
    obtain ⟨m, hm⟩ : ∃ m, pre.length = m := ⟨_, rfl⟩
    rw [hm] at hpf HOWN ⊢
    have HM := Lib.hid hm
    clear hm
    by_cases hr0 : 0 < rest
    · by_cases hm3 : m < 3
      · obtain ⟨f', rfl⟩ : ∃ f', f = f' + 1 := ⟨f - 1, by omega⟩
        by_cases hgt : s < rest
        · have HN := Lib.hid (show L = (pre ++ [s]) ++ cutF s f' (rest - s) by
            rw [hL.out, cutF, if_pos hr0, show min rest s = s by omega]; simp)
          clear hL
          go_wp2_with (at_builtin; go_loud (refine wpList_append_own _ rfl _ _ 22 rfl w.heap.size 3 i0 _ 1 8 Tryd.underlying22 hi hz0 hz1 hz2 rfl (by decide) _ _ _ rfl (HOWN.out.alloc _) ⟨wr.heap.size, 0, none⟩ 1 1 [.int .i64 s] rfl (by rfl) (fun j u hj => by rw [show (⟨wr.heap.size, 0, none⟩ : Addr).add j = ⟨wr.heap.size, j, none⟩ by unfold Addr.add; split <;> simp_all]; exact (Blk.new wr _ _).at_ j u (by simpa using hj)) (fun u hu => by simp at hu; subst hu; rfl) (by unfold maxLen; omega) (by omega) (by simp; omega) ?_; intro v' w1 hown1 hgrow1 _; have HOWN1 := Lib.hid hown1; have HG1 := Lib.hid hgrow1; clear hown1 hgrow1))
          go_roundw
          case rel => exact ⟨f', rest - s, pre ++ [s], by omega, by rw [List.length_append, HM.out]; simp; omega, by omega, by go_num, HN, by rw [List.length_append, HM.out, intCells_snoc]; exact HOWN1.out, (HB.out.alloc HB.out.size _).grown HG1.out (by simp; omega) (fun k hk => own_ge HOWN.out hk)⟩
          case measure => simp [intOf]; omega
        · have HN := Lib.hid (show L = (pre ++ [rest]) ++ cutF s f' (rest - rest) by
            rw [hL.out, cutF, if_pos hr0, show min rest s = rest by omega]; simp)
          clear hL
          go_wp2_with (at_builtin; go_loud (refine wpList_append_own _ rfl _ _ 22 rfl w.heap.size 3 i0 _ 1 8 Tryd.underlying22 hi hz0 hz1 hz2 rfl (by decide) _ _ _ rfl (HOWN.out.alloc _) ⟨wr.heap.size, 0, none⟩ 1 1 [.int .i64 rest] rfl (by rfl) (fun j u hj => by rw [show (⟨wr.heap.size, 0, none⟩ : Addr).add j = ⟨wr.heap.size, j, none⟩ by unfold Addr.add; split <;> simp_all]; exact (Blk.new wr _ _).at_ j u (by simpa using hj)) (fun u hu => by simp at hu; subst hu; rfl) (by unfold maxLen; omega) (by omega) (by simp; omega) ?_; intro v' w1 hown1 hgrow1 _; have HOWN1 := Lib.hid hown1; have HG1 := Lib.hid hgrow1; clear hown1 hgrow1))
          go_roundw
          case rel => exact ⟨f', rest - rest, pre ++ [rest], by omega, by rw [List.length_append, HM.out]; simp; omega, by omega, by simp, HN, by rw [List.length_append, HM.out, intCells_snoc]; exact HOWN1.out, (HB.out.alloc HB.out.size _).grown HG1.out (by simp; omega) (fun k hk => own_ge HOWN.out hk)⟩
          case measure => simp [intOf]; omega
      · obtain rfl : f = 0 := by omega
        have HN := Lib.hid (show L = pre ++ [rest] by rw [hL.out, cutF, if_pos hr0])
        clear hL
        go_wp2_with (at_builtin; go_loud (refine wpList_append_own _ rfl _ _ 22 rfl w.heap.size 3 i0 _ 1 8 Tryd.underlying22 hi hz0 hz1 hz2 rfl (by decide) _ _ _ rfl (HOWN.out.alloc _) ⟨wr.heap.size, 0, none⟩ 1 1 [.int .i64 rest] rfl (by rfl) (fun j u hj => by rw [show (⟨wr.heap.size, 0, none⟩ : Addr).add j = ⟨wr.heap.size, j, none⟩ by unfold Addr.add; split <;> simp_all]; exact (Blk.new wr _ _).at_ j u (by simpa using hj)) (fun u hu => by simp at hu; subst hu; rfl) (by unfold maxLen; omega) (by omega) (by simp; omega) ?_; intro v' w1 hown1 hgrow1 _; obtain ⟨A2, c2, rfl⟩ := own_slice2 hown1; have HOWN1 := Lib.hid hown1; have HG1 := Lib.hid hgrow1; clear hown1 hgrow1))
        go_ret
        have hl : L.length = m + 1 := by rw [HN.out, List.length_append, HM.out]; rfl
        exact ⟨A2, c2, by rw [hl]; rfl, by rw [hl]; rw [HN.out, intCells_snoc]; exact HOWN1.out, (HB.out.alloc HB.out.size _).grown HG1.out (by simp; omega) (fun k hk => own_ge HOWN.out hk)⟩
    · obtain rfl : rest = 0 := by omega
      have HN := Lib.hid (show L = pre by
        rw [hL.out]
        cases f <;> simp [cutF])
      clear hL
      have hl : L.length = m := by rw [HN.out, HM.out]
      have HLn := Lib.hid hl
      clear hl
      by_cases hm3 : m < 3
      · go_wp2
        go_ret
        exact ⟨A', c', by rw [HLn.out]; rfl, by rw [HLn.out, HN.out]; exact HOWN.out, HB.out⟩
      · go_wp2
        go_ret
        exact ⟨A', c', by rw [HLn.out]; rfl, by rw [HLn.out, HN.out]; exact HOWN.out, HB.out⟩
end Go.Proofs.YtmbjflcmbenbdaaDoor

/- The reference of layer 4: inode. -/
namespace Go.Proofs.YtmbjflcmbenbdaaDoor
open Go.RowKit Go.Shelf
set_option linter.unusedVariables false
set_option linter.unusedSimpArgs false

set_option maxRecDepth 100000 in
set_option maxHeartbeats 3200000 in
theorem rinode_any (x : Ino) (v : Value) (w : World) (hn : x.name.size ≤ 1000000) (hz : x.size ≤ 1000000000000) (hsm : SmallE x.ext) (hv : ExtRow w v x.ext) :
    Calls Tryd.prog 29 #[inoV x v] w fun e w' => e = .returned (.string (inoS x)) ∧ Below w.heap.size w w' := by
  obtain ⟨nm, sz, xs⟩ := x
  obtain ⟨A, c, rfl⟩ := hv.slice
  simp only [inoV] at *
  have hl := hsm.1
  have h1 := fun w => rfill_any nm 24 w (by decide) (by omega) (by omega)
  have h2 := fun w => rput_any sz 4 w (wf_u64b (by omega)) (by decide)
  have h3 := fun w => rput_any xs.length 2 w (wf_u64b (by omega)) (by decide)
  have hp : ∀ n w, n ≤ 1000000000000 → Calls Tryd.prog 50 #[.int .u64 (n : Nat), .int .i64 2] w fun e w' => e = .returned (.string (mkb (putL n 2))) ∧ Below w.heap.size w w' := fun n w hn => by
    have h := rput_any n 2 w (wf_u64b (by omega)) (by decide)
    simpa only [Int.toNat_natCast, show wide 2 = 2 by decide] using h
  have h6 := fun w => rfill_any (mkb (inoL ⟨nm, sz, xs⟩)) 64 w (by decide) (by rw [mkb_size]; simp only [inoL, List.length_append, inoBase_length, extT_length]; omega) (by decide)
  have hfs : fillS (mkb (inoL ⟨nm, sz, xs⟩)) 64 = inoS ⟨nm, sz, xs⟩ := by
    unfold fillS inoS
    rw [if_neg (by decide), mkb_data]
    rfl
  rw [hfs] at h6
  simp only [Int.toNat_natCast, show wide 2 = 2 by decide, show wide 4 = 4 by decide, fillS, show ¬ ((24 : Int) < 0) by decide, if_false, show (24 : Int).toNat = 24 from rfl] at h1 h2 h3
  have s1 : (mkb (fillL nm.data.toList 24)).size = 24 := by rw [mkb_size, fillL_length]
  have s2 : (mkb (putL sz 4)).size = 4 := by rw [mkb_size, putL_length]
  have s3 : (mkb (putL xs.length 2)).size = 2 := by rw [mkb_size, putL_length]
  have s4 : (mkb (fillL nm.data.toList 24) ++ mkb (putL sz 4)).size = 28 := by rw [ByteArray.size_append, s1, s2]
  have hcat : (mkb (fillL nm.data.toList 24) ++ mkb (putL sz 4)) ++ mkb (putL xs.length 2) = mkb (inoBase ⟨nm, sz, xs⟩) := by
    rw [mkb_append, mkb_append]
    rfl
  generalize mkb (fillL nm.data.toList 24) = F at *
  generalize mkb (putL sz 4) = P at *
  generalize mkb (putL xs.length 2) = U at *
  generalize inoS ⟨nm, sz, xs⟩ = IS at *
  have H1 := Lib.hid h1
  have H2 := Lib.hid h2
  have H3 := Lib.hid h3
  have H6 := Lib.hid h6
  have HV := Lib.hid hv
  have hB := (Below.refl w.heap.size w).alloc (Nat.le_refl _) (.cells #[.string nm, .int .i64 sz, .slice A xs.length c] 67)
  have hb := Blk.new w 67 #[.string nm, .int .i64 sz, .slice A xs.length c]
  have w1 := u64w hz
  have w2 : IntKind.u64.wrap (xs.length : Int) = xs.length := u64w (by omega)
  clear h1 h2 h3 hv h6 hfs
  go_enter Tryd.func29, Tryd.ntmps29
  go_wp2
  generalize w.alloc (.cells #[.string nm, .int .i64 sz, .slice A xs.length c] 67) = W at *
  obtain ⟨bb, hbb⟩ : ∃ bb, w.heap.size = bb := ⟨_, rfl⟩
  have hBw := hB
  rw [hbb] at hb hB ⊢
  have n1 := hb.drew
  have n2 := hB.drew
  have n3 := hb.drew.at_ 0 _ rfl
  have n4 := hb.drew.at_ 1 _ rfl
  have n5 := hb.drew.at_ 2 _ rfl
  clear hBw
  go_region_held3 (fun w' => w'.cell? ⟨bb, 0, none⟩ = some (.string nm) ∧ w'.cell? ⟨bb, 1, none⟩ = some (.int .i64 sz) ∧ w'.cell? ⟨bb, 2, none⟩ = some (.slice A xs.length c) ∧ Hid (Blk w' bb 67 #[.string nm, .int .i64 sz, .slice A xs.length c]) ∧ Hid (Below bb w w'))
    (first | exact ⟨n3, n4, n5, n1, n2⟩)
    (first
    | (go_at_call 27; with_reducible refine (H1.out _).mono ?_; rintro e v1 ⟨rfl, hb⟩; rcases ‹(_ : Prop) ∧ _ ∧ _ ∧ Hid _ ∧ Hid _› with ⟨-, -, -, kb, kB⟩; clear n1 n2 n3 n4 n5; have n1 := kb.out.below hb kb.out.lt; have n2 := kB.out.trans (hb.mono (by have := kB.out.size; omega)); have n3 := n1.at_ 0 _ rfl; have n4 := n1.at_ 1 _ rfl; have n5 := n1.at_ 2 _ rfl; clear hb kb kB)
    | (go_at_call 50; with_reducible refine (H2.out _).mono ?_; rintro e v1 ⟨rfl, hb⟩; rcases ‹(_ : Prop) ∧ _ ∧ _ ∧ Hid _ ∧ Hid _› with ⟨-, -, -, kb, kB⟩; clear n1 n2 n3 n4 n5; have n1 := kb.out.below hb kb.out.lt; have n2 := kB.out.trans (hb.mono (by have := kB.out.size; omega)); have n3 := n1.at_ 0 _ rfl; have n4 := n1.at_ 1 _ rfl; have n5 := n1.at_ 2 _ rfl; clear hb kb kB)
    | (go_at_call 50; with_reducible refine (H3.out _).mono ?_; rintro e v1 ⟨rfl, hb⟩; rcases ‹(_ : Prop) ∧ _ ∧ _ ∧ Hid _ ∧ Hid _› with ⟨-, -, -, kb, kB⟩; clear n1 n2 n3 n4 n5; have n1 := kb.out.below hb kb.out.lt; have n2 := kB.out.trans (hb.mono (by have := kB.out.size; omega)); have n3 := n1.at_ 0 _ rfl; have n4 := n1.at_ 1 _ rfl; have n5 := n1.at_ 2 _ rfl; clear hb kb kB))
  rcases ‹(_ : Prop) ∧ _ ∧ _ ∧ Hid _ ∧ Hid _› with ⟨-, -, q3, kb, kB⟩
  clear n1 n2 n3 n4 n5 hB hb s1 s2 s3 s4 hcat H1 H2 H3 w1 w2
  rename_i W1 _
  have KB := Lib.hid kB.out
  have KK := Lib.hid kb.out
  have HBB := Lib.hid hbb
  clear kb kB hbb
  go_wp2
  go_loopw [3, 4] (fun sv i wr => ∃ k : Nat, k ≤ xs.length ∧ i = .int .i64 k ∧ sv = .string (mkb (inoBase ⟨nm, sz, xs⟩ ++ (xs.take k).flatMap extT)) ∧ Blk wr bb 67 #[.string nm, .int .i64 sz, .slice A xs.length c] ∧ Below bb w wr) (fun _ i _ => xs.length - (intOf i).toNat)
  case atStart => exact ⟨0, Nat.zero_le _, rfl, by simp, KK.out, KB.out⟩
  case round =>
    obtain ⟨k, hk, rfl, rfl, hbr, hBr⟩ := hrel
    have b2 := hbr.at_ 2 _ rfl
    by_cases hlt : k < xs.length
    · rcases HV.out.below (by rw [HBB.out]; exact hBr) with ⟨_, h0⟩ | ⟨g, cap, cur, hA, hbg, hc⟩
      · rw [h0] at hlt; simp at hlt
      injection hA with hA _ hcap
      subst hA
      subst hcap
      have hm := List.getElem_mem hlt
      have hq1 := hsm.2.2 _ hm
      have hq2 : xs[k].2 ≤ 1000000000000 := by have := ahd_succ xs hlt; have := ahd_le xs (k + 1); have := hsm.2.1; omega
      have hcat : (mkb (inoBase ⟨nm, sz, xs⟩ ++ (xs.take k).flatMap extT) ++ mkb (putL xs[k].1 2)) ++ mkb (putL xs[k].2 2) = mkb (inoBase ⟨nm, sz, xs⟩ ++ (xs.take (k + 1)).flatMap extT) := by
        rw [mkb_append, mkb_append, List.take_succ_eq_append_getElem hlt, List.flatMap_append, List.append_assoc]
        simp [extT]
      have hs0 : (mkb (inoBase ⟨nm, sz, xs⟩ ++ (xs.take k).flatMap extT)).size ≤ 5000 := by
        rw [mkb_size, List.length_append, inoBase_length, extT_length, List.length_take]; omega
      have hs1 : (mkb (putL xs[k].1 2)).size = 2 := by rw [mkb_size, putL_length]
      have hs2 : (mkb (putL xs[k].2 2)).size = 2 := by rw [mkb_size, putL_length]
      have hs3 : ¬ 9223372036854775807 < (mkb (inoBase ⟨nm, sz, xs⟩ ++ (xs.take k).flatMap extT)).size + 2 := by omega
      have hs4 : ¬ 9223372036854775807 < (mkb (inoBase ⟨nm, sz, xs⟩ ++ (xs.take k).flatMap extT)).size + 2 + 2 := by omega
      have hs5 : ¬ 9223372036854775807 < (mkb (inoBase ⟨nm, sz, xs⟩ ++ (xs.take k).flatMap extT)).size + 4 := by omega
      have h1 := fun w => hp xs[k].1 w hq1
      have h2 := fun w => hp xs[k].2 w hq2
      have w1 := u64w hq1
      have w2 := u64w hq2
      have k0 : (0 : Int) ≤ (k : Int) := by omega
      have k1 : (k : Int) < (xs.length : Int) := by omega
      have HC := Lib.hid hcat
      have H1 := Lib.hid h1
      have H2 := Lib.hid h2
      have hcx : ∀ v, Blk v g 70 cur → v.cell? ⟨g, k * 2, none⟩ = some (.int .i64 (xs[k].1 : Nat)) ∧ v.cell? ⟨g, k * 2 + 1, none⟩ = some (.int .i64 (xs[k].2 : Nat)) := fun v hv => ext_cells hv hc hlt
      have n1 := hbr.drew
      have n2 := hBr.drew
      have n6 : Blk wr.drew g 70 cur := hbg
      obtain ⟨n3, n4⟩ := hcx wr.drew n6
      have n5 := hbr.drew.at_ 2 _ rfl
      have HCX := Lib.hid hcx
      clear hcat h1 h2 hp hm hbg hcx hc
      generalize mkb (inoBase ⟨nm, sz, xs⟩ ++ (xs.take k).flatMap extT) = Sk at *
      generalize mkb (putL xs[k].1 2) = P1 at *
      generalize mkb (putL xs[k].2 2) = P2 at *
      generalize xs[k].1 = pp at *
      generalize xs[k].2 = qq at *
      go_wp2
      go_region_held3 (fun w' => w'.cell? ⟨g, k * 2, none⟩ = some (.int .i64 (pp : Nat)) ∧ w'.cell? ⟨g, k * 2 + 1, none⟩ = some (.int .i64 (qq : Nat)) ∧ w'.cell? ⟨bb, 2, none⟩ = some (.slice (some ⟨g, 0, none⟩) xs.length c) ∧ Hid (Blk w' bb 67 #[.string nm, .int .i64 sz, .slice (some ⟨g, 0, none⟩) xs.length c]) ∧ Hid (Blk w' g 70 cur) ∧ Hid (Below bb w w'))
        (first | exact ⟨n3, n4, n5, n1, n6, n2⟩)
        (first
        | (go_at_call 50; with_reducible refine (H1.out _).mono ?_; rintro e v1 ⟨rfl, hb⟩; rcases ‹(_ : Prop) ∧ _ ∧ _ ∧ Hid _ ∧ Hid _ ∧ Hid _› with ⟨-, -, -, kb, kg, kB⟩; clear n1 n2 n3 n4 n5 n6; have n1 := kb.out.below hb kb.out.lt; have n6 := kg.out.below hb kg.out.lt; have n2 := kB.out.trans (hb.mono (by have := kB.out.size; have := HBB.out; omega)); have n3 := (HCX.out _ n6).1; have n4 := (HCX.out _ n6).2; have n5 := n1.at_ 2 _ rfl; clear hb kb kB kg)
        | (go_at_call 50; with_reducible refine (H2.out _).mono ?_; rintro e v1 ⟨rfl, hb⟩; rcases ‹(_ : Prop) ∧ _ ∧ _ ∧ Hid _ ∧ Hid _ ∧ Hid _› with ⟨-, -, -, kb, kg, kB⟩; clear n1 n2 n3 n4 n5 n6; have n1 := kb.out.below hb kb.out.lt; have n6 := kg.out.below hb kg.out.lt; have n2 := kB.out.trans (hb.mono (by have := kB.out.size; have := HBB.out; omega)); have n3 := (HCX.out _ n6).1; have n4 := (HCX.out _ n6).2; have n5 := n1.at_ 2 _ rfl; clear hb kb kB kg))
      all_goals
        rcases ‹(_ : Prop) ∧ _ ∧ _ ∧ Hid _ ∧ Hid _ ∧ Hid _› with ⟨-, -, -, kb, -, kB⟩
        go_wp2
        go_roundw
      case rel => exact ⟨k + 1, by omega, by go_num, by rw [HC.out], kb.out, kB.out⟩
      case measure => simp [intOf]; omega
    · obtain rfl : k = xs.length := by omega
      have e : mkb (inoBase ⟨nm, sz, xs⟩ ++ (xs.take xs.length).flatMap extT) = mkb (inoL ⟨nm, sz, xs⟩) := by rw [List.take_length]; rfl
      rw [e]
      clear hp
      go_wp2_with (go_at_call 27; with_reducible refine (H6.out _).mono ?_; rintro e v6 ⟨rfl, hb6⟩)
      go_ret
      exact ⟨rfl, by rw [HBB.out]; exact hBr.trans (hb6.mono (by have := hBr.size; have := HBB.out; omega))⟩
end Go.Proofs.YtmbjflcmbenbdaaDoor
