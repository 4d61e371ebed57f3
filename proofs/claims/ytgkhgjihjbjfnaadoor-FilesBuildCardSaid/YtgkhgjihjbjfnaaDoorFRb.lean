/- The reference of layer 4: cuts, inode. -/
import Derived.Test.YtgkhgjihjbjfnaaDoorFRa
namespace Go.Proofs.YtgkhgjihjbjfnaaDoor
open Go.RowKit Go.Shelf
set_option linter.unusedVariables false
set_option linter.unusedSimpArgs false

theorem infoIntb : (Tryd.prog.info? 3).map (fun i => (i.zero, i.size, i.bytes)) = some (some (.int .i64 0), 1, 8) := by kernel_rfl
theorem intCells_snoc (l : List Nat) (x : Nat) : intCells (l ++ [x]) = intCells l ++ [.int .i64 (x : Int)] := by simp [intCells]
/-- What was cut. -/
def CutTold (w : World) (L : List Nat) (e : Ending) (w' : World) : Prop := ∃ A c, e = .returned (.slice A L.length c) ∧ w'.ownsRow w.heap.size 3 1 (.slice A L.length c) L.length (intCells L) ∧ Below w.heap.size w w'
set_option maxRecDepth 100000 in
set_option maxHeartbeats 1600000 in
theorem rcuts_any (n s : Nat) (w : World) (hn : n ≤ 1000000000000) (h1 : 1 ≤ s) (hs : (Lit.int .i64 s).wf = true) : Calls Tryd.prog 30 #[.int .i64 n, .int .i64 s] w (CutTold w (cutsL n s)) := by
  obtain ⟨_, _⟩ := bounds_i64 hs
  obtain ⟨i0, hi, hz0, hz1, hz2⟩ := info_parts infoIntb
  unfold CutTold
  obtain ⟨L, hL⟩ : ∃ L, cutsL n s = L := ⟨_, rfl⟩
  rw [hL]
  have hL0 : L = [] ++ cutF s 3 n := hL.symm
  have HL0 := Lib.hid hL0
  clear hL hL0 hs
  go_enter Tryd.func30, Tryd.ntmps30
  go_wp2
  go_loopw [0, 5] (fun v0 out wr => ∃ (f rest : Nat) (pre : List Nat), f ≤ 3 ∧ pre.length + f = 3 ∧ rest ≤ n ∧ v0 = .int .i64 rest ∧ Hid (L = pre ++ cutF s f rest) ∧ wr.ownsRow w.heap.size 3 1 out pre.length (intCells pre) ∧ Below w.heap.size w wr) (fun v0 _ _ => (intOf v0).toNat)
  case atStart => exact ⟨3, n, [], Nat.le_refl _, rfl, Nat.le_refl _, rfl, HL0, ⟨rfl, .inl ⟨rfl, rfl⟩⟩, Below.refl _ _⟩
  case round =>
    obtain ⟨f, rest, pre, hf, hpf, hrest, rfl, hL, hown, hB⟩ := hrel
    obtain ⟨A', c', rfl⟩ := own_slice2 hown
    have HOWN := Lib.hid hown
    have HB := Lib.hid hB
    have hsz := hB.size
    clear hown hB HL0
    obtain ⟨m, hm⟩ : ∃ m, pre.length = m := ⟨_, rfl⟩
    rw [hm] at hpf HOWN ⊢
    have HM := Lib.hid hm
    clear hm
    by_cases hr0 : 0 < rest
    · by_cases hm3 : m < 3
      · obtain ⟨f', rfl⟩ : ∃ f', f = f' + 1 := ⟨f - 1, by omega⟩
        by_cases hgt : s < rest
        · have HN := Lib.hid (show L = (pre ++ [s]) ++ cutF s f' (rest - s) by
            rw [hL.out, cutF, if_pos hr0, show min rest s = s by omega]; simp)
          clear hL
          go_wp2_with (at_builtin; go_loud (refine wpList_append_own _ rfl _ _ 23 rfl w.heap.size 3 i0 _ 1 8 Tryd.underlying23 hi hz0 hz1 hz2 rfl (by decide) _ _ _ rfl (HOWN.out.alloc _) ⟨wr.heap.size, 0, none⟩ 1 1 [.int .i64 s] rfl (by rfl) (fun j u hj => by rw [show (⟨wr.heap.size, 0, none⟩ : Addr).add j = ⟨wr.heap.size, j, none⟩ by unfold Addr.add; split <;> simp_all]; exact (Blk.new wr _ _).at_ j u (by simpa using hj)) (fun u hu => by simp at hu; subst hu; rfl) (by unfold maxLen; omega) (by omega) (by simp; omega) ?_; intro v' w1 hown1 hgrow1 _; have HOWN1 := Lib.hid hown1; have HG1 := Lib.hid hgrow1; clear hown1 hgrow1))
          go_roundw
          case rel => exact ⟨f', rest - s, pre ++ [s], by omega, by rw [List.length_append, HM.out]; simp; omega, by omega, by go_num, HN, by rw [List.length_append, HM.out, intCells_snoc]; exact HOWN1.out, (HB.out.alloc HB.out.size _).grown HG1.out (by simp; omega) (fun k hk => own_ge HOWN.out hk)⟩
          case measure => simp [intOf]; omega
        · have HN := Lib.hid (show L = (pre ++ [rest]) ++ cutF s f' (rest - rest) by
            rw [hL.out, cutF, if_pos hr0, show min rest s = rest by omega]; simp)
          clear hL
          go_wp2_with (at_builtin; go_loud (refine wpList_append_own _ rfl _ _ 23 rfl w.heap.size 3 i0 _ 1 8 Tryd.underlying23 hi hz0 hz1 hz2 rfl (by decide) _ _ _ rfl (HOWN.out.alloc _) ⟨wr.heap.size, 0, none⟩ 1 1 [.int .i64 rest] rfl (by rfl) (fun j u hj => by rw [show (⟨wr.heap.size, 0, none⟩ : Addr).add j = ⟨wr.heap.size, j, none⟩ by unfold Addr.add; split <;> simp_all]; exact (Blk.new wr _ _).at_ j u (by simpa using hj)) (fun u hu => by simp at hu; subst hu; rfl) (by unfold maxLen; omega) (by omega) (by simp; omega) ?_; intro v' w1 hown1 hgrow1 _; have HOWN1 := Lib.hid hown1; have HG1 := Lib.hid hgrow1; clear hown1 hgrow1))
          go_roundw
          case rel => exact ⟨f', rest - rest, pre ++ [rest], by omega, by rw [List.length_append, HM.out]; simp; omega, by omega, by simp, HN, by rw [List.length_append, HM.out, intCells_snoc]; exact HOWN1.out, (HB.out.alloc HB.out.size _).grown HG1.out (by simp; omega) (fun k hk => own_ge HOWN.out hk)⟩
          case measure => simp [intOf]; omega
      · obtain rfl : f = 0 := by omega
        have HN := Lib.hid (show L = pre ++ [rest] by rw [hL.out, cutF, if_pos hr0])
        clear hL
        go_wp2_with (at_builtin; go_loud (refine wpList_append_own _ rfl _ _ 23 rfl w.heap.size 3 i0 _ 1 8 Tryd.underlying23 hi hz0 hz1 hz2 rfl (by decide) _ _ _ rfl (HOWN.out.alloc _) ⟨wr.heap.size, 0, none⟩ 1 1 [.int .i64 rest] rfl (by rfl) (fun j u hj => by rw [show (⟨wr.heap.size, 0, none⟩ : Addr).add j = ⟨wr.heap.size, j, none⟩ by unfold Addr.add; split <;> simp_all]; exact (Blk.new wr _ _).at_ j u (by simpa using hj)) (fun u hu => by simp at hu; subst hu; rfl) (by unfold maxLen; omega) (by omega) (by simp; omega) ?_; intro v' w1 hown1 hgrow1 _; obtain ⟨A2, c2, rfl⟩ := own_slice2 hown1; have HOWN1 := Lib.hid hown1; have HG1 := Lib.hid hgrow1; clear hown1 hgrow1))
        go_ret
        have hl : L.length = m + 1 := by rw [HN.out, List.length_append, HM.out]; rfl
        exact ⟨A2, c2, by rw [hl]; rfl, by rw [hl]; rw [HN.out, intCells_snoc]; exact HOWN1.out, (HB.out.alloc HB.out.size _).grown HG1.out (by simp; omega) (fun k hk => own_ge HOWN.out hk)⟩
    · obtain rfl : rest = 0 := by omega
      have HN := Lib.hid (show L = pre by
        rw [hL.out]
        cases f <;> simp [cutF])
      clear hL
      have hl : L.length = m := by rw [HN.out, HM.out]
      have HLn := Lib.hid hl
      clear hl
      by_cases hm3 : m < 3
      · go_wp2
        go_ret
        exact ⟨A', c', by rw [HLn.out]; rfl, by rw [HLn.out, HN.out]; exact HOWN.out, HB.out⟩
      · go_wp2
        go_ret
        exact ⟨A', c', by rw [HLn.out]; rfl, by rw [HLn.out, HN.out]; exact HOWN.out, HB.out⟩
end Go.Proofs.YtgkhgjihjbjfnaaDoor
