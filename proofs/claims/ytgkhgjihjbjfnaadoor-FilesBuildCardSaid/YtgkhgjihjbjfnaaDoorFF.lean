/- Package files: a file's own sector, read. -/
import Derived.Test.YtgkhgjihjbjfnaaDoorFE
import Derived.Laws.ResultCell
namespace Go.Proofs.YtgkhgjihjbjfnaaDoor
open Go.RowKit Go.Shelf
set_option linter.unusedVariables false
set_option linter.unusedSimpArgs false

/-- An inode whose numbers fit into its sector. -/
structure InoFits (x : Ino) : Prop where
  name : nameOk x.name = true
  size : x.size ≤ 1048576
  many : x.ext.length ≤ 4
  nums : ∀ e ∈ x.ext, e.1 < 65536 ∧ e.2 < 65536
theorem InoFits.small {x : Ino} (h : InoFits x) : SmallE x.ext := by
  refine ⟨by have := h.many; omega, ?_, fun e he => by have := (h.nums e he).1; omega⟩
  have key : ∀ l : List (Nat × Nat), (∀ e ∈ l, e.2 < 65536) → (l.map (·.2)).sum ≤ 65536 * l.length := by
    intro l
    induction l with
    | nil => intro _; simp
    | cons e l ih =>
      intro hl
      have h1 := hl e (by simp)
      have h2 := ih (fun e he => hl e (by simp [he]))
      simp only [List.map_cons, List.sum_cons, List.length_cons]
      omega
  have := key x.ext (fun e he => (h.nums e he).2)
  have := h.many
  omega
theorem inoL_length (x : Ino) : (inoL x).length = 30 + 4 * x.ext.length := by simp only [inoL, List.length_append, inoBase_length, extT_length]
/-- The bytes 0 behind. -/
def inoZ (x : Ino) : List UInt8 := List.replicate (64 - (inoL x).length) 0
theorem inoS_split {x : Ino} (h : InoFits x) : inoS x = mkb (inoL x ++ inoZ x) := by
  unfold inoS inoZ fillL
  have := inoL_length x
  have := h.many
  rw [List.take_of_length_le (by omega)]
theorem inoS_name {x : Ino} (h : InoFits x) : partS (inoS x) 0 24 = mkb (x.name.data.toList ++ List.replicate (24 - x.name.size) 0) := by
  have hn := (nameOk_iff.1 h.name).2.1
  have hi : inn 0 24 (inoS x).size = true := by rw [inoS_size]; decide
  unfold partS
  rw [hi, if_pos rfl, extract_mkb, inoS_split h, mkb_data]
  show mkb (List.take (0 + 24 - 0) (List.drop 0 _)) = _
  rw [List.drop_zero]
  unfold inoL inoBase
  rw [List.append_assoc, List.append_assoc, List.append_assoc, List.take_append_of_le_length (by rw [fillL_length]; omega), List.take_of_length_le (by rw [fillL_length]; omega)]
  unfold fillL
  rw [List.take_of_length_le (by rw [len_data]; omega), len_data]

set_option maxRecDepth 100000 in
theorem number_ino (x : Ino) (h : InoFits x) (w : World) (a b : List UInt8) (v W : Nat) (z zW : Int) (he : a ++ putL v W ++ b = inoL x ++ inoZ x) (h1 : 1 ≤ W) (h8 : W ≤ 4) (hv : v < 256 ^ W) (ha : z = a.length) (hW : zW = W) :
    Calls Tryd.prog 54 #[.string (inoS x), .int .i64 z, .int .i64 zW] w fun e w' => e = .returned (.int .i64 v) ∧ w = w' := by
  have hl := congrArg List.length he
  simp only [List.length_append, putL_length, inoL_length, inoZ, List.length_replicate] at hl
  have := h.many
  rw [inoS_split h, ← he]
  exact number_any a b v W w h1 h8 hv (by omega) z zW ha hW

theorem ext_split (l : List (Nat × Nat)) {k : Nat} (hk : k < l.length) : l.flatMap extT = (l.take k).flatMap extT ++ (putL l[k].1 2 ++ (putL l[k].2 2 ++ (l.drop (k + 1)).flatMap extT)) := by
  conv => lhs; rw [← List.take_append_drop k l, List.drop_eq_getElem_cons hk, List.flatMap_append, List.flatMap_cons]
  unfold extT
  rw [List.append_assoc (putL l[k].1 2)]
theorem Blk.not_row {W : World} {B : Nat} {t e : TypeId} {cs : Array Value} (h : Blk W B t cs) (hte : t ≠ e) {base size k : Nat} {v : Value} {xs : List Value} (hr : W.ownsRow base e size v k xs) : v.ownBlock ≠ some B := by
  rcases hr.2 with ⟨rfl, _⟩ | ⟨g, cap, cur, rfl, _, hgb, _⟩
  · simp [Value.ownBlock]
  · intro e'
    obtain rfl : g = B := by simpa [Value.ownBlock] using e'
    unfold Blk at h
    have := h.symm.trans hgb
    simp at this
    exact hte this.2

theorem grownBy_setc (w : World) (p : Addr) (u : Value) : w.grownBy (w.setCell p u) (some p.block) :=
  ⟨rfl, rfl, rfl, by simp [World.setCell], fun k _ hk => Below.heap_setCell _ _ _ _ (fun e => hk (by rw [e]))⟩
theorem own_far {w : World} {B e size n : Nat} {v : Value} {xs : List Value} (h : w.ownsRow B e size v n xs) {p : Addr} (hp : v.ownBlock ≠ some p.block) (u : Value) : (w.setCell p u).ownsRow B e size v n xs :=
  h.kept (grownBy_setc w p u) (.inr hp)

theorem results_cell_row_tmp {P : Program} {fn : Func} {p u : Tmp} {ty : TypeId} (h : fn.results = #[.cell p ty, .tmp u]) (tmps : Array Value) (w : World) (g : Nat) (t : TypeId) (cs : Array Value) (fr : Nat × Nat) (d : TypeDesc)
    (hp : tmps.getD p undef = .pointer (some ⟨g, 0, none⟩)) (hg : w.heap[g]? = some (.cells cs t fr))
    (hu : P.underlying ty = some d) (hd : (match d with | .struct _ | .array _ _ => true | _ => false) = true) (hi : (P.info? ty).map (·.size) = some cs.size) :
    (results fn tmps).run P w = .ok (.tuple #[.agg cs, tmps.getD u undef]) w := by
  rw [results_cell_tmp h, hp]
  show ((loadVar ty ⟨g, 0, none⟩).run P w).andThen _ = _
  rw [run_loadVar_row w g t ty cs fr d hg hu hd hi]
  rfl

/-- A file's own sector was read. -/
def ReadIno (w : World) (x : Ino) (e : Ending) (w' : World) : Prop :=
  ∃ v, e = .returned (.tuple #[inoV x v, .bool true]) ∧ ExtRow w' v x.ext ∧ (∀ g, v.ownBlock = some g → w.heap.size ≤ g) ∧ Below w.heap.size w w'

set_option maxRecDepth 100000 in
set_option maxHeartbeats 3200000 in
theorem readInode_any (x : Ino) (h : InoFits x) (w : World) : Calls Tryd.prog 37 #[.string (inoS x)] w (ReadIno w x) := by
  obtain ⟨hn1, hn2, hn3⟩ := nameOk_iff.1 h.name
  have hsm := h.small
  have hmany := h.many
  have hsz := h.size
  have q1 := fun w => number_ino x h w (fillL x.name.data.toList 24 ++ putL x.size 4) (x.ext.flatMap extT ++ inoZ x) x.ext.length 2 28 2 (by simp [inoL, inoBase]) (by omega) (by omega) (by omega) (by simp [fillL_length, putL_length]) rfl
  have q2 := fun w => number_ino x h w (fillL x.name.data.toList 24) (putL x.ext.length 2 ++ (x.ext.flatMap extT ++ inoZ x)) x.size 4 24 4 (by simp [inoL, inoBase]) (by omega) (by omega) (by omega) (by simp [fillL_length]) rfl
  have q3 : ∀ k (hk : k < x.ext.length) w, Calls Tryd.prog 54 #[.string (inoS x), .int .i64 (30 + 4 * (k : Int)), .int .i64 2] w fun e w' => e = .returned (.int .i64 (x.ext[k].1 : Nat)) ∧ w = w' := fun k hk w => by
    have hb := h.nums _ (List.getElem_mem hk)
    refine number_ino x h w (inoBase x ++ (x.ext.take k).flatMap extT) (putL x.ext[k].2 2 ++ ((x.ext.drop (k + 1)).flatMap extT ++ inoZ x)) x.ext[k].1 2 _ 2 ?_ (by omega) (by omega) (by omega) (by simp only [List.length_append, inoBase_length, extT_length, List.length_take, putL_length]; omega) rfl
    unfold inoL
    rw [ext_split x.ext hk]
    simp only [List.append_assoc]
  have q4 : ∀ k (hk : k < x.ext.length) w, Calls Tryd.prog 54 #[.string (inoS x), .int .i64 (30 + 4 * (k : Int) + 2), .int .i64 2] w fun e w' => e = .returned (.int .i64 (x.ext[k].2 : Nat)) ∧ w = w' := fun k hk w => by
    have hb := h.nums _ (List.getElem_mem hk)
    refine number_ino x h w (inoBase x ++ (x.ext.take k).flatMap extT ++ putL x.ext[k].1 2) ((x.ext.drop (k + 1)).flatMap extT ++ inoZ x) x.ext[k].2 2 _ 2 ?_ (by omega) (by omega) (by omega) (by simp only [List.length_append, inoBase_length, extT_length, List.length_take, putL_length]; omega) rfl
    unfold inoL
    rw [ext_split x.ext hk]
    simp only [List.append_assoc]
  have q5 := fun w => part_all (inoS x) 0 24 w (by decide) (by decide) (by rw [inoS_size]; omega)
  rw [inoS_name h, show inn 0 24 (inoS x).size = true by rw [inoS_size]; decide] at q5
  have q6 := fun w => trimRight_any x.name (24 - x.name.size) w hn3 hn1 (by omega)
  have q7 := fun v w (hv : ExtRow w v x.ext) => inodeText_any x v w (by omega) (by omega) hsm hv
  have q8 := fun w => fill_any (mkb (inoL x)) 64 w (by decide) (by rw [mkb_size, inoL_length]; omega) (by omega)
  have e8 : fillS (mkb (inoL x)) 64 = inoS x := by unfold fillS inoS; rw [if_neg (by decide), mkb_data]; rfl
  rw [e8] at q8
  clear e8 hn1 hn2 hn3
  generalize mkb (inoL x) = T at *
  generalize mkb (x.name.data.toList ++ List.replicate (24 - x.name.size) 0) = N24 at *
  generalize inoS x = S at *
  obtain ⟨nm, sz, xs⟩ := x
  simp only at *
  have Q1 := Lib.hid q1
  have Q2 := Lib.hid q2
  have Q3 := Lib.hid q3
  have Q4 := Lib.hid q4
  have Q5 := Lib.hid q5
  have Q6 := Lib.hid q6
  have Q7 := Lib.hid q7
  have Q8 := Lib.hid q8
  clear q1 q2 q3 q4 q5 q6 q7 q8 h
  have hR := Blk.new w 55 #[.string ⟨#[]⟩, .int .i64 0, .slice none 0 0]
  have hB := (Below.refl w.heap.size w).alloc (Nat.le_refl _) (.cells #[.string ⟨#[]⟩, .int .i64 0, .slice none 0 0] 55)
  go_enter Tryd.func37, Tryd.ntmps37
  go_wp2_with (first
    | (go_at_call 54; with_reducible refine (Q1.out _).mono ?_; rintro e v1 ⟨rfl, rfl⟩)
    | (go_at_call 54; with_reducible refine (Q2.out _).mono ?_; rintro e v1 ⟨rfl, rfl⟩)
    | (go_at_call 55; with_reducible refine (Q5.out _).mono ?_; rintro e v1 ⟨rfl, hb⟩; have hR := hR.below hb hR.lt; have hB := hB.trans (hb.mono hB.size); clear hb)
    | (go_at_call 56; with_reducible refine (Q6.out _).mono ?_; rintro e v1 ⟨rfl, rfl⟩))
  have hX := Blk.new v1 55 #[.string nm, .int .i64 sz, .slice none 0 0]
  have hR1 := hR.alloc (.cells #[.string nm, .int .i64 sz, .slice none 0 0] 55)
  have hB1 := hB.alloc hB.size (.cells #[.string nm, .int .i64 sz, .slice none 0 0] 55)
  have hbx : w.heap.size < v1.heap.size := hR.lt
  obtain ⟨bx, hbxe⟩ : ∃ bx, v1.heap.size = bx := ⟨_, rfl⟩
  rw [hbxe] at hX hbx ⊢
  clear hR hB
  generalize v1.alloc (.cells #[.string nm, .int .i64 sz, .slice none 0 0] 55) = W1 at *
  clear hbxe v1
  obtain ⟨i0, hi, hz0, hz1, hz2⟩ := info_parts infoExt
  go_loopw [26] (fun i wr => ∃ (k : Nat) (v : Value), k ≤ xs.length ∧ i = .int .i64 k ∧ Blk wr bx 55 #[.string nm, .int .i64 sz, v] ∧ wr.ownsRow w.heap.size 61 2 v k (extCells (xs.take k)) ∧ Blk wr w.heap.size 55 #[.string ⟨#[]⟩, .int .i64 0, .slice none 0 0] ∧ Below w.heap.size w wr) (fun i _ => xs.length - (intOf i).toNat)
  case atStart => exact ⟨0, _, Nat.zero_le _, rfl, hX, World.ownsRow_nil _ _ _ _, hR1, hB1⟩
  case round =>
    obtain ⟨k, v, hk, rfl, hX, hown, hR, hB⟩ := hrel
    by_cases hlt : k < xs.length
    · have n1 := Q3.out k hlt
      have n2 := Q4.out k hlt
      have hm := hsm.2.2 _ (List.getElem_mem hlt)
      have hcs : extCells (xs.take (k + 1)) = extCells (xs.take k) ++ [.int .i64 (xs[k].1 : Nat), .int .i64 (xs[k].2 : Nat)] := by
        rw [List.take_succ_eq_append_getElem hlt]
        exact extCells_snoc _ _ _
      have hne := hX.not_row (by decide) hown
      have hne2 := hR.not_row (by decide) hown
      have c2 := hX.at_ 2 _ rfl
      have f2 := hX.frozen 2
      have HCS := Lib.hid hcs
      have N1 := Lib.hid n1
      have N2 := Lib.hid n2
      have HX := Lib.hid hX
      have HO := Lib.hid hown
      have HR := Lib.hid hR
      have HB := Lib.hid hB
      have hsz1 := hB.size
      have hkm : k ≤ 3 := by omega
      have hwr : IntKind.i64.wrap (30 + 4 * (k : Int) + 2) = 30 + 4 * (k : Int) + 2 := IntWalk.i64_in _ (by omega)
      clear n1 n2 hm hcs hX hown hR hB
      generalize xs[k].1 = pp at *
      generalize xs[k].2 = qq at *
      have c2a := (HX.out.alloc (.cells #[.int .i64 (pp : Nat), .int .i64 (qq : Nat)] 61)).at_ 2 _ rfl
      go_wp2_with (fail)
      go_region_law (first
        | (go_simp; go_at_call 54; with_reducible refine (N1.out _).mono ?_; rintro e v5 ⟨rfl, rfl⟩)
        | (go_simp; go_at_call 54; with_reducible refine (N2.out _).mono ?_; rintro e v5 ⟨rfl, rfl⟩)
        | (go_loud (refine step_append_lies _ (by rfl) _ _ _ (by rfl) w.heap.size 61 i0 _ 2 16 Tryd.underlying53 hi hz0 hz1 hz2 rfl (by omega) v k (extCells (xs.take k)) (by rfl) (HO.out.alloc (.cells #[.int .i64 (pp : Nat), .int .i64 (qq : Nat)] 61)) ⟨wr.heap.size, 0, none⟩ 1 1 [.int .i64 (pp : Nat), .int .i64 (qq : Nat)] (by rfl) (by rfl) (World.news_of_block (cs := #[.int .i64 (pp : Nat), .int .i64 (qq : Nat)]) (t := 61) (fr := (0, 0)) (heap_alloc_new wr (.cells #[.int .i64 (pp : Nat), .int .i64 (qq : Nat)] 61))) (by simp [Value.oneCell']) (by omega) (by unfold maxLen; omega) (by omega) (by simp; omega) (wr.heap.size + 1) (by simp) ?_)
           intro gg cap w1 hown1 hgrow hat hlt1
           have HX1 := Lib.hid ((HX.out.alloc (.cells #[.int .i64 (pp : Nat), .int .i64 (qq : Nat)] 61)).drew.grown hgrow (by exact fun e => hne e.symm))
           have HR1 := Lib.hid ((HR.out.alloc (.cells #[.int .i64 (pp : Nat), .int .i64 (qq : Nat)] 61)).drew.grown hgrow (by exact fun e => hne2 e.symm))
           have q1 := HX1.out.at_ 2 _ rfl
           have f1 := HX1.out.frozen 2
           have HO1 := Lib.hid hown1
           have HG1 := Lib.hid hgrow
           have HA1 := Lib.hid hat
           clear hown1 hgrow hat))
      all_goals
        have hgb : (Value.slice (some ⟨gg, 0, none⟩) (k + 1) cap).ownBlock ≠ some bx := HX1.out.not_row (by decide) HO1.out
        go_wp2
        go_roundw
        case rel => exact ⟨k + 1, _, by omega, by go_num, by simpa using HX1.out.set_ 2 _, by rw [HCS.out]; exact own_far HO1.out hgb _, HR1.out.far (by show _ ≠ bx; omega) _, (((HB.out.alloc hsz1 (.cells #[.int .i64 (pp : Nat), .int .i64 (qq : Nat)] 61)).drew).grown HG1.out (by simp; omega) (fun j e => (HO.out.lt j e).1)).setCell (p := ⟨bx, 2, none⟩) (by show w.heap.size ≤ bx; omega) _⟩
        case measure => simp [intOf]; omega
    · obtain rfl : k = xs.length := by omega
      rw [List.take_length] at hown
      have hv := ExtRow.of_own hown
      have hvb : ∀ g, v.ownBlock = some g → w.heap.size < g := fun g hg => by
        have h1 := (hown.lt g hg).1
        have h2 := hR.not_row (by decide) hown
        rcases Nat.lt_or_ge w.heap.size g with h3 | h3
        · exact h3
        · exact absurd (by rw [hg, show g = w.heap.size by omega]) h2
      have c0 := hX.at_ 0 _ rfl
      have c1 := hX.at_ 1 _ rfl
      have c2 := hX.at_ 2 _ rfl
      have HX := Lib.hid hX
      have HV := Lib.hid hv
      have HVB := Lib.hid hvb
      have HR := Lib.hid hR
      have HB := Lib.hid hB
      clear hX hown hv hvb hR hB Q1 Q2 Q3 Q4 Q5 Q6
      obtain ⟨A, c, hvv⟩ := HV.out.slice
      subst hvv
      go_wp2
      go_region_with (first
        | (go_at_call 49; refine (Q7.out _ _ (HV.out.kp (S := fun _ => False) (KpC.of_below (Below.refl _ _).drew) (fun _ _ => id))).mono ?_; rintro e v5 ⟨rfl, hb5⟩; have HX5 := Lib.hid (HX.out.drew.below hb5 HX.out.lt); have HR5 := Lib.hid (HR.out.drew.below hb5 HR.out.lt); have HV5 := Lib.hid ((HV.out.kp (S := fun _ => False) (KpC.of_below (Below.refl _ _).drew) (fun _ _ => id)).below hb5); have HB5 := Lib.hid (HB.out.drew.trans (hb5.mono HB.out.size)); have d0 := HX5.out.at_ 0 _ rfl; have d1 := HX5.out.at_ 1 _ rfl; have d2 := HX5.out.at_ 2 _ rfl; clear hb5)
        | (go_at_call 45; refine (Q8.out _).mono ?_; rintro e v6 ⟨rfl, hb6⟩; have HX6 := Lib.hid (HX5.out.below hb6 HX5.out.lt); have HR6 := Lib.hid (HR5.out.below hb6 HR5.out.lt); have HV6 := Lib.hid (HV5.out.below hb6); have HB6 := Lib.hid (HB5.out.trans (hb6.mono HB5.out.size)); have e0 := HX6.out.at_ 0 _ rfl; have e1 := HX6.out.at_ 1 _ rfl; have e2 := HX6.out.at_ 2 _ rfl; have r0 := HR6.out.at_ 0 _ rfl; have r1 := HR6.out.at_ 1 _ rfl; have r2 := HR6.out.at_ 2 _ rfl; have g0 := HR6.out.frozen 0; have g1 := HR6.out.frozen 1; have g2 := HR6.out.frozen 2; clear hb6))
      all_goals
        go_wp2
        have hRf : Blk (((v6.setCell ⟨w.heap.size, 0, none⟩ (.string nm)).setCell ⟨w.heap.size, 1, none⟩ (.int .i64 sz)).setCell ⟨w.heap.size, 2, none⟩ (.slice A xs.length c)) w.heap.size 55 #[.string nm, .int .i64 sz, .slice A xs.length c] := by
          simpa using ((HR6.out.set_ 0 (.string nm)).set_ 1 (.int .i64 sz)).set_ 2 (.slice A xs.length c)
        have hvf : ExtRow (((v6.setCell ⟨w.heap.size, 0, none⟩ (.string nm)).setCell ⟨w.heap.size, 1, none⟩ (.int .i64 sz)).setCell ⟨w.heap.size, 2, none⟩ (.slice A xs.length c)) (.slice A xs.length c) xs :=
          HV6.out.kp (S := fun k => k = w.heap.size) (((KpC.setCell (S := fun k => k = w.heap.size) _ (p := ⟨w.heap.size, 0, none⟩) rfl _).trans (KpC.setCell (S := fun k => k = w.heap.size) _ (p := ⟨w.heap.size, 1, none⟩) rfl _)).trans (KpC.setCell (S := fun k => k = w.heap.size) _ (p := ⟨w.heap.size, 2, none⟩) rfl _)) (fun g hg e => by
            have := HVB.out g hg
            omega)
        have hBf := ((HB6.out.setCell (p := ⟨w.heap.size, 0, none⟩) (Nat.le_refl _) (.string nm)).setCell (p := ⟨w.heap.size, 1, none⟩) (Nat.le_refl _) (.int .i64 sz)).setCell (p := ⟨w.heap.size, 2, none⟩) (Nat.le_refl _) (.slice A xs.length c)
        refine bodyPost_ret (results_cell_row_tmp rfl _ _ w.heap.size 55 _ (0, 0) _ rfl hRf Tryd.underlying55 rfl (by kernel_rfl)) rfl ⟨_, rfl, hvf, fun g hg => Nat.le_of_lt (HVB.out g hg), hBf⟩
end Go.Proofs.YtgkhgjihjbjfnaaDoor
