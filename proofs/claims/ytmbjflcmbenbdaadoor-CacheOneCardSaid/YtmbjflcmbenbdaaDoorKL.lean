/- Layer 14's laws: the files, and a cache over them. -/
import Derived.Test.YtmbjflcmbenbdaaDoorKK
import Derived.Test.YtmbjflcmbenbdaaDoorFRf
namespace Go.Proofs.YtmbjflcmbenbdaaDoor
open Go.RowKit Go.Maps
set_option linter.unusedVariables false
set_option linter.unusedSimpArgs false

/-- The first n bytes of the files. -/
def dL (n : Nat) : List UInt8 := (List.range n).map fun i => UInt8.ofNat (i / 3)
theorem dL_length (n : Nat) : (dL n).length = n := by simp [dL]
theorem dL_succ (n : Nat) : dL (n + 1) = dL n ++ [UInt8.ofNat (n / 3)] := by simp [dL, List.range_succ]
theorem dL_take {n m : Nat} (h : m ≤ n) : (dL n).take m = dL m := by
  unfold dL
  rw [← List.map_take, List.take_range, Nat.min_eq_left h]
/-- The three files. -/
def fs3 : List Fl := [⟨⟨#[110, 111, 110, 101]⟩, ⟨#[]⟩⟩, ⟨⟨#[116, 104, 114, 101, 101]⟩, mkb (dL 192)⟩, ⟨⟨#[102, 105, 118, 101]⟩, mkb (dL 300)⟩]
theorem fs3_small : Small8 fs3 := by
  intro f hf
  simp [fs3] at hf
  rcases hf with rfl | rfl | rfl
  · decide
  · exact ⟨by decide, by simp [mkb_size, dL_length]⟩
  · exact ⟨by decide, by simp [mkb_size, dL_length]⟩
theorem fs3_names : namesOk fs3 := by
  refine ⟨fun f hf => ?_, ?_⟩
  · simp [fs3] at hf
    rcases hf with rfl | rfl | rfl <;> decide +kernel
  · show ([⟨#[110, 111, 110, 101]⟩, ⟨#[116, 104, 114, 101, 101]⟩, ⟨#[102, 105, 118, 101]⟩] : List ByteArray).Nodup
    decide +kernel
theorem can3 : CanBe fs3 2 := can_few fs3 2 (by decide) fs3_names (fun f hf => by have := (fs3_small f hf).2; omega) (by omega)
/-- How many pages a file has, and what each has. -/
theorem pg3 (f : Int) : pgsOf fs3 f = if f = 1 then 3 else if f = 2 then 5 else 0 := by
  unfold pgsOf
  by_cases h : 0 ≤ f ∧ f.toNat < fs3.length
  · rw [dif_pos h]
    obtain ⟨h1, h2⟩ := h
    have h3 : f.toNat < 3 := h2
    have h4 : f = 0 ∨ f = 1 ∨ f = 2 := by omega
    rcases h4 with rfl | rfl | rfl
    · show pgs (⟨#[]⟩ : ByteArray).size = _; decide
    · show pgs (mkb (dL 192)).size = _; rw [mkb_size, dL_length]; decide
    · show pgs (mkb (dL 300)).size = _; rw [mkb_size, dL_length]; decide
  · rw [dif_neg h]
    have h5 : fs3.length = 3 := rfl
    rw [if_neg (by omega), if_neg (by omega)]
def dat3 (f q : Int) : ByteArray := pageOf ((fs3[f.toNat]?.map Fl.data).getD ⟨#[]⟩) q.toNat

theorem row_step (k : Nat) (hk : k < 300) : (Lib.byteCells (dL k ++ List.replicate (300 - k) 0)).toArray.setIfInBounds k (.int .u8 ((k / 3 : Nat) : Int)) = (Lib.byteCells (dL (k + 1) ++ List.replicate (300 - (k + 1)) 0)).toArray := by
  rw [row_set _ _ _ (by omega) (by omega), Int.toNat_natCast]
  congr 2
  rw [List.set_append, if_neg (by rw [dL_length]; omega), dL_length, Nat.sub_self, dL_succ, show 300 - k = (300 - (k + 1)) + 1 by omega, List.replicate_succ]
  simp
set_option maxRecDepth 100000 in
set_option maxHeartbeats 1600000 in
theorem some_any (w : World) : Calls Tryd.prog 7 #[] w fun e w' => ∃ g, e = .returned (.slice (some ⟨g, 0, none⟩) 3 3) ∧ FileRow w' (.slice (some ⟨g, 0, none⟩) 3 3) fs3 ∧ Below w.heap.size w w' := by
  obtain ⟨i1, hj, hy0, hy1, hy2⟩ := info_parts infoU8
  have hmk := run_make_bytes (P := Tryd.prog) 74 5 i1 Tryd.underlying74 hj hy0 hy1 hy2 300 (by omega) (by omega)
  rw [show (300 : Int).toNat = 300 from rfl, show zrow 300 = (Lib.byteCells (dL 0 ++ List.replicate (300 - 0) 0)).toArray from rfl] at hmk
  have h0 := Blk.new w 5 (Lib.byteCells (dL 0 ++ List.replicate (300 - 0) 0)).toArray
  have hB0 := (Below.refl w.heap.size w).alloc (Nat.le_refl _) (.cells (Lib.byteCells (dL 0 ++ List.replicate (300 - 0) 0)).toArray 5)
  have hlen : ∀ k, k ≤ 300 → (Lib.byteCells (dL k ++ List.replicate (300 - k) 0)).toArray.size = 300 := fun k hk => by simp [Lib.byteCells_length, dL_length]; omega
  have HLEN := Lib.hid hlen
  clear hlen
  generalize hL0 : (Lib.byteCells (dL 0 ++ List.replicate (300 - 0) 0)).toArray = L0 at *
  have HL0 := Lib.hid hL0
  clear hL0
  go_enter Tryd.func7, Tryd.ntmps7
  go_wp2
  go_loopw [2] (fun i wr => ∃ k : Nat, k ≤ 300 ∧ i = .int .i64 k ∧ Hid (Blk wr w.heap.size 5 (Lib.byteCells (dL k ++ List.replicate (300 - k) 0)).toArray) ∧ Hid (Below w.heap.size w wr)) (fun i _ => 300 - (intOf i).toNat)
  case atStart => exact ⟨0, by omega, rfl, Lib.hid (by rw [HL0.out]; exact h0), Lib.hid hB0⟩
  case round =>
    clear h0 hB0 hmk
    obtain ⟨k, hk, rfl, HR, HB⟩ := hrel
    by_cases hlt : k < 300
    · have hsz := HLEN.out k hk
      have c0 := HR.out.at_ k ((Lib.byteCells (dL k ++ List.replicate (300 - k) 0)).toArray[k]'(by omega)) (by simp)
      have f0 := HR.out.frozen k
      generalize (Lib.byteCells (dL k ++ List.replicate (300 - k) 0)).toArray[k]'(by omega) = u0 at c0
      have hk3 : ((k / 3 : Nat) : Int) < 256 := by omega
      have v0 : Int.tdiv (k : Int) 3 = ((k / 3 : Nat) : Int) := by rw [Int.tdiv_eq_ediv_of_nonneg (by omega)]; simp
      have v1 : IntKind.u8.wrap ((k / 3 : Nat) : Int) = ((k / 3 : Nat) : Int) := by rw [IntKind.wrap_u8]; omega
      have v2 : IntKind.i64.wrap ((k / 3 : Nat) : Int) = ((k / 3 : Nat) : Int) := IntWalk.i64_in _ (by omega)
      have hw : Hid (Blk (wr.setCell ⟨w.heap.size, k, none⟩ (.int .u8 ((k / 3 : Nat) : Int))) w.heap.size 5 (Lib.byteCells (dL (k + 1) ++ List.replicate (300 - (k + 1)) 0)).toArray ∧ Below w.heap.size w (wr.setCell ⟨w.heap.size, k, none⟩ (.int .u8 ((k / 3 : Nat) : Int)))) := Lib.hid ⟨by rw [← row_step k hlt]; exact HR.out.set_ k _, HB.out.setCell (p := ⟨w.heap.size, k, none⟩) (Nat.le_refl _) _⟩
      obtain ⟨d3, hd3⟩ : ∃ d, d = ((k / 3 : Nat) : Int) := ⟨_, rfl⟩
      rw [← hd3] at v0 v1 v2 hw
      clear hd3 hk3 hsz
      go_wp2
      go_roundw
      case rel => exact ⟨k + 1, by omega, by go_num, Lib.hid hw.out.1, Lib.hid hw.out.2⟩
      case measure => simp [intOf]; omega
    · obtain rfl : k = 300 := by omega
      have hr := HR.out
      rw [Nat.sub_self, List.replicate_zero, List.append_nil] at hr
      have hcv := run_string_blk (P := Tryd.prog) wr.drew 74 9 5 w.heap.size 300 5 (dL 300) 300 (dL_length 300) Tryd.underlying74 Tryd.underlying5 Tryd.underlying9 hr.drew
      have hcv2 : (convert 74 9 (.slice (some ⟨w.heap.size, 0, none⟩) 192 300)).run Tryd.prog wr.drew = .ok (.string (mkb (dL 192))) wr.drew := by
        have e : dL 192 = (dL 300).take 192 := (dL_take (by omega)).symm
        have := run_convert_bytes_back (P := Tryd.prog) wr.drew 74 9 5 ⟨w.heap.size, 0, none⟩ 300 (dL 192) Tryd.underlying74 Tryd.underlying5 Tryd.underlying9 (fun j hj => by
          have hadd : (⟨w.heap.size, 0, none⟩ : Addr).add j = ⟨w.heap.size, j, none⟩ := by unfold Addr.add; split <;> simp_all
          rw [dL_length] at hj
          rw [hadd, hr.drew.cell]
          have hj2 : j < (dL 300).length := by rw [dL_length]; omega
          have hj3 : j < (dL 192).length := by rw [dL_length]; omega
          have e2 : (dL 192)[j] = (dL 300)[j] := by simp [dL]
          simp [Lib.byteCells, hj2, hj3, e2])
        rw [dL_length] at this
        exact this
      have HFIN := Lib.hid (show FileRow (wr.drew.alloc (.cells #[.string ⟨#[110, 111, 110, 101]⟩, .string ⟨#[]⟩, .string ⟨#[116, 104, 114, 101, 101]⟩, .string (mkb (dL 192)), .string ⟨#[102, 105, 118, 101]⟩, .string (mkb (dL 300))] 63)) (.slice (some ⟨wr.heap.size, 0, none⟩) 3 3) fs3 from
        .inr ⟨_, _, _, rfl, Blk.new _ _ _, rfl⟩)
      clear hr
      generalize mkb (dL 192) = s1 at *
      generalize mkb (dL 300) = s2 at *
      go_wp2
      go_region
      all_goals
        go_wp2
        go_ret
        exact ⟨_, rfl, HFIN.out, (HB.out.drew).alloc HB.out.size _⟩
end Go.Proofs.YtmbjflcmbenbdaaDoor

/- Layer 14's laws: a cache of the law's own, what is asked of it. -/
namespace Go.Proofs.YtmbjflcmbenbdaaDoor
open Go.RowKit Go.Maps
set_option linter.unusedVariables false
set_option linter.unusedSimpArgs false

@[go_sem] theorem eq_key (p k p' k' : Int) (w : World) : (Op.equalIn 10000 40 (.agg #[.int .i64 p, .int .i64 k]) (.agg #[.int .i64 p', .int .i64 k'])).run Tryd.prog w = .ok (p == p' && k == k') w := by
  have u2 := Tryd.underlying3
  have hS : Tryd.prog.underlying 40 = some (.struct (Tryd.prog.fieldsOf 40)) := by kernel_rfl
  rw [show (10000 : Nat) = 9999 + 1 from rfl, run_equalIn_agg w 9999 40 _ _ hS (by kernel_rfl)]
  simp only [Program.fieldsOf, Tryd.underlying40]
  go_simp
  by_cases h1 : p = p' <;> by_cases h2 : k = k' <;> simp [h1, h2]
theorem dat3_at {k : Nat} (hk : k < fs3.length) (q : Nat) : dat3 k q = pageOf fs3[k].data q := by
  unfold dat3
  simp [hk]
theorem dat3_size (f q : Int) : (dat3 f q).size = 64 := pageOf_size _ _

/-- A disk that a reference built is made. -/
theorem of_textL (g c : Nat) (L : List ByteArray) (w : World) (h1 : 1 ≤ L.length) (h2 : L.length ≤ 16384) (hf : L.map fill64 = L) (h : TextRow w (.slice (some ⟨g, 0, none⟩) L.length c) L) :
    Calls Tryd.prog 21 #[.slice (some ⟨g, 0, none⟩) L.length c] w (Made w ⟨L, 0, 0, 0⟩) := by
  have hlt : g < w.heap.size := by
    obtain ⟨g', c', cur, e, hb, _⟩ := h
    injection e with e _ _
    injection e with e
    injection e with e _ _
    subst e
    exact hb.lt
  have := of_yes ⟨g, 0, none⟩ L c w h1 h2 hlt (fun i hi => by
    rw [show (⟨g, 0, none⟩ : Addr).add i = ⟨g, i, none⟩ by unfold Addr.add; split <;> simp_all]
    exact h.at_ i hi)
  rw [hf] at this
  exact this.mono fun _ _ ⟨he, hb, hd⟩ => ⟨_, _, he, by omega, Nat.le_refl _, hb, hd⟩
theorem of_text (g c : Nat) (w : World) (h : TextRow w (.slice (some ⟨g, 0, none⟩) (builtL fs3 2).length c) (builtL fs3 2)) :
    Calls Tryd.prog 21 #[.slice (some ⟨g, 0, none⟩) (builtL fs3 2).length c] w (Made w ⟨builtL fs3 2, 0, 0, 0⟩) := by
  have hl := builtL_length (fs := fs3) (s := 2) (by omega)
  have hr := can3.room
  exact of_textL g c _ w (by rw [hl]; omega) (by rw [hl]; exact hr) (built_fill (by omega)) h

/-- A cache over the files was made. -/
def MadeC (w : World) (n : Nat) (e : Ending) (w' : World) : Prop := ∃ a v, e = .returned (.tuple #[.pointer (some ⟨a.pc, 0, none⟩), .pointer (some ⟨a.pp, 0, none⟩)]) ∧ Ca fs3 2 w' a v (newC n) ∧ w.heap.size ≤ a.N ∧ Below w.heap.size w w'
set_option maxRecDepth 100000 in
set_option maxHeartbeats 1600000 in
theorem made_any (w : World) (n : Nat) (h1 : 1 ≤ n) (h2 : n ≤ 4096) : Calls Tryd.prog 5 #[.int .i64 n] w (MadeC w n) := by
  have HS := Lib.hid (some_any w)
  have HR := Lib.hid (fun (v : World) g (h : FileRow v (.slice (some ⟨g, 0, none⟩) 3 3) fs3) => rbuild_yes (some ⟨g, 0, none⟩) 3 3 fs3 2 v rfl h (by omega) fs3_small fs3_names (by omega) (by decide))
  have HO := Lib.hid (fun g c v h => of_text g c v h)
  have HOP := Lib.hid (fun pd gd v (h : Dk v pd gd ⟨builtL fs3 2, 0, 0, 0⟩) => st_open can3 (by omega) pd gd v h)
  have HP := Lib.hid (fun v => pnew_made n v h1 h2)
  have HC := Lib.hid (fun (W3 W4 : World) (B p pd gd pp h g : Nat) (ho : OpenSt fs3 2 W3 B p pd gd) (hb : Below W3.heap.size W3 W4) (hX : Pl W4 pp h g (newP n)) (q1 : W3.heap.size ≤ pp) (q2 : W3.heap.size ≤ h) (q3 : W3.heap.size ≤ g) (q4 : w.heap.size ≤ W3.heap.size) (q5 : w.heap.size ≤ pd) =>
    cnew_any (fs := fs3) (s := 2) (W := W4) ⟨w.heap.size, W3.heap.size, B, p, pd, gd, pp, h, g, 0, 0⟩ ((OpenIn.of ho).keep hb) hX q1 q2 q3 q4 q5)
  unfold RBuilt at HR
  unfold Made at HO
  unfold PMade at HP
  unfold MadeC newC
  generalize builtL fs3 2 = DL at *
  generalize newP n = X0 at *
  go_enter Tryd.func5, Tryd.ntmps5
  go_wp2_with (first
    | (go_at_call 7; refine HS.out.mono ?_; rintro e w1 ⟨g1, rfl, hf1, hb1⟩; have HF1 := Lib.hid hf1; have HB1 := Lib.hid hb1; clear hf1 hb1)
    | (go_at_call 6; refine (HR.out w1 g1 HF1.out).mono ?_; rintro e w2 ⟨g2, c2, rfl, _, ht2, hb2⟩; have HT2 := Lib.hid ht2; have HB2 := Lib.hid (HB1.out.trans (hb2.mono HB1.out.size)); clear ht2 hb2)
    | (go_at_call 21; refine (HO.out g2 c2 w2 HT2.out).mono ?_; rintro e w3 ⟨pd, gd, rfl, l1, l2, hb3, hd3⟩; have HD3 := Lib.hid hd3; have HL3 := Lib.hid (And.intro l1 l2); have HB3 := Lib.hid (HB2.out.trans (hb3.mono HB2.out.size)); clear hb3 hd3 l1 l2)
    | (go_at_call 20; refine (HOP.out pd gd w3 HD3.out).mono ?_; rintro e w4 ⟨pf, rfl, ho4, hb4⟩; have HO4 := Lib.hid ho4; have HB4 := Lib.hid (HB3.out.trans (hb4.below (B := w.heap.size) HB3.out.size (fun j e => by have := HL3.out.1; have := HB2.out.size; omega))); clear ho4 hb4)
    | (go_at_call 22; refine (HP.out w4).mono ?_; rintro e w5 ⟨pp, h, g, rfl, l1, l2, l3, hb5, hX5⟩; have HC5 := Lib.hid (HC.out w4 w5 _ _ _ _ _ _ _ HO4.out hb5 hX5 l1 l2 l3 HB4.out.size (by have := HL3.out.1; have := HB2.out.size; omega)); have HB5 := Lib.hid (HB4.out.trans (hb5.mono HB4.out.size)); clear hb5 hX5 l1 l2 l3)
    | (go_at_call 23; refine HC5.out.mono ?_; rintro e w6 ⟨rfl, hA6, hb6⟩; have HA6 := Lib.hid hA6; have HB6 := Lib.hid (HB5.out.trans (hb6.mono HB5.out.size)); clear hA6 hb6))
  go_ret2
  exact ⟨_, _, rfl, HA6.out, Nat.le_refl _, HB6.out⟩
end Go.Proofs.YtmbjflcmbenbdaaDoor
