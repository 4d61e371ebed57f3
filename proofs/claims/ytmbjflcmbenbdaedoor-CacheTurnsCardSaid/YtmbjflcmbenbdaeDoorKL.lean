/- Layer 14's laws: the files, and a cache over them. -/
import Derived.Test.YtmbjflcmbenbdaeDoorKK
import Derived.Test.YtmbjflcmbenbdaeDoorFRf
namespace Go.Proofs.YtmbjflcmbenbdaeDoor
open Go.RowKit Go.Maps
set_option linter.unusedVariables false
set_option linter.unusedSimpArgs false

/-- The first n bytes of the files. -/
def dL (n : Nat) : List UInt8 := (List.range n).map fun i => UInt8.ofNat (i / 3)
theorem dL_length (n : Nat) : (dL n).length = n := by simp [dL]
theorem dL_succ (n : Nat) : dL (n + 1) = dL n ++ [UInt8.ofNat (n / 3)] := by simp [dL, List.range_succ]
theorem dL_take {n m : Nat} (h : m ≤ n) : (dL n).take m = dL m := by
  unfold dL
  rw [← List.map_take, List.take_range, Nat.min_eq_left h]
/-- The three files. -/
def fs3 : List Fl := [⟨⟨#[110, 111, 110, 101]⟩, ⟨#[]⟩⟩, ⟨⟨#[116, 104, 114, 101, 101]⟩, mkb (dL 192)⟩, ⟨⟨#[102, 105, 118, 101]⟩, mkb (dL 300)⟩]
theorem fs3_small : Small8 fs3 := by
  intro f hf
  simp [fs3] at hf
  rcases hf with rfl | rfl | rfl
  · decide
  · exact ⟨by decide, by simp [mkb_size, dL_length]⟩
  · exact ⟨by decide, by simp [mkb_size, dL_length]⟩
theorem fs3_names : namesOk fs3 := by
  refine ⟨fun f hf => ?_, ?_⟩
  · simp [fs3] at hf
    rcases hf with rfl | rfl | rfl <;> decide +kernel
  · show ([⟨#[110, 111, 110, 101]⟩, ⟨#[116, 104, 114, 101, 101]⟩, ⟨#[102, 105, 118, 101]⟩] : List ByteArray).Nodup
    decide +kernel
theorem can3 : CanBe fs3 2 := can_few fs3 2 (by decide) fs3_names (fun f hf => by have := (fs3_small f hf).2; omega) (by omega)
/-- How many pages a file has, and what each has. -/
theorem pg3 (f : Int) : pgsOf fs3 f = if f = 1 then 3 else if f = 2 then 5 else 0 := by
  unfold pgsOf
  by_cases h : 0 ≤ f ∧ f.toNat < fs3.length
  · rw [dif_pos h]
    obtain ⟨h1, h2⟩ := h
    have h3 : f.toNat < 3 := h2
    have h4 : f = 0 ∨ f = 1 ∨ f = 2 := by omega
    rcases h4 with rfl | rfl | rfl
    · show pgs (⟨#[]⟩ : ByteArray).size = _; decide
    · show pgs (mkb (dL 192)).size = _; rw [mkb_size, dL_length]; decide
    · show pgs (mkb (dL 300)).size = _; rw [mkb_size, dL_length]; decide
  · rw [dif_neg h]
    have h5 : fs3.length = 3 := rfl
    rw [if_neg (by omega), if_neg (by omega)]
def dat3 (f q : Int) : ByteArray := pageOf ((fs3[f.toNat]?.map Fl.data).getD ⟨#[]⟩) q.toNat

theorem row_step (k : Nat) (hk : k < 300) : (Lib.byteCells (dL k ++ List.replicate (300 - k) 0)).toArray.setIfInBounds k (.int .u8 ((k / 3 : Nat) : Int)) = (Lib.byteCells (dL (k + 1) ++ List.replicate (300 - (k + 1)) 0)).toArray := by
  rw [row_set _ _ _ (by omega) (by omega), Int.toNat_natCast]
  congr 2
  rw [List.set_append, if_neg (by rw [dL_length]; omega), dL_length, Nat.sub_self, dL_succ, show 300 - k = (300 - (k + 1)) + 1 by omega, List.replicate_succ]
  simp
set_option maxRecDepth 100000 in
set_option maxHeartbeats 1600000 in
theorem some_any (w : World) : Calls Tryd.prog 14 #[] w fun e w' => ∃ g, e = .returned (.slice (some ⟨g, 0, none⟩) 3 3) ∧ FileRow w' (.slice (some ⟨g, 0, none⟩) 3 3) fs3 ∧ Below w.heap.size w w' := by
  obtain ⟨i1, hj, hy0, hy1, hy2⟩ := info_parts infoU8
  have hmk := run_make_bytes (P := Tryd.prog) 63 5 i1 Tryd.underlying63 hj hy0 hy1 hy2 300 (by omega) (by omega)
  rw [show (300 : Int).toNat = 300 from rfl, show zrow 300 = (Lib.byteCells (dL 0 ++ List.replicate (300 - 0) 0)).toArray from rfl] at hmk
  have h0 := Blk.new w 5 (Lib.byteCells (dL 0 ++ List.replicate (300 - 0) 0)).toArray
  have hB0 := (Below.refl w.heap.size w).alloc (Nat.le_refl _) (.cells (Lib.byteCells (dL 0 ++ List.replicate (300 - 0) 0)).toArray 5)
  have hlen : ∀ k, k ≤ 300 → (Lib.byteCells (dL k ++ List.replicate (300 - k) 0)).toArray.size = 300 := fun k hk => by simp [Lib.byteCells_length, dL_length]; omega
  have HLEN := Lib.hid hlen
  clear hlen
  generalize hL0 : (Lib.byteCells (dL 0 ++ List.replicate (300 - 0) 0)).toArray = L0 at *
  have HL0 := Lib.hid hL0
  clear hL0
  go_enter Tryd.func14, Tryd.ntmps14
  go_wp2
  go_loopw [2] (fun i wr => ∃ k : Nat, k ≤ 300 ∧ i = .int .i64 k ∧ Hid (Blk wr w.heap.size 5 (Lib.byteCells (dL k ++ List.replicate (300 - k) 0)).toArray) ∧ Hid (Below w.heap.size w wr)) (fun i _ => 300 - (intOf i).toNat)
  case atStart => exact ⟨0, by omega, rfl, Lib.hid (by rw [HL0.out]; exact h0), Lib.hid hB0⟩
  case round =>
    clear h0 hB0 hmk
    obtain ⟨k, hk, rfl, HR, HB⟩ := hrel
    by_cases hlt : k < 300
    · have hsz := HLEN.out k hk
      have c0 := HR.out.at_ k ((Lib.byteCells (dL k ++ List.replicate (300 - k) 0)).toArray[k]'(by omega)) (by simp)
      have f0 := HR.out.frozen k
      generalize (Lib.byteCells (dL k ++ List.replicate (300 - k) 0)).toArray[k]'(by omega) = u0 at c0
      have hk3 : ((k / 3 : Nat) : Int) < 256 := by omega
      have v0 : Int.tdiv (k : Int) 3 = ((k / 3 : Nat) : Int) := by rw [Int.tdiv_eq_ediv_of_nonneg (by omega)]; simp
      have v1 : IntKind.u8.wrap ((k / 3 : Nat) : Int) = ((k / 3 : Nat) : Int) := by rw [IntKind.wrap_u8]; omega
      have v2 : IntKind.i64.wrap ((k / 3 : Nat) : Int) = ((k / 3 : Nat) : Int) := IntWalk.i64_in _ (by omega)
      have hw : Hid (Blk (wr.setCell ⟨w.heap.size, k, none⟩ (.int .u8 ((k / 3 : Nat) : Int))) w.heap.size 5 (Lib.byteCells (dL (k + 1) ++ List.replicate (300 - (k + 1)) 0)).toArray ∧ Below w.heap.size w (wr.setCell ⟨w.heap.size, k, none⟩ (.int .u8 ((k / 3 : Nat) : Int)))) := Lib.hid ⟨by rw [← row_step k hlt]; exact HR.out.set_ k _, HB.out.setCell (p := ⟨w.heap.size, k, none⟩) (Nat.le_refl _) _⟩
      obtain ⟨d3, hd3⟩ : ∃ d, d = ((k / 3 : Nat) : Int) := ⟨_, rfl⟩
      rw [← hd3] at v0 v1 v2 hw
      clear hd3 hk3 hsz
      go_wp2
      go_roundw
      case rel => exact ⟨k + 1, by omega, by go_num, Lib.hid hw.out.1, Lib.hid hw.out.2⟩
      case measure => simp [intOf]; omega
    · obtain rfl : k = 300 := by omega
      have hr := HR.out
      rw [Nat.sub_self, List.replicate_zero, List.append_nil] at hr
      have hcv := run_string_blk (P := Tryd.prog) wr.drew 63 9 5 w.heap.size 300 5 (dL 300) 300 (dL_length 300) Tryd.underlying63 Tryd.underlying5 Tryd.underlying9 hr.drew
      have hcv2 : (convert 63 9 (.slice (some ⟨w.heap.size, 0, none⟩) 192 300)).run Tryd.prog wr.drew = .ok (.string (mkb (dL 192))) wr.drew := by
        have e : dL 192 = (dL 300).take 192 := (dL_take (by omega)).symm
        have := run_convert_bytes_back (P := Tryd.prog) wr.drew 63 9 5 ⟨w.heap.size, 0, none⟩ 300 (dL 192) Tryd.underlying63 Tryd.underlying5 Tryd.underlying9 (fun j hj => by
          have hadd : (⟨w.heap.size, 0, none⟩ : Addr).add j = ⟨w.heap.size, j, none⟩ := by unfold Addr.add; split <;> simp_all
          rw [dL_length] at hj
          rw [hadd, hr.drew.cell]
          have hj2 : j < (dL 300).length := by rw [dL_length]; omega
          have hj3 : j < (dL 192).length := by rw [dL_length]; omega
          have e2 : (dL 192)[j] = (dL 300)[j] := by simp [dL]
          simp [Lib.byteCells, hj2, hj3, e2])
        rw [dL_length] at this
        exact this
      have HFIN := Lib.hid (show FileRow (wr.drew.alloc (.cells #[.string ⟨#[110, 111, 110, 101]⟩, .string ⟨#[]⟩, .string ⟨#[116, 104, 114, 101, 101]⟩, .string (mkb (dL 192)), .string ⟨#[102, 105, 118, 101]⟩, .string (mkb (dL 300))] 71)) (.slice (some ⟨wr.heap.size, 0, none⟩) 3 3) fs3 from
        .inr ⟨_, _, _, rfl, Blk.new _ _ _, rfl⟩)
      clear hr
      generalize mkb (dL 192) = s1 at *
      generalize mkb (dL 300) = s2 at *
      go_wp2
      go_region
      all_goals
        go_wp2
        go_ret
        exact ⟨_, rfl, HFIN.out, (HB.out.drew).alloc HB.out.size _⟩
end Go.Proofs.YtmbjflcmbenbdaeDoor
