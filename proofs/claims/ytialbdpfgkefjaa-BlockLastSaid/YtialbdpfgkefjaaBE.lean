/- Layer 3: what the laws share: sector, awake; disks that were made. -/
import Derived.Test.YtialbdpfgkefjaaBD
namespace Go.Proofs.Ytialbdpfgkefjaa
open Go.RowKit
set_option linter.unusedVariables false

/-- A disk D was made, in new blocks. -/
def Made (w : World) (D : Dsk) (e : Ending) (w' : World) : Prop := ∃ p g, e = .returned (.pointer (some ⟨p, 0, none⟩)) ∧ w.heap.size ≤ p ∧ w.heap.size ≤ g ∧ Below w.heap.size w w' ∧ Dk w' p g D

theorem new_made (n : Nat) (w : World) (h1 : 1 ≤ n) (h2 : n ≤ 16384) : Calls Try.prog 10 #[.int .i64 n] w (Made w (newD n)) :=
  (bnew_yes n w h1 h2).mono fun _ _ ⟨he, hb, hd⟩ => ⟨_, _, he, by omega, Nat.le_refl _, hb, hd⟩
theorem of_made (ad : Addr) (l : List ByteArray) (c : Nat) (w : World) (h1 : 1 ≤ l.length) (h2 : l.length ≤ 16384) (hb : ad.block < w.heap.size)
    (hl : ∀ i (hi : i < l.length), w.cell? (ad.add i) = some (.string l[i])) : Calls Try.prog 23 #[.slice (some ad) l.length c] w (Made w ⟨l.map fill64, 0, 0, 0⟩) :=
  (of_yes ad l c w h1 h2 hb hl).mono fun _ _ ⟨he, hb, hd⟩ => ⟨_, _, he, by omega, Nat.le_refl _, hb, hd⟩


/-- A sector of one byte, over and over. -/
def secOf (c : Int) : ByteArray := mkb (List.replicate 64 (UInt8.ofNat c.toNat))
theorem secOf_size (c : Int) : (secOf c).size = 64 := by unfold secOf; rw [mkb_size, List.length_replicate]
def secRow (c : Int) (k : Nat) : Array Value := (Lib.byteCells (List.replicate k (UInt8.ofNat c.toNat) ++ List.replicate (64 - k) 0)).toArray
theorem secRow_zero (c : Int) : secRow c 0 = zrow 64 := by simp [secRow, zrow]
theorem secRow_full (c : Int) : secRow c 64 = (Lib.byteCells (List.replicate 64 (UInt8.ofNat c.toNat))).toArray := by simp [secRow]
theorem secRow_at {c : Int} {k : Nat} (h : k < 64) : (secRow c k)[k]? = some (.int .u8 0) := by
  simp only [secRow, Lib.byteCells, List.getElem?_toArray, List.getElem?_map]
  rw [List.getElem?_append_right (by simp), List.length_replicate, Nat.sub_self, List.getElem?_replicate, if_pos (by omega)]
  rfl
theorem secRow_set {c : Int} {k : Nat} (h : k < 64) (h0 : 0 ≤ c) (h1 : c < 256) : (secRow c k).setIfInBounds k (.int .u8 c) = secRow c (k + 1) := by
  have e : Value.int .u8 c = Value.int .u8 ((UInt8.ofNat c.toNat).toNat : Int) := by
    congr 1
    simp
    omega
  rw [e]
  unfold secRow
  apply Array.ext'
  simp only [Array.toList_setIfInBounds, Lib.byteCells]
  rw [← List.map_set, List.set_append_right _ _ (by simp), List.length_replicate, Nat.sub_self, show 64 - k = (64 - (k + 1)) + 1 by omega, List.replicate_succ, List.set_cons_zero, List.replicate_succ']
  simp

set_option maxHeartbeats 400000 in
theorem lsec_any (c : Int) (w : World) (hc : (Lit.int .u8 c).wf = true) : Calls Try.prog 16 #[.int .u8 c] w fun e w' => e = .returned (.string (secOf c)) ∧ Below w.heap.size w w' := by
  obtain ⟨_, _⟩ := bounds_u8 hc
  obtain ⟨i0, hi, hz0, hz1, hz2⟩ := info_parts infoU8
  have hmk := run_make_bytes (P := Try.prog) 49 5 i0 Try.underlying49 hi hz0 hz1 hz2 64 (by omega) (by omega)
  rw [show (64 : Int).toNat = 64 from rfl] at hmk
  go_enter Try.func16, Try.ntmps16
  go_wp2
  go_loopw [4] (fun i wr => ∃ k : Nat, k ≤ 64 ∧ i = .int .i64 k ∧ Blk wr w.heap.size 5 (secRow c k) ∧ Below w.heap.size w wr) (fun i _ => 64 - (intOf i).toNat)
  case atStart => exact ⟨0, Nat.zero_le _, rfl, by rw [secRow_zero]; exact Blk.new _ _ _, (Below.refl _ _).alloc (Nat.le_refl _) _⟩
  case round =>
    obtain ⟨k, hk, rfl, hblk, hbel⟩ := hrel
    by_cases hlt : k < 64
    · have hc : wr.cell? ⟨w.heap.size, k, none⟩ = some (.int .u8 0) := (hblk.cell k).trans (secRow_at hlt)
      have hf := hblk.frozen k
      have hset := hblk.set_ k (.int .u8 c)
      rw [secRow_set hlt (by assumption) (by omega)] at hset
      have HS := Lib.hid hset
      have HB := Lib.hid hbel
      clear hset hblk hbel
      go_wp2
      go_roundw
      case rel => exact ⟨k + 1, by omega, by go_num, HS.out, HB.out.setCell (by simp) _⟩
      case measure => simp [intOf]; omega
    · obtain rfl : k = 64 := by omega
      rw [secRow_full] at hblk
      have hcv := run_string_blk (P := Try.prog) wr 49 9 5 w.heap.size 64 5 _ 64 (List.length_replicate ..) Try.underlying49 Try.underlying5 Try.underlying9 hblk
      have HB := Lib.hid hbel
      clear hbel hblk
      go_wp2
      go_ret
      exact ⟨rfl, HB.out⟩

set_option maxHeartbeats 800000 in
theorem awake3_any (w : World) : Calls Try.prog 9 #[] w fun e w' => e = .returned (.bool true) ∧ Below w.heap.size w w' := by
  obtain ⟨i0, hi, hz0, hz1, hz2⟩ := info_parts infoU8
  have hmk := run_make_bytes (P := Try.prog) 49 5 i0 Try.underlying49 hi hz0 hz1 hz2 63 (by omega) (by omega)
  rw [show (63 : Int).toNat = 63 from rfl] at hmk
  have hcv := fun wr => run_string_blk (P := Try.prog) (World.alloc wr (.cells (zrow 63) 5)) 49 9 5 wr.heap.size 63 5 (List.replicate 63 0) 63 (List.length_replicate ..) Try.underlying49 Try.underlying5 Try.underlying9 (Blk.new _ _ _)
  have hcat : (⟨#[97]⟩ : ByteArray) ++ mkb (List.replicate 63 0) = fill64 ⟨#[97]⟩ := by decide +kernel
  have hz63 : (mkb (List.replicate 63 0)).size = 63 := by rw [mkb_size, List.length_replicate]
  have hr : ∀ w p g, Dk w p g ⟨[fill64 ⟨#[97]⟩], 0, 0, 0⟩ → Calls Try.prog 12 #[.pointer (some ⟨p, 0, none⟩), .int .i64 0] w fun e w' => e = .returned (.tuple #[.string (fill64 ⟨#[97]⟩), .int .i64 0]) ∧ But (· = p) w w' ∧ Dk w' p g ⟨[fill64 ⟨#[97]⟩], 0, 1, 0⟩ :=
    fun w p g h => by
      have h1 := read_any h 0
      rw [show (Dsk.mk [fill64 ⟨#[97]⟩] 0 0 0).rdS 0 = fill64 ⟨#[97]⟩ by simp [Dsk.rdS, Dsk.has], show (Dsk.mk [fill64 ⟨#[97]⟩] 0 0 0).rdE 0 = 0 by simp [Dsk.rdE, Dsk.has],
        show (Dsk.mk [fill64 ⟨#[97]⟩] 0 0 0).rdD 0 = ⟨[fill64 ⟨#[97]⟩], 0, 1, 0⟩ by simp [Dsk.rdD, Dsk.has]; decide +kernel] at h1
      exact h1
  have hs : ∀ w p g, Dk w p g ⟨[fill64 ⟨#[97]⟩], 0, 1, 0⟩ → Calls Try.prog 14 #[.pointer (some ⟨p, 0, none⟩), .int .i64 1] w fun e w' => e = .returned (.tuple #[]) ∧ But (· = p) w w' ∧ Dk w' p g ⟨[fill64 ⟨#[97]⟩], 1, 1, 0⟩ :=
    fun w p g h => seal_any h 1
  have hw : ∀ w p g, Dk w p g ⟨[fill64 ⟨#[97]⟩], 1, 1, 0⟩ → Calls Try.prog 17 #[.pointer (some ⟨p, 0, none⟩), .int .i64 0, .string (secOf 98)] w fun e w' => e = .returned (.int .i64 13) ∧ But (fun j => j = p ∨ j = g) w w' :=
    fun w p g h => (write_any h 0 (secOf 98) (by rw [secOf_size]; omega)).mono fun e w' ⟨he, hb, _⟩ => ⟨by rw [he, show (Dsk.mk [fill64 ⟨#[97]⟩] 1 1 0).wrE 0 (secOf 98) = 13 by simp [Dsk.wrE, Dsk.has, secOf_size]], hb⟩
  have hx := fun w => lsec_any 98 w (by decide)
  have hm : ∀ (w : World) (t : TypeId), Calls Try.prog 23 #[.slice (some ⟨w.heap.size, 0, none⟩) 1 1] (w.alloc (.cells #[.string ⟨#[97]⟩] t)) (Made (w.alloc (.cells #[.string ⟨#[97]⟩] t)) ⟨[fill64 ⟨#[97]⟩], 0, 0, 0⟩) := fun (w : World) (t : TypeId) => of_made ⟨w.heap.size, 0, none⟩ [⟨#[97]⟩] 1 (w.alloc (.cells #[.string ⟨#[97]⟩] t)) (by simp) (by simp) (by simp) (fun i hi => by
    have : i = 0 := by simpa using hi
    subst this
    exact World.cell?_alloc_new w _ t 0)
  generalize fill64 ⟨#[97]⟩ = F at *
  generalize mkb (List.replicate 63 0) = Z at *
  have HR := Lib.hid hr
  have HS := Lib.hid hs
  have HW := Lib.hid hw
  have HX := Lib.hid hx
  have HM := Lib.hid hm
  clear hr hs hw hx hm
  have hB := Below.refl w.heap.size w
  go_enter Try.func9, Try.ntmps9
  go_wp2_with (first
    | (go_at_call 23; go_loud (refine (HM.out w _).mono ?_; rintro e w4 ⟨p, g, rfl, hp, hg, hb, hd⟩))
    | (go_at_call 12; refine (HR.out _ _ _ hd).mono ?_; rintro e w5 ⟨rfl, hb5, hd⟩)
    | (go_at_call 14; refine (HS.out _ _ _ hd).mono ?_; rintro e w6 ⟨rfl, hb6, hd⟩)
    | (go_at_call 16; refine (HX.out _).mono ?_; rintro e w7 ⟨rfl, hb7⟩; have hd7 := (hd.alloc _).below hb7 (hd.alloc _).head.lt (hd.alloc _).row.lt)
    | (go_at_call 17; refine (HW.out _ _ _ hd7).mono ?_; rintro e w8 ⟨rfl, hb8⟩))
  go_ret
  refine ⟨rfl, ?_⟩
  have s1 := hb.size
  have s2 := hb5.size
  have s3 := hb6.size
  have s4 := hb7.size
  simp only [World.size_alloc] at s1 s4 hp hg
  have k1 : Below w.heap.size w w4 := ((Below.refl _ w).alloc (Nat.le_refl _) _).trans (hb.mono (by simp))
  have k2 := k1.trans (hb5.below (B := w.heap.size) (by omega) (fun j e => by omega))
  have k3 := (k2.trans (hb6.below (B := w.heap.size) (by omega) (fun j e => by omega))).alloc (by omega) (.cells (zrow 63) 5)
  exact (k3.trans (hb7.mono (by simp; omega))).trans (hb8.below (by omega) (fun j e => by omega))
end Go.Proofs.Ytialbdpfgkefjaa
