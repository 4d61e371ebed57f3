/- Package block: what turns and what stays; a disk in memory; New, Sectors, Reads, Writes, sector, Seal. -/
import Derived.Test.YtmbjflcmbenbdaaDoorRowI
namespace Go.Proofs.YtmbjflcmbenbdaaDoor
open Go.RowKit
set_option linter.unusedVariables false

/-- A disk: its sectors; how many are sealed, were read, were written. -/
structure Dsk where
  S : List ByteArray
  low : Int
  rd : Int
  wr : Int

/-- The disk D lies at p, its row of bytes at g. -/
structure Dk (w : World) (p g : Nat) (D : Dsk) : Prop where
  ne : p ≠ g
  head : Blk w p 115 #[.slice (some ⟨g, 0, none⟩) (64 * D.S.length) (64 * D.S.length), .int .i64 D.low, .int .i64 D.rd, .int .i64 D.wr]
  row : Blk w g 5 (Lib.byteCells (flat D.S)).toArray
  all : All64 D.S
  len : D.S.length ≤ 16384
theorem Dk.but {S : Nat → Prop} {w w' : World} {p g : Nat} {D : Dsk} (h : Dk w p g D) (hb : But S w w') (hp : ¬ S p) (hg : ¬ S g) : Dk w' p g D := ⟨h.ne, h.head.but hb hp, h.row.but hb hg, h.all, h.len⟩
theorem Dk.below {B : Nat} {w w' : World} {p g : Nat} {D : Dsk} (h : Dk w p g D) (hb : Below B w w') (hp : p < B) (hg : g < B) : Dk w' p g D := ⟨h.ne, h.head.below hb hp, h.row.below hb hg, h.all, h.len⟩
theorem Dk.drew {w : World} {p g : Nat} {D : Dsk} (h : Dk w p g D) : Dk w.drew p g D := ⟨h.ne, h.head.drew, h.row.drew, h.all, h.len⟩
theorem Dk.alloc {w : World} {p g : Nat} {D : Dsk} (h : Dk w p g D) (o : Obj) : Dk (w.alloc o) p g D := ⟨h.ne, h.head.alloc o, h.row.alloc o, h.all, h.len⟩

def newD (n : Nat) : Dsk := ⟨List.replicate n zsec, 0, 0, 0⟩
theorem newD_all (n : Nat) : All64 (newD n).S := fun s hs => by rw [List.eq_of_mem_replicate hs, zsec_size]
theorem newD_flat : ∀ n, flat (newD n).S = List.replicate (64 * n) 0
  | 0 => rfl
  | n + 1 => by
    have h := newD_flat n
    unfold flat newD at *
    rw [List.replicate_succ, List.flatMap_cons, h, zsec, mkb_data, List.replicate_append_replicate]
    congr 1
    omega

set_option maxHeartbeats 400000 in
theorem bnew_no (n : Int) (w : World) (h : n < 1 ∨ 16384 < n) : Calls Tryd.prog 48 #[.int .i64 n] w fun e w' => e = .returned (.pointer none) ∧ w = w' := by
  by_cases h1 : n < 1
  · go_enter Tryd.func48, Tryd.ntmps48
    go_wp2
    go_ret
    exact ⟨rfl, rfl⟩
  · have h2 : 16384 < n := by omega
    clear h
    go_enter Tryd.func48, Tryd.ntmps48
    go_wp2
    go_ret
    exact ⟨rfl, rfl⟩

set_option maxRecDepth 100000 in
set_option maxHeartbeats 400000 in
theorem bnew_yes (n : Nat) (w : World) (h1 : 1 ≤ n) (h2 : n ≤ 16384) : Calls Tryd.prog 48 #[.int .i64 n] w fun e w' =>
    e = .returned (.pointer (some ⟨w.heap.size + 1, 0, none⟩)) ∧ Below w.heap.size w w' ∧ Dk w' (w.heap.size + 1) w.heap.size (newD n) := by
  obtain ⟨i0, hi, hz0, hz1, hz2⟩ := info_parts infoU8
  have hmk := run_make_bytes (P := Tryd.prog) 74 5 i0 Tryd.underlying74 hi hz0 hz1 hz2 ((n : Int) * 64) (by omega) (by omega)
  have hn : ((n : Int) * 64).toNat = 64 * n := by omega
  rw [hn] at hmk
  clear hn
  go_enter Tryd.func48, Tryd.ntmps48
  go_wp2
  go_ret
  refine ⟨rfl, ((Below.refl _ w).alloc (Nat.le_refl _) _).alloc (by simp) _, by simp, ?_, ?_, newD_all n, by simpa [newD] using h2⟩
  · have h := Blk.new (w.alloc (.cells (zrow (64 * n)) 5)) 115 #[.slice (some ⟨w.heap.size, 0, none⟩) (64 * n) (64 * n), .int .i64 0, .int .i64 0, .int .i64 0]
    simpa [newD] using h
  · rw [newD_flat]
    exact (Blk.new w _ _).alloc _

set_option maxHeartbeats 400000 in
theorem sectors_of (p : Nat) (A : Option Addr) (n c : Nat) (w : World) (h : w.cell? ⟨p, 0, none⟩ = some (.slice A (64 * n) c)) (hn : n ≤ 16384) :
    Calls Tryd.prog 44 #[.pointer (some ⟨p, 0, none⟩)] w fun e w' => e = .returned (.int .i64 n) ∧ w = w' := by
  obtain ⟨L, hL⟩ : ∃ L, L = 64 * n := ⟨_, rfl⟩
  rw [← hL] at h
  have e : (n : Int) = (L : Int) / 64 := by omega
  rw [e]
  have hL2 : L ≤ 1048576 := by omega
  clear hL e
  go_enter Tryd.func44, Tryd.ntmps44
  go_wp2
  go_ret
  exact ⟨rfl, rfl⟩
set_option maxHeartbeats 400000 in
theorem sectors_nil (w : World) : Calls Tryd.prog 44 #[.pointer none] w fun e w' => e = .returned (.int .i64 0) ∧ w = w' := by
  go_enter Tryd.func44, Tryd.ntmps44
  go_wp2
  go_ret
  exact ⟨rfl, rfl⟩
theorem sectors_any {p g : Nat} {D : Dsk} {w : World} (h : Dk w p g D) : Calls Tryd.prog 44 #[.pointer (some ⟨p, 0, none⟩)] w fun e w' => e = .returned (.int .i64 D.S.length) ∧ w = w' :=
  sectors_of p _ _ _ w (h.head.at_ 0 _ rfl) h.len



set_option maxHeartbeats 400000 in
theorem sector_any {p g : Nat} {D : Dsk} {w : World} (h : Dk w p g D) (k : Nat) (hk : k < D.S.length) :
    Calls Tryd.prog 49 #[.pointer (some ⟨p, 0, none⟩), .int .i64 k] w fun e w' => e = .returned (.slice (some ⟨g, 64 * k, none⟩) 64 64) ∧ w = w' := by
  have hc := h.head.at_ 0 _ rfl
  obtain ⟨L, hL⟩ : ∃ L, L = 64 * D.S.length := ⟨_, rfl⟩
  rw [← hL] at hc
  have h1 := h.len
  have h2 : 64 * k + 64 ≤ L := by omega
  have h3 : L ≤ 1048576 := by omega
  clear hL h
  go_enter Tryd.func49, Tryd.ntmps49
  go_wp2
  go_ret
  have e1 : Value.slice (some ⟨g, k * 64, none⟩) (k * 64 + 64 - k * 64) (k * 64 + 64 - k * 64) = .slice (some ⟨g, 64 * k, none⟩) 64 64 := by
    rw [show k * 64 + 64 - k * 64 = 64 by omega, Nat.mul_comm]
  exact ⟨congrArg Ending.returned e1, rfl⟩

/-- A disk whose sectors below n are sealed, too. -/
def Dsk.seal_ (D : Dsk) (n : Int) : Dsk := { D with low := max D.low n }
end Go.Proofs.YtmbjflcmbenbdaaDoor

/- Package block: use, Read, Write. -/
namespace Go.Proofs.YtmbjflcmbenbdaaDoor
open Go.RowKit
set_option linter.unusedVariables false

theorem Dk.drewN {w : World} {p g : Nat} {D : Dsk} (h : Dk w p g D) (n : Nat) : Dk (w.drewN n) p g D := ⟨h.ne, h.head.drewN n, h.row.drewN n, h.all, h.len⟩

set_option maxHeartbeats 400000 in
theorem use_far (p : Nat) (A : Option Addr) (n c : Nat) (w : World) (h : w.cell? ⟨p, 0, none⟩ = some (.slice A (64 * n) c)) (hn : n ≤ 16384) (at_ : Int) (ho : at_ < 0 ∨ (n : Int) ≤ at_) (f : Value) :
    Calls Tryd.prog 58 #[.pointer (some ⟨p, 0, none⟩), .int .i64 at_, f] w fun e w' => e = .returned (.tuple #[.slice none 0 0, .int .i64 14]) ∧ w = w' := by
  have hs := sectors_of p A n c w h hn
  have HS := Lib.hid hs
  clear hs h
  by_cases h0 : at_ < 0
  · go_enter Tryd.func58, Tryd.ntmps58
    go_wp2
    go_ret2
    exact ⟨rfl, rfl⟩
  · have h1 : (n : Int) ≤ at_ := by omega
    clear ho
    go_enter Tryd.func58, Tryd.ntmps58
    go_wp2_with (go_at_call 44; refine HS.out.mono ?_; rintro e w' ⟨rfl, rfl⟩)
    go_ret2
    exact ⟨rfl, rfl⟩

set_option maxHeartbeats 400000 in
theorem use_nil (w : World) (at_ : Int) (f : Value) :
    Calls Tryd.prog 58 #[.pointer none, .int .i64 at_, f] w fun e w' => e = .returned (.tuple #[.slice none 0 0, .int .i64 1]) ∧ w = w' := by
  go_enter Tryd.func58, Tryd.ntmps58
  go_wp2
  go_ret2
  exact ⟨rfl, rfl⟩


set_option maxHeartbeats 400000 in
theorem use_read {p g : Nat} {D : Dsk} {w : World} (h : Dk w p g D) (k : Nat) (hk : k < D.S.length)
    (hK : Hid (Calls Tryd.prog 59 #[] w fun e w' => e = .returned (.int .i64 0) ∧ w = w')) :
    Calls Tryd.prog 58 #[.pointer (some ⟨p, 0, none⟩), .int .i64 k, .func (.func 59) #[] #[]] w fun e w' => e = .returned (.tuple #[.slice (some ⟨g, 64 * k, none⟩) 64 64, .int .i64 0]) ∧ w = w' := by
  have hs := sectors_any h
  have HS := Lib.hid hs
  have hc := sector_any h k hk
  have HC := Lib.hid hc
  have d1 : decide ((k : Int) < 0) = false := by simp
  have d2 : decide (D.S.length ≤ k) = false := by simpa using hk
  clear hs h hc
  go_enter Tryd.func58, Tryd.ntmps58
  go_wp2_with (first | (go_at_call 44; refine HS.out.mono ?_; rintro e w' ⟨rfl, rfl⟩) | (go_at_call 59; refine hK.out.mono ?_; rintro e w' ⟨rfl, rfl⟩) | (go_at_call 49; refine HC.out.mono ?_; rintro e w' ⟨rfl, rfl⟩))
  go_ret2
  exact ⟨rfl, rfl⟩




end Go.Proofs.YtmbjflcmbenbdaaDoor

/- Package block: Read and Write. -/
namespace Go.Proofs.YtmbjflcmbenbdaaDoor
open Go.RowKit
set_option linter.unusedVariables false

/-- Is there such a sector? -/
def Dsk.has (D : Dsk) (at_ : Int) : Bool := decide (0 ≤ at_) && decide (at_ < D.S.length)
theorem has_iff {D : Dsk} {at_ : Int} : D.has at_ = true ↔ 0 ≤ at_ ∧ at_ < D.S.length := by unfold Dsk.has; simp
theorem has_not {D : Dsk} {at_ : Int} (h : D.has at_ = false) : at_ < 0 ∨ (D.S.length : Int) ≤ at_ := by
  by_cases h1 : 0 ≤ at_ ∧ at_ < D.S.length
  · rw [has_iff.2 h1] at h; cases h
  · omega
/-- What Read tells, and what the disk is then. -/
def Dsk.rdS (D : Dsk) (at_ : Int) : ByteArray := if D.has at_ then D.S.getD at_.toNat ⟨#[]⟩ else ⟨#[]⟩
def Dsk.rdE (D : Dsk) (at_ : Int) : Int := if D.has at_ then 0 else 14
def Dsk.rdD (D : Dsk) (at_ : Int) : Dsk := if D.has at_ then { D with rd := wrap64 (D.rd + 1) } else D
/-- What Write tells, and what the disk is then. -/
def Dsk.wrE (D : Dsk) (at_ : Int) (s : ByteArray) : Int := if D.has at_ then (if s.size = 64 then (if at_ < D.low then 13 else 0) else 1) else 14
def Dsk.wrD (D : Dsk) (at_ : Int) (s : ByteArray) : Dsk := if D.wrE at_ s = 0 then { D with S := D.S.set at_.toNat s, wr := wrap64 (D.wr + 1) } else D

set_option maxHeartbeats 400000 in
theorem clo_read (w : World) : Calls Tryd.prog 59 #[] w fun e w' => e = .returned (.int .i64 0) ∧ w = w' := by
  go_enter Tryd.func59, Tryd.ntmps59
  go_wp2
  go_ret
  exact ⟨rfl, rfl⟩

set_option maxHeartbeats 400000 in
theorem read_any {p g : Nat} {D : Dsk} {w : World} (h : Dk w p g D) (at_ : Int) :
    Calls Tryd.prog 42 #[.pointer (some ⟨p, 0, none⟩), .int .i64 at_] w fun e w' => e = .returned (.tuple #[.string (D.rdS at_), .int .i64 (D.rdE at_)]) ∧ But (· = p) w w' ∧ Dk w' p g (D.rdD at_) := by
  cases hh : D.has at_
  · have e1 : D.rdS at_ = ⟨#[]⟩ := by unfold Dsk.rdS; simp [hh]
    have e2 : D.rdE at_ = 14 := by unfold Dsk.rdE; simp [hh]
    have e3 : D.rdD at_ = D := by unfold Dsk.rdD; simp [hh]
    rw [e1, e2, e3]
    have hu := use_far p _ _ _ w (h.head.at_ 0 _ rfl) h.len at_ (has_not hh) (.func (.func 59) #[] #[])
    have HU := Lib.hid hu
    have H := Lib.hid h
    clear hu h e1 e2 e3 hh
    go_enter Tryd.func42, Tryd.ntmps42
    go_wp2_with (go_at_call 58; refine HU.out.mono ?_; rintro e w' ⟨rfl, rfl⟩)
    go_ret2
    exact ⟨rfl, But.refl _ _, H.out⟩
  · obtain ⟨h0, h1⟩ := has_iff.1 hh
    obtain ⟨k, rfl⟩ : ∃ k : Nat, at_ = k := ⟨at_.toNat, by omega⟩
    have hk : k < D.S.length := by omega
    have e1 : D.rdS k = D.S[k] := by unfold Dsk.rdS; simp [hh, hk]
    have e2 : D.rdE k = 0 := by unfold Dsk.rdE; simp [hh]
    have e3 : D.rdD k = { D with rd := wrap64 (D.rd + 1) } := by unfold Dsk.rdD; simp [hh]
    rw [e1, e2, e3]
    have hu := use_read h k hk (Lib.hid (clo_read w))
    have hc := h.head.at_ 2 _ rfl
    have hf := h.head.frozen 2
    have hs := h.head.set_ 2 (.int .i64 (wrap64 (D.rd + 1)))
    have hrow := h.row.far (p := ⟨p, 2, none⟩) (fun e => h.ne e.symm) (.int .i64 (wrap64 (D.rd + 1)))
    have hcv := run_string_sec (P := Tryd.prog) (w.setCell ⟨p, 2, none⟩ (.int .i64 (wrap64 (D.rd + 1)))) 74 9 5 g k 5 D.S h.all hk Tryd.underlying74 Tryd.underlying5 Tryd.underlying9 hrow
    have HU := Lib.hid hu
    have H := Lib.hid h
    have HS := Lib.hid hs
    have HR := Lib.hid hrow
    generalize D.S[k] = s at *
    clear hu h e1 e2 e3 hh hs hrow h0 h1 hk
    go_enter Tryd.func42, Tryd.ntmps42
    go_wp2_with (go_at_call 58; refine HU.out.mono ?_; rintro e w' ⟨rfl, rfl⟩)
    go_ret2
    exact ⟨rfl, (But.refl (· = p) w).setCell (p := ⟨p, 2, none⟩) (.inl rfl) _, H.out.ne, HS.out, HR.out, H.out.all, H.out.len⟩
set_option maxHeartbeats 400000 in
theorem read_nil (w : World) (at_ : Int) :
    Calls Tryd.prog 42 #[.pointer none, .int .i64 at_] w fun e w' => e = .returned (.tuple #[.string ⟨#[]⟩, .int .i64 1]) ∧ w = w' := by
  have hu := use_nil w at_ (.func (.func 59) #[] #[])
  have HU := Lib.hid hu
  clear hu
  go_enter Tryd.func42, Tryd.ntmps42
  go_wp2_with (go_at_call 58; refine HU.out.mono ?_; rintro e w' ⟨rfl, rfl⟩)
  go_ret2
  exact ⟨rfl, rfl⟩
set_option maxHeartbeats 400000 in
theorem read_none (p c : Nat) (w : World) (h : w.cell? ⟨p, 0, none⟩ = some (.slice none 0 c)) (at_ : Int) :
    Calls Tryd.prog 42 #[.pointer (some ⟨p, 0, none⟩), .int .i64 at_] w fun e w' => e = .returned (.tuple #[.string ⟨#[]⟩, .int .i64 14]) ∧ w = w' := by
  have hu := use_far p none 0 c w h (by omega) at_ (by omega) (.func (.func 59) #[] #[])
  have HU := Lib.hid hu
  clear hu h
  go_enter Tryd.func42, Tryd.ntmps42
  go_wp2_with (go_at_call 58; refine HU.out.mono ?_; rintro e w' ⟨rfl, rfl⟩)
  go_ret2
  exact ⟨rfl, rfl⟩








end Go.Proofs.YtmbjflcmbenbdaaDoor

/- Package block: Of. -/
namespace Go.Proofs.YtmbjflcmbenbdaaDoor
open Go.RowKit
set_option linter.unusedVariables false

/-- A text filled, or cut, to a sector. -/
def fill64 (s : ByteArray) : ByteArray := mkb (fillL s.data.toList 64)
theorem fill64_size (s : ByteArray) : (fill64 s).size = 64 := by unfold fill64; rw [mkb_size, fillL_length]
theorem over_zsec (s : ByteArray) : over zsec s = fill64 s := by
  unfold over fill64 fillL zsec
  rw [mkb_data, List.drop_replicate, len_data]
  congr 3
  omega

/-- The disk behind k rounds of Of. -/
def ofD (l : List ByteArray) (k : Nat) : Dsk := ⟨(l.take k).map fill64 ++ List.replicate (l.length - k) zsec, 0, 0, 0⟩
theorem ofD_zero (l : List ByteArray) : ofD l 0 = newD l.length := by simp [ofD, newD]
theorem ofD_length (l : List ByteArray) {k : Nat} (h : k ≤ l.length) : (ofD l k).S.length = l.length := by simp [ofD]; omega
theorem ofD_at (l : List ByteArray) {k : Nat} (h : k < l.length) (h' : k < (ofD l k).S.length) : (ofD l k).S[k] = zsec := by
  have hl : ((l.take k).map fill64).length = k := by simp; omega
  have e : (ofD l k).S[k]? = some zsec := by
    show ((l.take k).map fill64 ++ List.replicate (l.length - k) zsec)[k]? = _
    rw [List.getElem?_append_right (by omega), hl, Nat.sub_self, List.getElem?_replicate, if_pos (by omega)]
  exact (List.getElem?_eq_some_iff.1 e).2
theorem ofD_set (l : List ByteArray) {k : Nat} (h : k < l.length) : { ofD l k with S := (ofD l k).S.set k (fill64 l[k]) } = ofD l (k + 1) := by
  have hl : ((l.take k).map fill64).length = k := by simp; omega
  show Dsk.mk _ _ _ _ = Dsk.mk _ _ _ _
  congr 1
  show ((l.take k).map fill64 ++ List.replicate (l.length - k) zsec).set k _ = _
  rw [List.set_append_right _ _ (by omega), hl, Nat.sub_self, show l.length - k = (l.length - (k + 1)) + 1 by omega, List.replicate_succ, List.set_cons_zero, List.take_succ_eq_append_getElem h, List.map_append, List.append_assoc]
  rfl
theorem ofD_full (l : List ByteArray) : ofD l l.length = ⟨l.map fill64, 0, 0, 0⟩ := by simp [ofD]

set_option maxHeartbeats 400000 in
theorem of_no (A : Option Addr) (n c : Nat) (w : World) (h : n < 1 ∨ 16384 < n) (hn : n ≤ 281474976710656) : Calls Tryd.prog 21 #[.slice A n c] w fun e w' => e = .returned (.pointer none) ∧ w = w' := by
  have hw := bnew_no n w (by omega)
  have HW := Lib.hid hw
  clear hw
  go_enter Tryd.func21, Tryd.ntmps21
  go_wp2_with (go_at_call 48; refine HW.out.mono ?_; rintro e w4 ⟨rfl, rfl⟩)
  go_ret
  exact ⟨rfl, rfl⟩

set_option maxRecDepth 100000 in
set_option maxHeartbeats 800000 in
theorem of_yes (ad : Addr) (l : List ByteArray) (c : Nat) (w : World) (h1 : 1 ≤ l.length) (h2 : l.length ≤ 16384) (hb : ad.block < w.heap.size)
    (hl : ∀ i (hi : i < l.length), w.cell? (ad.add i) = some (.string l[i])) :
    Calls Tryd.prog 21 #[.slice (some ad) l.length c] w fun e w' =>
      e = .returned (.pointer (some ⟨w.heap.size + 1, 0, none⟩)) ∧ Below w.heap.size w w' ∧ Dk w' (w.heap.size + 1) w.heap.size ⟨l.map fill64, 0, 0, 0⟩ := by
  rw [← ofD_full]
  have hw := bnew_yes l.length w h1 h2
  rw [← ofD_zero] at hw
  have HW := Lib.hid hw
  have HL := Lib.hid hl
  clear hw hl
  go_enter Tryd.func21, Tryd.ntmps21
  go_wp2_with (go_at_call 48; refine HW.out.mono ?_; rintro e w1 ⟨rfl, hbel, hdk⟩)
  go_loopw [13] (fun i wr => ∃ k : Nat, k ≤ l.length ∧ i = .int .i64 k ∧ Below w.heap.size w wr ∧ Dk wr (w.heap.size + 1) w.heap.size (ofD l k)) (fun i _ => l.length - (intOf i).toNat)
  case atStart => exact ⟨0, Nat.zero_le _, rfl, hbel, hdk⟩
  case round =>
    obtain ⟨k, hk, rfl, hbel, hdk⟩ := hrel
    by_cases hlt : k < l.length
    · have hc : wr.cell? (ad.add k) = some (.string l[k]) := (hbel.cell (p := ad.add k) (by rw [show (ad.add k).block = ad.block by unfold Addr.add; split <;> rfl]; exact hb)).trans (HL.out k hlt)
      have hkl : k < (ofD l k).S.length := by rw [ofD_length l hk]; exact hlt
      have hs := sector_any hdk k hkl
      have hset := ofD_set l hlt
      have hover := over_zsec l[k]
      have hat := ofD_at l hlt hkl
      have hall : All64 (ofD l (k + 1)).S := by
        rw [← hset]
        exact hdk.all.set_ (fill64_size _)
      have HS := Lib.hid hs
      have HT := Lib.hid hset
      have HO := Lib.hid hover
      have HA := Lib.hid hat
      have HALL := Lib.hid hall
      have HD := Lib.hid hdk
      have HB := Lib.hid hbel
      have hlen : Hid ((ofD l (k + 1)).S.length = (ofD l k).S.length) := by show _ = _; rw [ofD_length l hk, ofD_length l hlt]
      clear hs hset hover hat hall hdk hbel
      generalize l[k] = s at *
      go_wp2_with (first
        | (go_at_call 49; refine HS.out.mono ?_; rintro e w' ⟨rfl, rfl⟩)
        | (refine wpList_copy_sec rfl (.tmp 20) (.tmp 21) _ _ rfl 5 Tryd.underlying74 sizeU8 w.heap.size k 5 (ofD l k).S s rfl rfl HD.out.all hkl HD.out.row ?_
           intro w5 hb5 hg5
           rw [HA.out, HO.out] at hb5
           have h5 := HD.out.head.grown hg5 (by intro e; injection e with e; omega)
           have HG := Lib.hid hg5
           have HB5 := Lib.hid hb5
           have H5 := Lib.hid h5
           clear hg5 hb5 h5))
      go_roundw
      case rel =>
        refine ⟨k + 1, by omega, by go_num, HB.out.grown HG.out (by have := HB.out.size; omega) (fun j e => by injection e with e; omega), by omega, ?_, ?_, HALL.out, by rw [hlen.out]; exact HD.out.len⟩
        · have h6 := H5.out
          rw [← HT.out]
          simpa using h6
        · rw [← HT.out]
          exact HB5.out
      case measure => simp [intOf]; omega
    · obtain rfl : k = l.length := by omega
      go_wp2
      go_ret
      exact ⟨rfl, hbel, hdk⟩
end Go.Proofs.YtmbjflcmbenbdaaDoor
