/- Package block: what turns and what stays; a disk in memory; New, Sectors, Reads, Writes, sector, Seal. -/
import Derived.Test.YtibhebfkgjklpaaBut
namespace Go.Proofs.Ytibhebfkgjklpaa
open Go.RowKit
set_option linter.unusedVariables false

/-- A disk: its sectors; how many are sealed, were read, were written. -/
structure Dsk where
  S : List ByteArray
  low : Int
  rd : Int
  wr : Int

def flat (S : List ByteArray) : List UInt8 := S.flatMap fun s => s.data.toList
def All64 (S : List ByteArray) : Prop := ∀ s, s ∈ S → s.size = 64
theorem All64.cons {s : ByteArray} {S : List ByteArray} (h : All64 (s :: S)) : s.size = 64 ∧ All64 S := ⟨h s (by simp), fun x hx => h x (by simp [hx])⟩
theorem flat_length : ∀ {S : List ByteArray}, All64 S → (flat S).length = 64 * S.length
  | [], _ => rfl
  | s :: S, h => by
    have h1 := flat_length h.cons.2
    have h2 := h.cons.1
    unfold flat at *
    rw [List.flatMap_cons, List.length_append, h1, len_data, h2, List.length_cons]
    omega
theorem flat_part : ∀ {S : List ByteArray} {k : Nat}, All64 S → (hk : k < S.length) → ((flat S).drop (64 * k)).take 64 = S[k].data.toList
  | s :: S, 0, h, _ => by
    have h2 := h.cons.1
    rw [Nat.mul_zero, List.drop_zero]
    show ((s :: S).flatMap _).take 64 = _
    rw [List.flatMap_cons, List.take_append_of_le_length (by rw [len_data, h2]; exact Nat.le_refl _), List.take_of_length_le (by rw [len_data, h2]; exact Nat.le_refl _)]
    rfl
  | s :: S, k + 1, h, hk => by
    have h1 := flat_part (k := k) h.cons.2 (by simpa using hk)
    have h2 := h.cons.1
    show (((s :: S).flatMap _).drop _).take 64 = _
    rw [List.flatMap_cons, show 64 * (k + 1) = s.data.toList.length + 64 * k by rw [len_data, h2]; omega, List.drop_append, List.drop_of_length_le (by omega), Nat.add_sub_cancel_left, List.nil_append]
    simpa [flat] using h1
theorem flat_set : ∀ {S : List ByteArray} {k : Nat} {t : ByteArray}, All64 S → k < S.length → t.size = 64 → (flat S).take (64 * k) ++ t.data.toList ++ (flat S).drop (64 * k + 64) = flat (S.set k t)
  | s :: S, 0, t, h, _, ht => by
    have h2 := h.cons.1
    show ((s :: S).flatMap _).take _ ++ _ ++ ((s :: S).flatMap _).drop _ = (t :: S).flatMap _
    rw [List.flatMap_cons, List.flatMap_cons, Nat.mul_zero, List.take_zero, List.nil_append, Nat.zero_add, List.drop_append, List.drop_of_length_le (by rw [len_data, h2]; exact Nat.le_refl _), len_data, h2]
    simp
  | s :: S, k + 1, t, h, hk, ht => by
    have h1 := flat_set (k := k) h.cons.2 (by simpa using hk) ht
    have h2 := h.cons.1
    show ((s :: S).flatMap _).take _ ++ _ ++ ((s :: S).flatMap _).drop _ = (s :: S.set k t).flatMap _
    have h3 : s.data.toList.length = 64 := by rw [len_data, h2]
    rw [List.flatMap_cons, List.flatMap_cons, List.take_append, List.take_of_length_le (by omega), h3, show 64 * (k + 1) - 64 = 64 * k by omega, List.drop_append, List.drop_of_length_le (by omega), h3, show 64 * (k + 1) + 64 - 64 = 64 * k + 64 by omega, List.nil_append]
    unfold flat at h1
    rw [← h1]
    simp [List.append_assoc]
theorem All64.set_ {S : List ByteArray} {k : Nat} {t : ByteArray} (h : All64 S) (ht : t.size = 64) : All64 (S.set k t) := by
  intro x hx
  rcases List.mem_or_eq_of_mem_set hx with h1 | h1
  · exact h x h1
  · rw [h1]; exact ht

/-- The disk D lies at p, its row of bytes at g. -/
structure Dk (w : World) (p g : Nat) (D : Dsk) : Prop where
  ne : p ≠ g
  head : Blk w p 62 #[.slice (some ⟨g, 0, none⟩) (64 * D.S.length) (64 * D.S.length), .int .i64 D.low, .int .i64 D.rd, .int .i64 D.wr]
  row : Blk w g 5 (Lib.byteCells (flat D.S)).toArray
  all : All64 D.S
  len : D.S.length ≤ 16384
theorem Dk.but {S : Nat → Prop} {w w' : World} {p g : Nat} {D : Dsk} (h : Dk w p g D) (hb : But S w w') (hp : ¬ S p) (hg : ¬ S g) : Dk w' p g D := ⟨h.ne, h.head.but hb hp, h.row.but hb hg, h.all, h.len⟩
theorem Dk.below {B : Nat} {w w' : World} {p g : Nat} {D : Dsk} (h : Dk w p g D) (hb : Below B w w') (hp : p < B) (hg : g < B) : Dk w' p g D := ⟨h.ne, h.head.below hb hp, h.row.below hb hg, h.all, h.len⟩
theorem Dk.drew {w : World} {p g : Nat} {D : Dsk} (h : Dk w p g D) : Dk w.drew p g D := ⟨h.ne, h.head.drew, h.row.drew, h.all, h.len⟩
theorem Dk.alloc {w : World} {p g : Nat} {D : Dsk} (h : Dk w p g D) (o : Obj) : Dk (w.alloc o) p g D := ⟨h.ne, h.head.alloc o, h.row.alloc o, h.all, h.len⟩

/-- A sector of bytes 0. -/
def zsec : ByteArray := mkb (List.replicate 64 0)
def newD (n : Nat) : Dsk := ⟨List.replicate n zsec, 0, 0, 0⟩
theorem zsec_size : zsec.size = 64 := by unfold zsec; rw [mkb_size, List.length_replicate]
theorem newD_all (n : Nat) : All64 (newD n).S := fun s hs => by rw [List.eq_of_mem_replicate hs, zsec_size]
theorem newD_flat : ∀ n, flat (newD n).S = List.replicate (64 * n) 0
  | 0 => rfl
  | n + 1 => by
    have h := newD_flat n
    unfold flat newD at *
    rw [List.replicate_succ, List.flatMap_cons, h, zsec, mkb_data, List.replicate_append_replicate]
    congr 1
    omega

set_option maxHeartbeats 400000 in
theorem bnew_no (n : Int) (w : World) (h : n < 1 ∨ 16384 < n) : Calls Try.prog 11 #[.int .i64 n] w fun e w' => e = .returned (.pointer none) ∧ w = w' := by
  by_cases h1 : n < 1
  · go_enter Try.func11, Try.ntmps11
    go_wp2
    go_ret
    exact ⟨rfl, rfl⟩
  · have h2 : 16384 < n := by omega
    clear h
    go_enter Try.func11, Try.ntmps11
    go_wp2
    go_ret
    exact ⟨rfl, rfl⟩

set_option maxRecDepth 100000 in
set_option maxHeartbeats 400000 in
theorem bnew_yes (n : Nat) (w : World) (h1 : 1 ≤ n) (h2 : n ≤ 16384) : Calls Try.prog 11 #[.int .i64 n] w fun e w' =>
    e = .returned (.pointer (some ⟨w.heap.size + 1, 0, none⟩)) ∧ Below w.heap.size w w' ∧ Dk w' (w.heap.size + 1) w.heap.size (newD n) := by
  obtain ⟨i0, hi, hz0, hz1, hz2⟩ := info_parts infoU8
  have hmk := run_make_bytes (P := Try.prog) 60 5 i0 Try.underlying60 hi hz0 hz1 hz2 ((n : Int) * 64) (by omega) (by omega)
  have hn : ((n : Int) * 64).toNat = 64 * n := by omega
  rw [hn] at hmk
  clear hn
  go_enter Try.func11, Try.ntmps11
  go_wp2
  go_ret
  refine ⟨rfl, ((Below.refl _ w).alloc (Nat.le_refl _) _).alloc (by simp) _, by simp, ?_, ?_, newD_all n, by simpa [newD] using h2⟩
  · have h := Blk.new (w.alloc (.cells (zrow (64 * n)) 5)) 62 #[.slice (some ⟨w.heap.size, 0, none⟩) (64 * n) (64 * n), .int .i64 0, .int .i64 0, .int .i64 0]
    simpa [newD] using h
  · rw [newD_flat]
    exact (Blk.new w _ _).alloc _

set_option maxHeartbeats 400000 in
theorem sectors_of (p : Nat) (A : Option Addr) (n c : Nat) (w : World) (h : w.cell? ⟨p, 0, none⟩ = some (.slice A (64 * n) c)) (hn : n ≤ 16384) :
    Calls Try.prog 25 #[.pointer (some ⟨p, 0, none⟩)] w fun e w' => e = .returned (.int .i64 n) ∧ w = w' := by
  obtain ⟨L, hL⟩ : ∃ L, L = 64 * n := ⟨_, rfl⟩
  rw [← hL] at h
  have e : (n : Int) = (L : Int) / 64 := by omega
  rw [e]
  have hL2 : L ≤ 1048576 := by omega
  clear hL e
  go_enter Try.func25, Try.ntmps25
  go_wp2
  go_ret
  exact ⟨rfl, rfl⟩
set_option maxHeartbeats 400000 in
theorem sectors_nil (w : World) : Calls Try.prog 25 #[.pointer none] w fun e w' => e = .returned (.int .i64 0) ∧ w = w' := by
  go_enter Try.func25, Try.ntmps25
  go_wp2
  go_ret
  exact ⟨rfl, rfl⟩
theorem sectors_any {p g : Nat} {D : Dsk} {w : World} (h : Dk w p g D) : Calls Try.prog 25 #[.pointer (some ⟨p, 0, none⟩)] w fun e w' => e = .returned (.int .i64 D.S.length) ∧ w = w' :=
  sectors_of p _ _ _ w (h.head.at_ 0 _ rfl) h.len



set_option maxHeartbeats 400000 in
theorem sector_any {p g : Nat} {D : Dsk} {w : World} (h : Dk w p g D) (k : Nat) (hk : k < D.S.length) :
    Calls Try.prog 40 #[.pointer (some ⟨p, 0, none⟩), .int .i64 k] w fun e w' => e = .returned (.slice (some ⟨g, 64 * k, none⟩) 64 64) ∧ w = w' := by
  have hc := h.head.at_ 0 _ rfl
  obtain ⟨L, hL⟩ : ∃ L, L = 64 * D.S.length := ⟨_, rfl⟩
  rw [← hL] at hc
  have h1 := h.len
  have h2 : 64 * k + 64 ≤ L := by omega
  have h3 : L ≤ 1048576 := by omega
  clear hL h
  go_enter Try.func40, Try.ntmps40
  go_wp2
  go_ret
  have e1 : Value.slice (some ⟨g, k * 64, none⟩) (k * 64 + 64 - k * 64) (k * 64 + 64 - k * 64) = .slice (some ⟨g, 64 * k, none⟩) 64 64 := by
    rw [show k * 64 + 64 - k * 64 = 64 by omega, Nat.mul_comm]
  exact ⟨congrArg Ending.returned e1, rfl⟩

/-- A disk whose sectors below n are sealed, too. -/
def Dsk.seal_ (D : Dsk) (n : Int) : Dsk := { D with low := max D.low n }
set_option maxHeartbeats 400000 in
theorem seal_any {p g : Nat} {D : Dsk} {w : World} (h : Dk w p g D) (n : Int) :
    Calls Try.prog 26 #[.pointer (some ⟨p, 0, none⟩), .int .i64 n] w fun e w' => e = .returned (.tuple #[]) ∧ But (· = p) w w' ∧ Dk w' p g (D.seal_ n) := by
  have hc := h.head.at_ 1 _ rfl
  have hf := h.head.frozen 1
  have hs := h.head.set_ 1 (.int .i64 (max D.low n))
  have H := Lib.hid h
  have HS := Lib.hid hs
  clear h hs
  go_enter Try.func26, Try.ntmps26
  go_wp2
  go_end0
  exact ⟨rfl, (But.refl (· = p) w).setCell (p := ⟨p, 1, none⟩) (.inl rfl) _, H.out.ne, HS.out, H.out.row.far (by exact fun e => H.out.ne e.symm) _, H.out.all, H.out.len⟩
set_option maxHeartbeats 400000 in
theorem seal_nil (n : Int) (w : World) : Calls Try.prog 26 #[.pointer none, .int .i64 n] w fun e w' => e = .returned (.tuple #[]) ∧ w = w' := by
  go_enter Try.func26, Try.ntmps26
  go_wp2
  go_end0
  exact ⟨rfl, rfl⟩
end Go.Proofs.Ytibhebfkgjklpaa
