/- Package frames: what a pool is; bytes, New, Frames, Held, free, Free. -/
import Derived.Test.YtmbjflcmbenbdaaDoorRowI
import Derived.Lib.SliceRun
import Derived.BigFrame
import Derived.StillTailTactics
import Derived.Deep.RegionHeld3
import Derived.RegionTactic
import Derived.BigRegion
namespace Go.Proofs.YtmbjflcmbenbdaaDoor
open Go.RowKit
set_option linter.unusedVariables false

/-- How many are free. -/
def freeN (H : List Int) : Nat := H.countP fun x => decide (x = 0)
theorem freeN_le (H : List Int) : freeN H ≤ H.length := List.countP_le_length
theorem freeN_succ (H : List Int) {k : Nat} (hk : k < H.length) : freeN (H.take (k + 1)) = freeN (H.take k) + if H[k] = 0 then 1 else 0 := by
  unfold freeN
  rw [List.take_succ_eq_append_getElem hk, List.countP_append]
  simp [List.countP_cons]

/-- A pool: how often each frame is held, and its bytes. -/
structure Pol where
  H : List Int
  S : List ByteArray

/-- The pool X lies at p, how often each is held at h, the bytes at g. -/
structure Pl (w : World) (p h g : Nat) (X : Pol) : Prop where
  head : Blk w p 95 #[.slice (some ⟨h, 0, none⟩) X.H.length X.H.length, .slice (some ⟨g, 0, none⟩) (64 * X.S.length) (64 * X.S.length)]
  row : Blk w h 3 (icells X.H)
  byt : Blk w g 5 (Lib.byteCells (flat X.S)).toArray
  ph : p ≠ h
  pg : p ≠ g
  hg : h ≠ g
  all : All64 X.S
  lenS : X.S.length = X.H.length
  len : X.H.length ≤ 4096

section
variable {w w' : World} {p h g : Nat} {X : Pol}
theorem Pl.below {B : Nat} (a : Pl w p h g X) (hb : Below B w w') (hp : p < B) (hh : h < B) (hg : g < B) : Pl w' p h g X :=
  ⟨a.head.below hb hp, a.row.below hb hh, a.byt.below hb hg, a.ph, a.pg, a.hg, a.all, a.lenS, a.len⟩
theorem Pl.on (a : Pl w p h g X) (hb : Below w.heap.size w w') : Pl w' p h g X := a.below hb a.head.lt a.row.lt a.byt.lt
theorem Pl.but {S : Nat → Prop} (a : Pl w p h g X) (hb : But S w w') (hp : ¬ S p) (hh : ¬ S h) (hg : ¬ S g) : Pl w' p h g X :=
  ⟨a.head.but hb hp, a.row.but hb hh, a.byt.but hb hg, a.ph, a.pg, a.hg, a.all, a.lenS, a.len⟩
theorem Pl.drewN (a : Pl w p h g X) (n : Nat) : Pl (w.drewN n) p h g X := ⟨a.head.drewN n, a.row.drewN n, a.byt.drewN n, a.ph, a.pg, a.hg, a.all, a.lenS, a.len⟩
theorem Pl.drew (a : Pl w p h g X) : Pl w.drew p h g X := a.drewN 1
theorem Pl.alloc (a : Pl w p h g X) (o : Obj) : Pl (w.alloc o) p h g X := ⟨a.head.alloc o, a.row.alloc o, a.byt.alloc o, a.ph, a.pg, a.hg, a.all, a.lenS, a.len⟩
theorem Pl.far (a : Pl w p h g X) {q : Addr} (hp : p ≠ q.block) (hh : h ≠ q.block) (hg : g ≠ q.block) (u : Value) : Pl (w.setCell q u) p h g X :=
  ⟨a.head.far hp u, a.row.far hh u, a.byt.far hg u, a.ph, a.pg, a.hg, a.all, a.lenS, a.len⟩
theorem Pl.setH (a : Pl w p h g X) (k : Nat) (x : Int) : Pl (w.setCell ⟨h, k, none⟩ (.int .i64 x)) p h g { X with H := X.H.set k x } := by
  refine ⟨?_, ?_, a.byt.far (p := ⟨h, k, none⟩) (fun e => a.hg e.symm) _, a.ph, a.pg, a.hg, a.all, by simpa using a.lenS, by simpa using a.len⟩
  · have := a.head.far (p := ⟨h, k, none⟩) a.ph (.int .i64 x)
    simp only [List.length_set]
    exact this
  · have := a.row.set_ k (.int .i64 x)
    rw [icells_set] at this
    exact this
/-- The bytes have changed, and all else is as it was. -/
theorem Pl.setS (a : Pl w p h g X) {S : List ByteArray} (hb : Blk w' g 5 (Lib.byteCells (flat S)).toArray) (hg : w.grownBy w' (some g)) (hS : S.length = X.S.length) (hA : All64 S) : Pl w' p h g { X with S := S } := by
  refine ⟨?_, a.row.grown hg (by intro e; injection e with e; exact a.hg e), hb, a.ph, a.pg, a.hg, hA, by simpa [hS] using a.lenS, a.len⟩
  have := a.head.grown hg (by intro e; injection e with e; exact a.pg e)
  simp only [hS]
  exact this
end

set_option maxHeartbeats 400000 in
theorem pbytes_any {w : World} {p h g : Nat} {X : Pol} (a : Pl w p h g X) (k : Nat) (hk : k < X.H.length) :
    Calls Tryd.prog 57 #[.pointer (some ⟨p, 0, none⟩), .int .i64 k] w fun e w' => e = .returned (.slice (some ⟨g, 64 * k, none⟩) 64 64) ∧ w = w' := by
  have hc := a.head.at_ 1 _ rfl
  have h0 := a.lenS
  have h1 := a.len
  obtain ⟨L, hL⟩ : ∃ L, L = 64 * X.S.length := ⟨_, rfl⟩
  rw [← hL] at hc
  have h2 : 64 * k + 64 ≤ L := by omega
  have h3 : L ≤ 1048576 := by omega
  clear hL a h0 h1
  go_enter Tryd.func57, Tryd.ntmps57
  go_wp2
  go_ret
  have e1 : Value.slice (some ⟨g, k * 64, none⟩) ((k + 1) * 64 - k * 64) ((k + 1) * 64 - k * 64) = .slice (some ⟨g, 64 * k, none⟩) 64 64 := by
    rw [show (k + 1) * 64 - k * 64 = 64 by omega, Nat.mul_comm]
  exact ⟨congrArg Ending.returned e1, rfl⟩

set_option maxHeartbeats 400000 in
theorem pframes_of (p : Nat) (A : Option Addr) (n c : Nat) (w : World) (h : w.cell? ⟨p, 0, none⟩ = some (.slice A n c)) :
    Calls Tryd.prog 41 #[.pointer (some ⟨p, 0, none⟩)] w fun e w' => e = .returned (.int .i64 n) ∧ w = w' := by
  go_enter Tryd.func41, Tryd.ntmps41
  go_wp2
  go_ret
  exact ⟨rfl, rfl⟩
set_option maxHeartbeats 400000 in
theorem pframes_nil (w : World) : Calls Tryd.prog 41 #[.pointer none] w fun e w' => e = .returned (.int .i64 0) ∧ w = w' := by
  go_enter Tryd.func41, Tryd.ntmps41
  go_wp2
  go_ret
  exact ⟨rfl, rfl⟩
theorem pframes_any {w : World} {p h g : Nat} {X : Pol} (a : Pl w p h g X) : Calls Tryd.prog 41 #[.pointer (some ⟨p, 0, none⟩)] w fun e w' => e = .returned (.int .i64 X.H.length) ∧ w = w' :=
  pframes_of p _ _ _ w (a.head.at_ 0 _ rfl)

set_option maxHeartbeats 400000 in
theorem pheld_nil (s : Int) (w : World) : Calls Tryd.prog 17 #[.pointer none, .int .i64 s] w fun e w' => e = .returned (.int .i64 0) ∧ w = w' := by
  have HS := Lib.hid (pframes_nil w)
  by_cases h0 : s < 0
  · go_enter Tryd.func17, Tryd.ntmps17
    go_wp2
    go_ret
    exact ⟨rfl, rfl⟩
  · have h1 : (0 : Int) ≤ s := by omega
    go_enter Tryd.func17, Tryd.ntmps17
    go_wp2_with (go_at_call 41; refine HS.out.mono ?_; rintro e w' ⟨rfl, rfl⟩)
    go_ret
    exact ⟨rfl, rfl⟩
set_option maxHeartbeats 400000 in
theorem pheld_any {w : World} {p h g : Nat} {X : Pol} (a : Pl w p h g X) (s : Int) : Calls Tryd.prog 17 #[.pointer (some ⟨p, 0, none⟩), .int .i64 s] w fun e w' => e = .returned (.int .i64 (heldI X.H s)) ∧ w = w' := by
  have HS := Lib.hid (pframes_any a)
  have hc := a.head.at_ 0 _ rfl
  have hrow := Lib.hid a.row
  have hlen := a.len
  clear a
  by_cases hin : 0 ≤ s ∧ s < X.H.length
  · obtain ⟨h0, h1⟩ := hin
    obtain ⟨k, rfl⟩ : ∃ j : Nat, s = j := ⟨s.toNat, by omega⟩
    have hk : k < X.H.length := by omega
    have e : heldI X.H k = X.H[k] := by unfold heldI; simp [hk]
    rw [e]
    have c1 := hrow.out.at_ k _ (icells_at hk)
    generalize X.H[k] = x at *
    generalize X.H.length = n at *
    clear e
    go_enter Tryd.func17, Tryd.ntmps17
    go_wp2_with (go_at_call 41; refine HS.out.mono ?_; rintro e w' ⟨rfl, rfl⟩)
    go_ret
    exact ⟨rfl, rfl⟩
  · have e : heldI X.H s = 0 := by unfold heldI; rw [if_neg hin]
    rw [e]
    generalize X.H.length = n at *
    clear e
    by_cases h0 : s < 0
    · go_enter Tryd.func17, Tryd.ntmps17
      go_wp2
      go_ret
      exact ⟨rfl, rfl⟩
    · have h1 : (n : Int) ≤ s := by omega
      clear hin
      go_enter Tryd.func17, Tryd.ntmps17
      go_wp2_with (go_at_call 41; refine HS.out.mono ?_; rintro e w' ⟨rfl, rfl⟩)
      go_ret
      exact ⟨rfl, rfl⟩

set_option maxHeartbeats 400000 in
theorem pfree_zero (p c : Nat) (w : World) (hc : w.cell? ⟨p, 0, none⟩ = some (.slice none 0 c)) : Calls Tryd.prog 84 #[.pointer (some ⟨p, 0, none⟩)] w fun e w' => e = .returned (.tuple #[.int .i64 0, .bool false]) ∧ w = w' := by
  go_enter Tryd.func84, Tryd.ntmps84
  go_wp2_with fail
  go_step3
  go_wp2
  go_step3
  go_wp2
  go_loop [4, 5, 6, 7, 13] (fun a b _ _ i => i = .int .i64 0 ∧ a = .int .i64 0 ∧ b = .bool false) (fun _ _ _ _ _ => 0)
  case atStart => exact ⟨rfl, rfl, rfl⟩
  case round =>
    obtain ⟨rfl, rfl, rfl⟩ := hrel
    go_wp2
    try rw [Exit.noGoto_ret]
    go_ret2
    exact ⟨rfl, rfl⟩

set_option maxHeartbeats 800000 in
theorem pfree_any {w : World} {p h g : Nat} {X : Pol} (a : Pl w p h g X) : Calls Tryd.prog 84 #[.pointer (some ⟨p, 0, none⟩)] w fun e w' =>
    e = .returned (.tuple #[.int .i64 (if freeAt X.H < X.H.length then (freeAt X.H : Int) else 0), .bool (decide (freeAt X.H < X.H.length))]) ∧ w = w' := by
  have hc := a.head.at_ 0 _ rfl
  have hrow := Lib.hid a.row
  have hlen := a.len
  clear a
  obtain ⟨r1, hr1⟩ : ∃ r, r = (if freeAt X.H < X.H.length then (freeAt X.H : Int) else 0) := ⟨_, rfl⟩
  obtain ⟨r2, hr2⟩ : ∃ r, r = decide (freeAt X.H < X.H.length) := ⟨_, rfl⟩
  rw [← hr1, ← hr2]
  have H1 := Lib.hid hr1
  have H2 := Lib.hid hr2
  clear hr1 hr2
  go_enter Tryd.func84, Tryd.ntmps84
  go_wp2_with fail
  go_step3
  go_wp2
  go_step3
  go_wp2
  go_loop [4, 5, 6, 7, 13] (fun a b _ _ i => ∃ k : Nat, k ≤ X.H.length ∧ i = .int .i64 k ∧ a = .int .i64 0 ∧ b = .bool false ∧ k ≤ freeAt X.H) (fun _ _ _ _ i => X.H.length - (intOf i).toNat)
  case atStart => exact ⟨0, Nat.zero_le _, rfl, rfl, rfl, Nat.zero_le _⟩
  case round =>
    obtain ⟨k, hk, rfl, rfl, rfl, hf⟩ := hrel
    have HF := Lib.hid hf
    clear hf
    by_cases hlt : k < X.H.length
    · have c1 := hrow.out.at_ k _ (icells_at hlt)
      obtain ⟨x, hx⟩ : ∃ x, x = X.H[k] := ⟨_, rfl⟩
      rw [← hx] at c1
      have HX := Lib.hid hx
      clear hx
      by_cases h0 : x = 0
      · subst h0
        have hz := freeAt_hit hlt HF.out HX.out.symm
        have e1 : r1 = k := by rw [H1.out, hz, if_pos hlt]
        have e2 : r2 = true := by rw [H2.out, hz]; simpa using hlt
        subst e1
        subst e2
        clear hz
        go_wp2
        try rw [Exit.noGoto_ret]
        go_ret2
        exact ⟨rfl, rfl⟩
      · have hn := freeAt_step hlt HF.out (by rw [← HX.out]; exact h0)
        have hne : (x == 0) = false := by simpa using h0
        have HN := Lib.hid hn
        clear hn h0
        go_wp2
        go_round
        case rel => exact ⟨k + 1, by omega, by go_num, rfl, rfl, HN.out⟩
        case measure => simp [intOf]; omega
    · have hz : freeAt X.H = X.H.length := by have := freeAt_le X.H; have := HF.out; omega
      obtain rfl : k = X.H.length := by omega
      have e1 : r1 = 0 := by rw [H1.out, hz, if_neg (Nat.lt_irrefl _)]
      have e2 : r2 = false := by rw [H2.out, hz]; simp
      subst e1
      subst e2
      clear hz
      go_wp2
      try rw [Exit.noGoto_ret]
      go_ret2
      exact ⟨rfl, rfl⟩



/-- A pool of n free frames. -/
def newP (n : Nat) : Pol := ⟨List.replicate n 0, List.replicate n zsec⟩
theorem newP_all (n : Nat) : All64 (newP n).S := fun s hs => by rw [List.eq_of_mem_replicate hs, zsec_size]
theorem zsecs_flat : ∀ n, flat (List.replicate n zsec) = List.replicate (64 * n) 0
  | 0 => rfl
  | n + 1 => by
    have h := zsecs_flat n
    unfold flat at *
    rw [List.replicate_succ, List.flatMap_cons, h, zsec, mkb_data, List.replicate_append_replicate]
    congr 1
    omega
set_option maxHeartbeats 400000 in
theorem pnew_no (n : Int) (w : World) (h : n < 1 ∨ 4096 < n) : Calls Tryd.prog 22 #[.int .i64 n] w fun e w' => e = .returned (.pointer none) ∧ w = w' := by
  by_cases h1 : n < 1
  · go_enter Tryd.func22, Tryd.ntmps22
    go_wp2
    go_ret
    exact ⟨rfl, rfl⟩
  · have h2 : 4096 < n := by omega
    clear h
    go_enter Tryd.func22, Tryd.ntmps22
    go_wp2
    go_ret
    exact ⟨rfl, rfl⟩

/-- A pool of n free frames was made. -/
def PMade (w : World) (X : Pol) (e : Ending) (w' : World) : Prop := ∃ p h g, e = .returned (.pointer (some ⟨p, 0, none⟩)) ∧ w.heap.size ≤ p ∧ w.heap.size ≤ h ∧ w.heap.size ≤ g ∧ Below w.heap.size w w' ∧ Pl w' p h g X
set_option maxRecDepth 100000 in
set_option maxHeartbeats 800000 in
theorem pnew_made (n : Nat) (w : World) (h1 : 1 ≤ n) (h2 : n ≤ 4096) : Calls Tryd.prog 22 #[.int .i64 n] w (PMade w (newP n)) := by
  obtain ⟨i0, hi, hz0, hz1, hz2⟩ := info_parts infoInt
  have hmk := run_make_ints (P := Tryd.prog) 22 3 i0 Tryd.underlying22 hi hz0 hz1 hz2 n (by omega)
  obtain ⟨i1, hj, hy0, hy1, hy2⟩ := info_parts infoU8
  have hmk2 := run_make_bytes (P := Tryd.prog) 74 5 i1 Tryd.underlying74 hj hy0 hy1 hy2 ((n : Int) * 64) (by omega) (by omega)
  have hn : ((n : Int) * 64).toNat = 64 * n := by omega
  rw [hn] at hmk2
  have hz := zsecs_flat n
  have hzr : zrow (64 * n) = (Lib.byteCells (flat (List.replicate n zsec))).toArray := by rw [hz]; rfl
  rw [hzr] at hmk2
  have hall := newP_all n
  clear hn hz hzr
  go_enter Tryd.func22, Tryd.ntmps22
  go_wp2
  go_region
  all_goals
    go_wp2
    go_ret
  · refine ⟨w.heap.size + 1 + 1, w.heap.size, w.heap.size + 1, rfl, by omega, by omega, by omega, ?_, ?_⟩
    · exact ((((Below.refl _ w).alloc (Nat.le_refl _) _).alloc (by simp) _).alloc (by simp; omega) _).drew
    · have k1 := ((Blk.new w 3 (icells (List.replicate n 0))).alloc (.cells (Lib.byteCells (flat (List.replicate n zsec))).toArray 5)).alloc (.cells #[.slice (some ⟨w.heap.size, 0, none⟩) n n, .slice (some ⟨w.heap.size + 1, 0, none⟩) (64 * n) (64 * n)] 95)
      have k2 := (Blk.new (w.alloc (.cells (icells (List.replicate n 0)) 3)) 5 (Lib.byteCells (flat (List.replicate n zsec))).toArray).alloc (.cells #[.slice (some ⟨w.heap.size, 0, none⟩) n n, .slice (some ⟨w.heap.size + 1, 0, none⟩) (64 * n) (64 * n)] 95)
      have k3 := Blk.new ((w.alloc (.cells (icells (List.replicate n 0)) 3)).alloc (.cells (Lib.byteCells (flat (List.replicate n zsec))).toArray 5)) 95 #[.slice (some ⟨w.heap.size, 0, none⟩) n n, .slice (some ⟨w.heap.size + 1, 0, none⟩) (64 * n) (64 * n)]
      simp only [World.size_alloc] at k2 k3
      exact ⟨by simpa [newP] using k3.drew, k1.drew, k2.drew, by omega, by omega, by omega, hall, by simp [newP], by simpa [newP] using h2⟩
  · refine ⟨w.heap.size + 1 + 1, w.heap.size + 1, w.heap.size, rfl, by omega, by omega, by omega, ?_, ?_⟩
    · exact ((((Below.refl _ w).alloc (Nat.le_refl _) _).alloc (by simp) _).alloc (by simp; omega) _).drew
    · have k1 := ((Blk.new w 5 (Lib.byteCells (flat (List.replicate n zsec))).toArray).alloc (.cells (icells (List.replicate n 0)) 3)).alloc (.cells #[.slice (some ⟨w.heap.size + 1, 0, none⟩) n n, .slice (some ⟨w.heap.size, 0, none⟩) (64 * n) (64 * n)] 95)
      have k2 := (Blk.new (w.alloc (.cells (Lib.byteCells (flat (List.replicate n zsec))).toArray 5)) 3 (icells (List.replicate n 0))).alloc (.cells #[.slice (some ⟨w.heap.size + 1, 0, none⟩) n n, .slice (some ⟨w.heap.size, 0, none⟩) (64 * n) (64 * n)] 95)
      have k3 := Blk.new ((w.alloc (.cells (Lib.byteCells (flat (List.replicate n zsec))).toArray 5)).alloc (.cells (icells (List.replicate n 0)) 3)) 95 #[.slice (some ⟨w.heap.size + 1, 0, none⟩) n n, .slice (some ⟨w.heap.size, 0, none⟩) (64 * n) (64 * n)]
      simp only [World.size_alloc] at k2 k3
      exact ⟨by simpa [newP] using k3.drew, k2.drew, k1.drew, by omega, by omega, by omega, hall, by simp [newP], by simpa [newP] using h2⟩
end Go.Proofs.YtmbjflcmbenbdaaDoor
