/- Package swap: what an area is; New, Slots, Held, free, Used. -/
import Derived.Test.YtibhebfkgjklpaaBF
namespace Go.Proofs.Ytibhebfkgjklpaa
open Go.RowKit
set_option linter.unusedVariables false

/-- Cells of ints. -/
def icells (H : List Int) : Array Value := (H.map (Value.int .i64)).toArray
theorem icells_at {H : List Int} {k : Nat} (hk : k < H.length) : (icells H)[k]? = some (.int .i64 H[k]) := by simp [icells, hk]
theorem icells_set (H : List Int) (k : Nat) (x : Int) : (icells H).setIfInBounds k (.int .i64 x) = icells (H.set k x) := by simp [icells, List.map_set]

/-- The least free slot; how many there are, if none is. -/
def freeAt : List Int → Nat
  | [] => 0
  | x :: l => if x = 0 then 0 else freeAt l + 1
theorem freeAt_le : ∀ H : List Int, freeAt H ≤ H.length
  | [] => Nat.le_refl _
  | x :: l => by have := freeAt_le l; unfold freeAt; split <;> simp <;> omega
theorem freeAt_hit : ∀ {H : List Int} {k : Nat} (hk : k < H.length), k ≤ freeAt H → H[k] = 0 → freeAt H = k
  | x :: l, 0, _, _, h => by unfold freeAt; simp at h; simp [h]
  | x :: l, k + 1, hk, hf, h => by
    unfold freeAt at *
    split at hf
    · omega
    · rename_i hx
      rw [if_neg hx, freeAt_hit (H := l) (k := k) (by simpa using hk) (by omega) (by simpa using h)]
theorem freeAt_step : ∀ {H : List Int} {k : Nat} (hk : k < H.length), k ≤ freeAt H → H[k] ≠ 0 → k + 1 ≤ freeAt H
  | x :: l, 0, _, _, h => by unfold freeAt; simp at h; simp [h]
  | x :: l, k + 1, hk, hf, h => by
    unfold freeAt at *
    split at hf
    · omega
    · rename_i hx
      rw [if_neg hx]
      have := freeAt_step (H := l) (k := k) (by simpa using hk) (by omega) (by simpa using h)
      omega
theorem freeAt_zero? : ∀ {H : List Int}, freeAt H < H.length → H[freeAt H]? = some 0
  | x :: l, h => by
    by_cases hx : x = 0
    · have e : freeAt (x :: l) = 0 := by unfold freeAt; simp [hx]
      rw [e, hx]
      rfl
    · have e : freeAt (x :: l) = freeAt l + 1 := by rw [freeAt, if_neg hx]
      rw [e, List.getElem?_cons_succ]
      exact freeAt_zero? (by simpa [e] using h)
theorem freeAt_zero {H : List Int} (h : freeAt H < H.length) : H[freeAt H] = 0 := (List.getElem?_eq_some_iff.1 (freeAt_zero? h)).2

/-- How many slots are held. -/
def usedN (H : List Int) : Nat := H.countP fun x => decide (0 < x)
theorem usedN_le (H : List Int) : usedN H ≤ H.length := List.countP_le_length
theorem usedN_succ (H : List Int) {k : Nat} (hk : k < H.length) : usedN (H.take (k + 1)) = usedN (H.take k) + if 0 < H[k] then 1 else 0 := by
  unfold usedN
  rw [List.take_succ_eq_append_getElem hk, List.countP_append]
  simp [List.countP_cons]

def heldI (H : List Int) (s : Int) : Int := if 0 ≤ s ∧ s < H.length then H.getD s.toNat 0 else 0

/-- An area: its disk, the first sector, how often each slot is held. -/
structure Swp where
  D : Dsk
  first : Int
  H : List Int

/-- The area X lies at q, its row at h; its disk at p, g. -/
structure Ar (w : World) (p g q h : Nat) (X : Swp) : Prop where
  dk : Dk w p g X.D
  head : Blk w q 56 #[.pointer (some ⟨p, 0, none⟩), .int .i64 X.first, .slice (some ⟨h, 0, none⟩) X.H.length X.H.length]
  row : Blk w h 3 (icells X.H)
  qp : q ≠ p
  qg : q ≠ g
  hp : h ≠ p
  hg : h ≠ g
  qh : q ≠ h
  len : X.H.length ≤ 4096
  f0 : 0 ≤ X.first
  f1 : X.first + X.H.length ≤ X.D.S.length

section
variable {w w' : World} {p g q h : Nat} {X : Swp}
theorem Ar.below {B : Nat} (a : Ar w p g q h X) (hb : Below B w w') (hp : p < B) (hg : g < B) (hq : q < B) (hh : h < B) : Ar w' p g q h X :=
  ⟨a.dk.below hb hp hg, a.head.below hb hq, a.row.below hb hh, a.qp, a.qg, a.hp, a.hg, a.qh, a.len, a.f0, a.f1⟩
theorem Ar.on (a : Ar w p g q h X) (hb : Below w.heap.size w w') : Ar w' p g q h X := a.below hb a.dk.head.lt a.dk.row.lt a.head.lt a.row.lt
theorem Ar.but {S : Nat → Prop} (a : Ar w p g q h X) (hb : But S w w') (hp : ¬ S p) (hg : ¬ S g) (hq : ¬ S q) (hh : ¬ S h) : Ar w' p g q h X :=
  ⟨a.dk.but hb hp hg, a.head.but hb hq, a.row.but hb hh, a.qp, a.qg, a.hp, a.hg, a.qh, a.len, a.f0, a.f1⟩
theorem Ar.drew (a : Ar w p g q h X) : Ar w.drew p g q h X := ⟨a.dk.drew, a.head.drew, a.row.drew, a.qp, a.qg, a.hp, a.hg, a.qh, a.len, a.f0, a.f1⟩
theorem Ar.drewN (a : Ar w p g q h X) (n : Nat) : Ar (w.drewN n) p g q h X := ⟨a.dk.drewN n, a.head.drewN n, a.row.drewN n, a.qp, a.qg, a.hp, a.hg, a.qh, a.len, a.f0, a.f1⟩
theorem Ar.alloc (a : Ar w p g q h X) (o : Obj) : Ar (w.alloc o) p g q h X := ⟨a.dk.alloc o, a.head.alloc o, a.row.alloc o, a.qp, a.qg, a.hp, a.hg, a.qh, a.len, a.f0, a.f1⟩
end

set_option maxHeartbeats 400000 in
theorem slots_of (q : Nat) (A : Option Addr) (n c : Nat) (w : World) (h : w.cell? ⟨q, 2, none⟩ = some (.slice A n c)) :
    Calls Try.prog 24 #[.pointer (some ⟨q, 0, none⟩)] w fun e w' => e = .returned (.int .i64 n) ∧ w = w' := by
  go_enter Try.func24, Try.ntmps24
  go_wp2
  go_ret
  exact ⟨rfl, rfl⟩
set_option maxHeartbeats 400000 in
theorem slots_nil (w : World) : Calls Try.prog 24 #[.pointer none] w fun e w' => e = .returned (.int .i64 0) ∧ w = w' := by
  go_enter Try.func24, Try.ntmps24
  go_wp2
  go_ret
  exact ⟨rfl, rfl⟩
theorem slots_any {w : World} {p g q h : Nat} {X : Swp} (a : Ar w p g q h X) : Calls Try.prog 24 #[.pointer (some ⟨q, 0, none⟩)] w fun e w' => e = .returned (.int .i64 X.H.length) ∧ w = w' :=
  slots_of q _ _ _ w (a.head.at_ 2 _ rfl)

set_option maxHeartbeats 400000 in
theorem held_nil (s : Int) (w : World) : Calls Try.prog 23 #[.pointer none, .int .i64 s] w fun e w' => e = .returned (.int .i64 0) ∧ w = w' := by
  have HS := Lib.hid (slots_nil w)
  by_cases h0 : s < 0
  · go_enter Try.func23, Try.ntmps23
    go_wp2
    go_ret
    exact ⟨rfl, rfl⟩
  · have h1 : (0 : Int) ≤ s := by omega
    go_enter Try.func23, Try.ntmps23
    go_wp2_with (go_at_call 24; refine HS.out.mono ?_; rintro e w' ⟨rfl, rfl⟩)
    go_ret
    exact ⟨rfl, rfl⟩
set_option maxHeartbeats 400000 in
theorem held_any {w : World} {p g q h : Nat} {X : Swp} (a : Ar w p g q h X) (s : Int) : Calls Try.prog 23 #[.pointer (some ⟨q, 0, none⟩), .int .i64 s] w fun e w' => e = .returned (.int .i64 (heldI X.H s)) ∧ w = w' := by
  have HS := Lib.hid (slots_any a)
  have hc := a.head.at_ 2 _ rfl
  have hrow := Lib.hid a.row
  have hlen := a.len
  clear a
  by_cases hin : 0 ≤ s ∧ s < X.H.length
  · obtain ⟨h0, h1⟩ := hin
    obtain ⟨k, rfl⟩ : ∃ j : Nat, s = j := ⟨s.toNat, by omega⟩
    have hk : k < X.H.length := by omega
    have e : heldI X.H k = X.H[k] := by unfold heldI; simp [hk]
    rw [e]
    have c1 := hrow.out.at_ k _ (icells_at hk)
    generalize X.H[k] = x at *
    generalize X.H.length = n at *
    clear e
    go_enter Try.func23, Try.ntmps23
    go_wp2_with (go_at_call 24; refine HS.out.mono ?_; rintro e w' ⟨rfl, rfl⟩)
    go_ret
    exact ⟨rfl, rfl⟩
  · have e : heldI X.H s = 0 := by unfold heldI; rw [if_neg hin]
    rw [e]
    generalize X.H.length = n at *
    clear e
    by_cases h0 : s < 0
    · go_enter Try.func23, Try.ntmps23
      go_wp2
      go_ret
      exact ⟨rfl, rfl⟩
    · have h1 : (n : Int) ≤ s := by omega
      clear hin
      go_enter Try.func23, Try.ntmps23
      go_wp2_with (go_at_call 24; refine HS.out.mono ?_; rintro e w' ⟨rfl, rfl⟩)
      go_ret
      exact ⟨rfl, rfl⟩

set_option maxHeartbeats 400000 in
theorem sfree_zero (q c : Nat) (w : World) (hc : w.cell? ⟨q, 2, none⟩ = some (.slice none 0 c)) : Calls Try.prog 30 #[.pointer (some ⟨q, 0, none⟩)] w fun e w' => e = .returned (.tuple #[.int .i64 0, .bool false]) ∧ w = w' := by
  go_enter Try.func30, Try.ntmps30
  go_wp2_with fail
  go_step3
  go_wp2
  go_step3
  go_wp2
  go_loop [4, 5, 6, 7, 13] (fun a b _ _ i => i = .int .i64 0 ∧ a = .int .i64 0 ∧ b = .bool false) (fun _ _ _ _ _ => 0)
  case atStart => exact ⟨rfl, rfl, rfl⟩
  case round =>
    obtain ⟨rfl, rfl, rfl⟩ := hrel
    go_wp2
    try rw [Exit.noGoto_ret]
    go_ret2
    exact ⟨rfl, rfl⟩

set_option maxHeartbeats 800000 in
theorem sfree_any {w : World} {p g q h : Nat} {X : Swp} (a : Ar w p g q h X) : Calls Try.prog 30 #[.pointer (some ⟨q, 0, none⟩)] w fun e w' =>
    e = .returned (.tuple #[.int .i64 (if freeAt X.H < X.H.length then (freeAt X.H : Int) else 0), .bool (decide (freeAt X.H < X.H.length))]) ∧ w = w' := by
  have hc := a.head.at_ 2 _ rfl
  have hrow := Lib.hid a.row
  have hlen := a.len
  clear a
  obtain ⟨r1, hr1⟩ : ∃ r, r = (if freeAt X.H < X.H.length then (freeAt X.H : Int) else 0) := ⟨_, rfl⟩
  obtain ⟨r2, hr2⟩ : ∃ r, r = decide (freeAt X.H < X.H.length) := ⟨_, rfl⟩
  rw [← hr1, ← hr2]
  have H1 := Lib.hid hr1
  have H2 := Lib.hid hr2
  clear hr1 hr2
  go_enter Try.func30, Try.ntmps30
  go_wp2_with fail
  go_step3
  go_wp2
  go_step3
  go_wp2
  go_loop [4, 5, 6, 7, 13] (fun a b _ _ i => ∃ k : Nat, k ≤ X.H.length ∧ i = .int .i64 k ∧ a = .int .i64 0 ∧ b = .bool false ∧ k ≤ freeAt X.H) (fun _ _ _ _ i => X.H.length - (intOf i).toNat)
  case atStart => exact ⟨0, Nat.zero_le _, rfl, rfl, rfl, Nat.zero_le _⟩
  case round =>
    obtain ⟨k, hk, rfl, rfl, rfl, hf⟩ := hrel
    have HF := Lib.hid hf
    clear hf
    by_cases hlt : k < X.H.length
    · have c1 := hrow.out.at_ k _ (icells_at hlt)
      obtain ⟨x, hx⟩ : ∃ x, x = X.H[k] := ⟨_, rfl⟩
      rw [← hx] at c1
      have HX := Lib.hid hx
      clear hx
      by_cases h0 : x = 0
      · subst h0
        have hz := freeAt_hit hlt HF.out HX.out.symm
        have e1 : r1 = k := by rw [H1.out, hz, if_pos hlt]
        have e2 : r2 = true := by rw [H2.out, hz]; simpa using hlt
        subst e1
        subst e2
        clear hz
        go_wp2
        try rw [Exit.noGoto_ret]
        go_ret2
        exact ⟨rfl, rfl⟩
      · have hn := freeAt_step hlt HF.out (by rw [← HX.out]; exact h0)
        have hne : (x == 0) = false := by simpa using h0
        have HN := Lib.hid hn
        clear hn h0
        go_wp2
        go_round
        case rel => exact ⟨k + 1, by omega, by go_num, rfl, rfl, HN.out⟩
        case measure => simp [intOf]; omega
    · have hz : freeAt X.H = X.H.length := by have := freeAt_le X.H; have := HF.out; omega
      obtain rfl : k = X.H.length := by omega
      have e1 : r1 = 0 := by rw [H1.out, hz, if_neg (Nat.lt_irrefl _)]
      have e2 : r2 = false := by rw [H2.out, hz]; simp
      subst e1
      subst e2
      clear hz
      go_wp2
      try rw [Exit.noGoto_ret]
      go_ret2
      exact ⟨rfl, rfl⟩

set_option maxHeartbeats 400000 in
theorem sused_none (v : Value) (w : World) (hv : Calls Try.prog 24 #[v] w fun e w' => e = .returned (.int .i64 0) ∧ w = w') : Calls Try.prog 21 #[v] w fun e w' => e = .returned (.int .i64 0) ∧ w = w' := by
  have HS := Lib.hid hv
  clear hv
  go_enter Try.func21, Try.ntmps21
  go_wp2_with (go_at_call 24; refine HS.out.mono ?_; rintro e w' ⟨rfl, rfl⟩)
  go_loop [3, 4, 7] (fun u _ i => i = .int .i64 0 ∧ u = .int .i64 0) (fun _ _ _ => 0)
  case atStart => exact ⟨rfl, rfl⟩
  case round =>
    obtain ⟨rfl, rfl⟩ := hrel
    go_wp2
    go_ret
    exact ⟨rfl, rfl⟩

set_option maxHeartbeats 800000 in
theorem sused_any {w : World} {p g q h : Nat} {X : Swp} (a : Ar w p g q h X) : Calls Try.prog 21 #[.pointer (some ⟨q, 0, none⟩)] w fun e w' => e = .returned (.int .i64 (usedN X.H)) ∧ w = w' := by
  have HS := Lib.hid (slots_any a)
  have hc := a.head.at_ 2 _ rfl
  have hrow := Lib.hid a.row
  have hlen := a.len
  clear a
  go_enter Try.func21, Try.ntmps21
  go_wp2_with (go_at_call 24; refine HS.out.mono ?_; rintro e w' ⟨rfl, rfl⟩)
  go_loop [3, 4, 7] (fun u _ i => ∃ k : Nat, k ≤ X.H.length ∧ i = .int .i64 k ∧ u = .int .i64 (usedN (X.H.take k))) (fun _ _ i => X.H.length - (intOf i).toNat)
  case atStart => exact ⟨0, Nat.zero_le _, rfl, rfl⟩
  case round =>
    obtain ⟨k, hk, rfl, rfl⟩ := hrel
    by_cases hlt : k < X.H.length
    · have c1 := hrow.out.at_ k _ (icells_at hlt)
      have hs := usedN_succ X.H hlt
      have hle : usedN (X.H.take k) ≤ 4096 := by have := usedN_le (X.H.take k); simp at this; omega
      obtain ⟨x, hx⟩ : ∃ x, x = X.H[k] := ⟨_, rfl⟩
      rw [← hx] at c1 hs
      generalize usedN (X.H.take k) = u at *
      have HX := Lib.hid hs
      clear hx hs
      by_cases h0 : 0 < x
      · go_wp2
        go_round
        case rel => exact ⟨k + 1, by omega, by go_num, by rw [HX.out, if_pos h0]; go_num⟩
        case measure => simp [intOf]; omega
      · have h1 : x ≤ 0 := by omega
        go_wp2
        go_round
        case rel => exact ⟨k + 1, by omega, by go_num, by rw [HX.out, if_neg h0]; go_num⟩
        case measure => simp [intOf]; omega
    · obtain rfl : k = X.H.length := by omega
      rw [List.take_length]
      go_wp2
      go_ret
      exact ⟨rfl, rfl⟩

theorem infoInt : (Try.prog.info? 3).map (fun i => (i.zero, i.size, i.bytes)) = some (some (.int .i64 0), 1, 8) := by kernel_rfl
theorem run_make_ints {P : Program} (t e : TypeId) (i : TypeInfo) (ht : P.underlying t = some (.slice e)) (hi : P.info? e = some i) (hz : i.zero = some (.int .i64 0)) (hs : i.size = 1) (hb : i.bytes = 8)
    (n : Nat) (hn : n ≤ 16384) (w : World) :
    (Instr.makeSlice t (.int .i64 n) (.int .i64 n)).run P w = .ok (.slice (some ⟨w.heap.size, 0, none⟩) n n) (w.alloc (.cells (icells (List.replicate n 0)) e)) := by
  rw [run_make (P := P) w t e i _ ht hi hz .i64 .i64 n n (by omega) (Int.le_refl _) (by rw [hb]; omega) (by omega), hs, Int.toNat_natCast, Nat.mul_one]
  have h := toList_madeCells_one (.int .i64 0) n
  congr 3
  apply Array.ext'
  exact h.trans (by simp [icells])

set_option maxHeartbeats 400000 in
theorem snew_nil (f s : Int) (w : World) : Calls Try.prog 10 #[.pointer none, .int .i64 f, .int .i64 s] w fun e w' => e = .returned (.tuple #[.pointer none, .int .i64 1]) ∧ w = w' := by
  go_enter Try.func10, Try.ntmps10
  go_wp2
  go_ret2
  exact ⟨rfl, rfl⟩

/-- May there be an area? -/
def mayNew (D : Dsk) (f s : Int) : Prop := 0 ≤ s ∧ s ≤ 4096 ∧ 0 ≤ f ∧ f ≤ D.S.length - s
set_option maxHeartbeats 400000 in
theorem snew_no {w : World} {p g : Nat} {D : Dsk} (d : Dk w p g D) (f s : Int) (h : ¬ mayNew D f s) : Calls Try.prog 10 #[.pointer (some ⟨p, 0, none⟩), .int .i64 f, .int .i64 s] w fun e w' => e = .returned (.tuple #[.pointer none, .int .i64 1]) ∧ w = w' := by
  have HS := Lib.hid (sectors_any d)
  have hlen := d.len
  unfold mayNew at h
  clear d
  generalize D.S.length = n at *
  by_cases h1 : s < 0
  · go_enter Try.func10, Try.ntmps10
    go_wp2
    go_ret2
    exact ⟨rfl, rfl⟩
  · have h1' : 0 ≤ s := by omega
    by_cases h2 : 4096 < s
    · go_enter Try.func10, Try.ntmps10
      go_wp2
      go_ret2
      exact ⟨rfl, rfl⟩
    · have h2' : s ≤ 4096 := by omega
      by_cases h3 : f < 0
      · go_enter Try.func10, Try.ntmps10
        go_wp2
        go_ret2
        exact ⟨rfl, rfl⟩
      · have h3' : 0 ≤ f := by omega
        have h4 : (n : Int) - s < f := by omega
        clear h
        go_enter Try.func10, Try.ntmps10
        go_wp2_with (go_at_call 25; refine HS.out.mono ?_; rintro e w' ⟨rfl, rfl⟩)
        go_ret2
        exact ⟨rfl, rfl⟩

/-- An area of n free slots. -/
def newX (D : Dsk) (f : Int) (n : Nat) : Swp := ⟨D, f, List.replicate n 0⟩
set_option maxHeartbeats 400000 in
theorem snew_yes {w : World} {p g : Nat} {D : Dsk} (d : Dk w p g D) (f : Int) (n : Nat) (h : mayNew D f n) : Calls Try.prog 10 #[.pointer (some ⟨p, 0, none⟩), .int .i64 f, .int .i64 n] w fun e w' =>
    ∃ q r, e = .returned (.tuple #[.pointer (some ⟨q, 0, none⟩), .int .i64 0]) ∧ w.heap.size ≤ q ∧ w.heap.size ≤ r ∧ Below w.heap.size w w' ∧ Ar w' p g q r (newX D f n) := by
  have HS := Lib.hid (sectors_any d)
  have HD := Lib.hid d
  obtain ⟨h1, h2, h3, h4⟩ := h
  have hlen := d.len
  obtain ⟨i0, hi, hz0, hz1, hz2⟩ := info_parts infoInt
  have hmk := run_make_ints (P := Try.prog) 41 3 i0 Try.underlying41 hi hz0 hz1 hz2 n (by omega)
  clear d
  go_enter Try.func10, Try.ntmps10
  go_wp2_with (go_at_call 25; refine HS.out.mono ?_; rintro e w' ⟨rfl, rfl⟩)
  go_ret2
  have hp := HD.out.head.lt
  have hg := HD.out.row.lt
  refine ⟨w.heap.size + 1, w.heap.size, rfl, by omega, Nat.le_refl _, ((Below.refl _ w).alloc (Nat.le_refl _) _).alloc (by simp) _, (HD.out.alloc _).alloc _, ?_, (Blk.new w _ _).alloc _, by omega, by omega, by omega, by omega, by omega, by simp [newX]; omega, h3, by simp [newX]; omega⟩
  have hh := Blk.new (w.alloc (.cells (icells (List.replicate n 0)) 3)) 56 #[.pointer (some ⟨p, 0, none⟩), .int .i64 f, .slice (some ⟨w.heap.size, 0, none⟩) n n]
  simpa [newX] using hh
end Go.Proofs.Ytibhebfkgjklpaa
