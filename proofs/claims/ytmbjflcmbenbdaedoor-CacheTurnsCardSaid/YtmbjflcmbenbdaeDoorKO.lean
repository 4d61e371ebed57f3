/- Layer 14's laws: awake. -/
import Derived.Test.YtmbjflcmbenbdaeDoorKN
namespace Go.Proofs.YtmbjflcmbenbdaeDoor
open Go.RowKit Go.Maps
set_option linter.unusedVariables false
set_option linter.unusedSimpArgs false

set_option maxRecDepth 100000 in
set_option maxHeartbeats 4000000 in
theorem awake14_any (w : World) : Calls Tryd.prog 4 #[] w fun e w' => e = .returned (.bool true) ∧ Below w.heap.size w w' := by
  obtain ⟨S, hC1, hfr⟩ := c14_fill
  have HM := Lib.hid (ls_made w w (Below.refl _ _) 4 (by omega) (by omega))
  have hg1 := (fun (a : Ad) (K : Nat → Prop) (v : World) (s : Ls w a 4 K (newC 4) (fun _ => 0) v) => show Calls Tryd.prog 6 #[.pointer (some ⟨a.pc, 0, none⟩), .agg #[.int .i64 1, .int .i64 0]] v fun e v' => e = .returned (.tuple #[.int .i64 0, .int .i64 0]) ∧ Nx w a 4 K (C14 S 2 [⟨1, 0, 0, false⟩] 0) (bump (fun _ => 0) 0) v v' from by
    have h := ls_fill s 1 (by decide) 0 (by rw [pg3]; decide) rfl (by decide) (by decide)
    rw [hC1, hfr] at h
    exact h.mono fun e v' ⟨he, hn⟩ => ⟨he, hn⟩)
  have hd1 := (fun (a : Ad) (K : Nat → Prop) (v : World) (s : Ls w a 4 K (C14 S 2 [⟨1, 0, 0, false⟩] 0) (bump (fun _ => 0) 0) v) => show Calls Tryd.prog 7 #[.pointer (some ⟨a.pp, 0, none⟩), .int .i64 0] v fun e v' => e = .returned (.int .i64 0) ∧ Nx w a 4 K (C14 S 1 [⟨1, 0, 0, false⟩] 0) (less (bump (fun _ => 0) 0) 0) v v' from by
    have h := ls_drop s 0 (by decide)
    rw [c14_drop] at h
    exact h.mono fun e v' ⟨he, hn⟩ => ⟨he, hn⟩)
  have hg2 := (fun (a : Ad) (K : Nat → Prop) (v : World) (s : Ls w a 4 K (C14 S 1 [⟨1, 0, 0, false⟩] 0) (less (bump (fun _ => 0) 0) 0) v) => show Calls Tryd.prog 6 #[.pointer (some ⟨a.pc, 0, none⟩), .agg #[.int .i64 1, .int .i64 0]] v fun e v' => e = .returned (.tuple #[.int .i64 0, .int .i64 0]) ∧ Nx w a 4 K (C14 S 2 [⟨1, 0, 0, true⟩] 1) (bump (less (bump (fun _ => 0) 0) 0) 0) v v' from by
    have h := ls_hit s (x := ⟨1, 0, 0, false⟩) (by simp [C14, pgF]) (by rw [pg3]; decide) (by decide) (by show (0 : Nat) ≤ 1000000; omega)
    rw [c14_hit] at h
    exact h.mono fun e v' ⟨he, hn⟩ => ⟨he, hn⟩)
  have hd2 := (fun (a : Ad) (K : Nat → Prop) (v : World) (s : Ls w a 4 K (C14 S 2 [⟨1, 0, 0, true⟩] 1) (bump (less (bump (fun _ => 0) 0) 0) 0) v) => show Calls Tryd.prog 7 #[.pointer (some ⟨a.pp, 0, none⟩), .int .i64 0] v fun e v' => e = .returned (.int .i64 0) ∧ Nx w a 4 K (C14 S 1 [⟨1, 0, 0, true⟩] 1) (less (bump (less (bump (fun _ => 0) 0) 0) 0) 0) v v' from by
    have h := ls_drop s 0 (by decide)
    rw [c14_drop] at h
    exact h.mono fun e v' ⟨he, hn⟩ => ⟨he, hn⟩)
  have he1 := (fun (a : Ad) (K : Nat → Prop) (v : World) (s : Ls w a 4 K (C14 S 1 [⟨1, 0, 0, true⟩] 1) (less (bump (less (bump (fun _ => 0) 0) 0) 0) 0) v) => show Calls Tryd.prog 8 #[.pointer (some ⟨a.pc, 0, none⟩)] v fun e v' => e = .returned (.tuple #[.agg #[.int .i64 1, .int .i64 0], .bool true]) ∧ Nx w a 4 K ⟨⟨[0, 0, 0, 0], S⟩, [], 0, 1, 1⟩ (less (bump (less (bump (fun _ => 0) 0) 0) 0) 0) v v' from by
    have h := ls_evict s
    rw [(c14_ev S).1, (c14_ev S).2] at h
    exact h.mono fun e v' ⟨he, hn⟩ => ⟨he, hn⟩)
  have he2 := (fun (a : Ad) (K : Nat → Prop) (v : World) (s : Ls w a 4 K ⟨⟨[0, 0, 0, 0], S⟩, [], 0, 1, 1⟩ (less (bump (less (bump (fun _ => 0) 0) 0) 0) 0) v) => show Calls Tryd.prog 8 #[.pointer (some ⟨a.pc, 0, none⟩)] v fun e v' => e = .returned (.tuple #[.agg #[.int .i64 0, .int .i64 0], .bool false]) ∧ Nx w a 4 K ⟨⟨[0, 0, 0, 0], S⟩, [], 0, 1, 1⟩ (less (bump (less (bump (fun _ => 0) 0) 0) 0) 0) v v' from by
    have h := ls_evict s
    rw [(c14_none S).1, (c14_none S).2] at h
    exact h.mono fun e v' ⟨he, hn⟩ => ⟨he, hn⟩)
  have hh := (fun (a : Ad) (K : Nat → Prop) (v : World) (s : Ls w a 4 K ⟨⟨[0, 0, 0, 0], S⟩, [], 0, 1, 1⟩ (less (bump (less (bump (fun _ => 0) 0) 0) 0) 0) v) => show Calls Tryd.prog 11 #[.pointer (some ⟨a.pc, 0, none⟩)] v fun e v' => e = .returned (.int .i64 1) ∧ v = v' from ls_hits s)
  have hf := (fun (a : Ad) (K : Nat → Prop) (v : World) (s : Ls w a 4 K ⟨⟨[0, 0, 0, 0], S⟩, [], 0, 1, 1⟩ (less (bump (less (bump (fun _ => 0) 0) 0) 0) 0) v) => show Calls Tryd.prog 12 #[.pointer (some ⟨a.pc, 0, none⟩)] v fun e v' => e = .returned (.int .i64 1) ∧ v = v' from ls_fills s)
  generalize (less (bump (less (bump (fun _ => 0) 0) 0) 0) 0) = o4 at *
  generalize (bump (less (bump (fun _ => 0) 0) 0) 0) = o3 at *
  generalize (less (bump (fun _ => 0) 0) 0) = o2 at *
  generalize (bump (fun _ => 0) 0) = o1 at *
  generalize (⟨⟨[0, 0, 0, 0], S⟩, [], 0, 1, 1⟩ : Cc) = D5 at *
  generalize C14 S 1 [⟨1, 0, 0, true⟩] 1 = D4 at *
  generalize C14 S 2 [⟨1, 0, 0, true⟩] 1 = D3 at *
  generalize C14 S 1 [⟨1, 0, 0, false⟩] 0 = D2 at *
  generalize C14 S 2 [⟨1, 0, 0, false⟩] 0 = D1 at *
  generalize newC 4 = D0 at *
  have HG1 := Lib.hid hg1
  have HG2 := Lib.hid hg2
  have HD1 := Lib.hid hd1
  have HD2 := Lib.hid hd2
  have HE1 := Lib.hid he1
  have HE2 := Lib.hid he2
  have HH := Lib.hid hh
  have HF := Lib.hid hf
  clear hg1 hg2 hd1 hd2 he1 he2 hh hf hC1 hfr
  go_enter Tryd.func4, Tryd.ntmps4
  go_wp2_with (first
    | (go_at_call 5; refine HM.out.mono ?_; rintro e v1 ⟨a, rfl, hs⟩; have S0 := Lib.hid (hs.grow (K' := fun j => j = v1.heap.size) ((Below.refl _ _).alloc (Nat.le_refl _) (.cells #[.int .i64 1, .int .i64 0] 33)) (fun j e => .inr ⟨by omega, by rw [e]; simp⟩)); have B0 := Lib.hid (Blk.new v1 33 #[.int .i64 1, .int .i64 0]); clear hs)
    | (go_at_call 6; refine (HG1.out a _ _ S0.out).mono ?_; rintro e v2 ⟨rfl, hs⟩; have S1 := Lib.hid hs.1; have B1 := Lib.hid (hs.blk B0.out rfl); clear hs S0 B0)
    | (go_at_call 7; refine (HD1.out a _ _ S1.out).mono ?_; rintro e v3 ⟨rfl, hs⟩; have S2 := Lib.hid hs.1; have B2 := Lib.hid (hs.blk B1.out rfl); have b0 := B2.out.at_ 0 _ rfl; have b1 := B2.out.at_ 1 _ rfl; clear hs S1 B1)
    | (go_at_call 6; refine (HG2.out a _ _ S2.out).mono ?_; rintro e v4 ⟨rfl, hs⟩; have S3 := Lib.hid hs.1; have B3 := Lib.hid (hs.blk B2.out rfl); clear hs S2 B2 b0 b1)
    | (go_at_call 7; refine (HD2.out a _ _ S3.out).mono ?_; rintro e v5 ⟨rfl, hs⟩; have S4 := Lib.hid hs.1; have B4 := Lib.hid (hs.blk B3.out rfl); clear hs S3 B3)
    | (go_at_call 8; refine (HE1.out a _ _ S4.out).mono ?_; rintro e v6 ⟨rfl, hs⟩
       have B5 := Lib.hid ((hs.blk B4.out rfl).alloc (.cells #[.int .i64 1, .int .i64 0] 33))
       have X5 := Lib.hid (Blk.new v6 33 #[.int .i64 1, .int .i64 0])
       have S5 := Lib.hid (hs.1.grow (K' := fun j => j = v1.heap.size ∨ j = v6.heap.size) ((Below.refl _ _).alloc (Nat.le_refl _) (.cells #[.int .i64 1, .int .i64 0] 33)) (fun j e => e.elim .inl fun e => .inr ⟨by omega, by rw [e]; simp⟩))
       clear hs S4 B4)
    | (go_at_call 8; refine (HE2.out a _ _ S5.out).mono ?_; rintro e v7 ⟨rfl, hs⟩
       have B6 := Lib.hid ((hs.blk B5.out (.inl rfl)).alloc (.cells #[.int .i64 0, .int .i64 0] 33))
       have X6 := Lib.hid ((hs.blk X5.out (.inr rfl)).alloc (.cells #[.int .i64 0, .int .i64 0] 33))
       have S6 := Lib.hid hs.1
       have y0 := B6.out.at_ 0 _ rfl
       have y1 := B6.out.at_ 1 _ rfl
       have x0 := X6.out.at_ 0 _ rfl
       have x1 := X6.out.at_ 1 _ rfl
       clear hs S5 B5 X5)
    | (go_at_call 11; refine (HH.out a _ _ (S6.out.alloc _)).mono ?_; rintro e v8 ⟨rfl, rfl⟩)
    | (go_at_call 12; refine (HF.out a _ _ (S6.out.alloc _)).mono ?_; rintro e v9 ⟨rfl, rfl⟩))
  go_ret
  exact ⟨rfl, (S6.out.alloc _).bel⟩
end Go.Proofs.YtmbjflcmbenbdaeDoor
