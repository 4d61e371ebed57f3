/- Package radix: an entry and its bits: may, empty, Pack, Unpack. -/
import Derived.Test.YtbidlabhekiijaaDoorPH
import Derived.Test.YtbidlabhekiijaaDoorBits
import Derived.Laws.StructEq
import Derived.Laws.Tables
import Derived.Deep.CutBlock
import Derived.Deep.CutRange
namespace Go.Proofs.YtbidlabhekiijaaDoor
open Go.RowKit
set_option linter.unusedVariables false
set_option linter.unusedSimpArgs false

/-- An entry. -/
structure Sl where
  h : Bool
  w : Bool
  c : Bool
  o : Bool
  n : Int
def Sl.zero : Sl := ⟨false, false, false, false, 0⟩
def Sl.isZ (s : Sl) : Bool := !s.h && !s.w && !s.c && !s.o && s.n == 0
theorem Sl.isZ_iff {s : Sl} : s.isZ = true ↔ s = Sl.zero := by
  obtain ⟨h, w, c, o, n⟩ := s
  unfold Sl.isZ Sl.zero
  cases h <;> cases w <;> cases c <;> cases o <;> simp
theorem Sl.isZ_zero : Sl.zero.isZ = true := rfl
theorem Sl.notZ_iff {s : Sl} : s.isZ = false ↔ s ≠ Sl.zero := by
  rw [Ne, ← Sl.isZ_iff]; simp
def Sl.may (s : Sl) : Bool := (s.h != s.o) && !(s.w && s.c) && decide (0 ≤ s.n) && decide (s.n ≤ 1048576)
def Sl.v (s : Sl) : Value := .agg #[.bool s.h, .bool s.w, .bool s.c, .bool s.o, .int .i64 s.n]
def Sl.cs (s : Sl) : Array Value := #[.bool s.h, .bool s.w, .bool s.c, .bool s.o, .int .i64 s.n]
def b2i (b : Bool) : Int := if b then 1 else 0
/-- Its bits. -/
def Sl.pack (s : Sl) : Int := if s.may then s.n * 16 + b2i s.h + 2 * b2i s.w + 4 * b2i s.c + 8 * b2i s.o else 0
/-- What the bits say, as they stand; the entry of these bits. -/
def rawS (x : Int) : Sl := ⟨x % 2 == 1, x / 2 % 2 == 1, x / 4 % 2 == 1, x / 8 % 2 == 1, IntKind.i64.wrap (x / 16)⟩
def unpS (x : Int) : Sl := if (rawS x).pack = x then rawS x else Sl.zero

theorem Sl.may_iff {s : Sl} : s.may = true ↔ s.h ≠ s.o ∧ ¬ (s.w = true ∧ s.c = true) ∧ 0 ≤ s.n ∧ s.n ≤ 1048576 := by
  unfold Sl.may
  cases s.h <;> cases s.o <;> cases s.w <;> cases s.c <;> simp
theorem Sl.pack_may {s : Sl} (h : s.may = true) : s.pack = s.n * 16 + b2i s.h + 2 * b2i s.w + 4 * b2i s.c + 8 * b2i s.o := by unfold Sl.pack; rw [if_pos h]
theorem Sl.pack_no {s : Sl} (h : s.may = false) : s.pack = 0 := by unfold Sl.pack; rw [h]; rfl
theorem Sl.zero_may : Sl.zero.may = false := rfl
theorem Sl.pack_range (s : Sl) : 0 ≤ s.pack ∧ s.pack < 33554432 := by
  cases h : s.may
  · rw [Sl.pack_no h]; omega
  · rw [Sl.pack_may h]
    have := Sl.may_iff.1 h
    unfold b2i
    (repeat' split) <;> omega
theorem Sl.pack_pos {s : Sl} (h : s.may = true) : 0 < s.pack := by
  rw [Sl.pack_may h]
  obtain ⟨h1, h2, h3, h4⟩ := Sl.may_iff.1 h
  unfold b2i
  cases hh : s.h <;> cases ho : s.o
  · rw [hh, ho] at h1; exact absurd rfl h1
  · (repeat' split) <;> first | omega | contradiction
  · (repeat' split) <;> first | omega | contradiction
  · rw [hh, ho] at h1; exact absurd rfl h1
theorem Sl.raw_pack {s : Sl} (h : s.may = true) : rawS s.pack = s := by
  rw [Sl.pack_may h]
  obtain ⟨h1, h2, h3, h4⟩ := Sl.may_iff.1 h
  obtain ⟨a, b, c, d, n⟩ := s
  unfold rawS b2i
  simp only at *
  have hw : ∀ x : Int, x = n → IntKind.i64.wrap x = n := fun x e => by rw [e]; exact IntWalk.i64_in _ (by omega)
  cases a <;> cases b <;> cases c <;> cases d <;> simp only [Bool.false_eq_true, if_false, if_true, Sl.mk.injEq] <;> refine ⟨?_, ?_, ?_, ?_, hw _ ?_⟩ <;> first | omega | (simp; omega)
theorem Sl.unp_pack {s : Sl} (h : s.may = true) : unpS s.pack = s := by
  unfold unpS
  rw [Sl.raw_pack h, if_pos rfl]
theorem rawS_zero : rawS 0 = Sl.zero := by unfold rawS Sl.zero; simp [IntKind.wrap_i64]
theorem unpS_zero : unpS 0 = Sl.zero := by unfold unpS; rw [rawS_zero]; split <;> rfl
theorem unpS_cases (x : Int) : unpS x = Sl.zero ∨ ((unpS x).may = true ∧ (unpS x).pack = x) := by
  unfold unpS
  split
  · rename_i h
    by_cases hm : (rawS x).may = true
    · exact .inr ⟨hm, h⟩
    · rw [Sl.pack_no (by simpa using hm)] at h
      left
      rw [← h]
      exact rawS_zero
  · exact .inl rfl
/-- An entry that may be, or none. -/
def Sl.Ok (s : Sl) : Prop := s = Sl.zero ∨ s.may = true
theorem unpS_ok (x : Int) : (unpS x).Ok := (unpS_cases x).imp id And.left
theorem Sl.Ok.unp {s : Sl} (h : s.Ok) : unpS s.pack = s := by
  rcases h with rfl | h
  · exact unpS_zero
  · exact Sl.unp_pack h
theorem Sl.may_ne {s : Sl} (h : s.may = true) : s ≠ Sl.zero := by rintro rfl; cases h
theorem Sl.may_isZ {s : Sl} (h : s.may = true) : s.isZ = false := Sl.notZ_iff.2 (Sl.may_ne h)

theorem or16 (m r b : Nat) (hr : r < 16) (hb : b < 16) : (16 * m + r) ||| b = 16 * m + (r ||| b) := by
  have h1 : r ||| b < 2 ^ 4 := Nat.or_lt_two_pow (by omega) (by omega)
  have e1 := Nat.two_pow_add_eq_or_of_lt (i := 4) (b := r) (by omega) m
  have e2 := Nat.two_pow_add_eq_or_of_lt (i := 4) (b := r ||| b) (by omega) m
  rw [show (16 : Nat) = 2 ^ 4 from rfl, e1, e2, Nat.or_assoc]
/-- The number x, of which bit k is 1 too, if b. -/
def orB (x : Nat) (k : Nat) (b : Bool) : Nat := if b then x ||| 2 ^ k else x
theorem orB_lt {x k : Nat} {b : Bool} (hx : x < 1099511627776) (hk : k < 4) : orB x k b < 1099511627776 := by
  unfold orB
  split
  · have : (2 : Nat) ^ k < 2 ^ 40 := Nat.pow_lt_pow_right (by omega) (by omega)
    exact Nat.or_lt_two_pow (n := 40) (by omega) this
  · exact hx
theorem orB16 (m r k : Nat) (b : Bool) (hr : r < 16) (hk : k < 4) : orB (16 * m + r) k b = 16 * m + orB r k b ∧ orB r k b < 16 := by
  have hp : (2 : Nat) ^ k < 2 ^ 4 := Nat.pow_lt_pow_right (by omega) hk
  unfold orB
  cases b
  · exact ⟨rfl, hr⟩
  · exact ⟨or16 m r _ hr (by omega), Nat.or_lt_two_pow (n := 4) (by omega) hp⟩
theorem orB_all (m : Nat) (h w c o : Bool) : ((orB (orB (orB (orB (m * 16) 0 h) 1 w) 2 c) 3 o : Nat) : Int) = (m : Int) * 16 + b2i h + 2 * b2i w + 4 * b2i c + 8 * b2i o := by
  obtain ⟨e1, l1⟩ := orB16 m 0 0 h (by omega) (by omega)
  obtain ⟨e2, l2⟩ := orB16 m _ 1 w l1 (by omega)
  obtain ⟨e3, l3⟩ := orB16 m _ 2 c l2 (by omega)
  obtain ⟨e4, l4⟩ := orB16 m _ 3 o l3 (by omega)
  rw [show m * 16 = 16 * m + 0 by omega, e1, e2, e3, e4]
  have e : ((orB (orB (orB (orB 0 0 h) 1 w) 2 c) 3 o : Nat) : Int) = b2i h + 2 * b2i w + 4 * b2i c + 8 * b2i o := by
    cases h <;> cases w <;> cases c <;> cases o <;> decide
  rw [Int.natCast_add, e]
  omega

@[go_sem] theorem build_sl0 (w : World) : (Instr.build 23 #[]).run Tryd.prog w = .ok (.agg #[.bool false, .bool false, .bool false, .bool false, .int .i64 0]) w := run_build w 23 _ _ (by kernel_rfl)
@[go_sem] theorem build_sl2 (b : Bool) (n : Int) (w : World) : (Instr.build 23 #[(0, .bool b), (4, .int .i64 n)]).run Tryd.prog w = .ok (.agg #[.bool b, .bool false, .bool false, .bool false, .int .i64 n]) w := run_build w 23 _ _ (by kernel_rfl)
@[go_sem] theorem build_sl5 (a b c d : Bool) (n : Int) (w : World) : (Instr.build 23 #[(0, .bool a), (1, .bool b), (2, .bool c), (3, .bool d), (4, .int .i64 n)]).run Tryd.prog w = .ok (.agg #[.bool a, .bool b, .bool c, .bool d, .int .i64 n]) w := run_build w 23 _ _ (by kernel_rfl)
@[go_sem] theorem eq_sl (a1 a2 a3 a4 b1 b2 b3 b4 : Bool) (n m : Int) (w : World) : (Op.equalIn 10000 23 (.agg #[.bool a1, .bool a2, .bool a3, .bool a4, .int .i64 n]) (.agg #[.bool b1, .bool b2, .bool b3, .bool b4, .int .i64 m])).run Tryd.prog w = .ok (a1 == b1 && a2 == b2 && a3 == b3 && a4 == b4 && n == m) w := by
  have u1 := Tryd.underlying4
  have u2 := Tryd.underlying3
  have hS : Tryd.prog.underlying 23 = some (.struct (Tryd.prog.fieldsOf 23)) := by kernel_rfl
  rw [show (10000 : Nat) = 9999 + 1 from rfl, run_equalIn_agg w 9999 23 _ _ hS (by kernel_rfl)]
  simp only [Program.fieldsOf, Tryd.underlying23]
  go_simp
  by_cases h1 : a1 = b1 <;> by_cases h2 : a2 = b2 <;> by_cases h3 : a3 = b3 <;> by_cases h4 : a4 = b4 <;> by_cases h5 : n = m <;> simp [h1, h2, h3, h4, h5]

set_option maxHeartbeats 800000 in
theorem empty_any (s : Sl) (w : World) : Calls Tryd.prog 53 #[s.v] w fun e w' => e = .returned (.bool s.isZ) ∧ w' = w.alloc (.cells s.cs 23) := by
  obtain ⟨a, b, c, d, n⟩ := s
  unfold Sl.v Sl.cs Sl.isZ
  by_cases hn : n = 0
  · subst hn
    cases a <;> cases b <;> cases c <;> cases d <;>
    · go_enter Tryd.func53, Tryd.ntmps53
      go_wp2
      go_ret
      exact ⟨rfl, rfl⟩
  · have hz : (n == 0) = false := by simpa using hn
    rw [hz]
    clear hn
    cases a <;> cases b <;> cases c <;> cases d <;>
    · go_enter Tryd.func53, Tryd.ntmps53
      go_wp2
      go_ret
      exact ⟨rfl, rfl⟩

set_option maxHeartbeats 1600000 in
theorem may_any (s : Sl) (w : World) : Calls Tryd.prog 32 #[s.v] w fun e w' => e = .returned (.bool s.may) ∧ w' = w.alloc (.cells s.cs 23) := by
  obtain ⟨a, b, c, d, n⟩ := s
  unfold Sl.v Sl.cs Sl.may
  by_cases h1 : a = d
  · subst h1
    cases a <;>
    · go_enter Tryd.func32, Tryd.ntmps32
      go_wp2
      go_ret
      exact ⟨rfl, rfl⟩
  · obtain rfl : d = !a := by cases a <;> cases d <;> simp_all
    clear h1
    obtain ⟨p, hp⟩ : ∃ p, decide (0 ≤ n) = p := ⟨_, rfl⟩
    obtain ⟨q, hq⟩ : ∃ q, decide (n ≤ 1048576) = q := ⟨_, rfl⟩
    rw [hp, hq]
    cases p <;> cases q <;>
    cases a <;> cases b <;> cases c <;>
    · go_enter Tryd.func32, Tryd.ntmps32
      go_wp2
      go_ret
      exact ⟨rfl, rfl⟩
end Go.Proofs.YtbidlabhekiijaaDoor

/- Package radix: Pack and Unpack. -/
namespace Go.Proofs.YtbidlabhekiijaaDoor
open Go.RowKit
set_option linter.unusedVariables false
set_option linter.unusedSimpArgs false

set_option maxHeartbeats 1600000 in
theorem pack1_any (b x k : Nat) (so : Bool) (w : World) (hk : k = 0 ∨ k = 1 ∨ k = 2 ∨ k = 3) (hx : x < 1099511627776) (hb : Blk w b 24 #[.int .u64 (x : Nat)]) :
    Calls Tryd.prog 33 #[.int .i64 k, .bool so, .pointer (some ⟨b, 0, none⟩)] w fun e w' => e = .returned (.tuple #[]) ∧ Blk w' b 24 #[.int .u64 (orB x k so : Nat)] ∧ But (· = b) w w' := by
  cases so
  · go_enter Tryd.func33, Tryd.ntmps33
    go_wp2
    go_end0
    exact ⟨rfl, hb, But.refl _ _⟩
  · have c0 := hb.at_ 0 _ rfl
    have f0 := hb.frozen 0
    have hor : bits .or .u64 (x : Int) ((2 ^ k : Nat) : Int) = ((orB x k true : Nat) : Int) := by
      rw [bits_or_u64_nat x (2 ^ k) (by omega) (by have : (2 : Nat) ^ k < 2 ^ 4 := Nat.pow_lt_pow_right (by omega) (by omega); omega)]
      rfl
    have HS := Lib.hid (hb.drew.set_ 0 (.int .u64 (orB x k true : Nat)))
    have HB : Hid (But (· = b) w (w.drew.setCell ⟨b, 0, none⟩ (.int .u64 (orB x k true : Nat)))) := Lib.hid ((But.refl (· = b) w).drew.setCell (p := ⟨b, 0, none⟩) (.inl rfl) _)
    generalize ((orB x k true : Nat) : Int) = y at *
    obtain ⟨z, hz⟩ : ∃ z : Int, z = x := ⟨_, rfl⟩
    rw [← hz] at *
    clear hz hx hb
    rcases hk with rfl | rfl | rfl | rfl <;>
    · simp only [show ((2 ^ 0 : Nat) : Int) = 1 by rfl, show ((2 ^ 1 : Nat) : Int) = 2 by rfl, show ((2 ^ 2 : Nat) : Int) = 4 by rfl, show ((2 ^ 3 : Nat) : Int) = 8 by rfl] at hor
      go_enter Tryd.func33, Tryd.ntmps33
      go_wp2
      go_region
      all_goals
        go_wp2
        go_end0
        exact ⟨rfl, HS.out, HB.out⟩
theorem pack1_0 (b x : Nat) (so : Bool) (w : World) (hx : x < 1099511627776) (hb : Blk w b 24 #[.int .u64 (x : Nat)]) :
    Calls Tryd.prog 33 #[.int .i64 0, .bool so, .pointer (some ⟨b, 0, none⟩)] w fun e w' => e = .returned (.tuple #[]) ∧ Blk w' b 24 #[.int .u64 (orB x 0 so : Nat)] ∧ But (· = b) w w' :=
  pack1_any b x 0 so w (.inl rfl) hx hb
theorem pack1_1 (b x : Nat) (so : Bool) (w : World) (hx : x < 1099511627776) (hb : Blk w b 24 #[.int .u64 (x : Nat)]) :
    Calls Tryd.prog 33 #[.int .i64 1, .bool so, .pointer (some ⟨b, 0, none⟩)] w fun e w' => e = .returned (.tuple #[]) ∧ Blk w' b 24 #[.int .u64 (orB x 1 so : Nat)] ∧ But (· = b) w w' :=
  pack1_any b x 1 so w (.inr (.inl rfl)) hx hb
theorem pack1_2 (b x : Nat) (so : Bool) (w : World) (hx : x < 1099511627776) (hb : Blk w b 24 #[.int .u64 (x : Nat)]) :
    Calls Tryd.prog 33 #[.int .i64 2, .bool so, .pointer (some ⟨b, 0, none⟩)] w fun e w' => e = .returned (.tuple #[]) ∧ Blk w' b 24 #[.int .u64 (orB x 2 so : Nat)] ∧ But (· = b) w w' :=
  pack1_any b x 2 so w (.inr (.inr (.inl rfl))) hx hb
theorem pack1_3 (b x : Nat) (so : Bool) (w : World) (hx : x < 1099511627776) (hb : Blk w b 24 #[.int .u64 (x : Nat)]) :
    Calls Tryd.prog 33 #[.int .i64 3, .bool so, .pointer (some ⟨b, 0, none⟩)] w fun e w' => e = .returned (.tuple #[]) ∧ Blk w' b 24 #[.int .u64 (orB x 3 so : Nat)] ∧ But (· = b) w w' :=
  pack1_any b x 3 so w (.inr (.inr (.inr rfl))) hx hb

set_option maxHeartbeats 1600000 in
theorem pack_any (s : Sl) (w : World) : Calls Tryd.prog 12 #[s.v] w fun e w' => e = .returned (.int .u64 s.pack) ∧ Below w.heap.size w w' := by
  have HM := Lib.hid (may_any s)
  have hmf : ∀ (fn : Fn) (first cap : Array Value) (w : World), (Instr.makeFunc fn first cap).run Tryd.prog w = .ok (.func fn first cap) w := fun _ _ _ _ => rfl
  have hbox := Blk.new w 23 s.cs
  by_cases hm : s.may = true
  · rw [Sl.pack_may hm]
    obtain ⟨_, _, h3, h4⟩ := Sl.may_iff.1 hm
    rw [hm] at HM
    obtain ⟨a, b, c, d, n⟩ := s
    simp only at *
    obtain ⟨m, rfl⟩ : ∃ m : Nat, n = m := ⟨n.toNat, by omega⟩
    rw [← orB_all m a b c d]
    have l0 : m * 16 < 1099511627776 := by omega
    have l1 := orB_lt (k := 0) (b := a) l0 (by omega)
    have l2 := orB_lt (k := 1) (b := b) l1 (by omega)
    have l3 := orB_lt (k := 2) (b := c) l2 (by omega)
    have z0 : IntKind.u64.wrap (m : Int) = m := by rw [IntKind.wrap_u64]; omega
    have z1 : IntKind.u64.wrap ((m : Int) * 16) = ((m * 16 : Nat) : Int) := by rw [IntKind.wrap_u64]; omega
    have l4 := orB_lt (k := 3) (b := d) l3 (by omega)
    have P0 := Lib.hid (fun (B : Nat) (W : World) hb => pack1_0 B (m * 16) a W l0 hb)
    have P1 := Lib.hid (fun (B : Nat) (W : World) hb => pack1_1 B _ b W l1 hb)
    have P2 := Lib.hid (fun (B : Nat) (W : World) hb => pack1_2 B _ c W l2 hb)
    have P3 := Lib.hid (fun (B : Nat) (W : World) hb => pack1_3 B _ d W l3 hb)
    unfold Sl.v Sl.cs at *
    clear h3 h4 hm l0 l1 l2 l3 l4
    generalize orB (orB (orB (orB (m * 16) 0 a) 1 b) 2 c) 3 d = x4 at *
    generalize orB (orB (orB (m * 16) 0 a) 1 b) 2 c = x3 at *
    generalize orB (orB (m * 16) 0 a) 1 b = x2 at *
    generalize orB (m * 16) 0 a = x1 at *
    generalize m * 16 = x0 at *
    have hB0 := (Below.refl w.heap.size w).alloc (Nat.le_refl _) (.cells #[.bool a, .bool b, .bool c, .bool d, .int .i64 (m : Nat)] 23)
    have HM2 : Hid (∀ W, Calls Tryd.prog 32 #[.agg #[.bool a, .bool b, .bool c, .bool d, .int .i64 (m : Nat)]] W fun e w' => e = .returned (.bool true) ∧ Below W.heap.size W w') := Lib.hid fun W => (HM.out W).mono fun e w' ⟨he, hw⟩ => ⟨he, by rw [hw]; exact (Below.refl _ _).alloc (Nat.le_refl _) _⟩
    have HK := Lib.hid hbox
    have HB := Lib.hid hB0
    clear HM hbox hB0
    go_enter Tryd.func12, Tryd.ntmps12
    go_wp2_with (first
      | (go_at_call 32; refine (HM2.out _).mono ?_; rintro e w1 ⟨rfl, hb1⟩
         have k1 := HK.out.below hb1 HK.out.lt
         have c0 := k1.at_ 0 _ rfl
         have c1 := k1.at_ 1 _ rfl
         have c2 := k1.at_ 2 _ rfl
         have c3 := k1.at_ 3 _ rfl
         have c4 := k1.at_ 4 _ rfl
         have k1a := k1.alloc (.cells #[.int .u64 (x0 : Nat)] 24)
         have a0 := k1a.at_ 0 _ rfl
         have K1 := Lib.hid k1
         clear k1a
         have B1 := Lib.hid (HB.out.trans (hb1.mono HB.out.size))
         clear hb1 k1)
      | (go_at_call 33; (with_reducible refine (P0.out _ _ (Blk.new _ _ _)).mono ?_); rintro e w2 ⟨rfl, n2, hb2⟩; clear P0
         have k2 := (K1.out.alloc _).but hb2 (by have := K1.out.lt; omega)
         have c0 := k2.at_ 0 _ rfl
         have c1 := k2.at_ 1 _ rfl
         have c2 := k2.at_ 2 _ rfl
         have c3 := k2.at_ 3 _ rfl
         have c4 := k2.at_ 4 _ rfl
         have K2 := Lib.hid (And.intro n2 (And.intro k2 (And.intro (show w.heap.size ≠ w1.heap.size by have := K1.out.lt; omega) (B1.out.size))))
         have B2 := Lib.hid ((B1.out.alloc B1.out.size _).trans (hb2.below (by have := B1.out.size; simp; omega) (fun j e => by have := B1.out.size; omega)))
         clear n2 hb2 k2)
      | (go_at_call 33; (with_reducible refine (P1.out _ _ K2.out.1).mono ?_); rintro e w3 ⟨rfl, n3, hb3⟩; clear P1
         have k3 := K2.out.2.1.but hb3 K2.out.2.2.1
         have c0 := k3.at_ 0 _ rfl
         have c1 := k3.at_ 1 _ rfl
         have c2 := k3.at_ 2 _ rfl
         have c3 := k3.at_ 3 _ rfl
         have c4 := k3.at_ 4 _ rfl
         have K3 := Lib.hid (And.intro n3 k3)
         have B3 := Lib.hid (B2.out.trans (hb3.below B2.out.size (fun j e => by have := K2.out.2.2.2; omega)))
         clear n3 hb3 k3)
      | (go_at_call 33; (with_reducible refine (P2.out _ _ K3.out.1).mono ?_); rintro e w4 ⟨rfl, n4, hb4⟩; clear P2
         have k4 := K3.out.2.but hb4 K2.out.2.2.1
         have c0 := k4.at_ 0 _ rfl
         have c1 := k4.at_ 1 _ rfl
         have c2 := k4.at_ 2 _ rfl
         have c3 := k4.at_ 3 _ rfl
         have c4 := k4.at_ 4 _ rfl
         have K4 := Lib.hid (And.intro n4 k4)
         have B4 := Lib.hid (B3.out.trans (hb4.below B3.out.size (fun j e => by have := K2.out.2.2.2; omega)))
         clear n4 hb4 k4)
      | (go_at_call 33; (with_reducible refine (P3.out _ _ K4.out.1).mono ?_); rintro e w5 ⟨rfl, n5, hb5⟩; clear P3
         have cx := n5.at_ 0 _ rfl
         have B5 := Lib.hid (B4.out.trans (hb5.below B4.out.size (fun j e => by have := K2.out.2.2.2; omega)))
         clear n5 hb5))
    go_ret
    exact ⟨rfl, B5.out⟩
  · have hm' : s.may = false := by simpa using hm
    rw [Sl.pack_no hm']
    rw [hm'] at HM
    unfold Sl.v Sl.cs at *
    have c0 := hbox.at_ 0 _ rfl
    have c1 := hbox.at_ 1 _ rfl
    have c2 := hbox.at_ 2 _ rfl
    have c3 := hbox.at_ 3 _ rfl
    have c4 := hbox.at_ 4 _ rfl
    have HB := Lib.hid (((Below.refl w.heap.size w).alloc (Nat.le_refl _) (.cells #[.bool s.h, .bool s.w, .bool s.c, .bool s.o, .int .i64 s.n] 23)).alloc (by simp) (.cells #[.bool s.h, .bool s.w, .bool s.c, .bool s.o, .int .i64 s.n] 23))
    clear hbox hm hm'
    generalize s.h = a at *
    generalize s.w = b at *
    generalize s.c = c at *
    generalize s.o = d at *
    generalize s.n = n at *
    go_enter Tryd.func12, Tryd.ntmps12
    go_wp2_with (go_at_call 32; refine (HM.out _).mono ?_; rintro e w1 ⟨rfl, rfl⟩)
    go_ret
    exact ⟨rfl, HB.out⟩
end Go.Proofs.YtbidlabhekiijaaDoor

/- Package radix: Unpack. -/
namespace Go.Proofs.YtbidlabhekiijaaDoor
open Go.RowKit
set_option linter.unusedVariables false
set_option linter.unusedSimpArgs false

/-- An entry is laid over five cells. -/
theorem sl_set {w : World} {g : Nat} {t : TypeId} {c0 c1 c2 c3 c4 : Value} (h : Blk w g t #[c0, c1, c2, c3, c4]) (s : Sl) :
    Blk (((((w.setCell ⟨g, 0, none⟩ (.bool s.h)).setCell ⟨g, 1, none⟩ (.bool s.w)).setCell ⟨g, 2, none⟩ (.bool s.c)).setCell ⟨g, 3, none⟩ (.bool s.o)).setCell ⟨g, 4, none⟩ (.int .i64 s.n)) g t s.cs := by
  simpa [Sl.cs] using ((((h.set_ 0 (.bool s.h)).set_ 1 (.bool s.w)).set_ 2 (.bool s.c)).set_ 3 (.bool s.o)).set_ 4 (.int .i64 s.n)
theorem sl_set_below {B : Nat} {v w : World} {g : Nat} (h : Below B v w) (hg : B ≤ g) (s : Sl) :
    Below B v (((((w.setCell ⟨g, 0, none⟩ (.bool s.h)).setCell ⟨g, 1, none⟩ (.bool s.w)).setCell ⟨g, 2, none⟩ (.bool s.c)).setCell ⟨g, 3, none⟩ (.bool s.o)).setCell ⟨g, 4, none⟩ (.int .i64 s.n)) :=
  ((((h.setCell (p := ⟨g, 0, none⟩) hg _).setCell (p := ⟨g, 1, none⟩) hg _).setCell (p := ⟨g, 2, none⟩) hg _).setCell (p := ⟨g, 3, none⟩) hg _).setCell (p := ⟨g, 4, none⟩) hg _
theorem sl_set_but {S : Nat → Prop} {v w : World} {g : Nat} (h : But S v w) (hg : S g ∨ v.heap.size ≤ g) (s : Sl) :
    But S v (((((w.setCell ⟨g, 0, none⟩ (.bool s.h)).setCell ⟨g, 1, none⟩ (.bool s.w)).setCell ⟨g, 2, none⟩ (.bool s.c)).setCell ⟨g, 3, none⟩ (.bool s.o)).setCell ⟨g, 4, none⟩ (.int .i64 s.n)) :=
  ((((h.setCell (p := ⟨g, 0, none⟩) hg _).setCell (p := ⟨g, 1, none⟩) hg _).setCell (p := ⟨g, 2, none⟩) hg _).setCell (p := ⟨g, 3, none⟩) hg _).setCell (p := ⟨g, 4, none⟩) hg _
theorem sl_set_far {w : World} {b g : Nat} {t : TypeId} {cs : Array Value} (h : Blk w b t cs) (hg : b ≠ g) (s : Sl) :
    Blk (((((w.setCell ⟨g, 0, none⟩ (.bool s.h)).setCell ⟨g, 1, none⟩ (.bool s.w)).setCell ⟨g, 2, none⟩ (.bool s.c)).setCell ⟨g, 3, none⟩ (.bool s.o)).setCell ⟨g, 4, none⟩ (.int .i64 s.n)) b t cs :=
  ((((h.far (p := ⟨g, 0, none⟩) hg _).far (p := ⟨g, 1, none⟩) hg _).far (p := ⟨g, 2, none⟩) hg _).far (p := ⟨g, 3, none⟩) hg _).far (p := ⟨g, 4, none⟩) hg _

set_option maxHeartbeats 800000 in
theorem has_any (x : Int) (k : Int) (b : Nat) (w : World) (hx : (Lit.int .u64 x).wf = true) (hk : k = 0 ∨ k = 1 ∨ k = 2 ∨ k = 3) (c0 : w.cell? ⟨b, 0, none⟩ = some (.int .u64 x)) :
    Calls Tryd.prog 34 #[.int .i64 k, .pointer (some ⟨b, 0, none⟩)] w fun e w' => e = .returned (.bool (x / (2 : Int) ^ k.toNat % 2 == 1)) ∧ w = w' := by
  obtain ⟨x0, x1⟩ := u64_range hx
  obtain ⟨X, rfl⟩ : ∃ X : Nat, x = X := ⟨x.toNat, by omega⟩
  have hm : ∀ Y : Nat, Y < 18446744073709551616 → bits .and .u64 (Y : Int) 1 = ((Y : Int) % 2) := fun Y hY => by
    have := u64_and_mask Y 1 1 hY (by omega) (by decide)
    simpa using this
  have m0 := hm X (by omega)
  have m1 : bits .and .u64 ((X : Int) / 2) 1 = ((X : Int) / 2) % 2 := by have := hm (X / 2) (by omega); simpa using this
  have m2 : bits .and .u64 ((X : Int) / 4) 1 = ((X : Int) / 4) % 2 := by have := hm (X / 4) (by omega); simpa using this
  have m3 : bits .and .u64 ((X : Int) / 8) 1 = ((X : Int) / 8) % 2 := by have := hm (X / 8) (by omega); simpa using this
  have t0 : (X : Int) / 2 ^ (0 : Int).toNat = X := by simp
  have t1 : (X : Int) / 2 ^ (1 : Int).toNat = X / 2 := by rfl
  have t2 : (X : Int) / 2 ^ (2 : Int).toNat = X / 4 := by rfl
  have t3 : (X : Int) / 2 ^ (3 : Int).toNat = X / 8 := by rfl
  clear hm x0 x1
  generalize (X : Int) = x at *
  rcases hk with rfl | rfl | rfl | rfl
  · rw [t0]
    clear t0 t1 t2 t3 m1 m2 m3
    go_enter Tryd.func34, Tryd.ntmps34
    go_wp2
    go_ret
    exact ⟨rfl, rfl⟩
  · rw [t1]
    clear t0 t1 t2 t3 m0 m2 m3
    go_enter Tryd.func34, Tryd.ntmps34
    go_wp2
    go_ret
    exact ⟨rfl, rfl⟩
  · rw [t2]
    clear t0 t1 t2 t3 m0 m1 m3
    go_enter Tryd.func34, Tryd.ntmps34
    go_wp2
    go_ret
    exact ⟨rfl, rfl⟩
  · rw [t3]
    clear t0 t1 t2 t3 m0 m1 m2
    go_enter Tryd.func34, Tryd.ntmps34
    go_wp2
    go_ret
    exact ⟨rfl, rfl⟩

set_option maxRecDepth 100000 in
set_option maxHeartbeats 1600000 in
theorem unpack_any (x : Int) (w : World) (hx : (Lit.int .u64 x).wf = true) : Calls Tryd.prog 14 #[.int .u64 x] w fun e w' => e = .returned (unpS x).v ∧ Below w.heap.size w w' := by
  have hmf : ∀ (fn : Fn) (first cap : Array Value) (w : World), (Instr.makeFunc fn first cap).run Tryd.prog w = .ok (.func fn first cap) w := fun _ _ _ _ => rfl
  have H0 := Lib.hid (fun (b : Nat) (W : World) c => (has_any x 0 b W hx (.inl rfl) c).mono (R' := fun e w' => e = .returned (.bool (rawS x).h) ∧ W = w') fun e w' ⟨he, hw⟩ => ⟨he.trans (by unfold rawS; simp), hw⟩)
  have H1 := Lib.hid (fun (b : Nat) (W : World) c => (has_any x 1 b W hx (.inr (.inl rfl)) c).mono (R' := fun e w' => e = .returned (.bool (rawS x).w) ∧ W = w') fun e w' ⟨he, hw⟩ => ⟨he.trans rfl, hw⟩)
  have H2 := Lib.hid (fun (b : Nat) (W : World) c => (has_any x 2 b W hx (.inr (.inr (.inl rfl))) c).mono (R' := fun e w' => e = .returned (.bool (rawS x).c) ∧ W = w') fun e w' ⟨he, hw⟩ => ⟨he.trans rfl, hw⟩)
  have H3 := Lib.hid (fun (b : Nat) (W : World) c => (has_any x 3 b W hx (.inr (.inr (.inr rfl))) c).mono (R' := fun e w' => e = .returned (.bool (rawS x).o) ∧ W = w') fun e w' ⟨he, hw⟩ => ⟨he.trans rfl, hw⟩)
  have hn : IntKind.i64.wrap (x / 16) = (rawS x).n := rfl
  have HP := Lib.hid (pack_any (rawS x))
  have k0 := (Blk.new w 24 #[.int .u64 x]).alloc (.cells Sl.zero.cs 23)
  have k1 := Blk.new (w.alloc (.cells #[.int .u64 x] 24)) 23 Sl.zero.cs
  have hB := ((Below.refl w.heap.size w).alloc (Nat.le_refl _) (.cells #[.int .u64 x] 24)).alloc (by simp) (.cells Sl.zero.cs 23)
  have hU : unpS x = if (rawS x).pack = x then rawS x else Sl.zero := rfl
  rw [World.size_alloc] at k1
  have HU := Lib.hid hU
  clear hU
  generalize hr : rawS x = r at *
  clear hr
  obtain ⟨rh, rw_, rc, ro, rn⟩ := r
  unfold Sl.v Sl.cs at *
  simp only at *
  unfold Sl.zero at *
  simp only at *
  obtain ⟨W0, hW0⟩ : ∃ W0, (w.alloc (.cells #[.int .u64 x] 24)).alloc (.cells #[.bool false, .bool false, .bool false, .bool false, .int .i64 0] 23) = W0 := ⟨_, rfl⟩
  rw [hW0] at k0 k1 hB
  have c0 := k0.at_ 0 _ rfl
  have K0 := Lib.hid k0
  have K1 := Lib.hid k1
  have HB := Lib.hid hB
  clear k0 k1 hB
  go_enter Tryd.func14, Tryd.ntmps14
  go_wp2_with fail
  go_cut [4] from 5 to 23 (fun s4 wx => s4 = .pointer (some ⟨W0.heap.size, 0, none⟩) ∧ Blk wx W0.heap.size 23 #[.bool rh, .bool rw_, .bool rc, .bool ro, .int .i64 rn] ∧ Below W0.heap.size W0 wx)
  case first =>
    have cd0 := K0.out.drew.at_ 0 _ rfl
    have c0a := (K0.out.drew.alloc (.cells #[.bool false, .bool false, .bool false, .bool false, .int .i64 0] 23)).at_ 0 _ rfl
    have hlt := K0.out.lt
    go_region_held3 (fun w' => w'.cell? ⟨w.heap.size, 0, none⟩ = some (.int .u64 x))
      (first | exact cd0 | exact c0a | exact (K0.out.drew.alloc (.cells #[.bool rh, .bool rw_, .bool rc, .bool ro, .int .i64 rn] 23)).at_ 0 _ rfl | exact (sl_set_far (K0.out.drew.alloc (.cells #[.bool false, .bool false, .bool false, .bool false, .int .i64 0] 23)) (by simp; omega) ⟨rh, rw_, rc, ro, rn⟩).at_ 0 _ rfl)
      (first
      | (go_at_call 34; (first | (with_reducible refine (H0.out _ _ cd0).mono ?_) | (with_reducible refine (H0.out _ _ c0a).mono ?_)); rintro e w' ⟨rfl, rfl⟩)
      | (go_at_call 34; (first | (with_reducible refine (H1.out _ _ cd0).mono ?_) | (with_reducible refine (H1.out _ _ c0a).mono ?_)); rintro e w' ⟨rfl, rfl⟩)
      | (go_at_call 34; (first | (with_reducible refine (H2.out _ _ cd0).mono ?_) | (with_reducible refine (H2.out _ _ c0a).mono ?_)); rintro e w' ⟨rfl, rfl⟩)
      | (go_at_call 34; (first | (with_reducible refine (H3.out _ _ cd0).mono ?_) | (with_reducible refine (H3.out _ _ c0a).mono ?_)); rintro e w' ⟨rfl, rfl⟩))
    all_goals
      go_wp2
      go_meet
      exact ⟨rfl, Blk.new W0 _ _, ((Below.refl W0.heap.size W0).alloc (Nat.le_refl _) _).drew⟩
  case rest =>
    obtain ⟨rfl, hb1, hB1⟩ := hcut
    have k0 := K0.out.below hB1 K0.out.lt
    have k1 := K1.out.below hB1 K1.out.lt
    have a0 := k0.drew.at_ 0 _ rfl
    have b0 := hb1.drew.at_ 0 _ rfl
    have b1 := hb1.drew.at_ 1 _ rfl
    have b2 := hb1.drew.at_ 2 _ rfl
    have b3 := hb1.drew.at_ 3 _ rfl
    have b4 := hb1.drew.at_ 4 _ rfl
    have KR := Lib.hid (And.intro k0 (And.intro k1 hb1))
    have BR := Lib.hid (HB.out.trans (hB1.mono HB.out.size))
    clear k0 k1 hb1 hB1 c0
    by_cases hp : (Sl.mk rh rw_ rc ro rn).pack = x
    · rw [hp] at HP
      have hU : unpS x = ⟨rh, rw_, rc, ro, rn⟩ := by rw [HU.out, if_pos hp]
      have HU2 := Lib.hid hU
      clear hp hU
      go_wp2_with fail
      go_region_with (first
      | (go_at_call 12; refine (HP.out _).mono ?_; rintro e v2 ⟨rfl, hb2⟩
         have KR2 := Lib.hid (And.intro (KR.out.1.drew.below hb2 KR.out.1.lt) (And.intro (KR.out.2.1.drew.below hb2 KR.out.2.1.lt) (KR.out.2.2.drew.below hb2 KR.out.2.2.lt)))
         have BR2 := Lib.hid (BR.out.drew.trans (hb2.mono BR.out.size))
         clear hb2
         have a0' := KR2.out.1.at_ 0 _ rfl
         have b0' := KR2.out.2.2.at_ 0 _ rfl
         have b1' := KR2.out.2.2.at_ 1 _ rfl
         have b2' := KR2.out.2.2.at_ 2 _ rfl
         have b3' := KR2.out.2.2.at_ 3 _ rfl
         have b4' := KR2.out.2.2.at_ 4 _ rfl
         have r0' := KR2.out.2.1.at_ 0 _ rfl
         have r1' := KR2.out.2.1.at_ 1 _ rfl
         have r2' := KR2.out.2.1.at_ 2 _ rfl
         have r3' := KR2.out.2.1.at_ 3 _ rfl
         have r4' := KR2.out.2.1.at_ 4 _ rfl
         have f0' := KR2.out.2.1.frozen 0
         have f1' := KR2.out.2.1.frozen 1
         have f2' := KR2.out.2.1.frozen 2
         have f3' := KR2.out.2.1.frozen 3
         have f4' := KR2.out.2.1.frozen 4))
      all_goals
        go_wp2
        have hRf := sl_set KR2.out.2.1 ⟨rh, rw_, rc, ro, rn⟩
        have hBf := sl_set_below BR2.out (by omega : w.heap.size ≤ w.heap.size + 1) ⟨rh, rw_, rc, ro, rn⟩
        simp only [Sl.cs, Sl.zero] at hRf hBf
        clear KR2 BR2
        generalize World.setCell _ _ _ = W5 at *
        refine bodyPost_ret (results_cell_row rfl _ _ (w.heap.size + 1) 23 _ (0, 0) _ rfl hRf Tryd.underlying23 rfl (by kernel_rfl)) rfl ?_
        exact ⟨by rw [HU2.out] <;> try rfl, hBf⟩
    · have hU : unpS x = Sl.zero := by rw [HU.out, if_neg hp]; rfl
      have HU2 := Lib.hid hU
      clear hU
      generalize hq : (Sl.mk rh rw_ rc ro rn).pack = q at *
      have hne : (q != x) = true := by simpa using hp
      clear hp hq
      go_wp2_with fail
      go_region_with (first
      | (go_at_call 12; refine (HP.out _).mono ?_; rintro e v2 ⟨rfl, hb2⟩
         have KR2 := Lib.hid (And.intro (KR.out.1.drew.below hb2 KR.out.1.lt) (And.intro (KR.out.2.1.drew.below hb2 KR.out.2.1.lt) (KR.out.2.2.drew.below hb2 KR.out.2.2.lt)))
         have BR2 := Lib.hid (BR.out.drew.trans (hb2.mono BR.out.size))
         clear hb2
         have a0' := KR2.out.1.at_ 0 _ rfl
         have b0' := KR2.out.2.2.at_ 0 _ rfl
         have b1' := KR2.out.2.2.at_ 1 _ rfl
         have b2' := KR2.out.2.2.at_ 2 _ rfl
         have b3' := KR2.out.2.2.at_ 3 _ rfl
         have b4' := KR2.out.2.2.at_ 4 _ rfl
         have r0' := KR2.out.2.1.at_ 0 _ rfl
         have r1' := KR2.out.2.1.at_ 1 _ rfl
         have r2' := KR2.out.2.1.at_ 2 _ rfl
         have r3' := KR2.out.2.1.at_ 3 _ rfl
         have r4' := KR2.out.2.1.at_ 4 _ rfl
         have f0' := KR2.out.2.1.frozen 0
         have f1' := KR2.out.2.1.frozen 1
         have f2' := KR2.out.2.1.frozen 2
         have f3' := KR2.out.2.1.frozen 3
         have f4' := KR2.out.2.1.frozen 4))
      all_goals
        go_wp2
        have hRf := sl_set KR2.out.2.1 Sl.zero
        have hBf := sl_set_below BR2.out (by omega : w.heap.size ≤ w.heap.size + 1) Sl.zero
        simp only [Sl.cs, Sl.zero] at hRf hBf
        clear KR2 BR2
        generalize World.setCell _ _ _ = W5 at *
        refine bodyPost_ret (results_cell_row rfl _ _ (w.heap.size + 1) 23 _ (0, 0) _ rfl hRf Tryd.underlying23 rfl (by kernel_rfl)) rfl ?_
        exact ⟨by rw [HU2.out] <;> try rfl, hBf⟩
end Go.Proofs.YtbidlabhekiijaaDoor
