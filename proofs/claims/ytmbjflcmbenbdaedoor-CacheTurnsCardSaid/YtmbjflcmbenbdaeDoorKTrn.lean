/- CacheTurns: of five pages that nobody holds, those that were wanted again go last, the others in the order in which they came. -/
import Derived.Test.YtmbjflcmbenbdaeDoorKQ
import Derived.Test.YtmbjflcmbenbdaeDoorFOs
import Derived.Test.YtmbjflcmbenbdaeDoorTie
import Derived.Test.YtmbjflcmbenbdaeDoorCards
import Derived.LaidMore
import Derived.Lay
import Derived.SevenTiedAt
import Derived.Stop.Joined
namespace Go.Proofs.YtmbjflcmbenbdaeDoor.lawTrn14
open Go.ChangeShapes Go.WideShapes Go.ChangeAt Go.RowKit
set_option linter.unusedVariables false
set_option linter.unusedSimpArgs false

/-- The first i pages of the file, in these frames, fresh or not. -/
def Tl (fr : Nat → Nat) (fl : Nat → Bool) (i : Nat) : List Pg := (List.range i).map fun (j : Nat) => ⟨2, (j : Int), fr j, fl j⟩
theorem Tl_key (fr : Nat → Nat) (fl : Nat → Bool) (i : Nat) {m : Nat} (h : i ≤ m) : pgF (Tl fr fl i) 2 m = none := by
  rw [pgF_none]
  intro hm
  obtain ⟨x, hx, e⟩ := List.mem_map.1 hm
  obtain ⟨j, hj, rfl⟩ := List.mem_map.1 hx
  simp [Pg.key] at e
  rw [List.mem_range] at hj
  omega
theorem Tl_snoc (fr : Nat → Nat) (i k : Nat) : Tl fr (fun _ => false) i ++ [⟨2, (i : Int), k, false⟩] = Tl (fun j => if j = i then k else fr j) (fun _ => false) (i + 1) := by
  unfold Tl
  rw [List.range_succ, List.map_append]
  simp
  intro j hj e
  omega
theorem Tl_want (fr : Nat → Nat) (fl : Nat → Bool) (k : Nat) : wantL (Tl fr fl 5) 2 k = Tl fr (fun j => if j = k then true else fl j) 5 := by
  unfold wantL Tl
  rw [List.map_map]
  apply List.map_congr_left
  intro j _
  simp only [Function.comp]
  by_cases e : j = k
  · subst e; simp
  · rw [if_neg (by simp; omega), if_neg e]
/-- The cells of the law's own notes. -/
def flA (fl : Nat → Bool) : Array Value := ((List.range 5).map fun j => Value.bool (fl j)).toArray
theorem flA_set (fl : Nat → Bool) (k : Nat) (hk : k < 5) : (flA fl).setIfInBounds k (.bool true) = flA fun j => if j = k then true else fl j := by
  unfold flA
  apply Array.ext'
  rcases (show k = 0 ∨ k = 1 ∨ k = 2 ∨ k = 3 ∨ k = 4 by omega) with rfl | rfl | rfl | rfl | rfl <;> rfl
theorem flA_at (fl : Nat → Bool) (k : Nat) (hk : k < 5) : (flA fl)[k]? = some (.bool (fl k)) := by
  unfold flA
  simp [hk]
/-- The first that was not wanted again, from place 5 - d on; -1, if there is none. -/
def gg (fl : Nat → Bool) : Nat → Int
  | 0 => -1
  | d + 1 => if fl (4 - d) then gg fl d else ((4 - d : Nat) : Int)
theorem gg_bound (fl : Nat → Bool) : ∀ d, -1 ≤ gg fl d ∧ gg fl d ≤ 4
  | 0 => ⟨Int.le_refl _, by show (-1 : Int) ≤ 4; omega⟩
  | d + 1 => by
    have := gg_bound fl d
    unfold gg
    split <;> omega
def fin (fl : Nat → Bool) : Int := if gg fl 5 < 0 then 0 else gg fl 5
theorem turns (X : Pol) (fr : Nat → Nat) (fl : Nat → Bool) (hits fills : Nat) (hh : ∀ j, j < 5 → heldI X.H (fr j) = 1) : ∃ x, (⟨X, Tl fr fl 5, 0, hits, fills⟩ : Cc).evK = some x ∧ x.f = 2 ∧ x.q = fin fl := by
  have h0 := hh 0 (by omega)
  have h1 := hh 1 (by omega)
  have h2 := hh 2 (by omega)
  have h3 := hh 3 (by omega)
  have h4 := hh 4 (by omega)
  have hT : Tl fr fl 5 = [⟨2, 0, fr 0, fl 0⟩, ⟨2, 1, fr 1, fl 1⟩, ⟨2, 2, fr 2, fl 2⟩, ⟨2, 3, fr 3, fl 3⟩, ⟨2, 4, fr 4, fl 4⟩] := rfl
  rw [hT]
  clear hT hh
  cases e0 : fl 0 <;> cases e1 : fl 1 <;> cases e2 : fl 2 <;> cases e3 : fl 3 <;> cases e4 : fl 4 <;> simp [Cc.evK, Cc.look, roundC, passB, passL, staleL, h0, h1, h2, h3, h4, fin, gg, e0, e1, e2, e3, e4]

/-- So many pages came. -/
def Tn (w : World) (a : Ad) (K : Nat → Prop) (i : Nat) (W : World) : Prop := ∃ C fr, Idle w a 10 K C W ∧ C.R = Tl fr (fun _ => false) i ∧ C.hand = 0 ∧ C.hits = 0 ∧ C.fills = i
def Th (w : World) (a : Ad) (K : Nat → Prop) (i f : Nat) (W : World) : Prop := ∃ C fr, One w a 10 K C f W ∧ C.R = Tl fr (fun _ => false) i ∧ C.hand = 0 ∧ C.hits = 0 ∧ C.fills = i
/-- So many were wanted again: these. -/
def Un (w : World) (a : Ad) (K : Nat → Prop) (i : Nat) (fl : Nat → Bool) (W : World) : Prop := ∃ C fr, Idle w a 10 K C W ∧ C.R = Tl fr fl 5 ∧ C.hand = 0 ∧ C.hits ≤ i
def Uh (w : World) (a : Ad) (K : Nat → Prop) (i : Nat) (fl : Nat → Bool) (f : Nat) (W : World) : Prop := ∃ C fr, One w a 10 K C f W ∧ C.R = Tl fr fl 5 ∧ C.hand = 0 ∧ C.hits ≤ i
/-- One went. -/
def Vn (w : World) (a : Ad) (K : Nat → Prop) (q : Int) (W : World) : Prop := ∃ C, Idle w a 10 K C W ∧ C.R.length = 4 ∧ pgF C.R 2 q = none
section
variable {w W W' : World} {a : Ad} {K : Nat → Prop} {i : Nat} {fl : Nat → Bool}
theorem get1 (s : Tn w a K i W) (hi : i < 5) : Calls Tryd.prog 6 #[.pointer (some ⟨a.pc, 0, none⟩), .agg #[.int .i64 2, .int .i64 (i : Int)]] W fun e W' => ∃ f : Nat, e = .returned (.tuple #[.int .i64 (f : Int), .int .i64 0]) ∧ Th w a K (i + 1) f W' ∧ But (fun j => ¬ K j) W W' := by
  obtain ⟨C, fr, S, hR, hh, hH, hF⟩ := s
  have h := idle_fill S 2 (by decide) i (by rw [pg3]; simp; omega) (by rw [hR]; exact Tl_key fr _ i (Nat.le_refl _)) (by rw [hR]; simp [Tl]; omega) (by omega)
  exact h.mono fun e W' ⟨he, hn, hb⟩ => ⟨_, he, ⟨_, fun j => if j = i then freeAt C.X.H else fr j, hn, by rw [← Tl_snoc, ← hR]; rfl, hh, hH, by simp [Cc.fill, hF]⟩, hb⟩
theorem drop1 {f : Nat} (s : Th w a K i f W) : Calls Tryd.prog 7 #[.pointer (some ⟨a.pp, 0, none⟩), .int .i64 (f : Int)] W fun e W' => e = .returned (.int .i64 0) ∧ Tn w a K i W' ∧ But (fun j => ¬ K j) W W' := by
  obtain ⟨C, fr, S, hR, hh, hH, hF⟩ := s
  exact (one_drop S).mono fun e W' ⟨he, ⟨X, hn⟩, hb⟩ => ⟨he, ⟨_, fr, hn, hR, hh, hH, hF⟩, hb⟩
theorem Tn.all (s : Tn w a K 5 W) : Un w a K 0 (fun _ => false) W := by
  obtain ⟨C, fr, S, hR, hh, hH, hF⟩ := s
  exact ⟨C, fr, S, hR, hh, by omega⟩
theorem get2 (s : Un w a K i fl W) (hi : i < 1000) {k : Nat} (hk : k < 5) : Calls Tryd.prog 6 #[.pointer (some ⟨a.pc, 0, none⟩), .agg #[.int .i64 2, .int .i64 (k : Int)]] W fun e W' => ∃ f : Nat, e = .returned (.tuple #[.int .i64 (f : Int), .int .i64 0]) ∧ Uh w a K (i + 1) (fun j => if j = k then true else fl j) f W' ∧ But (fun j => ¬ K j) W W' := by
  obtain ⟨C, fr, S, hR, hh, hH⟩ := s
  have hm : (⟨2, (k : Int), fr k, fl k⟩ : Pg) ∈ C.R := by rw [hR]; exact List.mem_map.2 ⟨k, by simpa using hk, rfl⟩
  have hx : pgF C.R 2 (k : Int) = some ⟨2, (k : Int), fr k, fl k⟩ := by
    obtain ⟨o, L, _⟩ := S
    exact pgF_mem L.inv.keys hm
  have h := idle_hit S (x := ⟨2, (k : Int), fr k, fl k⟩) hx (by rw [pg3]; simp; omega) (by omega)
  exact h.mono fun e W' ⟨he, hn, hb⟩ => ⟨_, he, ⟨_, fr, hn, by show wantL C.R 2 (k : Int) = _; rw [hR]; exact Tl_want fr fl k, hh, by show C.hits + 1 ≤ i + 1; omega⟩, hb⟩
theorem drop2 {f : Nat} (s : Uh w a K i fl f W) : Calls Tryd.prog 7 #[.pointer (some ⟨a.pp, 0, none⟩), .int .i64 (f : Int)] W fun e W' => e = .returned (.int .i64 0) ∧ Un w a K i fl W' ∧ But (fun j => ¬ K j) W W' := by
  obtain ⟨C, fr, S, hR, hh, hH⟩ := s
  exact (one_drop S).mono fun e W' ⟨he, ⟨X, hn⟩, hb⟩ => ⟨he, ⟨_, fr, hn, hR, hh, hH⟩, hb⟩
theorem Un.aside (s : Un w a K i fl W) (hb : But K W W') : Un w a K i fl W' := by
  obtain ⟨C, fr, ⟨o, L, ho⟩, r⟩ := s
  exact ⟨C, fr, ⟨o, L.aside hb, ho⟩, r⟩
theorem evict (s : Un w a K i fl W) : Calls Tryd.prog 8 #[.pointer (some ⟨a.pc, 0, none⟩)] W fun e W' => e = .returned (.tuple #[.agg #[.int .i64 2, .int .i64 (fin fl)], .bool true]) ∧ Vn w a K (fin fl) W' := by
  obtain ⟨C, fr, S, hR, hh, hH⟩ := s
  obtain ⟨o, L, ho⟩ := S
  obtain ⟨x, y, h1, h2, h3, h4, h5⟩ := idle_evict ⟨o, L, ho⟩ (by rw [hR]; simp [Tl])
  obtain ⟨x', e1, e2, e3⟩ := turns C.X fr fl C.hits C.fills (fun j hj => by
    have hm : fr j ∈ C.R.map Pg.fr := by rw [hR]; exact List.mem_map.2 ⟨_, List.mem_map.2 ⟨j, by simpa using hj, rfl⟩, rfl⟩
    have := L.inv.hd (L.inv.fr _ hm)
    rw [ho, if_pos hm] at this
    exact this)
  have hC : (⟨C.X, Tl fr fl 5, 0, C.hits, C.fills⟩ : Cc) = C := by rw [← hR, ← hh]
  rw [hC, h1] at e1
  obtain rfl : x = x' := Option.some.inj e1
  have hl : C.R.length = 5 := by rw [hR]; simp [Tl]
  exact h5.mono fun e W' ⟨he, hn, _, hl2, hp, _⟩ => ⟨by rw [he, e2, e3], _, hn, by omega, by rw [← e2, ← e3]; exact hp⟩
theorem has {q : Int} (s : Vn w a K q W) (hq : (Lit.int .i64 q).wf = true) : Calls Tryd.prog 9 #[.pointer (some ⟨a.pc, 0, none⟩), .agg #[.int .i64 2, .int .i64 q]] W fun e W' => e = .returned (.tuple #[.int .i64 0, .bool false]) ∧ Vn w a K q W' ∧ Below W.heap.size W W' := by
  obtain ⟨C, ⟨o, L, ho⟩, hl, hp⟩ := s
  have h := ls_has L 2 q (by decide) hq
  rw [show hasV C.R 2 q = .tuple #[.int .i64 0, .bool false] by unfold hasV gR; rw [hp]; rfl] at h
  exact h.mono fun e W' ⟨he, hb⟩ => ⟨he, ⟨C, ⟨o, L.on hb, ho⟩, hl, hp⟩, hb⟩
theorem len {q : Int} (s : Vn w a K q W) : Calls Tryd.prog 10 #[.pointer (some ⟨a.pc, 0, none⟩)] W fun e W' => e = .returned (.int .i64 4) ∧ W = W' := by
  obtain ⟨C, ⟨o, L, ho⟩, hl, hp⟩ := s
  have h := ls_len L
  rw [hl] at h
  exact h
theorem Vn.on {q : Int} (s : Vn w a K q W) (hb : Below W.heap.size W W') : Vn w a K q W' := by
  obtain ⟨C, S, hl⟩ := s
  exact ⟨C, S.on hb, hl⟩
theorem Vn.bel {q : Int} (s : Vn w a K q W) : Below w.heap.size w W := by
  obtain ⟨C, S, hl⟩ := s
  exact S.bel
theorem Un.bel (s : Un w a K i fl W) : Below w.heap.size w W := by
  obtain ⟨C, fr, S, hl⟩ := s
  exact S.bel
end

set_option maxRecDepth 100000 in
set_option maxHeartbeats 8000000 in
theorem walk (A : Option Addr) (zs : List Int) (c0 : Nat) (w : World) (hz : zs.length ≤ maxLen) (hA : IntRow w A zs) : Calls Tryd.prog 3 #[.slice A zs.length c0] w fun e w' => e = .returned (.bool true) ∧ Below w.heap.size w w' := by
  have HA := Lib.hid (fun w => awake14_any w)
  have HM := Lib.hid (fun v => ls_made v v (Below.refl _ _) 10 (by omega) (by omega))
  have HF0 := Lib.hid (fun (v : World) (a : Ad) (K : Nat → Prop) (W : World) (s : Ls v a 10 K (newC 10) (fun _ => 0) W) => show Tn v a K 0 W from ⟨_, fun _ => 0, idle_made s, rfl, rfl, rfl, rfl⟩)
  have HROW := Lib.hid (fun (W : World) (h : Below w.heap.size w W) (i : Nat) (hi : i < zs.length) => show ∃ ad, A = some ad ∧ W.cell? (ad.add i) = some (.int .i64 zs[i]) ∧ (Lit.int .i64 zs[i]).wf = true from by
    obtain ⟨ad, h1, h2, h3, h4⟩ := hA i hi
    exact ⟨ad, h1, (h.cell (p := ad.add i) (by unfold Addr.add; split <;> exact h2)).trans h3, h4⟩)
  generalize newC 10 = D0 at *
  have hlz : (zs.length : Int) ≤ 9223372036854775807 := by unfold maxLen at hz; omega
  obtain ⟨n, hn⟩ : ∃ n, zs.length = n := ⟨_, rfl⟩
  rw [hn] at hlz ⊢
  have HN := Lib.hid hn
  clear hz hA hn
  go_enter Tryd.func3, Tryd.ntmps3
  go_wp2_with (first
    | (go_at_call 4; refine (HA.out _).mono ?_; rintro e v1 ⟨rfl, hb⟩; have HB1 := Lib.hid hb; clear hb)
    | (go_at_call 5; refine (HM.out v1).mono ?_; rintro e v2 ⟨a, rfl, hs⟩; have S0 := Lib.hid (HF0.out v1 a _ _ (hs.grow (K' := fun j => j = v2.heap.size) ((Below.refl _ _).alloc (Nat.le_refl _) (.cells #[.bool false, .bool false, .bool false, .bool false, .bool false] 28)) (fun j e => .inr ⟨by omega, by rw [e]; simp⟩))); have B0 := Lib.hid (show Blk (v2.alloc (.cells #[.bool false, .bool false, .bool false, .bool false, .bool false] 28)) v2.heap.size 28 (flA fun _ => false) from Blk.new v2 _ _); clear hs))
  obtain ⟨fb, hfb⟩ : ∃ fb, v2.heap.size = fb := ⟨_, rfl⟩
  rw [hfb] at S0 B0 ⊢
  clear hfb HF0 HM HA
  go_loopw [7] (fun i wr => ∃ k : Nat, k ≤ 5 ∧ i = .int .i64 k ∧ Hid (Tn v1 a (fun j => j = fb) k wr) ∧ Hid (Blk wr fb 28 (flA fun _ => false))) (fun i _ => 5 - (intOf i).toNat)
  case atStart => exact ⟨0, by omega, rfl, S0, B0⟩
  case round =>
    clear S0 B0
    obtain ⟨k, hk, rfl, S, B⟩ := hrel
    by_cases hlt : k < 5
    · have hi : (k : Int) < 5 := by omega
      go_wp2_with (first
        | (go_at_call 6; refine (get1 S.out hlt).mono ?_; rintro e v3 ⟨f, rfl, hs, hb⟩; have S1 := Lib.hid hs; have B1 := Lib.hid (B.out.but hb fun h => h rfl); clear hs hb)
        | (go_at_call 7; refine (drop1 S1.out).mono ?_; rintro e v4 ⟨rfl, hs, hb⟩; have S2 := Lib.hid hs; have B2 := Lib.hid (B1.out.but hb fun h => h rfl); clear hs hb))
      go_roundw
      case rel => exact ⟨k + 1, by omega, by go_num, S2, B2⟩
      case measure => simp [intOf]; omega
    · have hk5 : k = 5 := by omega
      have S5 := Lib.hid (show Tn v1 a (fun j => j = fb) 5 wr from by rw [← hk5]; exact S.out).all
      have hik : ¬ (k : Int) < 5 := by omega
      clear S hk5 hlt
      go_wp2
      go_loopw [10] (fun i wq => ∃ (j : Nat) (fl : Nat → Bool), j ≤ n ∧ j ≤ 10 ∧ i = .int .i64 j ∧ Hid (Un v1 a (fun j => j = fb) j fl wq) ∧ Hid (Blk wq fb 28 (flA fl))) (fun i _ => n - (intOf i).toNat)
      case atStart => exact ⟨0, fun _ => false, by omega, by omega, rfl, S5, B⟩
      case round =>
        clear S5 B
        obtain ⟨j, fl, hj, hj10, rfl, S, B⟩ := hrel
        have hexit : j < n ∧ j < 10 ∨ ((¬ j < n) ∨ (j < n ∧ ¬ j < 10)) := by omega
        rcases hexit with ⟨hlt, hlt2⟩ | hex
        · have HB2 := Lib.hid (HB1.out.trans (S.out.bel.mono HB1.out.size))
          obtain ⟨ad, rfl, c0, wz⟩ := HROW.out wr HB2.out j (by have := HN.out; omega)
          obtain ⟨_, _⟩ := bounds_i64 wz
          generalize zs[j]'(by have := HN.out; omega) = z at *
          obtain ⟨y, hy, hy1, hy2⟩ : ∃ y, Int.tmod z 5 = y ∧ -5 < y ∧ y < 5 := ⟨_, rfl, by rw [Int.tmod_eq_emod]; split <;> omega, by rw [Int.tmod_eq_emod]; split <;> omega⟩
          obtain ⟨m, hm, hm5⟩ : ∃ m : Nat, Int.tmod (y + 5) 5 = (m : Int) ∧ m < 5 := ⟨((y + 5) % 5).toNat, by rw [Int.tmod_eq_emod_of_nonneg (by omega)]; omega, by omega⟩
          have hi1 : (j : Int) < (n : Int) := by omega
          have hi2 : (j : Int) < 10 := by omega
          have hmi : (m : Int) < 5 := by omega
          clear wz HROW
          go_wp2_with (first
            | (go_at_call 6; refine (get2 S.out (by omega) hm5).mono ?_; rintro e v3 ⟨f, rfl, hs, hb⟩; have S1 := Lib.hid hs; have B1 := Lib.hid (B.out.but hb fun h => h rfl); clear hs hb)
            | (go_at_call 7; refine (drop2 S1.out).mono ?_; rintro e v4 ⟨rfl, hs, hb⟩; have S2 := Lib.hid hs; have B2 := Lib.hid (B1.out.but hb fun h => h rfl); have d0 := B2.out.at_ m _ (flA_at _ m hm5); have f0 := B2.out.frozen m; clear hs hb))
          have S3 := Lib.hid (S2.out.aside (W' := v4.setCell ⟨fb, m, none⟩ (.bool true)) (But.setCell (S := fun j => j = fb) (p := ⟨fb, m, none⟩) (But.refl _ _) (.inl rfl) _))
          have B3 := Lib.hid (show Blk (v4.setCell ⟨fb, m, none⟩ (.bool true)) fb 28 (flA fun j => if j = m then true else fl j) from by
            have h := B2.out.set_ m (.bool true)
            rw [flA_set _ m hm5] at h
            exact h)
          go_roundw
          case rel => exact ⟨j + 1, _, by omega, by omega, by go_num, S3, B3⟩
          case measure => simp [intOf]; omega
        · have hcond : (¬ (j : Int) < (n : Int)) ∨ ((j : Int) < (n : Int) ∧ ¬ (j : Int) < 10) := by omega
          clear hex HROW
          have HGB := Lib.hid (gg_bound fl)
          have HEV := Lib.hid (evict S.out)
          have HB2 := Lib.hid S.out.bel
          rcases hcond with h1 | ⟨h1, h2⟩
          all_goals
            go_wp2
            go_loopw [14, 15] (fun f i wr => ∃ d : Nat, d ≤ 5 ∧ f = .int .i64 (gg fl d) ∧ i = .int .i64 (4 - (d : Int)) ∧ Hid (Un v1 a (fun j => j = fb) j fl wr) ∧ Hid (Blk wr fb 28 (flA fl))) (fun _ i _ => (intOf i + 1).toNat)
            case atStart => exact ⟨0, by omega, rfl, rfl, S, B⟩
            case round =>
              clear S B HEV HB2
              obtain ⟨d, hd, rfl, rfl, S, B⟩ := hrel
              by_cases hlt : d < 5
              · have hi1 : (0 : Int) ≤ 4 - (d : Int) := by omega
                have hi2 : 4 - (d : Int) < 5 := by omega
                obtain ⟨m, hm⟩ : ∃ m : Nat, 4 - (d : Int) = (m : Int) := ⟨4 - d, by omega⟩
                have hmd : m = 4 - d := by omega
                have hm5 : m < 5 := by omega
                rw [hm] at hi1 hi2 ⊢
                have c0 := B.out.at_ m _ (flA_at _ m hm5)
                have hg : gg fl (d + 1) = if fl m then gg fl d else (m : Int) := by rw [hmd]; rfl
                have hnx : (m : Int) - 1 = 4 - ((d + 1 : Nat) : Int) := by omega
                have HG := Lib.hid hg
                have HNX := Lib.hid hnx
                clear hg hmd hnx hm
                cases hfm : fl m with
                | true =>
                  rw [hfm] at c0
                  go_wp2
                  go_roundw
                  case rel => exact ⟨d + 1, by omega, by rw [HG.out, hfm]; rfl, by rw [← HNX.out], S, B⟩
                  case measure => simp [intOf]
                | false =>
                  rw [hfm] at c0
                  go_wp2
                  go_roundw
                  case rel => exact ⟨d + 1, by omega, by rw [HG.out, hfm]; rfl, by rw [← HNX.out], S, B⟩
                  case measure => simp [intOf]
              · obtain rfl : d = 5 := by omega
                have hi1 : ¬ (0 : Int) ≤ 4 - ((5 : Nat) : Int) := by omega
                have HEV := Lib.hid (evict S.out)
                have HBL := Lib.hid S.out.bel
                obtain ⟨b1, b2⟩ := HGB.out 5
                have hfin : fin fl = if gg fl 5 < 0 then 0 else gg fl 5 := rfl
                have wfin : (Lit.int .i64 (fin fl)).wf = true := wf_c (by rw [hfin]; split <;> omega) (by rw [hfin]; split <;> omega)
                generalize fin fl = r at *
                generalize gg fl 5 = g5 at *
                clear S B
                by_cases hneg : g5 < 0
                · rw [if_pos hneg] at hfin
                  subst hfin
                  go_wp2_with (first
                    | (go_at_call 8; refine HEV.out.mono ?_; rintro e v6 ⟨rfl, hs⟩; have S2 := Lib.hid (hs.on ((Below.refl _ _).alloc (Nat.le_refl _) (.cells #[.int .i64 2, .int .i64 0] 33))); clear hs)
                    | (go_at_call 9; refine (has S2.out wfin).mono ?_; rintro e v7 ⟨rfl, hs, hb⟩; have S3 := Lib.hid hs; have KB := Lib.hid ((Blk.new v6 33 #[.int .i64 2, .int .i64 0]).below hb (Blk.new v6 _ _).lt); have q0 := KB.out.at_ 0 _ rfl; have q1 := KB.out.at_ 1 _ rfl; clear hs hb)
                    | (go_at_call 10; refine (len S3.out).mono ?_; rintro e v8 ⟨rfl, rfl⟩))
                  go_ret
                  exact ⟨rfl, HB1.out.trans (S3.out.bel.mono HB1.out.size)⟩
                · rw [if_neg hneg] at hfin
                  subst hfin
                  have h0 : (0 : Int) ≤ r := by omega
                  go_wp2_with (first
                    | (go_at_call 8; refine HEV.out.mono ?_; rintro e v6 ⟨rfl, hs⟩; have S2 := Lib.hid (hs.on ((Below.refl _ _).alloc (Nat.le_refl _) (.cells #[.int .i64 2, .int .i64 r] 33))); clear hs)
                    | (go_at_call 9; refine (has S2.out wfin).mono ?_; rintro e v7 ⟨rfl, hs, hb⟩; have S3 := Lib.hid hs; have KB := Lib.hid ((Blk.new v6 33 #[.int .i64 2, .int .i64 r]).below hb (Blk.new v6 _ _).lt); have q0 := KB.out.at_ 0 _ rfl; have q1 := KB.out.at_ 1 _ rfl; clear hs hb)
                    | (go_at_call 10; refine (len S3.out).mono ?_; rintro e v8 ⟨rfl, rfl⟩))
                  go_ret
                  exact ⟨rfl, HB1.out.trans (S3.out.bel.mono HB1.out.size)⟩

set_option maxRecDepth 100000 in
theorem lifted (os : Os) (started : os.Started) (H : Type) (enc : TypeId × Value → H) :
    ReturnsInHanded {} Tryd.checked os 3 .any (fun w args => (Rows.cacheTurnsSpec.pre enc Tryd.prog Tryd.f3 Rows.cacheTurnsRow.domain false w args ∧ laidMetH Tryd.prog Rows.cacheTurnsRow.laid w) ∧ sizedMet enc Tryd.prog Tryd.f3 (OpenSpec.ofChange Rows.cacheTurnsSpec) false w args) (Rows.cacheTurnsSpec.post enc Tryd.prog Tryd.f3 false true false false) := by
  refine returnsInHanded_of_change_and (C := Tryd.checked) (X := fun w _ => laidMetH Tryd.prog Rows.cacheTurnsRow.laid w) (fun _ _ _ hh h => h.of_heap hh) own started (by kernel_rfl) Tryd.func3
    (ChangeSpec.witness_shaped (enc := enc) (C := Tryd.checked) (os := os) (X := fun w _ => laidMetH Tryd.prog Rows.cacheTurnsRow.laid w) false (World.laidAll Tryd.prog os Rows.cacheTurnsRow.laid) #[.slice none 0 0] 8 (World.laidAll_os _ _ _) (World.shaped_of_ZipB (by kernel_rfl) (by kernel_rfl)) (by kernel_rfl) (by kernel_rfl) (by kernel_rfl) (by rw [MakeChecks.laidMetH_plain _ _ _ (by kernel_rfl)]; exact laidMet_laidAll _ (by kernel_rfl) (by kernel_rfl))) ?_
  intro W base args ds gs before hval0 hW hcnd _ hL _
  have hval : ∀ (j : Nat) t v, Tryd.f3.params[j]? = some t → args[j]? = some v → Value.okWide Tryd.prog W .any base t v := hval0
  have hW' := hW
  obtain ⟨p, q, hA0, hV, rfl, hfz, hnd⟩ := hW
  have hA : DataW.TrodAll enc Tryd.prog W 0 (fun _ => true) true Tryd.f3.params.toList args.toList ds p := hA0
  rw [Tryd.params3] at hA hval
  obtain ⟨v0, vs0, d0, ds0, p0, q0, hargs, rfl, rfl, h0, r0⟩ := trodAll_cons hA
  obtain ⟨rfl, rfl, rfl⟩ := trodAll_nil r0
  obtain rfl : args = #[v0] := by cases args; simp_all
  obtain ⟨rfl, rfl⟩ := trodVars_none hV
  have k0 := h0
  have lt0 : ∀ x ∈ p0, x.block < W.heap.size := by obtain ⟨m, hm⟩ := k0; exact DataW.trod_lt m _ _ _ hm
  obtain ⟨LA0, Ll0, Lc0, rfl, Lm0, Lr0⟩ := openInts4 (hval 0 22 v0 rfl rfl) h0
  clear hA0 hval0
  refine (walk LA0 Ll0 Lc0 W Lm0 Lr0).mono fun e W' ⟨he, bel⟩ => ?_
  subst he
  exact ⟨_, rfl, _, _, _, [], _, [], hW', trodAll_mk1 (shut_bool Tryd.underlying4 _), (trodAll_cons_mk (Below.trod laidOut (by kernel_rfl) (of_decide_eq_true (by kernel_rfl)) k0 bel lt0) trodAll_mk0), rfl, bel.frame _, fun h => by cases h⟩
theorem over : Rows.cacheTurnsRow.holds Tryd.pinned (OpenSpec.ofChange Rows.cacheTurnsSpec) :=
  OpenClaim.holds_of_wide 3 Tryd.f3 rfl rfl rfl rfl rfl rfl rfl ⟨rfl, rfl, rfl, rfl, rfl⟩ rfl rfl rfl rfl rfl (by kernel_rfl) Tryd.func3 (by kernel_rfl)
    (of_decide_eq_true (by kernel_rfl)) (by unfold Func.isWrapper; first | (rw [if_pos (by decide +kernel)]; kernel_rfl) | (rw [if_neg (by decide +kernel)]; exact ⟨rfl, rfl⟩))
    (fun os started H enc _ => lifted os started H enc)
set_option maxRecDepth 100000 in
/-- The statement. -/
theorem proved : Rows.CacheTurnsCardSaid :=
  Claim7.holds_tied_plain_at .later [] [.data, .pinned] true _ false over (fun _ h => by cases h) (by kernel_rfl) (fun _ h => by cases h) cacheTurns_row_tie rfl ⟨rfl, rfl⟩ (by kernel_rfl) rfl
    (fun f fn hf hfn => by
      obtain rfl : f = 3 := Option.some.inj (hf.symm.trans (by kernel_rfl))
      obtain rfl : fn = Tryd.f3 := Option.some.inj (hfn.symm.trans Tryd.func3)
      refine ⟨by kernel_rfl, fun j t ht => ?_⟩
      rw [Tryd.params3] at ht
      match j, ht with
      | 0, ht =>
        obtain rfl : t = 22 := by simpa using ht.symm
        exact (by kernel_rfl : Tryd.pinned.checked.prog.wantsStandIn 22 = false)
      | j + 1, ht => simp at ht)
    (by kernel_rfl)
end Go.Proofs.YtmbjflcmbenbdaeDoor.lawTrn14
