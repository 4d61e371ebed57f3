/- What is gone over of the tables; what rounds keep. -/
import Derived.Test.YtbidlabhekiijaaDoorRP
import Derived.RangeFuncNested
import Derived.RangeFuncBound
import Derived.RangeFuncCalls
import Derived.RangeFuncLeaves
import Derived.Shelf.Abstract
import Derived.Shelf.RegionOpen
import Derived.OwnWalkIn
import Derived.TacticsInMore
import Derived.LoopNIn
import Derived.LoopIn
namespace Go.Proofs.YtbidlabhekiijaaDoor
open Go.RowKit Go.Shelf
set_option linter.unusedVariables false
set_option linter.unusedSimpArgs false

/-- Cells of these blocks are as they were. -/
def KpP (P : Nat → TypeId → Prop) (W W' : World) : Prop := W.heap.size ≤ W'.heap.size ∧ ∀ k cs t, P k t → Blk W k t cs → Blk W' k t cs
section
variable {P : Nat → TypeId → Prop}
theorem KpP.refl (W : World) : KpP P W W := ⟨Nat.le_refl _, fun _ _ _ _ h => h⟩
theorem KpP.trans {A B C : World} (h : KpP P A B) (k : KpP P B C) : KpP P A C := ⟨Nat.le_trans h.1 k.1, fun i cs t hp hi => k.2 i cs t hp (h.2 i cs t hp hi)⟩
theorem KpP.of_below {W W' : World} (h : Below W.heap.size W W') : KpP P W W' := ⟨h.size, fun _ _ _ _ hb => hb.below h hb.lt⟩
theorem KpP.alloc (W : World) (o : Obj) : KpP P W (W.alloc o) := KpP.of_below ((Below.refl _ _).alloc (Nat.le_refl _) o)
theorem kpP_b {w : World} (W : World) (l : Nat) (o o' : Obj) (_ : w.heap.size ≤ l) (h : W.heap[l]? = some o) (ho : o.isCells = false) (_ : o.isWalk = false) : KpP P W (W.putObj l o') := by
  refine ⟨by simp, fun k cs t _ hb => ?_⟩
  refine (World.putObj_heap_other ?_).trans hb
  intro e
  subst e
  unfold Blk at hb
  rw [hb] at h
  cases h
  cases ho
theorem KpP.pl {W W' : World} {p h g : Nat} {X : Pol} (k : KpP P W W') (hp : P p 71) (hh : P h 3) (hg : P g 5) (a : Pl W p h g X) : Pl W' p h g X :=
  ⟨k.2 _ _ _ hp a.head, k.2 _ _ _ hh a.row, k.2 _ _ _ hg a.byt, a.ph, a.pg, a.hg, a.all, a.lenS, a.len⟩
end

open Classical in
/-- The entries that are gone over, from a table of so many levels more: level and prefix. -/
noncomputable def trav (M : Nat → Sl) (low : Int) : Nat → Nat → Nat → List (Nat × Nat)
  | 0, _, _ => []
  | m + 1, i, q => (List.range 8).flatMap fun d => if live M (i + 1) (8 * q + d) ∧ low < (((8 * q + d + 1) * 8 ^ (3 - i) : Nat) : Int) then (i + 1, 8 * q + d) :: trav M low m (i + 1) (8 * q + d) else []
open Classical in
noncomputable def visit (M : Nat → Sl) (low : Int) (m i q d : Nat) : List (Nat × Nat) := if live M (i + 1) (8 * q + d) ∧ low < (((8 * q + d + 1) * 8 ^ (3 - i) : Nat) : Int) then (i + 1, 8 * q + d) :: trav M low m (i + 1) (8 * q + d) else []
noncomputable def visits (M : Nat → Sl) (low : Int) (m i q k : Nat) : List (Nat × Nat) := (List.range k).flatMap (visit M low m i q)
theorem trav_succ (M : Nat → Sl) (low : Int) (m i q : Nat) : trav M low (m + 1) i q = visits M low m i q 8 := rfl
theorem visits_zero (M : Nat → Sl) (low : Int) (m i q : Nat) : visits M low m i q 0 = [] := rfl
theorem visits_succ (M : Nat → Sl) (low : Int) (m i q k : Nat) : visits M low m i q (k + 1) = visits M low m i q k ++ visit M low m i q k := by
  unfold visits
  rw [List.range_succ, List.flatMap_append]
  simp
theorem visit_no {M : Nat → Sl} {low : Int} {m i q d : Nat} (h : ¬ (live M (i + 1) (8 * q + d) ∧ low < (((8 * q + d + 1) * 8 ^ (3 - i) : Nat) : Int))) : visit M low m i q d = [] := if_neg h
theorem visit_yes {M : Nat → Sl} {low : Int} {m i q d : Nat} (h : live M (i + 1) (8 * q + d) ∧ low < (((8 * q + d + 1) * 8 ^ (3 - i) : Nat) : Int)) : visit M low m i q d = (i + 1, 8 * q + d) :: trav M low m (i + 1) (8 * q + d) := if_pos h
theorem visits_pre (M : Nat → Sl) (low : Int) (m i q : Nat) : ∀ {k n : Nat}, k ≤ n → visits M low m i q k <+: visits M low m i q n
  | k, n, h => by
    induction n with
    | zero =>
      obtain rfl : k = 0 := by omega
      exact List.prefix_refl _
    | succ n ih =>
      rcases Nat.lt_or_ge k (n + 1) with h1 | h1
      · rw [visits_succ]; exact (ih (by omega)).trans (List.prefix_append _ _)
      · obtain rfl : k = n + 1 := by omega
        exact List.prefix_refl _
theorem visits_part {M : Nat → Sl} {low : Int} {m i q k : Nat} {ys : List (Nat × Nat)} (hk : k < 8) (h : ys <+: visit M low m i q k) : visits M low m i q k ++ ys <+: trav M low (m + 1) i q := by
  rw [trav_succ]
  refine List.IsPrefix.trans ?_ (visits_pre M low m i q (show k + 1 ≤ 8 by omega))
  rw [visits_succ]
  exact (List.prefix_append_right_inj _).2 h

/-- What is told of an entry: from which page on, how many pages, the entry. -/
noncomputable def strV (M : Nat → Sl) (F : Nat → Nat → Nat) (x : Nat × Nat) : Value :=
  .agg #[.int .i64 ((x.2 * 8 ^ (4 - x.1) : Nat) : Int), .int .i64 ((8 ^ (4 - x.1) : Nat) : Int), .bool (ent M F x.1 x.2).h, .bool (ent M F x.1 x.2).w, .bool (ent M F x.1 x.2).c, .bool (ent M F x.1 x.2).o, .int .i64 (ent M F x.1 x.2).n]
end Go.Proofs.YtbidlabhekiijaaDoor

/- Package radix: through, stretches. -/
namespace Go.Proofs.YtbidlabhekiijaaDoor
open Go.RowKit Go.Shelf
set_option linter.unusedVariables false
set_option linter.unusedSimpArgs false
attribute [local go_sem] Oper.semAt_some

@[go_sem] theorem build_str (a b : Int) (h w c o : Bool) (n : Int) (W : World) : (Instr.build 105 #[(0, .int .i64 a), (1, .int .i64 b), (2, .agg #[.bool h, .bool w, .bool c, .bool o, .int .i64 n])]).run Tryd.prog W = .ok (.agg #[.int .i64 a, .int .i64 b, .bool h, .bool w, .bool c, .bool o, .int .i64 n]) W := run_build W 105 _ _ (by kernel_rfl)

theorem none_fn {F : Fence} : ∀ f : FuncId, (none : Option FuncId) = some f → F.fn f := fun f h => by cases h

/-- What through reads: its boxes, the table, the pool. -/
structure Thr (W : World) (t p h g bt bl by_ bh l : Nat) (low : Int) (X : Pol) (root : Nat) : Prop where
  box : Blk W bt 33 #[.pointer (some ⟨t, 0, none⟩)]
  low : Blk W bl 3 #[.int .i64 low]
  yld : Blk W by_ 114 #[.func (.yield l) #[] #[]]
  thr : Blk W bh 115 #[.func (.func 66) #[] #[.pointer (some ⟨bt, 0, none⟩), .pointer (some ⟨bl, 0, none⟩), .pointer (some ⟨by_, 0, none⟩), .pointer (some ⟨bh, 0, none⟩)]]
  head : Blk W t 63 #[.pointer (some ⟨p, 0, none⟩), .int .i64 (root : Nat)]
  pl : Pl W p h g X
/-- Which blocks rounds must keep for it. -/
structure Kps (P : Nat → TypeId → Prop) (t p h g bt bl : Nat) : Prop where
  bt : P bt 33
  bl : P bl 3
  t : P t 63
  p : P p 71
  h : P h 3
  g : P g 5
  x : ∀ k, P k 105
  y : ∀ k, P k 114
  z : ∀ k, P k 115
section
variable {P : Nat → TypeId → Prop} {W W' : World} {t p h g bt bl by_ bh l : Nat} {low : Int} {X : Pol} {root : Nat}
theorem Thr.kp (a : Thr W t p h g bt bl by_ bh l low X root) (s : Kps P t p h g bt bl) (k : KpP P W W') : Thr W' t p h g bt bl by_ bh l low X root :=
  ⟨k.2 _ _ _ s.bt a.box, k.2 _ _ _ s.bl a.low, k.2 _ _ _ (s.y _) a.yld, k.2 _ _ _ (s.z _) a.thr, k.2 _ _ _ s.t a.head, k.pl s.p s.h s.g a.pl⟩
theorem Thr.on (a : Thr W t p h g bt bl by_ bh l low X root) (hb : Below W.heap.size W W') : Thr W' t p h g bt bl by_ bh l low X root :=
  ⟨a.box.below hb a.box.lt, a.low.below hb a.low.lt, a.yld.below hb a.yld.lt, a.thr.below hb a.thr.lt, a.head.below hb a.head.lt, a.pl.on hb⟩
end

/-- How a table's entry d stands in its page. -/
theorem get_word {s : ByteArray} (hs : s.size = 64) {d : Nat} (hd : d < 8) (W : World) :
    Calls Tryd.prog 67 #[.string s, .int .i64 ((8 * d : Nat) : Int), .int .i64 8] W fun e w' => e = .returned (.tuple #[.int .u64 (wd s d), .bool true]) ∧ W = w' := by
  have h := get_any s ((8 * d : Nat) : Int) 8 W (wf_i64 (by omega) (by omega)) (by decide) (by omega)
  have hh : hol s.size ((8 * d : Nat) : Int) 8 = true := by rw [hol_iff, hs]; omega
  rw [hh] at h
  exact h

theorem pow_le {k : Nat} (hk : k ≤ 4) : 8 ^ k ≤ 4096 := by
  have := Nat.pow_le_pow_right (n := 8) (by omega) hk
  simpa using this

/-- How through ends: all has come, or a round said no more. -/
def ThrPost (P : Nat → TypeId → Prop) (J Jx : List (Nat × Nat) → World → Prop) (pre xs : List (Nat × Nat)) (W : World) (e : Ending) (W' : World) : Prop :=
  (e = .returned (.bool true) ∧ J (pre ++ xs) W' ∧ KpP P W W') ∨ (e = .returned (.bool false) ∧ ∃ ys, ys <+: xs ∧ Jx (pre ++ ys) W')

set_option maxRecDepth 100000 in
set_option maxHeartbeats 4000000 in
theorem through_in (P : Nat → TypeId → Prop) (t p h g bt bl by_ bh l : Nat) (low : Int) (hlow : -9223372036854775808 ≤ low ∧ low < 9223372036854775808) (X : Pol) (root : Nat) (M : Nat → Sl) (F : Nat → Nat → Nat) (T : Tbl X root M F) (hE : ∀ i q, i ≤ 4 → (ent M F i q).Ok) (ft : Fit X) (hs : Kps P t p h g bt bl) (N : Nat) (J Jx : List (Nat × Nat) → World → Prop)
    (hJ : ∀ s A B, J s A → A.grownBy B none → J s B)
    (hY : ∀ m pre x W, J pre W → pre.length < N → YieldAt Fence.wide m Tryd.prog l #[strV M F x] W fun e W' => (e = .returned (.bool true) ∧ J (pre ++ [x]) W' ∧ KpP P W W') ∨ (e = .returned (.bool false) ∧ Jx (pre ++ [x]) W')) :
    ∀ (m i q : Nat), i + m = 3 → tabl M i q → q < 8 ^ i → ∀ (n : Nat) (pre : List (Nat × Nat)) (W : World), J pre W → Thr W t p h g bt bl by_ bh l low X root → pre.length + (trav M low (m + 1) i q).length ≤ N →
      CallsIn Fence.wide n Tryd.prog 66 #[.int .i64 (F i q : Nat), .int .i64 ((q * 8 ^ (4 - i) : Nat) : Int), .int .i64 ((8 ^ (3 - i) : Nat) : Int), .pointer (some ⟨bt, 0, none⟩), .pointer (some ⟨bl, 0, none⟩), .pointer (some ⟨by_, 0, none⟩), .pointer (some ⟨bh, 0, none⟩)] W (ThrPost P J Jx pre (trav M low (m + 1) i q) W) := by
  intro m
  induction m with
  | zero =>
    intro i q him hq hq8 n pre W hJ0 hM hN
    obtain rfl : i = 3 := by omega
    obtain ⟨hf, h1⟩ := T.frame 3 q (by omega) hq
    have hby := fun (V : World) (hV : Thr V t p h g bt bl by_ bh l low X root) => pgbytes_any hV.pl ((F 3 q : Nat) : Int)
    have hh1 : X.H.getD (F 3 q) 0 = 1 := by simpa [List.getD, hf] using h1
    rw [byS_held hf hh1, askE_getD hf (by rw [hh1]; decide)] at hby
    have hsz := ft.size hf
    have hw := fun d hd => T.word 3 q d (by omega) hq hd
    have hgt := fun d (hd : d < 8) V => get_word hsz hd V
    generalize X.S.getD (F 3 q) ⟨#[]⟩ = sp at *
    have hq3 : q < 512 := hq8
    have hstv : ∀ r, strV M F (4, r) = .agg #[.int .i64 (r : Nat), .int .i64 1, .bool (ent M F 4 r).h, .bool (ent M F 4 r).w, .bool (ent M F 4 r).c, .bool (ent M F 4 r).o, .int .i64 (ent M F 4 r).n] := fun r => by
      unfold strV
      simp
    have hvyy := fun d => visit_yes (M := M) (low := low) (m := 0) (i := 3) (q := q) (d := d)
    have hvnn := fun d => visit_no (M := M) (low := low) (m := 0) (i := 3) (q := q) (d := d)
    simp only [Nat.sub_self, Nat.pow_zero, Nat.mul_one, show trav M low 0 = fun _ _ => [] from rfl] at hvyy hvnn
    simp only [show (4 : Nat) - 3 = 1 from rfl, Nat.sub_self, Nat.pow_zero, Nat.pow_one, show ((1 : Nat) : Int) = 1 from rfl]
    obtain ⟨Q, hQd⟩ : ∃ Q, q * 8 = Q := ⟨_, rfl⟩
    rw [hQd]
    have HGS := Lib.hid (And.intro hq3 (And.intro hQd (And.intro hstv (And.intro hvyy hvnn))))
    clear hq3 hQd hstv hvyy hvnn
    have HBY := Lib.hid hby
    have HGT := Lib.hid hgt
    have HW := Lib.hid hw
    have HM := Lib.hid hM
    have c0 := hM.box.at_ 0 _ rfl
    have c1 := hM.head.at_ 0 _ rfl
    clear hby hgt hw
    have hdd : ∀ k : Nat, (Fence.wide.depth.isSome = true → 1 ≤ k) := fun k h => by cases h
    refine callsIn_of_wp Tryd.func66 rfl trivial ?_ rfl
    simp only [Tryd.ntmps66, List.size_toArray, List.length_cons, List.length_nil, Nat.reduceAdd, Nat.reduceSub, Array.replicate_succ, Array.replicate_zero, List.push_toArray, List.append_toArray, List.nil_append, List.cons_append]
    have hjv := fun (V : World) (hb : Below W.heap.size W V) => hJ _ _ _ hJ0 (grown_none hb)
    have HJV := Lib.hid (And.intro hJ hjv)
    have HN := Lib.hid hN
    have HYY := Lib.hid hY
    have HEE := Lib.hid hE
    clear hJ hjv hN hY hJ0 hE hM
    gi_wp2_with (refine ⟨trivial, hdd _, ?_⟩; gi_at_call 54; refine (callsIn_wide.2 (HBY.out _ HM.out)).mono ?_; rintro e v1 ⟨rfl, hb1⟩; have HB1 := Lib.hid hb1; clear hb1)
    have hst : J (pre ++ visits M low 0 3 q 0) v1 := by rw [visits_zero, List.append_nil]; exact HJV.out.2 _ HB1.out
    have HST := Lib.hid hst
    clear hst
    gi_loopw [26] (fun ii wr => ∃ d : Nat, d ≤ 8 ∧ ii = .int .i64 d ∧ J (pre ++ visits M low 0 3 q d) wr ∧ KpP P W wr) (fun ii _ => 8 - (intOf ii).toNat)
    case atStart => exact ⟨0, by omega, rfl, HST.out, KpP.of_below HB1.out⟩
    case round =>
      obtain ⟨d, hd8, rfl, hJs, hK⟩ := hrel
      by_cases hlt : d < 8
      · have hMr := HM.out.kp hs hK
        have hwd := HW.out d hlt
        obtain ⟨hq3, hQd, hstv, hvyy, hvnn⟩ := HGS.out
        have hstr := hstv (8 * q + d)
        have hvs := visits_succ M low 0 3 q d
        have hvy := hvyy d
        have hvn := hvnn d
        have hvp := fun ys => visits_part (M := M) (low := low) (m := 0) (i := 3) (q := q) (k := d) (ys := ys) hlt
        have hok := HEE.out 4 (8 * q + d) (by omega)
        have hun : ∀ V, Calls Tryd.prog 14 #[.int .u64 (wd sp d)] V fun e V' => e = .returned (ent M F 4 (8 * q + d)).v ∧ Below V.heap.size V V' := fun V => (unpack_any (wd sp d) V (wf_u64 wd_range.1 wd_range.2)).mono fun e V' ⟨he, hb⟩ => ⟨by rw [he, hwd, hok.unp], hb⟩
        have hem : ∀ V, Calls Tryd.prog 53 #[(ent M F 4 (8 * q + d)).v] V fun e V' => e = .returned (.bool (ent M F 4 (8 * q + d)).isZ) ∧ Below V.heap.size V V' := fun V => (empty_any _ V).mono fun e V' ⟨he, hw⟩ => ⟨he, by rw [hw]; exact (Below.refl _ _).alloc (Nat.le_refl _) _⟩
        have hg8 := HGT.out d hlt
        rw [show ((8 * d : Nat) : Int) = (d : Int) * 8 by omega] at hg8
        have hz := ent_zero (M := M) (F := F) (i := 4) (q := 8 * q + d) (by omega)
        generalize hr8 : 8 * q + d = r8 at *
        have e1 : IntKind.i64.wrap ((d : Int) * 1) = (d : Int) := by rw [Int.mul_one]; exact IntWalk.i64_in _ (by omega)
        have e2 : IntKind.i64.wrap ((Q : Int) + (d : Int)) = (r8 : Int) := by rw [show (Q : Int) + (d : Int) = (r8 : Int) by omega]; exact IntWalk.i64_in _ (by omega)
        have e3 : IntKind.i64.wrap ((r8 : Int) + 1) = ((r8 + 1 : Nat) : Int) := by rw [show (r8 : Int) + 1 = ((r8 + 1 : Nat) : Int) by omega]; exact IntWalk.i64_in _ (by omega)
        have HX := Lib.hid (And.intro hJs (And.intro hK hMr))
        have HX0 : Hid ((∀ V, Below wr.heap.size wr V → J (pre ++ visits M low 0 3 q d) V) ∧ True) := Lib.hid ⟨fun V hb => HJV.out.1 _ _ _ hJs (grown_none hb), trivial⟩
        have HV := Lib.hid (And.intro hvs (And.intro hvy (And.intro hvn (And.intro hvp hstr))))
        have HG8 := Lib.hid hg8
        clear hvs hvy hvn hvp hstr hg8 hJs hK hMr hwd hok hlow hq3 hQd hstv hvyy hvnn
        by_cases hlv : live M 4 r8
        · have hnz : (ent M F 4 r8).isZ = false := by
            cases hb : (ent M F 4 r8).isZ with
            | false => rfl
            | true => exact absurd hlv (hz.1 (Sl.isZ_iff.1 hb))
          rw [hnz] at hem
          have hst2 := HV.out.2.2.2.2
          obtain ⟨zh, zw, zc, zo, zn, hzv⟩ : ∃ zh zw zc zo zn, ent M F 4 r8 = ⟨zh, zw, zc, zo, zn⟩ := ⟨_, _, _, _, _, rfl⟩
          rw [hzv] at hun hem hst2
          unfold Sl.v at hun hem
          simp only at hun hem hst2
          have HUN := Lib.hid hun
          have HEM := Lib.hid hem
          have HST2 : Hid (strV M F (4, r8) = .agg #[.int .i64 (r8 : Nat), .int .i64 1, .bool zh, .bool zw, .bool zc, .bool zo, .int .i64 zn]) := Lib.hid hst2
          clear hun hem hz hzv hst2 hnz
          by_cases hll : low < ((r8 + 1 : Nat) : Int)
          · have hle : decide (((r8 + 1 : Nat) : Int) ≤ low) = false := by simpa using hll
            have HVY := Lib.hid (HV.out.2.1 ⟨hlv, hll⟩)
            have HLEN : Hid ((pre ++ visits M low 0 3 q d).length + 1 ≤ N) := Lib.hid (by
              have h1 := (HV.out.2.2.2.1 (visit M low 0 3 q d) (List.prefix_refl _)).length_le
              rw [HVY.out] at h1
              have h2 := HN.out
              simp only [List.length_append, List.length_cons, List.length_nil] at h1 ⊢
              omega)
            generalize ((r8 + 1 : Nat) : Int) = SS at *
            clear hll
            gi_wp2_with (first
            | (refine ⟨trivial, hdd _, ?_⟩; gi_at_call 67; refine (callsIn_wide.2 (HG8.out _)).mono ?_; rintro e v2 ⟨rfl, rfl⟩)
            | (refine ⟨trivial, hdd _, ?_⟩; gi_at_call 14; refine (callsIn_wide.2 (HUN.out _)).mono ?_; rintro e v2 ⟨rfl, hb2⟩
               have HB2 := Lib.hid (hb2.alloc hb2.size (.cells #[.int .i64 (r8 : Nat), .int .i64 1, .bool zh, .bool zw, .bool zc, .bool zo, .int .i64 zn] 105))
               have HBX := Lib.hid (And.intro (Blk.new v2 105 #[.int .i64 (r8 : Nat), .int .i64 1, .bool zh, .bool zw, .bool zc, .bool zo, .int .i64 zn]) (show ∃ z, z = v2.heap.size from ⟨_, rfl⟩))
               clear hb2)
            | (refine ⟨trivial, hdd _, ?_⟩; gi_at_call 53; refine (callsIn_wide.2 (HEM.out _)).mono ?_; rintro e v3 ⟨rfl, hb3⟩
               have HB3 := Lib.hid (HB2.out.trans (hb3.mono HB2.out.size))
               have HBX3 := Lib.hid (HBX.out.1.below hb3 HBX.out.1.lt)
               have hT3 := HX.out.2.2.on HB3.out
               have x0 := HBX3.out.at_ 0 _ rfl
               have x1 := HBX3.out.at_ 1 _ rfl
               have x2 := HBX3.out.at_ 2 _ rfl
               have x3 := HBX3.out.at_ 3 _ rfl
               have x4 := HBX3.out.at_ 4 _ rfl
               have x5 := HBX3.out.at_ 5 _ rfl
               have x6 := HBX3.out.at_ 6 _ rfl
               have l0 := hT3.low.at_ 0 _ rfl
               have y0 := hT3.yld.at_ 0 _ rfl
               have HT3 := Lib.hid hT3
               have hyy := HYY.out (n - 1) (pre ++ visits M low 0 3 q d) (4, r8) v3 (HX0.out.1 _ HB3.out) (by have := HLEN.out; omega)
               rw [HST2.out] at hyy
               obtain ⟨fn, tmps, assign, body, hy, hR⟩ := hyy
               have HR := Lib.hid hR
               clear hb3 hT3 hR))
            refine ⟨hdd _, HR.out.mono ?_⟩
            rintro e W3 (⟨rfl, hJ3, hk3⟩ | ⟨rfl, hJx3⟩)
            · have HJ3 := Lib.hid hJ3
              have HK4 := Lib.hid ((HX.out.2.1.trans (KpP.of_below HB3.out)).trans hk3)
              clear hJ3 hk3 x0 x1 x2 x3 x4 x5 x6 l0 y0 HR hy
              gi_wp2_with (with_reducible refine And.intro none_fn ?_)
              go_roundw
              case rel => exact ⟨d + 1, by omega, by go_num, by rw [HV.out.1, HVY.out]; simpa [List.append_assoc] using HJ3.out, HK4.out⟩
              case measure => simp [intOf]; omega
            · clear x0 x1 x2 x3 x4 x5 x6 l0 y0 HR hy
              gi_wp2
              go_ret
              exact .inr ⟨rfl, visits M low 0 3 q d ++ [(4, r8)], HV.out.2.2.2.1 _ (by rw [HVY.out]; exact List.prefix_refl _), by simpa [List.append_assoc] using hJx3⟩
          · have hle : decide (((r8 + 1 : Nat) : Int) ≤ low) = true := by simpa using hll
            have HVN := Lib.hid (HV.out.2.2.1 (fun h => hll h.2))
            generalize ((r8 + 1 : Nat) : Int) = SS at *
            gi_wp2_with (first
            | (refine ⟨trivial, hdd _, ?_⟩; gi_at_call 67; refine (callsIn_wide.2 (HG8.out _)).mono ?_; rintro e v2 ⟨rfl, rfl⟩)
            | (refine ⟨trivial, hdd _, ?_⟩; gi_at_call 14; refine (callsIn_wide.2 (HUN.out _)).mono ?_; rintro e v2 ⟨rfl, hb2⟩
               have HB2 := Lib.hid (hb2.alloc hb2.size (.cells #[.int .i64 (r8 : Nat), .int .i64 1, .bool zh, .bool zw, .bool zc, .bool zo, .int .i64 zn] 105))
               have HBX := Lib.hid (And.intro (Blk.new v2 105 #[.int .i64 (r8 : Nat), .int .i64 1, .bool zh, .bool zw, .bool zc, .bool zo, .int .i64 zn]) (show ∃ z, z = v2.heap.size from ⟨_, rfl⟩))
               clear hb2)
            | (refine ⟨trivial, hdd _, ?_⟩; gi_at_call 53; refine (callsIn_wide.2 (HEM.out _)).mono ?_; rintro e v3 ⟨rfl, hb3⟩
               have HB3 := Lib.hid (HB2.out.trans (hb3.mono HB2.out.size))
               have bx := HBX.out.1.below hb3 HBX.out.1.lt
               have hT3 := HX.out.2.2.on HB3.out
               have x0 := bx.at_ 0 _ rfl
               have l0 := hT3.low.at_ 0 _ rfl
               clear hb3 bx hT3))
            go_roundw
            case rel => exact ⟨d + 1, by omega, by go_num, by rw [HV.out.1, HVN.out, List.append_nil]; exact HX0.out.1 _ HB3.out, HX.out.2.1.trans (KpP.of_below HB3.out)⟩
            case measure => simp [intOf]; omega
        · have hzv := hz.2 hlv
          rw [hzv] at hun hem
          unfold Sl.v Sl.zero at hun hem
          simp only at hun hem
          have HUN := Lib.hid hun
          have HEM : Hid (∀ V, Calls Tryd.prog 53 #[.agg #[.bool false, .bool false, .bool false, .bool false, .int .i64 0]] V fun e V' => e = .returned (.bool true) ∧ Below V.heap.size V V') := Lib.hid hem
          have HVN := Lib.hid (HV.out.2.2.1 (fun h => hlv h.1))
          clear hun hem hz hzv
          gi_wp2_with (first
            | (refine ⟨trivial, hdd _, ?_⟩; gi_at_call 67; refine (callsIn_wide.2 (HG8.out _)).mono ?_; rintro e v2 ⟨rfl, rfl⟩)
            | (refine ⟨trivial, hdd _, ?_⟩; gi_at_call 14; refine (callsIn_wide.2 (HUN.out _)).mono ?_; rintro e v2 ⟨rfl, hb2⟩; have HB2 := Lib.hid (hb2.alloc hb2.size (.cells #[.int .i64 (r8 : Nat), .int .i64 1, .bool false, .bool false, .bool false, .bool false, .int .i64 0] 105)); clear hb2)
            | (refine ⟨trivial, hdd _, ?_⟩; gi_at_call 53; refine (callsIn_wide.2 (HEM.out _)).mono ?_; rintro e v3 ⟨rfl, hb3⟩; have HB3 := Lib.hid (HB2.out.trans (hb3.mono HB2.out.size)); clear hb3))
          go_roundw
          case rel => exact ⟨d + 1, by omega, by go_num, by rw [HV.out.1, HVN.out, List.append_nil]; exact HX0.out.1 _ HB3.out, HX.out.2.1.trans (KpP.of_below HB3.out)⟩
          case measure => simp [intOf]; omega
      · obtain rfl : d = 8 := by omega
        simp only [show ((8 : Nat) : Int) = 8 from rfl]
        have HEND : Hid (ThrPost P J Jx pre (visits M low 0 3 q 8) W (.returned (.bool true)) wr) := Lib.hid (.inl ⟨rfl, hJs, hK⟩)
        clear hJs hK
        gi_wp2
        go_ret
        exact HEND.out
  | succ m ih =>
    intro i q him hq hq8 n pre W hJ0 hM hN
    obtain ⟨hf, h1⟩ := T.frame i q (by omega) hq
    have hby := fun (V : World) (hV : Thr V t p h g bt bl by_ bh l low X root) => pgbytes_any hV.pl ((F i q : Nat) : Int)
    have hh1 : X.H.getD (F i q) 0 = 1 := by simpa [List.getD, hf] using h1
    rw [byS_held hf hh1, askE_getD hf (by rw [hh1]; decide)] at hby
    have hsz := ft.size hf
    have hw := fun d hd => T.word i q d (by omega) hq hd
    have hgt := fun d (hd : d < 8) V => get_word hsz hd V
    generalize X.S.getD (F i q) ⟨#[]⟩ = sp at *
    have hpg2 : 8 ^ (4 - i) = 8 * 8 ^ (3 - i) := by rw [show 4 - i = (3 - i) + 1 by omega, Nat.pow_succ, Nat.mul_comm]
    have hpg3 : 8 ^ (3 - i) = 8 * 8 ^ (3 - (i + 1)) := by rw [show 3 - i = (3 - (i + 1)) + 1 by omega, Nat.pow_succ, Nat.mul_comm]
    have hpos : 0 < 8 ^ (3 - (i + 1)) := Nat.pow_pos (by omega)
    have hq3 : (q + 1) * 8 ^ (4 - i) ≤ 4096 := by
      have h2 : (q + 1) * 8 ^ (4 - i) ≤ 8 ^ i * 8 ^ (4 - i) := Nat.mul_le_mul_right _ hq8
      rw [← Nat.pow_add, show i + (4 - i) = 4 by omega] at h2
      simpa using h2
    have hstv : ∀ r, strV M F (i + 1, r) = .agg #[.int .i64 ((r * 8 ^ (3 - i) : Nat) : Int), .int .i64 ((8 ^ (3 - i) : Nat) : Int), .bool (ent M F (i + 1) r).h, .bool (ent M F (i + 1) r).w, .bool (ent M F (i + 1) r).c, .bool (ent M F (i + 1) r).o, .int .i64 (ent M F (i + 1) r).n] := fun r => by
      unfold strV
      simp only
      rw [show 4 - (i + 1) = 3 - i by omega]
    have hvyy := fun d => visit_yes (M := M) (low := low) (m := m + 1) (i := i) (q := q) (d := d)
    have hvnn := fun d => visit_no (M := M) (low := low) (m := m + 1) (i := i) (q := q) (d := d)
    have hrr := fun r => ih (i + 1) r (by omega)
    rw [show 4 - (i + 1) = 3 - i by omega] at hrr
    generalize (8 ^ (3 - (i + 1)) : Nat) = G' at *
    generalize (8 ^ (3 - i) : Nat) = G at *
    rw [hpg2] at hq3 ⊢
    have hQ0 : Hid (q * (8 * G) = q * (8 * G)) := Lib.hid rfl
    obtain ⟨Q, hQd⟩ : ∃ Q, q * (8 * G) = Q := ⟨_, rfl⟩
    rw [hQd]
    have HGS := Lib.hid (And.intro hpg3 (And.intro hpos (And.intro hq3 (And.intro hQd (And.intro hstv (And.intro hvyy (And.intro hvnn hrr)))))))
    clear hpg2 hpg3 hpos hq3 hQd hstv hvyy hvnn hrr hQ0
    have HBY := Lib.hid hby
    have HGT := Lib.hid hgt
    have HW := Lib.hid hw
    have HM := Lib.hid hM
    have c0 := hM.box.at_ 0 _ rfl
    have c1 := hM.head.at_ 0 _ rfl
    clear hby hgt hw
    have hdd : ∀ k : Nat, (Fence.wide.depth.isSome = true → 1 ≤ k) := fun k h => by cases h
    refine callsIn_of_wp Tryd.func66 rfl trivial ?_ rfl
    simp only [Tryd.ntmps66, List.size_toArray, List.length_cons, List.length_nil, Nat.reduceAdd, Nat.reduceSub, Array.replicate_succ, Array.replicate_zero, List.push_toArray, List.append_toArray, List.nil_append, List.cons_append]
    have hjv := fun (V : World) (hb : Below W.heap.size W V) => hJ _ _ _ hJ0 (grown_none hb)
    have HJV := Lib.hid (And.intro hJ hjv)
    have HN := Lib.hid hN
    have HYY := Lib.hid hY
    have HEE := Lib.hid hE
    clear hJ hjv hN hY hJ0 hE hM ih
    gi_wp2_with (refine ⟨trivial, hdd _, ?_⟩; gi_at_call 54; refine (callsIn_wide.2 (HBY.out _ HM.out)).mono ?_; rintro e v1 ⟨rfl, hb1⟩; have HB1 := Lib.hid hb1; clear hb1)
    have hst : J (pre ++ visits M low (m + 1) i q 0) v1 := by rw [visits_zero, List.append_nil]; exact HJV.out.2 _ HB1.out
    have HST := Lib.hid hst
    clear hst
    gi_loopw [26] (fun ii wr => ∃ d : Nat, d ≤ 8 ∧ ii = .int .i64 d ∧ J (pre ++ visits M low (m + 1) i q d) wr ∧ KpP P W wr) (fun ii _ => 8 - (intOf ii).toNat)
    case atStart => exact ⟨0, by omega, rfl, HST.out, KpP.of_below HB1.out⟩
    case round =>
      obtain ⟨d, hd8, rfl, hJs, hK⟩ := hrel
      by_cases hlt : d < 8
      · have hMr := HM.out.kp hs hK
        have hwd := HW.out d hlt
        obtain ⟨hpg3, hpos, hq3, hQd, hstv, hvyy, hvnn, hrr⟩ := HGS.out
        have hstr := hstv (8 * q + d)
        have hR1 : (8 * q + d) * G = Q + d * G := by rw [← hQd, Nat.add_mul]; congr 1; rw [Nat.mul_comm 8 q, Nat.mul_assoc]
        have hR2 : (8 * q + d + 1) * G = (8 * q + d) * G + G := by rw [Nat.add_mul, Nat.one_mul]
        have hR3 : (8 * q + d) * G + G ≤ 4096 := by
          rw [← hR2]
          refine Nat.le_trans (Nat.mul_le_mul_right _ (show 8 * q + d + 1 ≤ 8 * (q + 1) by omega)) ?_
          rw [show 8 * (q + 1) * G = (q + 1) * (8 * G) by rw [Nat.mul_comm 8 (q + 1), Nat.mul_assoc]]
          exact hq3
        have hvs := visits_succ M low (m + 1) i q d
        have hvy := hvyy d
        have hvn := hvnn d
        have hvp := fun ys => visits_part (M := M) (low := low) (m := m + 1) (i := i) (q := q) (k := d) (ys := ys) hlt
        have hok := HEE.out (i + 1) (8 * q + d) (by omega)
        have hun : ∀ V, Calls Tryd.prog 14 #[.int .u64 (wd sp d)] V fun e V' => e = .returned (ent M F (i + 1) (8 * q + d)).v ∧ Below V.heap.size V V' := fun V => (unpack_any (wd sp d) V (wf_u64 wd_range.1 wd_range.2)).mono fun e V' ⟨he, hb⟩ => ⟨by rw [he, hwd, hok.unp], hb⟩
        have hem : ∀ V, Calls Tryd.prog 53 #[(ent M F (i + 1) (8 * q + d)).v] V fun e V' => e = .returned (.bool (ent M F (i + 1) (8 * q + d)).isZ) ∧ Below V.heap.size V V' := fun V => (empty_any _ V).mono fun e V' ⟨he, hw⟩ => ⟨he, by rw [hw]; exact (Below.refl _ _).alloc (Nat.le_refl _) _⟩
        have hg8 := HGT.out d hlt
        rw [show ((8 * d : Nat) : Int) = (d : Int) * 8 by omega] at hg8
        rw [hR2] at hvy hvn
        have hz := ent_zero (M := M) (F := F) (i := i + 1) (q := 8 * q + d) (by omega)
        have hzl := ent_live (M := M) (F := F) (i := i + 1) (q := 8 * q + d) (by omega)
        have hrec := hrr (8 * q + d)
        have hq9 : 8 * q + d < 8 ^ (i + 1) := by rw [Nat.pow_succ]; omega
        have hquo : ((G : Nat) : Int) / 8 = ((G' : Nat) : Int) := by omega
        have hg1 : 1 < G := by omega
        generalize hr8 : 8 * q + d = r8 at *
        generalize r8 * G = RR at *
        generalize hDd : d * G = D at *
        have e1 : IntKind.i64.wrap ((d : Int) * (G : Int)) = (D : Int) := by rw [show (d : Int) * (G : Int) = ((d * G : Nat) : Int) by omega, hDd]; exact IntWalk.i64_in _ (by omega)
        have e2 : IntKind.i64.wrap ((Q : Int) + (D : Int)) = (RR : Int) := by rw [show (Q : Int) + (D : Int) = (RR : Int) by omega]; exact IntWalk.i64_in _ (by omega)
        have e3 : IntKind.i64.wrap ((RR : Int) + (G : Int)) = ((RR + G : Nat) : Int) := by rw [show (RR : Int) + (G : Int) = ((RR + G : Nat) : Int) by omega]; exact IntWalk.i64_in _ (by omega)
        have e4 : wrap64 ((G' : Nat) : Int) = ((G' : Nat) : Int) := IntWalk.wrap64_in _ (by omega)
        have HX := Lib.hid (And.intro hJs (And.intro hK hMr))
        have HX0 : Hid ((∀ V, Below wr.heap.size wr V → J (pre ++ visits M low (m + 1) i q d) V) ∧ True) := Lib.hid ⟨fun V hb => HJV.out.1 _ _ _ hJs (grown_none hb), trivial⟩
        have HV := Lib.hid (And.intro hvs (And.intro hvy (And.intro hvn (And.intro hvp (And.intro hstr (And.intro hrec (And.intro hq9 (And.intro hR3 hR1))))))))
        have HG8 := Lib.hid hg8
        clear hvs hvy hvn hvp hstr hrec hq9 hR1 hR2 hR3 hg8 hJs hK hMr hwd hok hlow hpg3 hpos hq3 hQd hstv hvyy hvnn hrr
        by_cases hlv : live M (i + 1) r8
        · have hzv := hzl hlv
          rw [hzv] at hun hem
          unfold Sl.v at hun hem
          simp only at hun hem
          have HUN := Lib.hid hun
          have HEM : Hid (∀ V, Calls Tryd.prog 53 #[.agg #[.bool true, .bool false, .bool false, .bool false, .int .i64 (F (i + 1) r8 : Nat)]] V fun e V' => e = .returned (.bool false) ∧ Below V.heap.size V V') := Lib.hid hem
          have HZV := Lib.hid hzv
          clear hun hem hz hzl hzv
          by_cases hll : low < ((RR + G : Nat) : Int)
          · have hle : decide (((RR + G : Nat) : Int) ≤ low) = false := by simpa using hll
            have HVY := Lib.hid (HV.out.2.1 ⟨hlv, hll⟩)
            have HST2 : Hid (strV M F (i + 1, r8) = .agg #[.int .i64 (RR : Nat), .int .i64 (G : Nat), .bool true, .bool false, .bool false, .bool false, .int .i64 (F (i + 1) r8 : Nat)]) := Lib.hid (by rw [HV.out.2.2.2.2.1, HZV.out])
            have HLEN : Hid ((pre ++ visits M low (m + 1) i q d).length + 1 + (trav M low (m + 1) (i + 1) r8).length ≤ N) := Lib.hid (by
              have h1 := (HV.out.2.2.2.1 (visit M low (m + 1) i q d) (List.prefix_refl _)).length_le
              rw [HVY.out] at h1
              have h2 := HN.out
              simp only [List.length_append, List.length_cons] at h1 ⊢
              omega)
            generalize ((RR + G : Nat) : Int) = SS at *
            clear hll
            gi_wp2_with (first
            | (refine ⟨trivial, hdd _, ?_⟩; gi_at_call 67; refine (callsIn_wide.2 (HG8.out _)).mono ?_; rintro e v2 ⟨rfl, rfl⟩)
            | (refine ⟨trivial, hdd _, ?_⟩; gi_at_call 14; refine (callsIn_wide.2 (HUN.out _)).mono ?_; rintro e v2 ⟨rfl, hb2⟩
               have HB2 := Lib.hid (hb2.alloc hb2.size (.cells #[.int .i64 (RR : Nat), .int .i64 (G : Nat), .bool true, .bool false, .bool false, .bool false, .int .i64 (F (i + 1) r8 : Nat)] 105))
               have HBX := Lib.hid (And.intro (Blk.new v2 105 #[.int .i64 (RR : Nat), .int .i64 (G : Nat), .bool true, .bool false, .bool false, .bool false, .int .i64 (F (i + 1) r8 : Nat)]) (show ∃ z, z = v2.heap.size from ⟨_, rfl⟩))
               clear hb2)
            | (refine ⟨trivial, hdd _, ?_⟩; gi_at_call 53; refine (callsIn_wide.2 (HEM.out _)).mono ?_; rintro e v3 ⟨rfl, hb3⟩
               have HB3 := Lib.hid (HB2.out.trans (hb3.mono HB2.out.size))
               have HBX3 := Lib.hid (HBX.out.1.below hb3 HBX.out.1.lt)
               have hT3 := HX.out.2.2.on HB3.out
               have x0 := HBX3.out.at_ 0 _ rfl
               have x1 := HBX3.out.at_ 1 _ rfl
               have x2 := HBX3.out.at_ 2 _ rfl
               have x3 := HBX3.out.at_ 3 _ rfl
               have x4 := HBX3.out.at_ 4 _ rfl
               have x5 := HBX3.out.at_ 5 _ rfl
               have x6 := HBX3.out.at_ 6 _ rfl
               have l0 := hT3.low.at_ 0 _ rfl
               have y0 := hT3.yld.at_ 0 _ rfl
               have HT3 := Lib.hid hT3
               have hyy := HYY.out (n - 1) (pre ++ visits M low (m + 1) i q d) (i + 1, r8) v3 (HX0.out.1 _ HB3.out) (by have := HLEN.out; omega)
               rw [HST2.out] at hyy
               obtain ⟨fn, tmps, assign, body, hy, hR⟩ := hyy
               have HR := Lib.hid hR
               clear hb3 hT3 hR))
            refine ⟨hdd _, HR.out.mono ?_⟩
            rintro e W3 (⟨rfl, hJ3, hk3⟩ | ⟨rfl, hJx3⟩)
            · have hT4 := HT3.out.kp hs hk3
              have bx4 := hk3.2 _ _ _ (hs.x _) HBX3.out
              have z0 := bx4.at_ 0 _ rfl
              have z6 := bx4.at_ 6 _ rfl
              have b0 := hT4.thr.at_ 0 _ rfl
              have HREC := Lib.hid (HV.out.2.2.2.2.2.1 (.inr hlv) HV.out.2.2.2.2.2.2.1 (n - 1) _ W3 hJ3 hT4 (by have := HLEN.out; simp only [List.length_append, List.length_cons, List.length_nil] at this ⊢; omega))
              have HK4 := Lib.hid ((HX.out.2.1.trans (KpP.of_below HB3.out)).trans hk3)
              clear hJ3 hk3 hT4 bx4 x0 x1 x2 x3 x4 x5 x6 l0 y0 HR hy
              gi_wp2_with (refine ⟨trivial, hdd _, ?_⟩; gi_at_call 66; refine HREC.out.mono ?_; rintro e W5 (⟨rfl, hJ5, hk5⟩ | ⟨rfl, ys, hys, hJx5⟩))
              · go_roundw
                case rel => exact ⟨d + 1, by omega, by go_num, by rw [HV.out.1, HVY.out]; simpa [List.append_assoc] using hJ5, HK4.out.trans hk5⟩
                case measure => simp [intOf]; omega
              · go_ret
                exact .inr ⟨rfl, visits M low (m + 1) i q d ++ (i + 1, r8) :: ys, HV.out.2.2.2.1 _ (by rw [HVY.out]; exact (List.prefix_append_right_inj [(i + 1, r8)]).2 hys), by simpa [List.append_assoc] using hJx5⟩
            · clear x0 x1 x2 x3 x4 x5 x6 l0 y0 HR hy
              gi_wp2
              go_ret
              exact .inr ⟨rfl, visits M low (m + 1) i q d ++ [(i + 1, r8)], HV.out.2.2.2.1 _ (by rw [HVY.out]; exact ⟨_, rfl⟩), by simpa [List.append_assoc] using hJx3⟩
          · have hle : decide (((RR + G : Nat) : Int) ≤ low) = true := by simpa using hll
            have HVN := Lib.hid (HV.out.2.2.1 (fun h => hll h.2))
            generalize ((RR + G : Nat) : Int) = SS at *
            gi_wp2_with (first
            | (refine ⟨trivial, hdd _, ?_⟩; gi_at_call 67; refine (callsIn_wide.2 (HG8.out _)).mono ?_; rintro e v2 ⟨rfl, rfl⟩)
            | (refine ⟨trivial, hdd _, ?_⟩; gi_at_call 14; refine (callsIn_wide.2 (HUN.out _)).mono ?_; rintro e v2 ⟨rfl, hb2⟩
               have HB2 := Lib.hid (hb2.alloc hb2.size (.cells #[.int .i64 (RR : Nat), .int .i64 (G : Nat), .bool true, .bool false, .bool false, .bool false, .int .i64 (F (i + 1) r8 : Nat)] 105))
               have HBX := Lib.hid (And.intro (Blk.new v2 105 #[.int .i64 (RR : Nat), .int .i64 (G : Nat), .bool true, .bool false, .bool false, .bool false, .int .i64 (F (i + 1) r8 : Nat)]) (show ∃ z, z = v2.heap.size from ⟨_, rfl⟩))
               clear hb2)
            | (refine ⟨trivial, hdd _, ?_⟩; gi_at_call 53; refine (callsIn_wide.2 (HEM.out _)).mono ?_; rintro e v3 ⟨rfl, hb3⟩
               have HB3 := Lib.hid (HB2.out.trans (hb3.mono HB2.out.size))
               have bx := HBX.out.1.below hb3 HBX.out.1.lt
               have hT3 := HX.out.2.2.on HB3.out
               have x0 := bx.at_ 0 _ rfl
               have l0 := hT3.low.at_ 0 _ rfl
               clear hb3 bx hT3))
            go_roundw
            case rel => exact ⟨d + 1, by omega, by go_num, by rw [HV.out.1, HVN.out, List.append_nil]; exact HX0.out.1 _ HB3.out, HX.out.2.1.trans (KpP.of_below HB3.out)⟩
            case measure => simp [intOf]; omega
        · have hzv := hz.2 hlv
          rw [hzv] at hun hem
          unfold Sl.v Sl.zero at hun hem
          simp only at hun hem
          have HUN := Lib.hid hun
          have HEM : Hid (∀ V, Calls Tryd.prog 53 #[.agg #[.bool false, .bool false, .bool false, .bool false, .int .i64 0]] V fun e V' => e = .returned (.bool true) ∧ Below V.heap.size V V') := Lib.hid hem
          have hvn := HV.out.2.2.1 (fun h => hlv h.1)
          have HVN := Lib.hid hvn
          clear hun hem hz hzl hzv hvn
          gi_wp2_with (first
            | (refine ⟨trivial, hdd _, ?_⟩; gi_at_call 67; refine (callsIn_wide.2 (HG8.out _)).mono ?_; rintro e v2 ⟨rfl, rfl⟩)
            | (refine ⟨trivial, hdd _, ?_⟩; gi_at_call 14; refine (callsIn_wide.2 (HUN.out _)).mono ?_; rintro e v2 ⟨rfl, hb2⟩; have HB2 := Lib.hid (hb2.alloc hb2.size (.cells #[.int .i64 (RR : Nat), .int .i64 (G : Nat), .bool false, .bool false, .bool false, .bool false, .int .i64 0] 105)); clear hb2)
            | (refine ⟨trivial, hdd _, ?_⟩; gi_at_call 53; refine (callsIn_wide.2 (HEM.out _)).mono ?_; rintro e v3 ⟨rfl, hb3⟩; have HB3 := Lib.hid (HB2.out.trans (hb3.mono HB2.out.size)); clear hb3))
          go_roundw
          case rel => exact ⟨d + 1, by omega, by go_num, by rw [HV.out.1, HVN.out, List.append_nil]; exact HX0.out.1 _ HB3.out, HX.out.2.1.trans (KpP.of_below HB3.out)⟩
          case measure => simp [intOf]; omega
      · obtain rfl : d = 8 := by omega
        simp only [show ((8 : Nat) : Int) = 8 from rfl]
        have HEND : Hid (ThrPost P J Jx pre (visits M low (m + 1) i q 8) W (.returned (.bool true)) wr) := Lib.hid (.inl ⟨rfl, hJs, hK⟩)
        clear hJs hK
        gi_wp2
        go_ret
        exact HEND.out
end Go.Proofs.YtbidlabhekiijaaDoor
