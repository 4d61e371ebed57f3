/- Package radix: All. -/
import Derived.Test.YtbidlabhekiijaaDoorRT
import Derived.Lib.SlBuf
namespace Go.Proofs.YtbidlabhekiijaaDoor
open Go.RowKit Go.Shelf
set_option linter.unusedVariables false
set_option linter.unusedSimpArgs false
attribute [local go_sem] Oper.semAt_some

/-- A spot's cells. -/
noncomputable def spotL (M : Nat → Sl) (F : Nat → Nat → Nat) (x : Nat × Nat) : List Value :=
  [.int .i64 ((x.2 * 8 ^ (4 - x.1) : Nat) : Int), .bool (ent M F x.1 x.2).h, .bool (ent M F x.1 x.2).w, .bool (ent M F x.1 x.2).c, .bool (ent M F x.1 x.2).o, .int .i64 (ent M F x.1 x.2).n]
theorem spotV_eq (M : Nat → Sl) (F : Nat → Nat → Nat) (x : Nat × Nat) : spotV M F x = .agg (spotL M F x).toArray := rfl
/-- Blocks that All's rounds keep. -/
def P1 (_ : Nat) (t : TypeId) : Prop := t ≠ 38 ∧ t ≠ 47

/-- What All tells. -/
def AllTold (w : World) (M : Nat → Sl) (F : Nat → Nat → Nat) (l : List (Nat × Nat)) (e : Ending) (w' : World) : Prop :=
  ∃ v, e = .returned v ∧ w'.ownsRow w.heap.size 47 6 v l.length (l.flatMap (spotL M F)) ∧ Below w.heap.size w w'

set_option maxRecDepth 100000 in
set_option maxHeartbeats 1000000 in
theorem all_of {w : World} {a : Option Addr} {h : Nat} {M : Nat → Sl} {F : Nat → Nat → Nat} {L : Int → List (Nat × Nat)} (T : Tells w a h M F L) (hL : (L 0).length ≤ 10000) :
    Calls Tryd.prog 28 #[.pointer a] w (AllTold w M F (leafs (L 0))) := by
  unfold AllTold
  obtain ⟨i0, hi, hz0, hz1, hz2⟩ := info_parts infoSpot7
  have HT := Lib.hid T
  clear T
  suffices H : ∀ n, CallsIn Fence.wide n Tryd.prog 28 #[.pointer a] w fun e w' => ∃ v, e = .returned v ∧ w'.ownsRow w.heap.size 47 6 v (leafs (L 0)).length ((leafs (L 0)).flatMap (spotL M F)) ∧ Below w.heap.size w w' from callsIn_wide.1 (H 0)
  intro n
  refine callsIn_of_wp_marks Tryd.func28 rfl trivial ?_ rfl
  simp only [Tryd.ntmps28, List.size_toArray, List.length_cons, List.length_nil, Nat.reduceAdd, Nat.reduceSub, Array.replicate_succ, Array.replicate_zero, List.push_toArray, List.append_toArray, List.nil_append, List.cons_append]
  have hdd : ∀ k : Nat, (Fence.wide.depth.isSome = true → 1 ≤ k) := fun k h => by cases h
  gi_wp2_with (refine ⟨trivial, hdd _, ?_⟩; gi_at_call 40; refine (callsIn_wide.2 (spots_any _ _ _)).mono ?_; rintro e v2 ⟨rfl, rfl⟩)
  try simp only [World.size_alloc]
  have hb0 := ((Below.refl w.heap.size w).alloc (Nat.le_refl _) (.cells #[] 47)).alloc (by simp) (.cells #[.slice (some ⟨w.heap.size, 0, none⟩) 0 0] 38)
  have hb1 := (hb0.alloc (by simp; omega) (.cells #[.pointer a] 33)).alloc (by simp; omega) (.cells #[.int .i64 0] 3)
  have hbx := ((Blk.new (w.alloc (.cells #[] 47)) 38 #[.slice (some ⟨w.heap.size, 0, none⟩) 0 0]).alloc (.cells #[.pointer a] 33)).alloc (.cells #[.int .i64 0] 3)
  have hc1 := (Blk.new ((w.alloc (.cells #[] 47)).alloc (.cells #[.slice (some ⟨w.heap.size, 0, none⟩) 0 0] 38)) 33 #[.pointer a]).alloc (.cells #[.int .i64 0] 3)
  have hc2 := Blk.new (((w.alloc (.cells #[] 47)).alloc (.cells #[.slice (some ⟨w.heap.size, 0, none⟩) 0 0] 38)).alloc (.cells #[.pointer a] 33)) 3 #[.int .i64 0]
  have hrow : ((w.alloc (.cells #[] 47)).ownsRow w.heap.size 47 6 (.slice (some ⟨w.heap.size, 0, none⟩) 0 0) 0 []) := World.ownsRow_made w #[] 0 (Nat.le_refl _) (Nat.zero_le _) (by simp)
  have hrow := own_below (own_below (own_below hrow ((Below.refl _ _).alloc (Nat.le_refl _) (.cells #[.slice (some ⟨w.heap.size, 0, none⟩) 0 0] 38))) ((Below.refl _ _).alloc (Nat.le_refl _) (.cells #[.pointer a] 33))) ((Below.refl _ _).alloc (Nat.le_refl _) (.cells #[.int .i64 0] 3))
  simp only [World.size_alloc] at hbx hc1 hc2
  obtain ⟨V, hV⟩ : ∃ V, (((w.alloc (.cells #[] 47)).alloc (.cells #[.slice (some ⟨w.heap.size, 0, none⟩) 0 0] 38)).alloc (.cells #[.pointer a] 33)).alloc (.cells #[.int .i64 0] 3) = V := ⟨_, rfl⟩
  rw [hV] at hb1 hbx hc1 hc2 hrow ⊢
  have HSQ := Lib.hid (HT.out.spots P1 0 _ _ V (by omega) hb1 hc1 hc2 (fun b k t hq => ⟨hq.1, hq.2.1⟩))
  clear hV hc1 hc2 hb0 HT
  have hle : w.heap.size ≤ V.heap.size := hb1.size
  have hlL := leafs_len (L 0)
  refine wpIn_named ?_
  intro T hT
  refine range_own (Pk := P1) (gf := 56) (lb := #[.pointer (some ⟨w.heap.size + 1 + 1, 0, none⟩), .pointer (some ⟨w.heap.size + 1 + 1 + 1, 0, none⟩)]) (by rw [← hT]; rfl) (enters_of Tryd.func56 (by kernel_rfl) rfl)
    (fun _ => rfl) HSQ.out
    (fun pre U => ∃ v, Blk U (w.heap.size + 1) 38 #[v] ∧ U.ownsRow w.heap.size 47 6 v pre.length (pre.flatMap (spotL M F)) ∧ Below w.heap.size w U)
    (fun c pre U => False)
    (fun pre X Y row ⟨v, h1, h2, h3⟩ hg hr => ⟨v, Blk.own1 _ _ _ _ () X Y row h1 hg hr, own_nc h2 hg (fun r e => (hr r e).2), h3.grown hg h3.size (fun k e => Nat.le_trans hle (hr k e).1)⟩)
    (fun c => fun _ _ _ _ hs _ _ => hs)
    ⟨_, hbx, hrow, hb1⟩
    (fun pre x a' U => (∃ v, Blk U (w.heap.size + 1) 38 #[v] ∧ U.ownsRow w.heap.size 47 6 v pre.length (pre.flatMap (spotL M F)) ∧ Below w.heap.size w U) ∧ pre.length < (L 0).length ∧ ∃ Bx, Blk U Bx 47 (spotL M F x).toArray ∧ a' = { tmps := ((T.setIfInBounds 8 (spotV M F x)).setIfInBounds 4 (.pointer (some ⟨Bx, 0, none⟩))), defers := [] })
    (fun pre x a' => fun _ X Y row ⟨⟨v, h1, h2, h3⟩, h4, Bx, h5, h6⟩ hg hr => ⟨⟨v, Blk.own1 _ _ _ _ () X Y row h1 hg hr, own_nc h2 hg (fun r e => (hr r e).2), h3.grown hg h3.size (fun k e => Nat.le_trans hle (hr k e).1)⟩, h4, Bx, Blk.own1 _ _ _ _ () X Y row h5 hg hr, h6⟩)
    ?assign ?body ?done ?stop
  case assign =>
    rintro m l2 pre x U K ⟨v, h1, h2, h3⟩ hlen hK
    have HK := Lib.hid hK
    have HI := Lib.hid (show ∃ v, Blk (U.alloc (.cells (spotL M F x).toArray 47)) (w.heap.size + 1) 38 #[v] ∧ (U.alloc (.cells (spotL M F x).toArray 47)).ownsRow w.heap.size 47 6 v pre.length (pre.flatMap (spotL M F)) ∧ Below w.heap.size w (U.alloc (.cells (spotL M F x).toArray 47)) from
      ⟨v, h1.alloc _, own_below h2 ((Below.refl _ _).alloc (Nat.le_refl _) _), h3.alloc h3.size _⟩)
    clear hK h1 h2 h3 hbx hrow hb1
    simp only [List.zip_toArray, List.zip_cons_cons, List.zip_nil_right, List.size_toArray, List.foldl_toArray', List.foldl_toArray, List.foldl_cons, List.foldl_nil]
    subst hT
    unfold spotV
    simp only [List.setIfInBounds_toArray, List.set_cons_succ, List.set_cons_zero]
    gi_wp2
    refine HK.out _ _ ((KeepsOthers.alloc _ _).from _) (KpP.alloc U _) ⟨HI.out, hlen, U.heap.size, Blk.new U _ _, ?_⟩
    rfl
  case body =>
    rintro m l2 pre x a' U hl2 ⟨⟨v, h1, h2, h3⟩, hlen, Bx, bX, rfl⟩
    subst hT
    simp only [List.setIfInBounds_toArray, List.set_cons_succ, List.set_cons_zero]
    have y0 := h1.at_ 0 _ rfl
    have f0 := h1.frozen 0
    have hfl : (pre ++ [x]).flatMap (spotL M F) = pre.flatMap (spotL M F) ++ spotL M F x := by simp
    have HFL := Lib.hid hfl
    have hn1 : w.heap.size + 1 < U.heap.size := h1.lt
    have HH := Lib.hid (And.intro h1 (And.intro h2 h3))
    have hXL : (spotL M F x).length = 6 := rfl
    unfold spotV
    have HSL : Hid (spotL M F x = [.int .i64 ((x.2 * 8 ^ (4 - x.1) : Nat) : Int), .bool (ent M F x.1 x.2).h, .bool (ent M F x.1 x.2).w, .bool (ent M F x.1 x.2).c, .bool (ent M F x.1 x.2).o, .int .i64 (ent M F x.1 x.2).n]) := Lib.hid rfl
    rw [HSL.out] at bX
    clear h1 h2 h3 hbx hrow hb1 hfl
    generalize ((x.2 * 8 ^ (4 - x.1) : Nat) : Int) = A at *
    generalize ent M F x.1 x.2 = z at *
    obtain ⟨zh, zw, zc, zo, zn⟩ := z
    simp only at bX HSL ⊢
    have b0 := bX.at_ 0 _ rfl
    have b1 := bX.at_ 1 _ rfl
    have b2 := bX.at_ 2 _ rfl
    have b3 := bX.at_ 3 _ rfl
    have b4 := bX.at_ 4 _ rfl
    have b5 := bX.at_ 5 _ rfl
    clear bX
    have HOWN := Lib.hid (own_below HH.out.2.1 ((Below.refl _ _).alloc (Nat.le_refl _) (.cells #[.int .i64 A, .bool zh, .bool zw, .bool zc, .bool zo, .int .i64 zn] 47)))
    gi_wp2_with (gi_at_builtin; refine wpListIn_append_own _ rfl _ _ 38 rfl w.heap.size 47 i0 _ 6 24 Tryd.underlying38 hi hz0 hz1 hz2 rfl (by decide) v pre.length _ rfl HOWN.out ⟨U.heap.size, 0, none⟩ 1 1 [.int .i64 A, .bool zh, .bool zw, .bool zc, .bool zo, .int .i64 zn] rfl (by rfl)
                     (fun j u hj => by rw [show (⟨U.heap.size, 0, none⟩ : Addr).add j = ⟨U.heap.size, j, none⟩ by unfold Addr.add; split <;> simp_all]; exact (Blk.new U 47 #[.int .i64 A, .bool zh, .bool zw, .bool zc, .bool zo, .int .i64 zn]).at_ j u (by simpa using hj))
                     (fun u hu => by simp at hu; rcases hu with rfl | rfl | rfl | rfl | rfl | rfl <;> rfl) (by unfold maxLen; omega) (by omega) (by simp; omega) ?_
                 intro v' w1 hown1 hgrow1 _; obtain ⟨A', c', rfl⟩ := own_sl7 hown1
                 have HR := Lib.hid (app_round (P := P1) HH.out.2.1 hgrow1 hown1 HH.out.1 (by decide) (fun h => h.1 rfl) (fun k cs h _ => absurd rfl h.2) HH.out.2.2 (Nat.le_refl _) (Nat.le_succ _) (Nat.le_refl _))
                 have z0 : w1.cell? ⟨w.heap.size + 1, 0, none⟩ = some v := (((HH.out.1.alloc _).grown hgrow1 (fun e => Blk.not_row (HH.out.1.alloc _) (by decide) HOWN.out e.symm))).at_ 0 _ rfl
                 have z1 := (((HH.out.1.alloc _).grown hgrow1 (fun e => Blk.not_row (HH.out.1.alloc _) (by decide) HOWN.out e.symm))).frozen 0
                 clear hown1 hgrow1)
    refine ⟨HR.out.1.from _, HR.out.2.1, _, HR.out.2.2.1, ?_, HR.out.2.2.2.2⟩
    rw [HFL.out, HSL.out, List.length_append, List.length_singleton]
    exact HR.out.2.2.2.1
  case done =>
    rintro D ys U hD rfl ⟨v, h1, h2, h3⟩ hK
    have y0 := h1.at_ 0 _ rfl
    have HH := Lib.hid (And.intro h2 h3)
    clear h1 h2 h3
    subst hT
    gi_wp2
    refine ⟨by simp, .inl ⟨_, _, rfl, run_takeDeferred hK, ?_⟩⟩
    exact ⟨_, results_tmp rfl _ _ _, v, rfl, own_nc HH.out.1 (grownBy_putObj' _ _ _) (fun r e => by cases e; exact ⟨_, hK, rfl⟩), HH.out.2.grown (grownBy_putObj' _ _ _) HH.out.2.size (fun k e => by cases e; omega)⟩
  case stop =>
    rintro D c pre U hD hpre h1 hK
    exact h1.elim
end Go.Proofs.YtbidlabhekiijaaDoor

/- Package radix: From. -/
namespace Go.Proofs.YtbidlabhekiijaaDoor
open Go.RowKit Go.Shelf
set_option linter.unusedVariables false
set_option linter.unusedSimpArgs false
attribute [local go_sem] Oper.semAt_some

theorem sp_set {w : World} {g : Nat} {t : TypeId} {c0 c1 c2 c3 c4 c5 : Value} (h : Blk w g t #[c0, c1, c2, c3, c4, c5]) (v0 v1 v2 v3 v4 v5 : Value) :
    Blk ((((((w.setCell ⟨g, 0, none⟩ v0).setCell ⟨g, 1, none⟩ v1).setCell ⟨g, 2, none⟩ v2).setCell ⟨g, 3, none⟩ v3).setCell ⟨g, 4, none⟩ v4).setCell ⟨g, 5, none⟩ v5) g t #[v0, v1, v2, v3, v4, v5] := by
  simpa using (((((h.set_ 0 v0).set_ 1 v1).set_ 2 v2).set_ 3 v3).set_ 4 v4).set_ 5 v5
theorem sp_far {w : World} {g k : Nat} {t : TypeId} {cs : Array Value} (h : Blk w k t cs) (hk : k ≠ g) (v0 v1 v2 v3 v4 v5 : Value) :
    Blk ((((((w.setCell ⟨g, 0, none⟩ v0).setCell ⟨g, 1, none⟩ v1).setCell ⟨g, 2, none⟩ v2).setCell ⟨g, 3, none⟩ v3).setCell ⟨g, 4, none⟩ v4).setCell ⟨g, 5, none⟩ v5) k t cs :=
  (((((h.far (p := ⟨g, 0, none⟩) hk v0).far (p := ⟨g, 1, none⟩) hk v1).far (p := ⟨g, 2, none⟩) hk v2).far (p := ⟨g, 3, none⟩) hk v3).far (p := ⟨g, 4, none⟩) hk v4).far (p := ⟨g, 5, none⟩) hk v5
theorem sp_below {B : Nat} {v w : World} {g : Nat} (h : Below B v w) (hg : B ≤ g) (v0 v1 v2 v3 v4 v5 : Value) :
    Below B v ((((((w.setCell ⟨g, 0, none⟩ v0).setCell ⟨g, 1, none⟩ v1).setCell ⟨g, 2, none⟩ v2).setCell ⟨g, 3, none⟩ v3).setCell ⟨g, 4, none⟩ v4).setCell ⟨g, 5, none⟩ v5) :=
  (((((h.setCell (p := ⟨g, 0, none⟩) hg v0).setCell (p := ⟨g, 1, none⟩) hg v1).setCell (p := ⟨g, 2, none⟩) hg v2).setCell (p := ⟨g, 3, none⟩) hg v3).setCell (p := ⟨g, 4, none⟩) hg v4).setCell (p := ⟨g, 5, none⟩) hg v5
theorem sp_heap {w : World} {g k : Nat} {o : Obj} (h : w.heap[k]? = some o) (hk : k ≠ g) (v0 v1 v2 v3 v4 v5 : Value) :
    ((((((w.setCell ⟨g, 0, none⟩ v0).setCell ⟨g, 1, none⟩ v1).setCell ⟨g, 2, none⟩ v2).setCell ⟨g, 3, none⟩ v3).setCell ⟨g, 4, none⟩ v4).setCell ⟨g, 5, none⟩ v5).heap[k]? = some o :=
  (Below.heap_setCell _ ⟨g, 5, none⟩ v5 k hk).trans ((Below.heap_setCell _ ⟨g, 4, none⟩ v4 k hk).trans ((Below.heap_setCell _ ⟨g, 3, none⟩ v3 k hk).trans ((Below.heap_setCell _ ⟨g, 2, none⟩ v2 k hk).trans ((Below.heap_setCell _ ⟨g, 1, none⟩ v1 k hk).trans ((Below.heap_setCell _ ⟨g, 0, none⟩ v0 k hk).trans h)))))
theorem sp_ko (w : World) (g : Nat) (v0 v1 v2 v3 v4 v5 : Value) : KeepsOthers w ((((((w.setCell ⟨g, 0, none⟩ v0).setCell ⟨g, 1, none⟩ v1).setCell ⟨g, 2, none⟩ v2).setCell ⟨g, 3, none⟩ v3).setCell ⟨g, 4, none⟩ v4).setCell ⟨g, 5, none⟩ v5) :=
  (((((KeepsOthers.setCell w _ _).trans (KeepsOthers.setCell _ _ _)).trans (KeepsOthers.setCell _ _ _)).trans (KeepsOthers.setCell _ _ _)).trans (KeepsOthers.setCell _ _ _)).trans (KeepsOthers.setCell _ _ _)

def zspot : Array Value := #[.int .i64 0, .bool false, .bool false, .bool false, .bool false, .int .i64 0]
/-- What From tells: the first one, if there is one. -/
noncomputable def fromC (M : Nat → Sl) (F : Nat → Nat → Nat) : List (Nat × Nat) → Array Value
  | [] => zspot
  | x :: _ => (spotL M F x).toArray
def fromB : List (Nat × Nat) → Bool
  | [] => false
  | _ :: _ => true

theorem from_cells (w : World) : let W0 := ((w.alloc (.cells zspot 47)).alloc (.cells zspot 47)).alloc (.cells #[.bool false] 4)
    Blk W0 w.heap.size 47 zspot ∧ Blk W0 (w.heap.size + 1) 47 zspot ∧ Blk W0 (w.heap.size + 1 + 1) 4 #[.bool false] ∧ Below w.heap.size w W0 ∧ W0.heap.size = w.heap.size + 3 := by
  intro W0
  have k0 := ((Blk.new w 47 zspot).alloc (.cells zspot 47)).alloc (.cells #[.bool false] 4)
  have k1 := (Blk.new (w.alloc (.cells zspot 47)) 47 zspot).alloc (.cells #[.bool false] 4)
  have k2 := Blk.new ((w.alloc (.cells zspot 47)).alloc (.cells zspot 47)) 4 #[.bool false]
  simp only [World.size_alloc] at k1 k2
  exact ⟨k0, k1, k2, (((Below.refl _ w).alloc (Nat.le_refl _) _).alloc (by simp) _).alloc (by simp; omega) _, by simp [W0]⟩

set_option maxRecDepth 100000 in
set_option maxHeartbeats 1000000 in
theorem from_of {w : World} {a : Option Addr} {h : Nat} {M : Nat → Sl} {F : Nat → Nat → Nat} {L : Int → List (Nat × Nat)} (T : Tells w a h M F L) (pg : Int) (hpg : -9223372036854775808 ≤ pg ∧ pg < 9223372036854775808) :
    Calls Tryd.prog 23 #[.pointer a, .int .i64 pg] w fun e w' => e = .returned (.tuple #[.agg (fromC M F (leafs (L pg))), .bool (fromB (leafs (L pg)))]) ∧ Below w.heap.size w w' := by
  obtain ⟨i0, hi, hz0, hz1, hz2⟩ := info_parts infoSpot7
  have HT := Lib.hid T
  clear T
  obtain ⟨k0, k1, k2, kB, kS⟩ := from_cells w
  have j0 := sp_far k0 (show w.heap.size ≠ w.heap.size + 1 by omega) (.int .i64 0) (.bool false) (.bool false) (.bool false) (.bool false) (.int .i64 0)
  have j1 := sp_set k1 (.int .i64 0) (.bool false) (.bool false) (.bool false) (.bool false) (.int .i64 0)
  have j2 := sp_far k2 (show w.heap.size + 1 + 1 ≠ w.heap.size + 1 by omega) (.int .i64 0) (.bool false) (.bool false) (.bool false) (.bool false) (.int .i64 0)
  have jB := sp_below kB (show w.heap.size ≤ w.heap.size + 1 by omega) (.int .i64 0) (.bool false) (.bool false) (.bool false) (.bool false) (.int .i64 0)
  obtain ⟨W0, hW0⟩ : ∃ W0, ((w.alloc (.cells zspot 47)).alloc (.cells zspot 47)).alloc (.cells #[.bool false] 4) = W0 := ⟨_, rfl⟩
  rw [hW0] at k0 k1 k2 kB kS j0 j1 j2 jB
  have x0 := k1.at_ 0 _ rfl
  have x1 := k1.at_ 1 _ rfl
  have x2 := k1.at_ 2 _ rfl
  have x3 := k1.at_ 3 _ rfl
  have x4 := k1.at_ 4 _ rfl
  have x5 := k1.at_ 5 _ rfl
  have f0 := k1.frozen 0
  have f1 := k1.frozen 1
  have f2 := k1.frozen 2
  have f3 := k1.frozen 3
  have f4 := k1.frozen 4
  have f5 := k1.frozen 5
  have y0 := j2.at_ 0 _ rfl
  have y1 := j2.frozen 0
  have l0 := j0.far (p := ⟨w.heap.size + 1 + 1, 0, none⟩) (show w.heap.size ≠ w.heap.size + 1 + 1 by omega) (.bool false)
  have l1 := j1.far (p := ⟨w.heap.size + 1 + 1, 0, none⟩) (show w.heap.size + 1 ≠ w.heap.size + 1 + 1 by omega) (.bool false)
  have l2 := show Blk _ _ _ #[.bool false] from j2.set_ 0 (.bool false)
  have lB := jB.setCell (p := ⟨w.heap.size + 1 + 1, 0, none⟩) (show w.heap.size ≤ w.heap.size + 1 + 1 by omega) (.bool false)
  have HKK := Lib.hid (And.intro l0 (And.intro l1 (And.intro l2 lB)))
  unfold zspot at hW0 HKK
  clear k0 k1 k2 kB kS j0 j1 j2 jB l0 l1 l2 lB
  suffices H : ∀ n, CallsIn Fence.wide n Tryd.prog 23 #[.pointer a, .int .i64 pg] w fun e w' => e = .returned (.tuple #[.agg (fromC M F (leafs (L pg))), .bool (fromB (leafs (L pg)))]) ∧ Below w.heap.size w w' from callsIn_wide.1 (H 0)
  intro n
  refine callsIn_of_wp_marks Tryd.func23 rfl trivial ?_ rfl
  simp only [Tryd.ntmps23, List.size_toArray, List.length_cons, List.length_nil, Nat.reduceAdd, Nat.reduceSub, Array.replicate_succ, Array.replicate_zero, List.push_toArray, List.append_toArray, List.nil_append, List.cons_append]
  have hdd : ∀ k : Nat, (Fence.wide.depth.isSome = true → 1 ≤ k) := fun k h => by cases h
  gi_wp2
  refine wpIn_wide.2 (wp_scope_straight ((wpIn_wide (n := n)).1 ?_))
  gi_wp2
  refine wpIn_label ?_
  obtain ⟨W1, hW1⟩ : ∃ W1, ((((((W0.setCell ⟨w.heap.size + 1, 0, none⟩ (.int .i64 0)).setCell ⟨w.heap.size + 1, 1, none⟩ (.bool false)).setCell ⟨w.heap.size + 1, 2, none⟩ (.bool false)).setCell ⟨w.heap.size + 1, 3, none⟩ (.bool false)).setCell ⟨w.heap.size + 1, 4, none⟩ (.bool false)).setCell ⟨w.heap.size + 1, 5, none⟩ (.int .i64 0)).setCell ⟨w.heap.size + 1 + 1, 0, none⟩ (.bool false) = W1 := ⟨_, rfl⟩
  rw [hW1] at HKK ⊢
  clear x0 x1 x2 x3 x4 x5 f0 f1 f2 f3 f4 f5 y0 y1 hW1 hW0
  gi_wp2_with (refine ⟨trivial, hdd _, ?_⟩; gi_at_call 40; refine (callsIn_wide.2 (spots_any _ _ _)).mono ?_; rintro e v2 ⟨rfl, rfl⟩)
  try simp only [World.size_alloc]
  have hb1 := HKK.out.2.2.2.alloc HKK.out.2.2.2.size (.cells #[.pointer a] 33)
  have hb2 := hb1.alloc hb1.size (.cells #[.int .i64 pg] 3)
  have hc1 := (Blk.new W1 33 #[.pointer a]).alloc (.cells #[.int .i64 pg] 3)
  have hc2 := Blk.new (W1.alloc (.cells #[.pointer a] 33)) 3 #[.int .i64 pg]
  have g0 := (HKK.out.1.alloc (.cells #[.pointer a] 33)).alloc (.cells #[.int .i64 pg] 3)
  have g1 := (HKK.out.2.1.alloc (.cells #[.pointer a] 33)).alloc (.cells #[.int .i64 pg] 3)
  have g2 := (HKK.out.2.2.1.alloc (.cells #[.pointer a] 33)).alloc (.cells #[.int .i64 pg] 3)
  simp only [World.size_alloc] at hc1 hc2
  obtain ⟨V, hV⟩ : ∃ V, (W1.alloc (.cells #[.pointer a] 33)).alloc (.cells #[.int .i64 pg] 3) = V := ⟨_, rfl⟩
  rw [hV] at hb2 hc1 hc2 g0 g1 g2 ⊢
  have HSQ := Lib.hid (HT.out.spots P1 pg _ _ V hpg hb2 hc1 hc2 (fun b k t hq => ⟨hq.1, hq.2.1⟩))
  have hle : w.heap.size ≤ V.heap.size := hb2.size
  have hle1 : w.heap.size < V.heap.size := g0.lt
  clear hV hc1 hc2 hb1 HT HKK
  refine wpIn_named ?_
  intro T hT
  refine range_own (Pk := P1) (gf := 56) (lb := #[.pointer (some ⟨W1.heap.size, 0, none⟩), .pointer (some ⟨W1.heap.size + 1, 0, none⟩)]) (by rw [← hT]; rfl) (enters_of Tryd.func56 (by kernel_rfl) rfl)
    (fun _ => rfl) HSQ.out
    (fun pre U => pre = [] ∧ Blk U w.heap.size 47 #[.int .i64 0, .bool false, .bool false, .bool false, .bool false, .int .i64 0] ∧ Blk U (w.heap.size + 1) 47 #[.int .i64 0, .bool false, .bool false, .bool false, .bool false, .int .i64 0] ∧ Blk U (w.heap.size + 1 + 1) 4 #[.bool false] ∧ Below w.heap.size w U)
    (fun c pre U => c = .exit 0 ∧ ∃ x, pre = [x] ∧ Blk U w.heap.size 47 #[.int .i64 0, .bool false, .bool false, .bool false, .bool false, .int .i64 0] ∧ Blk U (w.heap.size + 1) 47 (spotL M F x).toArray ∧ Blk U (w.heap.size + 1 + 1) 4 #[.bool true] ∧ Below w.heap.size w U)
    (fun pre X Y row ⟨h0, h1, h2, h3, h4⟩ hg hr => ⟨h0, Blk.own1 _ _ _ _ () X Y row h1 hg hr, Blk.own1 _ _ _ _ () X Y row h2 hg hr, Blk.own1 _ _ _ _ () X Y row h3 hg hr, h4.grown hg h4.size (fun k e => Nat.le_trans hle (hr k e).1)⟩)
    (fun c pre X Y row ⟨h0, x, hx, h1, h2, h3, h4⟩ hg hr => ⟨h0, x, hx, Blk.own1 _ _ _ _ () X Y row h1 hg hr, Blk.own1 _ _ _ _ () X Y row h2 hg hr, Blk.own1 _ _ _ _ () X Y row h3 hg hr, h4.grown hg h4.size (fun k e => Nat.le_trans hle (hr k e).1)⟩)
    ⟨rfl, g0, g1, g2, hb2⟩
    (fun pre x a' U => (pre = [] ∧ Blk U w.heap.size 47 #[.int .i64 0, .bool false, .bool false, .bool false, .bool false, .int .i64 0] ∧ Blk U (w.heap.size + 1) 47 #[.int .i64 0, .bool false, .bool false, .bool false, .bool false, .int .i64 0] ∧ Blk U (w.heap.size + 1 + 1) 4 #[.bool false] ∧ Below w.heap.size w U) ∧ ∃ Bx, Blk U Bx 47 (spotL M F x).toArray ∧ a' = { tmps := ((T.setIfInBounds 13 (spotV M F x)).setIfInBounds 8 (.pointer (some ⟨Bx, 0, none⟩))), defers := [] })
    (fun pre x a' => fun _ X Y row ⟨⟨h0, h1, h2, h3, h4⟩, Bx, h5, h6⟩ hg hr => ⟨⟨h0, Blk.own1 _ _ _ _ () X Y row h1 hg hr, Blk.own1 _ _ _ _ () X Y row h2 hg hr, Blk.own1 _ _ _ _ () X Y row h3 hg hr, h4.grown hg h4.size (fun k e => Nat.le_trans hle (hr k e).1)⟩, Bx, Blk.own1 _ _ _ _ () X Y row h5 hg hr, h6⟩)
    ?assign ?body ?done ?stop
  case assign =>
    rintro m l2 pre x U K ⟨h0, h1, h2, h3, h4⟩ hlen hK
    have HK := Lib.hid hK
    have HI := Lib.hid (And.intro h0 (And.intro (h1.alloc (.cells (spotL M F x).toArray 47)) (And.intro (h2.alloc (.cells (spotL M F x).toArray 47)) (And.intro (h3.alloc (.cells (spotL M F x).toArray 47)) (h4.alloc h4.size (.cells (spotL M F x).toArray 47))))))
    clear hK h0 h1 h2 h3 h4 g0 g1 g2 hb2
    simp only [List.zip_toArray, List.zip_cons_cons, List.zip_nil_right, List.size_toArray, List.foldl_toArray', List.foldl_toArray, List.foldl_cons, List.foldl_nil]
    subst hT
    unfold spotV
    simp only [List.setIfInBounds_toArray, List.set_cons_succ, List.set_cons_zero]
    gi_wp2
    refine HK.out _ _ ((KeepsOthers.alloc _ _).from _) (KpP.alloc U _) ⟨HI.out, U.heap.size, Blk.new U _ _, ?_⟩
    rfl
  case body =>
    rintro m l2 pre x a' U hl2 ⟨⟨rfl, h1, h2, h3, h4⟩, Bx, bX, rfl⟩
    subst hT
    simp only [List.setIfInBounds_toArray, List.set_cons_succ, List.set_cons_zero]
    have HSL : Hid (spotL M F x = [.int .i64 ((x.2 * 8 ^ (4 - x.1) : Nat) : Int), .bool (ent M F x.1 x.2).h, .bool (ent M F x.1 x.2).w, .bool (ent M F x.1 x.2).c, .bool (ent M F x.1 x.2).o, .int .i64 (ent M F x.1 x.2).n]) := Lib.hid rfl
    rw [HSL.out] at bX
    unfold spotV
    generalize ((x.2 * 8 ^ (4 - x.1) : Nat) : Int) = A at *
    generalize ent M F x.1 x.2 = z at *
    obtain ⟨zh, zw, zc, zo, zn⟩ := z
    simp only at bX HSL ⊢
    have hsx := sp_set h2 (.int .i64 A) (.bool zh) (.bool zw) (.bool zc) (.bool zo) (.int .i64 zn)
    have hsf := sp_far h1 (show w.heap.size ≠ w.heap.size + 1 by omega) (.int .i64 A) (.bool zh) (.bool zw) (.bool zc) (.bool zo) (.int .i64 zn)
    have hsg := sp_far h3 (show w.heap.size + 1 + 1 ≠ w.heap.size + 1 by omega) (.int .i64 A) (.bool zh) (.bool zw) (.bool zc) (.bool zo) (.int .i64 zn)
    have hsb := sp_below h4 (show w.heap.size ≤ w.heap.size + 1 by omega) (.int .i64 A) (.bool zh) (.bool zw) (.bool zc) (.bool zo) (.int .i64 zn)
    have hsk := sp_ko U (w.heap.size + 1) (.int .i64 A) (.bool zh) (.bool zw) (.bool zc) (.bool zo) (.int .i64 zn)
    have b0 := bX.at_ 0 _ rfl
    have b1 := bX.at_ 1 _ rfl
    have b2 := bX.at_ 2 _ rfl
    have b3 := bX.at_ 3 _ rfl
    have b4 := bX.at_ 4 _ rfl
    have b5 := bX.at_ 5 _ rfl
    have c0 := (show Blk U (w.heap.size + 1) 47 #[.int .i64 0, .bool false, .bool false, .bool false, .bool false, .int .i64 0] from h2).at_ 0 _ rfl
    have c1 := (show Blk U (w.heap.size + 1) 47 #[.int .i64 0, .bool false, .bool false, .bool false, .bool false, .int .i64 0] from h2).at_ 1 _ rfl
    have c2 := (show Blk U (w.heap.size + 1) 47 #[.int .i64 0, .bool false, .bool false, .bool false, .bool false, .int .i64 0] from h2).at_ 2 _ rfl
    have c3 := (show Blk U (w.heap.size + 1) 47 #[.int .i64 0, .bool false, .bool false, .bool false, .bool false, .int .i64 0] from h2).at_ 3 _ rfl
    have c4 := (show Blk U (w.heap.size + 1) 47 #[.int .i64 0, .bool false, .bool false, .bool false, .bool false, .int .i64 0] from h2).at_ 4 _ rfl
    have c5 := (show Blk U (w.heap.size + 1) 47 #[.int .i64 0, .bool false, .bool false, .bool false, .bool false, .int .i64 0] from h2).at_ 5 _ rfl
    have f0 := h2.frozen 0
    have f1 := h2.frozen 1
    have f2 := h2.frozen 2
    have f3 := h2.frozen 3
    have f4 := h2.frozen 4
    have f5 := h2.frozen 5
    have d0 := hsg.at_ 0 _ rfl
    have d1 := hsg.frozen 0
    have hfin := show Blk _ _ _ #[.bool true] from hsg.set_ 0 (.bool true)
    have HF := Lib.hid (And.intro (hsf.far (p := ⟨w.heap.size + 1 + 1, 0, none⟩) (show w.heap.size ≠ w.heap.size + 1 + 1 by omega) (.bool true)) (And.intro (hsx.far (p := ⟨w.heap.size + 1 + 1, 0, none⟩) (show w.heap.size + 1 ≠ w.heap.size + 1 + 1 by omega) (.bool true)) (And.intro hfin (And.intro (hsb.setCell (p := ⟨w.heap.size + 1 + 1, 0, none⟩) (show w.heap.size ≤ w.heap.size + 1 + 1 by omega) (.bool true)) (hsk.trans (KeepsOthers.setCell _ ⟨w.heap.size + 1 + 1, 0, none⟩ (.bool true)))))))
    clear h1 h2 h3 h4 hsx hsf hsg hsb hsk hfin bX g0 g1 g2 hb2
    gi_wp2
    exact ⟨HF.out.2.2.2.2.from _, rfl, x, rfl, HF.out.1, by rw [HSL.out]; exact HF.out.2.1, HF.out.2.2.1, HF.out.2.2.2.1⟩
  case done =>
    rintro D ys U hD hys ⟨rfl, h0, h1, h2, hB⟩ hK
    have HY := Lib.hid (show fromC M F (leafs (L pg)) = zspot ∧ fromB (leafs (L pg)) = false by rw [← hys]; exact ⟨rfl, rfl⟩)
    unfold zspot at HY
    clear hys g0 g1 g2 hb2
    have c0 := (show Blk U (w.heap.size + 1) 47 #[.int .i64 0, .bool false, .bool false, .bool false, .bool false, .int .i64 0] from h1).at_ 0 _ rfl
    have c1 := (show Blk U (w.heap.size + 1) 47 #[.int .i64 0, .bool false, .bool false, .bool false, .bool false, .int .i64 0] from h1).at_ 1 _ rfl
    have c2 := (show Blk U (w.heap.size + 1) 47 #[.int .i64 0, .bool false, .bool false, .bool false, .bool false, .int .i64 0] from h1).at_ 2 _ rfl
    have c3 := (show Blk U (w.heap.size + 1) 47 #[.int .i64 0, .bool false, .bool false, .bool false, .bool false, .int .i64 0] from h1).at_ 3 _ rfl
    have c4 := (show Blk U (w.heap.size + 1) 47 #[.int .i64 0, .bool false, .bool false, .bool false, .bool false, .int .i64 0] from h1).at_ 4 _ rfl
    have c5 := (show Blk U (w.heap.size + 1) 47 #[.int .i64 0, .bool false, .bool false, .bool false, .bool false, .int .i64 0] from h1).at_ 5 _ rfl
    have d0 := h2.at_ 0 _ rfl
    have e0 := h0.frozen 0
    have e1 := h0.frozen 1
    have e2 := h0.frozen 2
    have e3 := h0.frozen 3
    have e4 := h0.frozen 4
    have e5 := h0.frozen 5
    have o0 := (show Blk U w.heap.size 47 #[.int .i64 0, .bool false, .bool false, .bool false, .bool false, .int .i64 0] from h0).at_ 0 _ rfl
    have o1 := (show Blk U w.heap.size 47 #[.int .i64 0, .bool false, .bool false, .bool false, .bool false, .int .i64 0] from h0).at_ 1 _ rfl
    have o2 := (show Blk U w.heap.size 47 #[.int .i64 0, .bool false, .bool false, .bool false, .bool false, .int .i64 0] from h0).at_ 2 _ rfl
    have o3 := (show Blk U w.heap.size 47 #[.int .i64 0, .bool false, .bool false, .bool false, .bool false, .int .i64 0] from h0).at_ 3 _ rfl
    have o4 := (show Blk U w.heap.size 47 #[.int .i64 0, .bool false, .bool false, .bool false, .bool false, .int .i64 0] from h0).at_ 4 _ rfl
    have o5 := (show Blk U w.heap.size 47 #[.int .i64 0, .bool false, .bool false, .bool false, .bool false, .int .i64 0] from h0).at_ 5 _ rfl
    have HF := Lib.hid (And.intro h0 (And.intro hB (show w.heap.size < D by have := h0.lt; have := hle1; omega)))
    clear h0 h1 h2 hB
    subst hT
    gi_wp2
    refine wpIn_wide.2 ?_
    go_region
    gi_wp2
    have hk2 := sp_heap hK (show D ≠ w.heap.size by have := HF.out.2.2; omega) (.int .i64 0) (.bool false) (.bool false) (.bool false) (.bool false) (.int .i64 0)
    have hr2 := sp_set (show Blk U w.heap.size 47 #[.int .i64 0, .bool false, .bool false, .bool false, .bool false, .int .i64 0] from HF.out.1) (.int .i64 0) (.bool false) (.bool false) (.bool false) (.bool false) (.int .i64 0)
    have hB2 := sp_below HF.out.2.1 (Nat.le_refl w.heap.size) (.int .i64 0) (.bool false) (.bool false) (.bool false) (.bool false) (.int .i64 0)
    generalize World.setCell _ _ _ = W5 at *
    have hk3 : W5.drew.heap[D]? = some (.deferred (some [])) := hk2
    refine ⟨by simp, .inl ⟨_, _, rfl, run_takeDeferred hk3, ?_⟩⟩
    refine ⟨_, results_cell_row_tmp rfl _ _ w.heap.size 47 _ (0, 0) _ rfl (Blk.grown (Blk.drew hr2) (grownBy_putObj' _ _ _) (fun e => by have := HF.out.2.2; cases e; omega)) Tryd.underlying47 rfl (by kernel_rfl), by rw [HY.out.1, HY.out.2]; rfl, ?_⟩
    exact (hB2.drew).grown (grownBy_putObj' _ _ _) hB2.size (fun k e => by have := HF.out.2.2; cases e; omega)
  case stop =>
    rintro D c pre U hD hpre ⟨rfl, x, rfl, h0, h1, h2, hB⟩ hK
    have hY : fromC M F (leafs (L pg)) = #[.int .i64 ((x.2 * 8 ^ (4 - x.1) : Nat) : Int), .bool (ent M F x.1 x.2).h, .bool (ent M F x.1 x.2).w, .bool (ent M F x.1 x.2).c, .bool (ent M F x.1 x.2).o, .int .i64 (ent M F x.1 x.2).n] ∧ fromB (leafs (L pg)) = true := by
      obtain ⟨t, ht⟩ := hpre
      rw [← ht]
      exact ⟨rfl, rfl⟩
    have HY := Lib.hid hY
    clear hY hpre g0 g1 g2 hb2
    rw [show (spotL M F x).toArray = #[.int .i64 ((x.2 * 8 ^ (4 - x.1) : Nat) : Int), .bool (ent M F x.1 x.2).h, .bool (ent M F x.1 x.2).w, .bool (ent M F x.1 x.2).c, .bool (ent M F x.1 x.2).o, .int .i64 (ent M F x.1 x.2).n] from rfl] at h1
    generalize ((x.2 * 8 ^ (4 - x.1) : Nat) : Int) = A at *
    generalize ent M F x.1 x.2 = z at *
    obtain ⟨zh, zw, zc, zo, zn⟩ := z
    simp only at h1 HY
    have c0 := (show Blk U (w.heap.size + 1) 47 #[.int .i64 A, .bool zh, .bool zw, .bool zc, .bool zo, .int .i64 zn] from h1).at_ 0 _ rfl
    have c1 := (show Blk U (w.heap.size + 1) 47 #[.int .i64 A, .bool zh, .bool zw, .bool zc, .bool zo, .int .i64 zn] from h1).at_ 1 _ rfl
    have c2 := (show Blk U (w.heap.size + 1) 47 #[.int .i64 A, .bool zh, .bool zw, .bool zc, .bool zo, .int .i64 zn] from h1).at_ 2 _ rfl
    have c3 := (show Blk U (w.heap.size + 1) 47 #[.int .i64 A, .bool zh, .bool zw, .bool zc, .bool zo, .int .i64 zn] from h1).at_ 3 _ rfl
    have c4 := (show Blk U (w.heap.size + 1) 47 #[.int .i64 A, .bool zh, .bool zw, .bool zc, .bool zo, .int .i64 zn] from h1).at_ 4 _ rfl
    have c5 := (show Blk U (w.heap.size + 1) 47 #[.int .i64 A, .bool zh, .bool zw, .bool zc, .bool zo, .int .i64 zn] from h1).at_ 5 _ rfl
    have d0 := h2.at_ 0 _ rfl
    have e0 := h0.frozen 0
    have e1 := h0.frozen 1
    have e2 := h0.frozen 2
    have e3 := h0.frozen 3
    have e4 := h0.frozen 4
    have e5 := h0.frozen 5
    have o0 := (show Blk U w.heap.size 47 #[.int .i64 0, .bool false, .bool false, .bool false, .bool false, .int .i64 0] from h0).at_ 0 _ rfl
    have o1 := (show Blk U w.heap.size 47 #[.int .i64 0, .bool false, .bool false, .bool false, .bool false, .int .i64 0] from h0).at_ 1 _ rfl
    have o2 := (show Blk U w.heap.size 47 #[.int .i64 0, .bool false, .bool false, .bool false, .bool false, .int .i64 0] from h0).at_ 2 _ rfl
    have o3 := (show Blk U w.heap.size 47 #[.int .i64 0, .bool false, .bool false, .bool false, .bool false, .int .i64 0] from h0).at_ 3 _ rfl
    have o4 := (show Blk U w.heap.size 47 #[.int .i64 0, .bool false, .bool false, .bool false, .bool false, .int .i64 0] from h0).at_ 4 _ rfl
    have o5 := (show Blk U w.heap.size 47 #[.int .i64 0, .bool false, .bool false, .bool false, .bool false, .int .i64 0] from h0).at_ 5 _ rfl
    have HF := Lib.hid (And.intro h0 (And.intro hB (show w.heap.size < D by have := h0.lt; have := hle1; omega)))
    clear h0 h1 h2 hB
    subst hT
    gi_wp2
    refine wpIn_wide.2 ?_
    go_region
    gi_wp2
    have hk2 := sp_heap hK (show D ≠ w.heap.size by have := HF.out.2.2; omega) (.int .i64 A) (.bool zh) (.bool zw) (.bool zc) (.bool zo) (.int .i64 zn)
    have hr2 := sp_set (show Blk U w.heap.size 47 #[.int .i64 0, .bool false, .bool false, .bool false, .bool false, .int .i64 0] from HF.out.1) (.int .i64 A) (.bool zh) (.bool zw) (.bool zc) (.bool zo) (.int .i64 zn)
    have hB2 := sp_below HF.out.2.1 (Nat.le_refl w.heap.size) (.int .i64 A) (.bool zh) (.bool zw) (.bool zc) (.bool zo) (.int .i64 zn)
    generalize World.setCell _ _ _ = W5 at *
    have hk3 : W5.drew.heap[D]? = some (.deferred (some [])) := hk2
    refine ⟨by simp, .inl ⟨_, _, rfl, run_takeDeferred hk3, ?_⟩⟩
    refine ⟨_, results_cell_row_tmp rfl _ _ w.heap.size 47 _ (0, 0) _ rfl (Blk.grown (Blk.drew hr2) (grownBy_putObj' _ _ _) (fun e => by have := HF.out.2.2; cases e; omega)) Tryd.underlying47 rfl (by kernel_rfl), by rw [HY.out.1, HY.out.2]; rfl, ?_⟩
    exact (hB2.drew).grown (grownBy_putObj' _ _ _) hB2.size (fun k e => by have := HF.out.2.2; cases e; omega)
end Go.Proofs.YtbidlabhekiijaaDoor

/- Package radix: tables. -/
namespace Go.Proofs.YtbidlabhekiijaaDoor
open Go.RowKit Go.Shelf
set_option linter.unusedVariables false
set_option linter.unusedSimpArgs false
attribute [local go_sem] Oper.semAt_some

/-- Those of what comes that are tables. -/
def stems (l : List (Nat × Nat)) : List (Nat × Nat) := l.filter fun x => decide (x.1 < 4)
theorem stems_yes (l : List (Nat × Nat)) {x : Nat × Nat} (h : x.1 < 4) : stems (l ++ [x]) = stems l ++ [x] := by simp [stems, h]
theorem stems_no (l : List (Nat × Nat)) {x : Nat × Nat} (h : 4 ≤ x.1) : stems (l ++ [x]) = stems l := by simp [stems, Nat.not_lt.2 h]
theorem stems_len (l : List (Nat × Nat)) : (stems l).length ≤ l.length := List.length_filter_le _ _
noncomputable def nodeL (M : Nat → Sl) (F : Nat → Nat → Nat) (root : Int) (l : List (Nat × Nat)) : List Value := .int .i64 root :: (stems l).map fun x => .int .i64 (ent M F x.1 x.2).n
theorem nodeL_yes (M : Nat → Sl) (F : Nat → Nat → Nat) (root : Int) (l : List (Nat × Nat)) {x : Nat × Nat} (h : x.1 < 4) : nodeL M F root (l ++ [x]) = nodeL M F root l ++ [.int .i64 (ent M F x.1 x.2).n] ∧ (stems (l ++ [x])).length = (stems l).length + 1 := by
  unfold nodeL
  rw [stems_yes l h]
  simp
theorem nodeL_no (M : Nat → Sl) (F : Nat → Nat → Nat) (root : Int) (l : List (Nat × Nat)) {x : Nat × Nat} (h : 4 ≤ x.1) : nodeL M F root (l ++ [x]) = nodeL M F root l ∧ (stems (l ++ [x])).length = (stems l).length := by
  unfold nodeL
  rw [stems_no l h]
  exact ⟨rfl, rfl⟩

/-- A row of two and more is not the block of one cell. -/
theorem own_two {w : World} {B e n k : Nat} {v c : Value} {xs : List Value} {t : TypeId} (h : w.ownsRow B e 1 v n xs) (hn : 2 ≤ n) (hb : Blk w k t #[c]) : v.ownBlock ≠ some k := by
  rcases h.2 with ⟨rfl, h0⟩ | ⟨g, cap, cur, rfl, _, hg, hc, _, hs, _⟩
  · omega
  · intro e'
    obtain rfl : g = k := by simpa [Value.ownBlock] using e'
    unfold Blk at hb
    rw [hb] at hg
    cases hg
    simp at hs
    omega

/-- What tables tells. -/
def NodesTold (w : World) (M : Nat → Sl) (F : Nat → Nat → Nat) (root : Int) (l : List (Nat × Nat)) (e : Ending) (w' : World) : Prop :=
  ∃ v, e = .returned v ∧ w'.ownsRow w.heap.size 3 1 v ((stems l).length + 1) (nodeL M F root l) ∧ Below w.heap.size w w'

theorem tables_none (a : Option Addr) (w : World) (hC : Hid (Calls Tryd.prog 58 #[.pointer a] w fun e w' => e = .returned (.bool true) ∧ w = w')) :
    Calls Tryd.prog 46 #[.pointer a] w fun e w' => e = .returned (.slice none 0 0) ∧ w = w' := by
  go_enter Tryd.func46, Tryd.ntmps46
  go_wp2_with (go_at_call 58; refine hC.out.mono ?_; rintro e v1 ⟨rfl, rfl⟩)
  go_ret
  exact ⟨rfl, rfl⟩

theorem tables_cells (w : World) (root : Int) : let W0 := (w.alloc (.cells #[.int .i64 root] 3)).alloc (.cells #[.slice (some ⟨w.heap.size, 0, none⟩) 1 1] 58)
    Blk W0 (w.heap.size + 1) 58 #[.slice (some ⟨w.heap.size, 0, none⟩) 1 1] ∧ W0.ownsRow w.heap.size 3 1 (.slice (some ⟨w.heap.size, 0, none⟩) 1 1) 1 [.int .i64 root] ∧ Below w.heap.size w W0 := by
  intro W0
  have k1 := Blk.new (w.alloc (.cells #[.int .i64 root] 3)) 58 #[.slice (some ⟨w.heap.size, 0, none⟩) 1 1]
  simp only [World.size_alloc] at k1
  have k0 := (Blk.new w 3 #[.int .i64 root]).alloc (.cells #[.slice (some ⟨w.heap.size, 0, none⟩) 1 1] 58)
  exact ⟨k1, ⟨rfl, .inr ⟨w.heap.size, 1, #[.int .i64 root], rfl, Nat.le_refl _, k0, Nat.le_refl _, by unfold maxLen; omega, rfl, rfl⟩⟩, ((Below.refl _ w).alloc (Nat.le_refl _) _).alloc (by simp) _⟩

set_option maxRecDepth 100000 in
set_option maxHeartbeats 1000000 in
theorem tables_of {w : World} {t p h g : Nat} {X : Pol} {root : Nat} {M : Nat → Sl} {F : Nat → Nat → Nat} {L : Int → List (Nat × Nat)} (a : Td w t p h g X (root : Nat)) (T : Tells w (some ⟨t, 0, none⟩) h M F L) (hL : (L 0).length ≤ 10000) :
    Calls Tryd.prog 46 #[.pointer (some ⟨t, 0, none⟩)] w (NodesTold w M F root (L 0)) := by
  unfold NodesTold
  obtain ⟨i0, hi, hz0, hz1, hz2⟩ := info_parts infoInt7
  have HT := Lib.hid T
  have HC := Lib.hid (closed_no a)
  have x0 := a.head.at_ 1 _ rfl
  have hlh := a.lts
  have hh : h < w.heap.size := hlh.2.2.1
  obtain ⟨k1, k2, k3⟩ := tables_cells w (root : Nat)
  clear T a hlh
  generalize ((root : Nat) : Int) = R at *
  suffices H : ∀ n, CallsIn Fence.wide n Tryd.prog 46 #[.pointer (some ⟨t, 0, none⟩)] w fun e w' => ∃ v, e = .returned v ∧ w'.ownsRow w.heap.size 3 1 v ((stems (L 0)).length + 1) (nodeL M F R (L 0)) ∧ Below w.heap.size w w' from callsIn_wide.1 (H 0)
  intro n
  refine callsIn_of_wp_marks Tryd.func46 rfl trivial ?_ rfl
  simp only [Tryd.ntmps46, List.size_toArray, List.length_cons, List.length_nil, Nat.reduceAdd, Nat.reduceSub, Array.replicate_succ, Array.replicate_zero, List.push_toArray, List.append_toArray, List.nil_append, List.cons_append]
  have hdd : ∀ k : Nat, (Fence.wide.depth.isSome = true → 1 ≤ k) := fun k h => by cases h
  gi_wp2_with (first
    | (refine ⟨trivial, hdd _, ?_⟩; gi_at_call 58; refine (callsIn_wide.2 HC.out).mono ?_; rintro e v1 ⟨rfl, rfl⟩)
    | (refine ⟨trivial, hdd _, ?_⟩; gi_at_call 57; refine (callsIn_wide.2 (stretches_any _ _ _)).mono ?_; rintro e v2 ⟨rfl, rfl⟩))
  try simp only [World.size_alloc]
  obtain ⟨W1, hW1⟩ : ∃ W1, (w.alloc (.cells #[.int .i64 R] 3)).alloc (.cells #[.slice (some ⟨w.heap.size, 0, none⟩) 1 1] 58) = W1 := ⟨_, rfl⟩
  have hs1 : W1.heap.size = w.heap.size + 1 + 1 := by rw [← hW1]; simp
  rw [hW1] at k1 k2 k3 ⊢
  have hb1 := k3.alloc k3.size (.cells #[.pointer (some ⟨t, 0, none⟩)] 33)
  have hb2 := hb1.alloc hb1.size (.cells #[.int .i64 0] 3)
  have hc1 := (Blk.new W1 33 #[.pointer (some ⟨t, 0, none⟩)]).alloc (.cells #[.int .i64 0] 3)
  have hc2 := Blk.new (W1.alloc (.cells #[.pointer (some ⟨t, 0, none⟩)] 33)) 3 #[.int .i64 0]
  have g1 := (k1.alloc (.cells #[.pointer (some ⟨t, 0, none⟩)] 33)).alloc (.cells #[.int .i64 0] 3)
  have hrow := own_below (own_below k2 ((Below.refl _ _).alloc (Nat.le_refl _) (.cells #[.pointer (some ⟨t, 0, none⟩)] 33))) ((Below.refl _ _).alloc (Nat.le_refl _) (.cells #[.int .i64 0] 3))
  simp only [World.size_alloc, hs1] at hc1 hc2
  try simp only [hs1]
  obtain ⟨V, hV⟩ : ∃ V, (W1.alloc (.cells #[.pointer (some ⟨t, 0, none⟩)] 33)).alloc (.cells #[.int .i64 0] 3) = V := ⟨_, rfl⟩
  rw [hV] at hb2 hc1 hc2 g1 hrow ⊢
  obtain ⟨b2, hb2d⟩ : ∃ b2, w.heap.size + 1 + 1 + 1 = b2 := ⟨_, rfl⟩
  rw [hb2d] at hc2 ⊢
  have HSQ := Lib.hid (HT.out (Q0 h b2) 0 _ _ V (by omega) hb2 hc1 hc2 (fun k t hq => hq))
  have hle : w.heap.size ≤ V.heap.size := hb2.size
  clear hV hc1 hb1 HT HC x0 k1 k2 k3 hW1 hs1
  have hsl := stems_len (L 0)
  refine wpIn_named ?_
  intro T hT
  refine range_own (Pk := Q0 h b2) (gf := 65) (lb := #[.pointer (some ⟨w.heap.size + 1 + 1, 0, none⟩), .pointer (some ⟨b2, 0, none⟩)]) (by rw [← hT]; rfl) (enters_of Tryd.func65 (by kernel_rfl) rfl)
    (fun _ => rfl) HSQ.out
    (fun pre U => ∃ v, Blk U (w.heap.size + 1) 58 #[v] ∧ U.ownsRow w.heap.size 3 1 v ((stems pre).length + 1) (nodeL M F R pre) ∧ v.ownBlock ≠ some b2 ∧ Blk U b2 3 #[.int .i64 0] ∧ Below w.heap.size w U)
    (fun c pre U => False)
    (fun pre X Y row ⟨v, h1, h2, h3, h4, h5⟩ hg hr => ⟨v, Blk.own1 _ _ _ _ () X Y row h1 hg hr, own_nc h2 hg (fun r e => (hr r e).2), h3, Blk.own1 _ _ _ _ () X Y row h4 hg hr, h5.grown hg h5.size (fun k e => Nat.le_trans hle (hr k e).1)⟩)
    (fun c => fun _ _ _ _ hs _ _ => hs)
    ⟨_, g1, hrow, by intro e; have e := Option.some.inj e; simp only at e; omega, hc2, hb2⟩
    (fun pre x a' U => (∃ v, Blk U (w.heap.size + 1) 58 #[v] ∧ U.ownsRow w.heap.size 3 1 v ((stems pre).length + 1) (nodeL M F R pre) ∧ v.ownBlock ≠ some b2 ∧ Blk U b2 3 #[.int .i64 0] ∧ Below w.heap.size w U) ∧ pre.length < (L 0).length ∧ ∃ Bx, Blk U Bx 105 (strCs M F x) ∧ a' = { tmps := ((T.setIfInBounds 14 (strV M F x)).setIfInBounds 4 (.pointer (some ⟨Bx, 0, none⟩))), defers := [] })
    (fun pre x a' => fun _ X Y row ⟨⟨v, h1, h2, h3, h4, h5⟩, h6, Bx, h7, h8⟩ hg hr => ⟨⟨v, Blk.own1 _ _ _ _ () X Y row h1 hg hr, own_nc h2 hg (fun r e => (hr r e).2), h3, Blk.own1 _ _ _ _ () X Y row h4 hg hr, h5.grown hg h5.size (fun k e => Nat.le_trans hle (hr k e).1)⟩, h6, Bx, Blk.own1 _ _ _ _ () X Y row h7 hg hr, h8⟩)
    ?assign ?body ?done ?stop
  case assign =>
    rintro m l2 pre x U K ⟨v, h1, h2, h3, h4, h5⟩ hlen hK
    have HK := Lib.hid hK
    have HI := Lib.hid (show ∃ v, Blk (U.alloc (.cells (strCs M F x) 105)) (w.heap.size + 1) 58 #[v] ∧ (U.alloc (.cells (strCs M F x) 105)).ownsRow w.heap.size 3 1 v ((stems pre).length + 1) (nodeL M F R pre) ∧ v.ownBlock ≠ some b2 ∧ Blk (U.alloc (.cells (strCs M F x) 105)) b2 3 #[.int .i64 0] ∧ Below w.heap.size w (U.alloc (.cells (strCs M F x) 105)) from
      ⟨v, h1.alloc _, own_below h2 ((Below.refl _ _).alloc (Nat.le_refl _) _), h3, h4.alloc _, h5.alloc h5.size _⟩)
    clear hK h1 h2 h3 h4 h5 g1 hrow hc2 hb2
    simp only [List.zip_toArray, List.zip_cons_cons, List.zip_nil_right, List.size_toArray, List.foldl_toArray', List.foldl_toArray, List.foldl_cons, List.foldl_nil]
    subst hT
    unfold strV
    simp only [List.setIfInBounds_toArray, List.set_cons_succ, List.set_cons_zero]
    gi_wp2
    refine HK.out _ _ ((KeepsOthers.alloc _ _).from _) (KpP.alloc U _) ⟨HI.out, hlen, U.heap.size, Blk.new U _ _, ?_⟩
    rfl
  case body =>
    rintro m l2 pre x a' U hl2 ⟨⟨v, h1, h2, h3, h4, h5⟩, hlen, Bx, bX, rfl⟩
    subst hT
    simp only [List.setIfInBounds_toArray, List.set_cons_succ, List.set_cons_zero]
    have y0 := h1.at_ 0 _ rfl
    have f0 := h1.frozen 0
    have hny := @nodeL_yes M F R pre x
    have hnn := @nodeL_no M F R pre x
    have hsl := stems_len pre
    have hn1 : w.heap.size + 1 < U.heap.size := h1.lt
    have HH := Lib.hid (And.intro h1 (And.intro h2 (And.intro h3 (And.intro h4 h5))))
    unfold strCs at bX
    unfold strV
    have hp1 : 4 ≤ x.1 → 8 ^ (4 - x.1) = 1 := fun h => by rw [Nat.sub_eq_zero_of_le h]
    have hp2 : x.1 < 4 → 1 < 8 ^ (4 - x.1) := fun h => by
      have := Nat.pow_le_pow_right (n := 8) (by omega) (show 1 ≤ 4 - x.1 by omega)
      omega
    have HNY := Lib.hid (And.intro hny hnn)
    clear h1 h2 h3 h4 h5 g1 hrow hc2 hb2 hny hnn
    generalize ((x.2 * 8 ^ (4 - x.1) : Nat) : Int) = A at *
    generalize 8 ^ (4 - x.1) = Pg at *
    generalize ent M F x.1 x.2 = z at *
    obtain ⟨zh, zw, zc, zo, zn⟩ := z
    simp only at bX HNY ⊢
    have b1 := bX.at_ 1 _ rfl
    have b6 := bX.at_ 6 _ rfl
    clear bX
    by_cases h4 : x.1 < 4
    · have hZ := hp2 h4
      have HR0 := Lib.hid (HNY.out.1 h4)
      have hz : (1 : Int) < ((Pg : Nat) : Int) := by omega
      clear hp1 hp2 HNY
      generalize ((Pg : Nat) : Int) = Z at *
      have hPe : ∀ (k : Nat) (cs : Array Value), Q0 h b2 k 3 → Blk (U.alloc (.cells #[.int .i64 zn] 3)) k 3 cs → v.ownBlock ≠ some k := by
        intro k cs hq _
        rcases hq.2.2.2 rfl with e | e
        · rw [e]; exact HH.out.2.2.1
        · rw [e]
          intro e2
          have := own_ge HH.out.2.1 e2
          omega
      have HPE := Lib.hid hPe
      clear hPe
      have HOWN := Lib.hid (own_below HH.out.2.1 ((Below.refl _ _).alloc (Nat.le_refl _) (.cells #[.int .i64 zn] 3)))
      gi_wp2_with (gi_at_builtin; refine Hid.out ?_)
      refine Lib.hid ?_
      refine wpListIn_append_own _ rfl _ _ 58 rfl w.heap.size 3 i0 _ 1 8 Tryd.underlying58 hi hz0 hz1 hz2 rfl (by decide) v ((stems pre).length + 1) _ rfl HOWN.out ⟨U.heap.size, 0, none⟩ 1 1 [.int .i64 zn] rfl (by rfl)
        (fun j u hj => by rw [show (⟨U.heap.size, 0, none⟩ : Addr).add j = ⟨U.heap.size, j, none⟩ by unfold Addr.add; split <;> simp_all]; exact (Blk.new U 3 #[.int .i64 zn]).at_ j u (by simpa using hj))
        (fun u hu => by simp at hu; rcases hu with rfl; rfl) (by unfold maxLen; omega) (by omega) (by simp; omega) ?_
      intro v' w1 hown1 hgrow1 _; obtain ⟨A', c', rfl⟩ := own_sl7 hown1
      have hb3 := (HH.out.2.2.2.1.alloc (.cells #[.int .i64 zn] 3)).grown hgrow1 (fun e => HH.out.2.2.1 e.symm)
      have HN2 := Lib.hid (And.intro (own_two hown1 (by omega) hb3) (hb3.far (p := ⟨w.heap.size + 1, 0, none⟩) (show b2 ≠ w.heap.size + 1 by omega) (.slice A' ((stems pre).length + 1 + 1) c')))
      have HR := Lib.hid (app_round (P := Q0 h b2) HH.out.2.1 hgrow1 hown1 HH.out.1 (by decide) (fun h => h.2.2.1 rfl) HPE.out HH.out.2.2.2.2 (Nat.le_refl _) (Nat.le_succ _) (Nat.le_refl _))
      have z0 : w1.cell? ⟨w.heap.size + 1, 0, none⟩ = some v := (((HH.out.1.alloc _).grown hgrow1 (fun e => Blk.not_row (HH.out.1.alloc _) (by decide) HOWN.out e.symm))).at_ 0 _ rfl
      have z1 := (((HH.out.1.alloc _).grown hgrow1 (fun e => Blk.not_row (HH.out.1.alloc _) (by decide) HOWN.out e.symm))).frozen 0
      clear hown1 hgrow1 hb3
      gi_wp2
      refine ⟨HR.out.1.from _, HR.out.2.1, _, HR.out.2.2.1, ?_, HN2.out.1, HN2.out.2, HR.out.2.2.2.2⟩
      rw [HR0.out.1, HR0.out.2]
      exact HR.out.2.2.2.1
    · have hZ := hp1 (by omega)
      subst hZ
      have HR0 := Lib.hid (HNY.out.2 (by omega))
      clear hp1 hp2 HNY
      simp only [show ((1 : Nat) : Int) = 1 from rfl] at b1 ⊢
      gi_wp2_with (with_reducible refine And.intro none_fn ?_)
      refine ⟨KeepsFrom.refl _ _, KpP.refl _, v, HH.out.1, ?_, HH.out.2.2.1, HH.out.2.2.2.1, HH.out.2.2.2.2⟩
      rw [HR0.out.1, HR0.out.2]
      exact HH.out.2.1
  case done =>
    rintro D ys U hD rfl ⟨v, h1, h2, h3, h4, h5⟩ hK
    have y0 := h1.at_ 0 _ rfl
    have HH := Lib.hid (And.intro h2 h5)
    clear h1 h2 h3 h4 h5
    subst hT
    gi_wp2
    refine ⟨by simp, .inl ⟨_, _, rfl, run_takeDeferred hK, ?_⟩⟩
    exact ⟨_, results_tmp rfl _ _ _, v, rfl, own_nc HH.out.1 (grownBy_putObj' _ _ _) (fun r e => by cases e; exact ⟨_, hK, rfl⟩), HH.out.2.grown (grownBy_putObj' _ _ _) HH.out.2.size (fun k e => by cases e; omega)⟩
  case stop =>
    rintro D c pre U hD hpre h1 hK
    exact h1.elim
end Go.Proofs.YtbidlabhekiijaaDoor
