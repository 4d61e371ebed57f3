/- Package region: what Cut puts. -/
import Derived.Test.YtmknkdfdkanijaaUH
namespace Go.Proofs.Ytmknkdfdkanijaa
open Go.RowKit Go.ChangeShapes Go.WideShapes Go.Deep
set_option linter.unusedVariables false
set_option linter.unusedSimpArgs false

/-- The closure that puts. -/
abbrev putVal (tb : Nat) : Value := .func (.func 41) #[] #[.pointer (some ⟨tb, 0, none⟩)]
theorem Asc.len {l : List Rg} (h : Asc l) : l.length ≤ 4096 := by
  have key : ∀ (l : List Rg) (b : Int), Asc l → (∀ r ∈ l, b ≤ r.f) → b ≤ 4096 → (l.length : Int) ≤ 4096 - b := by
    intro l
    induction l with
    | nil => intro b _ _ hb; simp; omega
    | cons r l ih =>
      intro b h hb h4
      have h1 := h.head.ft
      have h2 := h.head.t
      have h3 := hb r (by simp)
      have h5 := ih r.t h.tail (fun q hq => h.ahead q hq) h2
      simp only [List.length_cons]
      omega
  have := key l 0 h (fun r hr => (h.may r hr).f) (by omega)
  omega
/-- Put while a call goes over regions of its own making. -/
theorem PutI.fresh {x : World} {B tb : Nat} {A : Option Addr} {c : Nat} {L : List Rg} {cs : Array Value} {N : Nat} (h : Told (x.alloc (.cells cs 29)) B tb A c L) (hN : ∀ g, (Value.slice A L.length c).ownBlock = some g → g < N) (ht : tb < N) (hx : N < x.heap.size) :
    PutI (x.alloc (.cells cs 29)) (x.alloc (.cells cs 29)) B tb (fun k => k = N ∨ k = x.heap.size) A c L :=
  ⟨h, Below.refl _ _, fun k e => by
    refine ⟨?_, ?_, rfl, fun e2 => ?_⟩
    · simp
      rcases e with rfl | rfl <;> omega
    · rcases e with rfl | rfl <;> omega
    · have := hN _ e2
      rcases e with rfl | rfl <;> omega⟩
theorem rg_new (x : World) (m : List Rg) (hw : ∀ r ∈ m, r.Wf) : RgRow (x.alloc (.cells (rgCells m).toArray 29)) (some ⟨x.heap.size, 0, none⟩) m := fun i hi => by
  refine ⟨_, rfl, by simp, fun j hj => ?_, hw _ (List.getElem_mem hi)⟩
  have e : (⟨x.heap.size, 0, none⟩ : Addr).add (i * 6 + j) = ⟨x.heap.size, i * 6 + j, none⟩ := by unfold Addr.add; split <;> simp_all
  rw [e, (Blk.new x 29 (rgCells m).toArray).cell]
  rw [← rgCells_at m i hi j hj]
  simp
theorem Rg.Wf.part {r : Rg} (h : r.Wf) (hb : r.Bd) {a b : Int} (ha : 0 ≤ a ∧ a ≤ 1099511627776) (hb2 : 0 ≤ b ∧ b ≤ 1099511627776) : (r.part a b).Wf := by
  obtain ⟨w0, w1, w2, w3, w4, w5⟩ := h
  refine ⟨wf64 (by show _ ≤ a; omega) (by show a ≤ _; omega), wf64 (by show _ ≤ b; omega) (by show b ≤ _; omega), w2, w3, w4, ?_⟩
  show (Lit.int .i64 (r.pgAt a)).wf = true
  unfold Rg.pgAt
  split
  · rename_i hk
    have := hb.pg hk
    have := hb.f
    exact wf64 (by omega) (by omega)
  · exact w5
theorem cutR_ok {r : Rg} (hw : r.Wf) (hm : r.May) {a b : Int} (ha : 0 ≤ a ∧ a ≤ 1099511627776) (hb : 0 ≤ b ∧ b ≤ 1099511627776) : PutOk (cutR a b r) := by
  have := hm.f
  have := hm.ft
  have := hm.t
  intro q hq
  unfold cutR at hq
  simp at hq
  rcases hq with rfl | rfl
  · refine ⟨hw.part hm.bd (by omega) (by omega), fun h => ?_⟩
    have h : r.f < min r.t a := h
    exact (hm.part_may (Int.le_refl _) h (by omega)).bd
  · refine ⟨hw.part hm.bd (by omega) (by omega), fun h => ?_⟩
    have h : max r.f b < r.t := h
    exact (hm.part_may (by omega) h (Int.le_refl _)).bd
/-- What a closure that fills did. -/
def Filled (v : World) (B tb : Nat) (M : List Rg) (e : Ending) (v' : World) : Prop := e = .returned (.tuple #[]) ∧ ∃ A' c', Told v' B tb A' c' (putAll [] M) ∧ Below B v v'

set_option maxRecDepth 100000 in
set_option maxHeartbeats 6400000 in
theorem cutFill_any (l : List Rg) (A0 : Option Addr) (n c0 : Nat) (a b : Int) (v : World) (B tb : Nat) (A : Option Addr) (c bl bf bt : Nat) (hn : l.length = n) (hT : Told v B tb A c []) (hl : RgRow v A0 l) (hA0 : ∀ ad, A0 = some ad → ad.block < B) (hasc : Asc l)
    (h1 : Blk v bl 25 #[.slice A0 n c0]) (h2 : Blk v bf 3 #[.int .i64 a]) (h3 : Blk v bt 3 #[.int .i64 b]) (h4 : bl < B ∧ bf < B ∧ bt < B) (ha : 0 ≤ a ∧ a ≤ 1099511627776) (hb : 0 ≤ b ∧ b ≤ 1099511627776) :
    Calls Try.prog 32 #[putVal tb, .pointer (some ⟨bl, 0, none⟩), .pointer (some ⟨bf, 0, none⟩), .pointer (some ⟨bt, 0, none⟩)] v (Filled v B tb (l.flatMap (cutR a b))) := by
  have hlen := hasc.len
  have HT := Lib.hid hT
  have HN := Lib.hid hn
  have HASC := Lib.hid hasc
  have HL := Lib.hid (fun (u : World) (hu : Below B v u) => show RgRow u A0 l from hl.same hu.size fun ad e => hu.block _ (hA0 ad e))
  have HBX := Lib.hid (fun (u : World) (hu : Below B v u) => show u.cell? ⟨bl, 0, none⟩ = some (.slice A0 n c0) ∧ u.cell? ⟨bf, 0, none⟩ = some (.int .i64 a) ∧ u.cell? ⟨bt, 0, none⟩ = some (.int .i64 b) from ⟨(h1.below hu h4.1).at_ 0 _ rfl, (h2.below hu h4.2.1).at_ 0 _ rfl, (h3.below hu h4.2.2).at_ 0 _ rfl⟩)
  obtain ⟨z1, z2, z3⟩ := HBX.out v (Below.refl _ _)
  have hn2 : n ≤ 4096 := by omega
  unfold Filled
  clear hT hn hasc hl hA0 h1 h2 h3 h4 hlen
  go_enter Try.func32, Try.ntmps32
  go_wp2
  clear z1 z2 z3
  go_loopw [9] (fun i wr => ∃ (k : Nat) (A' : Option Addr) (c' : Nat), k ≤ n ∧ i = .int .i64 k ∧ Hid (Told wr B tb A' c' (putAll [] ((l.take k).flatMap (cutR a b))) ∧ Below B v wr)) (fun i _ => n - (intOf i).toNat)
  case atStart => exact ⟨0, A, c, Nat.zero_le _, rfl, Lib.hid ⟨HT.out, Below.refl _ _⟩⟩
  case round =>
    clear HT
    obtain ⟨k, A1, c1, hk, rfl, HI⟩ := hrel
    by_cases hlt : k < n
    · have hkl : k < l.length := by rw [HN.out]; exact hlt
      obtain ⟨ad, hA0, hblt, hwf, x0, x1, x2, x3, x4, x5⟩ := (HL.out _ HI.out.2).at_ hkl
      have hmay := HASC.out.may _ (List.getElem_mem hkl)
      have htk : putAll [] ((l.take (k + 1)).flatMap (cutR a b)) = putAll (putAll [] ((l.take k).flatMap (cutR a b))) (cutR a b l[k]) := by
        rw [List.take_succ_eq_append_getElem hkl, List.flatMap_append, putAll_append]; simp
      have hlen1 : (putAll [] ((l.take k).flatMap (cutR a b))).length ≤ 8192 := by
        have h1 := putAll_length [] ((l.take k).flatMap (cutR a b))
        have h2 : ((l.take k).flatMap (cutR a b)).length = (l.take k).length * 2 := by
          generalize l.take k = u
          induction u with
          | nil => rfl
          | cons x u ih => rw [List.flatMap_cons, List.length_append, ih]; simp [cutR]; omega
        rw [h2, List.length_take] at h1
        simp at h1
        omega
      obtain ⟨r, hr⟩ : ∃ r, l[k] = r := ⟨_, rfl⟩
      rw [hr] at x0 x1 x2 x3 x4 x5 hwf hmay htk
      obtain ⟨L1, hL1⟩ : ∃ L1, putAll [] ((l.take k).flatMap (cutR a b)) = L1 := ⟨_, rfl⟩
      rw [hL1] at htk HI hlen1
      have hok := cutR_ok hwf hmay ha hb
      have hP1 := fun u => part_any r r.f (min r.t a) u (fun hk => by have := hmay.bd.f; have := hmay.bd.pg hk; omega)
      have hP2 := fun u => part_any r (max r.f b) r.t u (fun hk => by have := hmay.bd.f; have := hmay.bd.pg hk; omega)
      obtain ⟨mn, hmn2⟩ : ∃ m, min r.t a = m := ⟨_, rfl⟩
      obtain ⟨mx, hmx2⟩ : ∃ m, max r.f b = m := ⟨_, rfl⟩
      have hcr : cutR a b r = [r.part r.f mn, r.part mx r.t] := by unfold cutR; rw [hmn2, hmx2]
      rw [hmn2] at hP1
      rw [hmx2] at hP2
      have hmx3 : max b r.f = mx := by rw [← hmx2]; omega
      have hmn3 : min a r.t = mn := by rw [← hmn2]; omega
      obtain ⟨q1, hq1⟩ : ∃ q, r.part r.f mn = q := ⟨_, rfl⟩
      obtain ⟨q2, hq2⟩ : ∃ q, r.part mx r.t = q := ⟨_, rfl⟩
      rw [hq1, hq2] at hcr
      rw [hq1] at hP1
      rw [hq2] at hP2
      rw [hcr] at htk hok
      obtain ⟨W1, hW1⟩ : ∃ W1, wr.alloc (.cells r.cs 29) = W1 := ⟨_, rfl⟩
      have hsz : W1.heap.size = wr.heap.size + 1 := by rw [← hW1]; simp
      have hBW : Below B wr W1 := by rw [← hW1]; exact (Below.refl _ _).alloc (by have := HI.out.1.lo; have := HI.out.1.box.lt; omega) _
      have hTW : Told W1 B tb A1 c1 L1 := by rw [← hW1]; exact HI.out.1.below ((Below.refl _ _).alloc (Nat.le_refl _) _)
      have hbr : Blk W1 wr.heap.size 29 r.cs := by rw [← hW1]; exact Blk.new _ _ _
      have hown : ∀ g, (Value.slice A1 L1.length c1).ownBlock = some g → g < wr.heap.size := fun g hg => (own_loU HI.out.1.row hg).2
      have htb : tb < wr.heap.size := HI.out.1.box.lt
      have hlo : B ≤ wr.heap.size := by have := HI.out.1.lo; omega
      have HPUT := Lib.hid (fun (x : World) (hx0 : Below W1.heap.size W1 x) =>
        show Calls Try.prog 41 #[.slice (some ⟨x.heap.size, 0, none⟩) 2 2, .pointer (some ⟨tb, 0, none⟩)] (x.alloc (.cells #[.int .i64 q1.f, .int .i64 q1.t, .int .i64 q1.p, .int .i64 q1.k, .int .i64 q1.fl, .int .i64 q1.pg, .int .i64 q2.f, .int .i64 q2.t, .int .i64 q2.p, .int .i64 q2.k, .int .i64 q2.fl, .int .i64 q2.pg] 29))
          (fun e w' => e = .returned (.tuple #[]) ∧ ∃ A' c', Hid (Told w' B tb A' c' (putAll [] ((l.take (k + 1)).flatMap (cutR a b))) ∧ Below B v w') ∧ w'.cell? ⟨wr.heap.size, 0, none⟩ = some (.int .i64 r.f) ∧ w'.cell? ⟨wr.heap.size, 1, none⟩ = some (.int .i64 r.t) ∧ w'.cell? ⟨wr.heap.size, 2, none⟩ = some (.int .i64 r.p) ∧ w'.cell? ⟨wr.heap.size, 3, none⟩ = some (.int .i64 r.k) ∧ w'.cell? ⟨wr.heap.size, 4, none⟩ = some (.int .i64 r.fl) ∧ w'.cell? ⟨wr.heap.size, 5, none⟩ = some (.int .i64 r.pg) ∧ w'.cell? ⟨bf, 0, none⟩ = some (.int .i64 a) ∧ w'.cell? ⟨bt, 0, none⟩ = some (.int .i64 b)) from by
        have hxs := hx0.size
        have hx := hx0.alloc hxs (.cells #[.int .i64 q1.f, .int .i64 q1.t, .int .i64 q1.p, .int .i64 q1.k, .int .i64 q1.fl, .int .i64 q1.pg, .int .i64 q2.f, .int .i64 q2.t, .int .i64 q2.p, .int .i64 q2.k, .int .i64 q2.fl, .int .i64 q2.pg] 29)
        have hT2 := hTW.below hx
        refine (put_any [q1, q2] L1 _ 2 2 _ B tb _ A1 c1 rfl (PutI.fresh (N := wr.heap.size) hT2 hown htb (by omega)) (fun _ ad e => by cases e; exact .inr rfl) (rg_new x [q1, q2] (fun q hq => (hok q hq).1)) hok (by simp; omega)).mono ?_
        rintro e w' ⟨h1, A', c', h2⟩
        have hbv := (HI.out.2.trans hBW).trans ((hx.mono (by omega)).trans h2.b)
        have hb9 : Blk w' wr.heap.size 29 r.cs := (h2.z wr.heap.size (.inl rfl)).2.2.1.trans (hbr.below hx hbr.lt)
        obtain ⟨y0, y1, y2, y3, y4, y5⟩ := hb9.six
        obtain ⟨-, z2, z3⟩ := HBX.out w' hbv
        exact ⟨h1, A', c', Lib.hid ⟨by rw [htk]; exact h2.t, hbv⟩, y0, y1, y2, y3, y4, y5, z2, z3⟩)
      have HS := Lib.hid (fun (u : World) (hu : Below W1.heap.size W1 u) => show u.cell? ⟨wr.heap.size, 0, none⟩ = some (.int .i64 r.f) ∧ u.cell? ⟨wr.heap.size, 1, none⟩ = some (.int .i64 r.t) ∧ u.cell? ⟨wr.heap.size, 2, none⟩ = some (.int .i64 r.p) ∧ u.cell? ⟨wr.heap.size, 3, none⟩ = some (.int .i64 r.k) ∧ u.cell? ⟨wr.heap.size, 4, none⟩ = some (.int .i64 r.fl) ∧ u.cell? ⟨wr.heap.size, 5, none⟩ = some (.int .i64 r.pg) ∧ u.cell? ⟨bf, 0, none⟩ = some (.int .i64 a) ∧ u.cell? ⟨bt, 0, none⟩ = some (.int .i64 b) from by
        obtain ⟨y0, y1, y2, y3, y4, y5⟩ := (hbr.below hu hbr.lt).six
        obtain ⟨-, z2, z3⟩ := HBX.out u ((HI.out.2.trans hBW).trans (hu.mono (by omega)))
        exact ⟨y0, y1, y2, y3, y4, y5, z2, z3⟩)
      obtain ⟨rf, rt, rp, rk, rfl', rpg⟩ := r
      obtain ⟨f1, t1, p1, k1, l1, g1⟩ := q1
      obtain ⟨f2, t2, p2, k2, l2, g2⟩ := q2
      simp only at x0 x1 x2 x3 x4 x5 HS HPUT hP1 hP2 hmn2 hmx2 hmn3 hmx3
      unfold Rg.cs at hW1 hP1 hP2
      simp only at hW1 hP1 hP2
      have HW1 := Lib.hid hW1
      have HP1 := Lib.hid hP1
      have HP2 := Lib.hid hP2
      have HD1 := Lib.hid (show ∀ u x, Below W1.heap.size W1 u → Below u.heap.size u x → Below W1.heap.size W1 x from fun u x h1 h2 => h1.trans (h2.mono h1.size))
      clear hW1 hP1 hP2 htk hok hcr hq1 hq2 hL1 hr hkl hmay hwf hsz hBW hTW hbr hown htb hlo hlen1
      subst hA0
      have hk0 : (0 : Int) ≤ (k : Int) := by omega
      have hk1 : (k : Int) < (n : Int) := by omega
      go_upto_region 3 with fail
      rw [HW1.out]
      obtain ⟨y0, y1, y2, y3, y4, y5, y6, y7⟩ := HS.out W1 (Below.refl _ _)
      have HX := Lib.hid (Below.refl W1.heap.size W1)
      go_region_held3 (fun u => u.cell? ⟨wr.heap.size, 0, none⟩ = some (.int .i64 rf) ∧ u.cell? ⟨wr.heap.size, 1, none⟩ = some (.int .i64 rt) ∧ u.cell? ⟨wr.heap.size, 2, none⟩ = some (.int .i64 rp) ∧ u.cell? ⟨wr.heap.size, 3, none⟩ = some (.int .i64 rk) ∧ u.cell? ⟨wr.heap.size, 4, none⟩ = some (.int .i64 rfl') ∧ u.cell? ⟨wr.heap.size, 5, none⟩ = some (.int .i64 rpg) ∧ u.cell? ⟨bf, 0, none⟩ = some (.int .i64 a) ∧ u.cell? ⟨bt, 0, none⟩ = some (.int .i64 b))
        (first | exact ⟨y0, y1, y2, y3, y4, y5, y6, y7⟩ | exact HS.out _ (Below.refl _ _) | exact HS.out _ ((Below.refl _ _).drew) | exact HS.out _ (HX.out.alloc HX.out.size _))
        (first
        | (go_at_call 33; with_reducible refine (HP1.out _).mono ?_; rintro e x ⟨rfl, hb⟩; have hx := (show Below W1.heap.size W1 x from by first | exact HD1.out _ _ HX.out hb | exact HD1.out _ _ HX.out.drew hb); clear y0 y1 y2 y3 y4 y5 y6 y7 HX; have HX := Lib.hid hx; obtain ⟨y0, y1, y2, y3, y4, y5, y6, y7⟩ := HS.out x hx; clear hb hx)
        | (go_at_call 33; with_reducible refine (HP2.out _).mono ?_; rintro e x ⟨rfl, hb⟩; have hx := (show Below W1.heap.size W1 x from by first | exact HD1.out _ _ HX.out hb | exact HD1.out _ _ HX.out.drew hb); clear y0 y1 y2 y3 y4 y5 y6 y7 HX; have HX := Lib.hid hx; obtain ⟨y0, y1, y2, y3, y4, y5, y6, y7⟩ := HS.out x hx; clear hb hx)
        | (go_at_call 41; (with_reducible first | refine (HPUT.out _ HX.out).mono ?_ | refine (HPUT.out _ HX.out.drew).mono ?_); rintro e x ⟨rfl, A', c', HF, hcl⟩; clear y0 y1 y2 y3 y4 y5 y6 y7 HX; obtain ⟨y0, y1, y2, y3, y4, y5, y6, y7⟩ := hcl))
      all_goals
        go_wp2
        go_roundw
        case rel => exact ⟨k + 1, A', c', by omega, by go_num, HF⟩
        case measure => simp [intOf]; omega
    · obtain rfl : k = n := by omega
      go_wp2
      go_end0
      have h1 : l.take k = l := by rw [List.take_of_length_le]; rw [HN.out]; exact Nat.le_refl _
      have HI1 := HI.out
      rw [h1] at HI1
      exact ⟨rfl, A1, c1, HI1⟩
end Go.Proofs.Ytmknkdfdkanijaa
