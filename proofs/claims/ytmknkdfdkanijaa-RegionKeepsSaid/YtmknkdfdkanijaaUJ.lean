/- Package region: what Protect puts. -/
import Derived.Test.YtmknkdfdkanijaaUI
namespace Go.Proofs.Ytmknkdfdkanijaa
open Go.RowKit Go.ChangeShapes Go.WideShapes Go.Deep
set_option linter.unusedVariables false
set_option linter.unusedSimpArgs false

theorem proR_ok {r : Rg} (hw : r.Wf) (hm : r.May) {a b c : Int} (ha : 0 ≤ a ∧ a ≤ 1099511627776) (hb : 0 ≤ b ∧ b ≤ 1099511627776) (hc : 0 ≤ c ∧ c ≤ 7) : PutOk (proR a b c r) := by
  have := hm.f
  have := hm.ft
  have := hm.t
  intro q hq
  unfold proR at hq
  simp at hq
  rcases hq with rfl | rfl | rfl
  · refine ⟨hw.part hm.bd (by omega) (by omega), fun h => ?_⟩
    have h : r.f < min r.t a := h
    exact (hm.part_may (Int.le_refl _) h (by omega)).bd
  · have h1 := hw.part hm.bd (a := max r.f a) (b := min r.t b) (by omega) (by omega)
    refine ⟨⟨h1.f, h1.t, wf64 (by show _ ≤ c; omega) (by show c ≤ _; omega), h1.k, h1.fl, h1.pg⟩, fun h => ?_⟩
    have h : max r.f a < min r.t b := h
    have h2 := (hm.part_may (by omega) h (by omega)).bd
    exact ⟨h2.f, h2.t, h2.pg⟩
  · refine ⟨hw.part hm.bd (by omega) (by omega), fun h => ?_⟩
    have h : max r.f b < r.t := h
    exact (hm.part_may (by omega) h (Int.le_refl _)).bd

theorem PutI.fresh2 {x : World} {B tb : Nat} {A : Option Addr} {c : Nat} {L : List Rg} {cs : Array Value} {N M : Nat} (h : Told (x.alloc (.cells cs 29)) B tb A c L) (hN : ∀ g, (Value.slice A L.length c).ownBlock = some g → g < N) (ht : tb < N) (hM : N < M) (hx : M < x.heap.size) :
    PutI (x.alloc (.cells cs 29)) (x.alloc (.cells cs 29)) B tb (fun k => k = N ∨ k = M ∨ k = x.heap.size) A c L :=
  ⟨h, Below.refl _ _, fun k e => by
    refine ⟨?_, ?_, rfl, fun e2 => ?_⟩
    · simp
      rcases e with rfl | rfl | rfl <;> omega
    · rcases e with rfl | rfl | rfl <;> omega
    · have := hN _ e2
      rcases e with rfl | rfl | rfl <;> omega⟩
/-- Three pieces are put. -/
theorem pro_put {wr x y : World} {B tb : Nat} {A1 : Option Addr} {c1 : Nat} {L1 : List Rg} (hT : Told wr B tb A1 c1 L1) (r q1 qm q3 : Rg) (hok : PutOk [q1, qm, q3]) (hlen : L1.length ≤ 12288)
    (hx : Below (wr.alloc (.cells r.cs 29)).heap.size (wr.alloc (.cells r.cs 29)) x) (hy : Below (x.alloc (.cells qm.cs 29)).heap.size (x.alloc (.cells qm.cs 29)) y) :
    Calls Try.prog 41 #[.slice (some ⟨y.heap.size, 0, none⟩) 3 3, .pointer (some ⟨tb, 0, none⟩)] (y.alloc (.cells #[.int .i64 q1.f, .int .i64 q1.t, .int .i64 q1.p, .int .i64 q1.k, .int .i64 q1.fl, .int .i64 q1.pg, .int .i64 qm.f, .int .i64 qm.t, .int .i64 qm.p, .int .i64 qm.k, .int .i64 qm.fl, .int .i64 qm.pg, .int .i64 q3.f, .int .i64 q3.t, .int .i64 q3.p, .int .i64 q3.k, .int .i64 q3.fl, .int .i64 q3.pg] 29))
      (fun e w' => e = .returned (.tuple #[]) ∧ ∃ A' c', Told w' B tb A' c' (putAll L1 [q1, qm, q3]) ∧ Below B wr w' ∧ Blk w' wr.heap.size 29 r.cs ∧ Blk w' x.heap.size 29 qm.cs) := by
  have h1 := hx.size
  have h2 := hy.size
  simp at h1 h2
  have hlo := hT.lo
  have hbl := hT.box.lt
  have hB1 : Below wr.heap.size wr (wr.alloc (.cells r.cs 29)) := (Below.refl _ _).alloc (Nat.le_refl _) _
  have hB2 : Below x.heap.size x (x.alloc (.cells qm.cs 29)) := (Below.refl _ _).alloc (Nat.le_refl _) _
  have hB3 : Below y.heap.size y (y.alloc (.cells #[.int .i64 q1.f, .int .i64 q1.t, .int .i64 q1.p, .int .i64 q1.k, .int .i64 q1.fl, .int .i64 q1.pg, .int .i64 qm.f, .int .i64 qm.t, .int .i64 qm.p, .int .i64 qm.k, .int .i64 qm.fl, .int .i64 qm.pg, .int .i64 q3.f, .int .i64 q3.t, .int .i64 q3.p, .int .i64 q3.k, .int .i64 q3.fl, .int .i64 q3.pg] 29)) := (Below.refl _ _).alloc (Nat.le_refl _) _
  have hall : Below wr.heap.size wr (y.alloc (.cells #[.int .i64 q1.f, .int .i64 q1.t, .int .i64 q1.p, .int .i64 q1.k, .int .i64 q1.fl, .int .i64 q1.pg, .int .i64 qm.f, .int .i64 qm.t, .int .i64 qm.p, .int .i64 qm.k, .int .i64 qm.fl, .int .i64 qm.pg, .int .i64 q3.f, .int .i64 q3.t, .int .i64 q3.p, .int .i64 q3.k, .int .i64 q3.fl, .int .i64 q3.pg] 29)) := hB1.trans ((hx.mono (by simp)).trans ((hB2.mono (by omega)).trans ((hy.mono (by simp; omega)).trans (hB3.mono (by omega)))))
  have hT2 := hT.below hall
  have hown : ∀ g, (Value.slice A1 L1.length c1).ownBlock = some g → g < wr.heap.size := fun g hg => (own_loU hT.row hg).2
  have b1 : Blk (y.alloc (.cells #[.int .i64 q1.f, .int .i64 q1.t, .int .i64 q1.p, .int .i64 q1.k, .int .i64 q1.fl, .int .i64 q1.pg, .int .i64 qm.f, .int .i64 qm.t, .int .i64 qm.p, .int .i64 qm.k, .int .i64 qm.fl, .int .i64 qm.pg, .int .i64 q3.f, .int .i64 q3.t, .int .i64 q3.p, .int .i64 q3.k, .int .i64 q3.fl, .int .i64 q3.pg] 29)) wr.heap.size 29 r.cs := by
    have h0 := (Blk.new wr 29 r.cs).below hx (by simp)
    have h3 := ((h0.alloc (.cells qm.cs 29)).below hy (by simp; omega))
    exact h3.alloc _
  have b2 : Blk (y.alloc (.cells #[.int .i64 q1.f, .int .i64 q1.t, .int .i64 q1.p, .int .i64 q1.k, .int .i64 q1.fl, .int .i64 q1.pg, .int .i64 qm.f, .int .i64 qm.t, .int .i64 qm.p, .int .i64 qm.k, .int .i64 qm.fl, .int .i64 qm.pg, .int .i64 q3.f, .int .i64 q3.t, .int .i64 q3.p, .int .i64 q3.k, .int .i64 q3.fl, .int .i64 q3.pg] 29)) x.heap.size 29 qm.cs := ((Blk.new x 29 qm.cs).below hy (by simp)).alloc _
  refine (put_any [q1, qm, q3] L1 _ 3 3 _ B tb _ A1 c1 rfl (PutI.fresh2 (N := wr.heap.size) (M := x.heap.size) hT2 hown hbl (by omega) (by omega)) (fun _ ad e => by cases e; exact .inr (.inr rfl)) (rg_new y [q1, qm, q3] (fun q hq => (hok q hq).1)) hok (by simp; omega)).mono ?_
  rintro e w' ⟨h3, A', c', h4⟩
  exact ⟨h3, A', c', h4.t, (hall.mono (by omega)).trans h4.b, (h4.z _ (.inl rfl)).2.2.1.trans b1, (h4.z _ (.inr (.inl rfl))).2.2.1.trans b2⟩

set_option maxRecDepth 100000 in
set_option maxHeartbeats 6400000 in
theorem proFill_any (l : List Rg) (A0 : Option Addr) (n c0 : Nat) (a b : Int) (v : World) (B tb : Nat) (A : Option Addr) (c bl bf bt bp : Nat) (cp : Int) (hn : l.length = n) (hT : Told v B tb A c []) (hl : RgRow v A0 l) (hA0 : ∀ ad, A0 = some ad → ad.block < B) (hasc : Asc l)
    (h1 : Blk v bl 25 #[.slice A0 n c0]) (h2 : Blk v bf 3 #[.int .i64 a]) (h3 : Blk v bt 3 #[.int .i64 b]) (h5 : Blk v bp 3 #[.int .i64 cp]) (h4 : bl < B ∧ bf < B ∧ bt < B ∧ bp < B) (ha : 0 ≤ a ∧ a ≤ 1099511627776) (hb : 0 ≤ b ∧ b ≤ 1099511627776) (hcp : 0 ≤ cp ∧ cp ≤ 7) :
    Calls Try.prog 35 #[putVal tb, .pointer (some ⟨bl, 0, none⟩), .pointer (some ⟨bf, 0, none⟩), .pointer (some ⟨bt, 0, none⟩), .pointer (some ⟨bp, 0, none⟩)] v (Filled v B tb (l.flatMap (proR a b cp))) := by
  have hlen := hasc.len
  have HT := Lib.hid hT
  have HN := Lib.hid hn
  have HASC := Lib.hid hasc
  have HL := Lib.hid (fun (u : World) (hu : Below B v u) => show RgRow u A0 l from hl.same hu.size fun ad e => hu.block _ (hA0 ad e))
  have HBX := Lib.hid (fun (u : World) (hu : Below B v u) => show u.cell? ⟨bl, 0, none⟩ = some (.slice A0 n c0) ∧ u.cell? ⟨bf, 0, none⟩ = some (.int .i64 a) ∧ u.cell? ⟨bt, 0, none⟩ = some (.int .i64 b) ∧ u.cell? ⟨bp, 0, none⟩ = some (.int .i64 cp) from ⟨(h1.below hu h4.1).at_ 0 _ rfl, (h2.below hu h4.2.1).at_ 0 _ rfl, (h3.below hu h4.2.2.1).at_ 0 _ rfl, (h5.below hu h4.2.2.2).at_ 0 _ rfl⟩)
  obtain ⟨z1, z2, z3, z4⟩ := HBX.out v (Below.refl _ _)
  have hn2 : n ≤ 4096 := by omega
  unfold Filled
  clear hT hn hasc hl hA0 h1 h2 h3 h4 h5 hlen
  go_enter Try.func35, Try.ntmps35
  go_wp2
  clear z1 z2 z3 z4
  go_loopw [11] (fun i wr => ∃ (k : Nat) (A' : Option Addr) (c' : Nat), k ≤ n ∧ i = .int .i64 k ∧ Hid (Told wr B tb A' c' (putAll [] ((l.take k).flatMap (proR a b cp))) ∧ Below B v wr)) (fun i _ => n - (intOf i).toNat)
  case atStart => exact ⟨0, A, c, Nat.zero_le _, rfl, Lib.hid ⟨HT.out, Below.refl _ _⟩⟩
  case round =>
    clear HT
    obtain ⟨k, A1, c1, hk, rfl, HI⟩ := hrel
    by_cases hlt : k < n
    · have hkl : k < l.length := by rw [HN.out]; exact hlt
      obtain ⟨ad, hA0, hblt, hwf, x0, x1, x2, x3, x4, x5⟩ := (HL.out _ HI.out.2).at_ hkl
      have hmay := HASC.out.may _ (List.getElem_mem hkl)
      have htk : putAll [] ((l.take (k + 1)).flatMap (proR a b cp)) = putAll (putAll [] ((l.take k).flatMap (proR a b cp))) (proR a b cp l[k]) := by
        rw [List.take_succ_eq_append_getElem hkl, List.flatMap_append, putAll_append]; simp
      have hlen1 : (putAll [] ((l.take k).flatMap (proR a b cp))).length ≤ 12288 := by
        have h1 := putAll_length [] ((l.take k).flatMap (proR a b cp))
        have h2 : ((l.take k).flatMap (proR a b cp)).length = (l.take k).length * 3 := by
          generalize l.take k = u
          induction u with
          | nil => rfl
          | cons x u ih => rw [List.flatMap_cons, List.length_append, ih]; simp [proR]; omega
        rw [h2, List.length_take] at h1
        simp at h1
        omega
      obtain ⟨r, hr⟩ : ∃ r, l[k] = r := ⟨_, rfl⟩
      rw [hr] at x0 x1 x2 x3 x4 x5 hwf hmay htk
      obtain ⟨L1, hL1⟩ : ∃ L1, putAll [] ((l.take k).flatMap (proR a b cp)) = L1 := ⟨_, rfl⟩
      rw [hL1] at htk HI hlen1
      have hok := proR_ok hwf hmay ha hb hcp
      have hP1 := fun u => part_any r r.f (min r.t a) u (fun hk => by have := hmay.bd.f; have := hmay.bd.pg hk; omega)
      have hP2 := fun u => part_any r (max r.f a) (min r.t b) u (fun hk => by have := hmay.bd.f; have := hmay.bd.pg hk; omega)
      have hP3 := fun u => part_any r (max r.f b) r.t u (fun hk => by have := hmay.bd.f; have := hmay.bd.pg hk; omega)
      obtain ⟨mn, hmn2⟩ : ∃ m, min r.t a = m := ⟨_, rfl⟩
      obtain ⟨mx, hmx2⟩ : ∃ m, max r.f b = m := ⟨_, rfl⟩
      obtain ⟨ma, hma2⟩ : ∃ m, max r.f a = m := ⟨_, rfl⟩
      obtain ⟨mb, hmb2⟩ : ∃ m, min r.t b = m := ⟨_, rfl⟩
      have hcr : proR a b cp r = [r.part r.f mn, { r.part ma mb with p := cp }, r.part mx r.t] := by unfold proR; rw [hmn2, hmx2, hma2, hmb2]
      rw [hmn2] at hP1
      rw [hma2, hmb2] at hP2
      rw [hmx2] at hP3
      have hmx3 : max b r.f = mx := by rw [← hmx2]; omega
      have hmn3 : min a r.t = mn := by rw [← hmn2]; omega
      have hma3 : max a r.f = ma := by rw [← hma2]; omega
      have hmb3 : min b r.t = mb := by rw [← hmb2]; omega
      obtain ⟨q1, hq1⟩ : ∃ q, r.part r.f mn = q := ⟨_, rfl⟩
      obtain ⟨q0, hq0⟩ : ∃ q, r.part ma mb = q := ⟨_, rfl⟩
      obtain ⟨q3, hq3⟩ : ∃ q, r.part mx r.t = q := ⟨_, rfl⟩
      rw [hq1, hq0, hq3] at hcr
      rw [hq1] at hP1
      rw [hq0] at hP2
      rw [hq3] at hP3
      obtain ⟨qm, hqm⟩ : ∃ q, ({ q0 with p := cp } : Rg) = q := ⟨_, rfl⟩
      rw [hqm] at hcr
      rw [hcr] at htk hok
      have HPUT := Lib.hid (fun (x y : World) (hx : Below (wr.alloc (.cells r.cs 29)).heap.size (wr.alloc (.cells r.cs 29)) x) (hy : Below (x.alloc (.cells qm.cs 29)).heap.size (x.alloc (.cells qm.cs 29)) y) =>
        show Calls Try.prog 41 #[.slice (some ⟨y.heap.size, 0, none⟩) 3 3, .pointer (some ⟨tb, 0, none⟩)] (y.alloc (.cells #[.int .i64 q1.f, .int .i64 q1.t, .int .i64 q1.p, .int .i64 q1.k, .int .i64 q1.fl, .int .i64 q1.pg, .int .i64 qm.f, .int .i64 qm.t, .int .i64 qm.p, .int .i64 qm.k, .int .i64 qm.fl, .int .i64 qm.pg, .int .i64 q3.f, .int .i64 q3.t, .int .i64 q3.p, .int .i64 q3.k, .int .i64 q3.fl, .int .i64 q3.pg] 29))
          (fun e w' => e = .returned (.tuple #[]) ∧ ∃ A' c', Hid (Told w' B tb A' c' (putAll [] ((l.take (k + 1)).flatMap (proR a b cp))) ∧ Below B v w') ∧ w'.cell? ⟨wr.heap.size, 0, none⟩ = some (.int .i64 r.f) ∧ w'.cell? ⟨wr.heap.size, 1, none⟩ = some (.int .i64 r.t) ∧ w'.cell? ⟨wr.heap.size, 2, none⟩ = some (.int .i64 r.p) ∧ w'.cell? ⟨wr.heap.size, 3, none⟩ = some (.int .i64 r.k) ∧ w'.cell? ⟨wr.heap.size, 4, none⟩ = some (.int .i64 r.fl) ∧ w'.cell? ⟨wr.heap.size, 5, none⟩ = some (.int .i64 r.pg) ∧ w'.cell? ⟨x.heap.size, 0, none⟩ = some (.int .i64 qm.f) ∧ w'.cell? ⟨x.heap.size, 1, none⟩ = some (.int .i64 qm.t) ∧ w'.cell? ⟨x.heap.size, 2, none⟩ = some (.int .i64 qm.p) ∧ w'.cell? ⟨x.heap.size, 3, none⟩ = some (.int .i64 qm.k) ∧ w'.cell? ⟨x.heap.size, 4, none⟩ = some (.int .i64 qm.fl) ∧ w'.cell? ⟨x.heap.size, 5, none⟩ = some (.int .i64 qm.pg) ∧ w'.cell? ⟨bf, 0, none⟩ = some (.int .i64 a) ∧ w'.cell? ⟨bt, 0, none⟩ = some (.int .i64 b)) from by
        refine (pro_put HI.out.1 r q1 qm q3 hok hlen1 hx hy).mono ?_
        rintro e w' ⟨h1, A', c', h2, h3, h4, h5⟩
        have hbv := HI.out.2.trans h3
        obtain ⟨y0, y1, y2, y3, y4, y5⟩ := h4.six
        obtain ⟨y6, y7, y8, y9, y10, y11⟩ := h5.six
        obtain ⟨-, z2, z3, -⟩ := HBX.out w' hbv
        exact ⟨h1, A', c', Lib.hid ⟨by rw [htk]; exact h2, hbv⟩, y0, y1, y2, y3, y4, y5, y6, y7, y8, y9, y10, y11, z2, z3⟩)
      have HS := Lib.hid (fun (x u : World) (hx : Below (wr.alloc (.cells r.cs 29)).heap.size (wr.alloc (.cells r.cs 29)) x) (hu : Below (x.alloc (.cells qm.cs 29)).heap.size (x.alloc (.cells qm.cs 29)) u) => show u.cell? ⟨wr.heap.size, 0, none⟩ = some (.int .i64 r.f) ∧ u.cell? ⟨wr.heap.size, 1, none⟩ = some (.int .i64 r.t) ∧ u.cell? ⟨wr.heap.size, 2, none⟩ = some (.int .i64 r.p) ∧ u.cell? ⟨wr.heap.size, 3, none⟩ = some (.int .i64 r.k) ∧ u.cell? ⟨wr.heap.size, 4, none⟩ = some (.int .i64 r.fl) ∧ u.cell? ⟨wr.heap.size, 5, none⟩ = some (.int .i64 r.pg) ∧ u.cell? ⟨x.heap.size, 0, none⟩ = some (.int .i64 qm.f) ∧ u.cell? ⟨x.heap.size, 1, none⟩ = some (.int .i64 qm.t) ∧ u.cell? ⟨x.heap.size, 2, none⟩ = some (.int .i64 qm.p) ∧ u.cell? ⟨x.heap.size, 3, none⟩ = some (.int .i64 qm.k) ∧ u.cell? ⟨x.heap.size, 4, none⟩ = some (.int .i64 qm.fl) ∧ u.cell? ⟨x.heap.size, 5, none⟩ = some (.int .i64 qm.pg) ∧ u.cell? ⟨bf, 0, none⟩ = some (.int .i64 a) ∧ u.cell? ⟨bt, 0, none⟩ = some (.int .i64 b) from by
        have hlo := HI.out.1.lo
        have hbl := HI.out.1.box.lt
        have h1 := hx.size
        simp at h1
        have h0 := (Blk.new wr 29 r.cs).below hx (by simp)
        obtain ⟨y0, y1, y2, y3, y4, y5⟩ := ((h0.alloc (.cells qm.cs 29)).below hu (by simp; omega)).six
        obtain ⟨y6, y7, y8, y9, y10, y11⟩ := ((Blk.new x 29 qm.cs).below hu (by simp)).six
        have hB1 : Below wr.heap.size wr (wr.alloc (.cells r.cs 29)) := (Below.refl _ _).alloc (Nat.le_refl _) _
        have hB2 : Below x.heap.size x (x.alloc (.cells qm.cs 29)) := (Below.refl _ _).alloc (Nat.le_refl _) _
        have hall := hB1.trans ((hx.mono (by simp)).trans ((hB2.mono (by omega)).trans (hu.mono (by simp; omega))))
        obtain ⟨-, z2, z3, -⟩ := HBX.out u (HI.out.2.trans (hall.mono (by omega)))
        exact ⟨y0, y1, y2, y3, y4, y5, y6, y7, y8, y9, y10, y11, z2, z3⟩)
      have HC1 := Lib.hid (fun (x : World) (hx : Below (wr.alloc (.cells r.cs 29)).heap.size (wr.alloc (.cells r.cs 29)) x) => show x.cell? ⟨wr.heap.size, 0, none⟩ = some (.int .i64 r.f) ∧ x.cell? ⟨wr.heap.size, 1, none⟩ = some (.int .i64 r.t) ∧ x.cell? ⟨bf, 0, none⟩ = some (.int .i64 a) ∧ x.cell? ⟨bt, 0, none⟩ = some (.int .i64 b) ∧ x.cell? ⟨bp, 0, none⟩ = some (.int .i64 cp) from by
        have hlo := HI.out.1.lo
        have hbl := HI.out.1.box.lt
        obtain ⟨y0, y1, -⟩ := ((Blk.new wr 29 r.cs).below hx (by simp)).six
        have hB1 : Below wr.heap.size wr (wr.alloc (.cells r.cs 29)) := (Below.refl _ _).alloc (Nat.le_refl _) _
        obtain ⟨-, z2, z3, z4⟩ := HBX.out x (HI.out.2.trans ((hB1.trans (hx.mono (by simp))).mono (by omega)))
        exact ⟨y0, y1, z2, z3, z4⟩)
      have hsxx := (Blk.new wr 29 r.cs).six
      obtain ⟨rf, rt, rp, rk, rfl', rpg⟩ := r
      obtain ⟨f1, t1, p1, k1, l1, g1⟩ := q1
      obtain ⟨f2, t2, p2, k2, l2, g2⟩ := q0
      obtain ⟨f3, t3, p3, k3, l3, g3⟩ := q3
      subst hqm
      simp only at x0 x1 x2 x3 x4 x5 HS HC1 HPUT hP1 hP2 hP3 hmn2 hmx2 hmn3 hmx3 hma2 hma3 hmb2 hmb3 hsxx
      unfold Rg.cs at hP1 hP2 hP3 hsxx
      simp only at hP1 hP2 hP3 hsxx
      have hs9 := HS.out
      have hp9 := HPUT.out
      have hc9 := HC1.out
      clear HS HPUT HC1
      unfold Rg.cs at hs9 hp9 hc9
      simp only at hs9 hp9 hc9
      obtain ⟨W1, hW1⟩ : ∃ W1, wr.alloc (.cells #[.int .i64 rf, .int .i64 rt, .int .i64 rp, .int .i64 rk, .int .i64 rfl', .int .i64 rpg] 29) = W1 := ⟨_, rfl⟩
      rw [hW1] at hs9 hp9 hc9 hsxx
      have HS := Lib.hid hs9
      have HPUT := Lib.hid hp9
      have HC1 := Lib.hid hc9
      have HW1 := Lib.hid hW1
      have HP1 := Lib.hid hP1
      have HP2 := Lib.hid hP2
      have HP3 := Lib.hid hP3
      have HD1 := Lib.hid (show ∀ (Y u x : World), Below Y.heap.size Y u → Below u.heap.size u x → Below Y.heap.size Y x from fun Y u x h1 h2 => h1.trans (h2.mono h1.size))
      clear hs9 hp9 hc9 hW1 hP1 hP2 hP3 htk hok hcr hq1 hq0 hq3 hL1 hr hkl hmay hwf hlen1
      subst hA0
      have hk0 : (0 : Int) ≤ (k : Int) := by omega
      have hk1 : (k : Int) < (n : Int) := by omega
      obtain ⟨s0, s1, s2, s3, s4, s5⟩ := hsxx
      go_upto_region 3 with fail
      rw [HW1.out]
      obtain ⟨-, -, u2, u3, u4⟩ := HC1.out W1 (Below.refl _ _)
      go_upto_region 4 with (go_at_call 33; with_reducible refine (HP2.out _).mono ?_; rintro e x ⟨rfl, hbx⟩; clear s0 s1 s2 s3 s4 s5 u2 u3 u4; obtain ⟨s0, s1, u2, u3, u4⟩ := HC1.out x hbx)
      have HBX1 := Lib.hid hbx
      clear s0 s1 u2 u3 u4
      have v4 := (HC1.out _ ((hbx.alloc hbx.size (.cells #[.int .i64 f2, .int .i64 t2, .int .i64 p2, .int .i64 k2, .int .i64 l2, .int .i64 g2] 29)))).2.2.2.2
      clear hbx
      go_upto_region 5 with fail
      clear v4
      have hs2 := HS.out x _ HBX1.out (Below.refl _ _)
      have hp2 := fun y => HPUT.out x y HBX1.out
      have hs3 := fun u => HS.out x u HBX1.out
      obtain ⟨W2, hW2⟩ : ∃ W2, x.alloc (.cells #[.int .i64 f2, .int .i64 t2, .int .i64 cp, .int .i64 k2, .int .i64 l2, .int .i64 g2] 29) = W2 := ⟨_, rfl⟩
      rw [hW2] at hs2 hp2 hs3 ⊢
      have HPX := Lib.hid hp2
      have HSX := Lib.hid hs3
      clear hp2 hs3 HS HPUT hW2
      obtain ⟨y0, y1, y2, y3, y4, y5, y6, y7, y8, y9, y10, y11, y12, y13⟩ := hs2
      have HX := Lib.hid (Below.refl W2.heap.size W2)
      go_region_held3 (fun u => u.cell? ⟨wr.heap.size, 0, none⟩ = some (.int .i64 rf) ∧ u.cell? ⟨wr.heap.size, 1, none⟩ = some (.int .i64 rt) ∧ u.cell? ⟨wr.heap.size, 2, none⟩ = some (.int .i64 rp) ∧ u.cell? ⟨wr.heap.size, 3, none⟩ = some (.int .i64 rk) ∧ u.cell? ⟨wr.heap.size, 4, none⟩ = some (.int .i64 rfl') ∧ u.cell? ⟨wr.heap.size, 5, none⟩ = some (.int .i64 rpg) ∧ u.cell? ⟨x.heap.size, 0, none⟩ = some (.int .i64 f2) ∧ u.cell? ⟨x.heap.size, 1, none⟩ = some (.int .i64 t2) ∧ u.cell? ⟨x.heap.size, 2, none⟩ = some (.int .i64 cp) ∧ u.cell? ⟨x.heap.size, 3, none⟩ = some (.int .i64 k2) ∧ u.cell? ⟨x.heap.size, 4, none⟩ = some (.int .i64 l2) ∧ u.cell? ⟨x.heap.size, 5, none⟩ = some (.int .i64 g2) ∧ u.cell? ⟨bf, 0, none⟩ = some (.int .i64 a) ∧ u.cell? ⟨bt, 0, none⟩ = some (.int .i64 b))
        (first | exact ⟨y0, y1, y2, y3, y4, y5, y6, y7, y8, y9, y10, y11, y12, y13⟩ | exact HSX.out _ (Below.refl _ _) | exact HSX.out _ ((Below.refl _ _).drew) | exact HSX.out _ (HX.out.alloc HX.out.size _))
        (first
        | (go_at_call 33; with_reducible refine (HP1.out _).mono ?_; rintro e x ⟨rfl, hb⟩; have hx := (show Below W2.heap.size W2 x from by first | exact HD1.out _ _ _ HX.out hb | exact HD1.out _ _ _ HX.out.drew hb); clear y0 y1 y2 y3 y4 y5 y6 y7 y8 y9 y10 y11 y12 y13 HX; have HX := Lib.hid hx; obtain ⟨y0, y1, y2, y3, y4, y5, y6, y7, y8, y9, y10, y11, y12, y13⟩ := HSX.out x hx; clear hb hx)
        | (go_at_call 33; with_reducible refine (HP3.out _).mono ?_; rintro e x ⟨rfl, hb⟩; have hx := (show Below W2.heap.size W2 x from by first | exact HD1.out _ _ _ HX.out hb | exact HD1.out _ _ _ HX.out.drew hb); clear y0 y1 y2 y3 y4 y5 y6 y7 y8 y9 y10 y11 y12 y13 HX; have HX := Lib.hid hx; obtain ⟨y0, y1, y2, y3, y4, y5, y6, y7, y8, y9, y10, y11, y12, y13⟩ := HSX.out x hx; clear hb hx)
        | (go_at_call 41; (with_reducible first | refine (HPX.out _ HX.out).mono ?_ | refine (HPX.out _ HX.out.drew).mono ?_); rintro e x9 ⟨rfl, A', c', HF, hcl⟩; clear y0 y1 y2 y3 y4 y5 y6 y7 y8 y9 y10 y11 y12 y13 HX; obtain ⟨y0, y1, y2, y3, y4, y5, y6, y7, y8, y9, y10, y11, y12, y13⟩ := hcl))
      all_goals
        go_wp2
        go_roundw
        case rel => exact ⟨k + 1, A', c', by omega, by go_num, HF⟩
        case measure => simp [intOf]; omega
    · obtain rfl : k = n := by omega
      go_wp2
      go_end0
      have h1 : l.take k = l := by rw [List.take_of_length_le]; rw [HN.out]; exact Nat.le_refl _
      have HI1 := HI.out
      rw [h1] at HI1
      exact ⟨rfl, A1, c1, HI1⟩
end Go.Proofs.Ytmknkdfdkanijaa
