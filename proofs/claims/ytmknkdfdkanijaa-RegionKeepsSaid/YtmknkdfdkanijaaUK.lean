/- Package region: what Add puts. -/
import Derived.Test.YtmknkdfdkanijaaUJ
namespace Go.Proofs.Ytmknkdfdkanijaa
open Go.RowKit Go.ChangeShapes Go.WideShapes Go.Deep
set_option linter.unusedVariables false
set_option linter.unusedSimpArgs false

theorem PutI.own {v : World} {B tb : Nat} {A A0 : Option Addr} {c : Nat} {L : List Rg} (h : Told v B tb A c L) (hA0 : ∀ ad, A0 = some ad → ad.block < B) : PutI v v B tb (fun k => ∃ ad, A0 = some ad ∧ k = ad.block) A c L :=
  ⟨h, Below.refl _ _, fun k ⟨ad, e, hk⟩ => by
    have h1 := hA0 ad e
    have h2 := h.lo
    have h3 := h.box.lt
    exact ⟨by omega, by omega, rfl, fun e2 => by have := (own_loU h.row e2).1; omega⟩⟩
theorem asc_putOk {l : List Rg} (h : ∀ r ∈ l, r.May) : PutOk l := fun r hr => ⟨(h r hr).wf, fun _ => (h r hr).bd⟩

set_option maxRecDepth 100000 in
set_option maxHeartbeats 6400000 in
theorem addFill_any (l : List Rg) (A0 : Option Addr) (n c0 : Nat) (at' : Nat) (r : Rg) (v : World) (B tb : Nat) (A : Option Addr) (c bl ba br : Nat) (hn : l.length = n) (hc : n ≤ c0) (hat : at' ≤ n) (hc2 : c0 ≤ maxLen) (hT : Told v B tb A c []) (hl : RgRow v A0 l) (hA0 : ∀ ad, A0 = some ad → ad.block < B) (hasc : Asc l) (hr : r.May)
    (h1 : Blk v bl 25 #[.slice A0 n c0]) (h2 : Blk v ba 3 #[.int .i64 (at' : Int)]) (h3 : Blk v br 29 r.cs) (h4 : bl < B ∧ ba < B ∧ br < B) :
    Calls Try.prog 37 #[putVal tb, .pointer (some ⟨bl, 0, none⟩), .pointer (some ⟨ba, 0, none⟩), .pointer (some ⟨br, 0, none⟩)] v (Filled v B tb (l.take at' ++ r :: l.drop at')) := by
  have hlen := hasc.len
  unfold maxLen at hc2
  have HT := Lib.hid hT
  have HN := Lib.hid hn
  have HPO := Lib.hid (And.intro hasc.may hr)
  have HA0 := Lib.hid hA0
  have HL := Lib.hid (fun (u : World) (hu : Below B v u) => show RgRow u A0 l from hl.same hu.size fun ad e => hu.block _ (hA0 ad e))
  have HBX := Lib.hid (fun (u : World) (hu : Below B v u) => show u.cell? ⟨bl, 0, none⟩ = some (.slice A0 n c0) ∧ u.cell? ⟨ba, 0, none⟩ = some (.int .i64 (at' : Int)) ∧ SixAt u br r from ⟨(h1.below hu h4.1).at_ 0 _ rfl, (h2.below hu h4.2.1).at_ 0 _ rfl, (h3.below hu h4.2.2).six⟩)
  obtain ⟨z1, z2, z3⟩ := HBX.out v (Below.refl _ _)
  have HP1 := Lib.hid (show Calls Try.prog 41 #[.slice A0 at' at', .pointer (some ⟨tb, 0, none⟩)] v (fun e w' => e = .returned (.tuple #[]) ∧ ∃ A' c', Hid (Told w' B tb A' c' (putAll [] (l.take at'))) ∧ Below B v w') from by
    refine (put_any (l.take at') [] A0 at' at' v B tb _ A c (by rw [List.length_take]; omega) (PutI.own hT hA0) (fun _ ad e => ⟨ad, e, rfl⟩) (hl.take at') (asc_putOk fun q hq => hasc.may q (List.mem_of_mem_take hq)) (by rw [List.length_take]; simp; omega)).mono ?_
    rintro e w' ⟨h1, A', c', h2⟩
    exact ⟨h1, A', c', Lib.hid h2.t, h2.b⟩)
  have HP2 := Lib.hid (fun (x : World) (A1 : Option Addr) (c1 : Nat) (h : Told x B tb A1 c1 (putAll [] (l.take at'))) =>
    show Calls Try.prog 41 #[.slice (some ⟨x.heap.size, 0, none⟩) 1 1, .pointer (some ⟨tb, 0, none⟩)] (x.alloc (.cells #[.int .i64 r.f, .int .i64 r.t, .int .i64 r.p, .int .i64 r.k, .int .i64 r.fl, .int .i64 r.pg] 29)) (fun e w' => e = .returned (.tuple #[]) ∧ ∃ A' c', Hid (Told w' B tb A' c' (putAll [] (l.take at' ++ [r]))) ∧ Below B x w') from by
    have hbx := h.box.lt
    have hlo := h.lo
    have hB := (Below.refl x.heap.size x).alloc (Nat.le_refl _) (.cells #[.int .i64 r.f, .int .i64 r.t, .int .i64 r.p, .int .i64 r.k, .int .i64 r.fl, .int .i64 r.pg] 29)
    have hT2 := h.below hB
    have hI : PutI (x.alloc (.cells #[.int .i64 r.f, .int .i64 r.t, .int .i64 r.p, .int .i64 r.k, .int .i64 r.fl, .int .i64 r.pg] 29)) (x.alloc (.cells #[.int .i64 r.f, .int .i64 r.t, .int .i64 r.p, .int .i64 r.k, .int .i64 r.fl, .int .i64 r.pg] 29)) B tb (fun k => k = x.heap.size) A1 c1 (putAll [] (l.take at')) :=
      ⟨hT2, Below.refl _ _, fun k e => by
        subst e
        exact ⟨by simp, by omega, rfl, fun e2 => by have := (own_loU h.row e2).2; omega⟩⟩
    refine (put_any [r] _ (some ⟨x.heap.size, 0, none⟩) 1 1 _ B tb _ A1 c1 rfl hI (fun _ ad e => by cases e; rfl) (rg_new x [r] (fun q hq => by simp at hq; subst hq; exact hr.wf)) (asc_putOk fun q hq => by simp at hq; subst hq; exact hr) (by have h9 := putAll_length [] (l.take at'); rw [List.length_take] at h9; simp at h9 ⊢; omega)).mono ?_
    rintro e w' ⟨h1, A', c', h2⟩
    exact ⟨h1, A', c', Lib.hid (by rw [putAll_append]; exact h2.t), (hB.mono (by omega)).trans h2.b⟩)
  have HP3 := Lib.hid (fun (x : World) (A1 : Option Addr) (c1 : Nat) (A2 : Option Addr) (c2 : Nat) (h : Told x B tb A1 c1 (putAll [] (l.take at' ++ [r]))) (hx : Below B v x) (hA2 : (∃ ad, A0 = some ad ∧ A2 = some (ad.add (at' * 6))) ∨ l.drop at' = []) =>
    show Calls Try.prog 41 #[.slice A2 (n - at') c2, .pointer (some ⟨tb, 0, none⟩)] x (fun e w' => e = .returned (.tuple #[]) ∧ ∃ A' c', Hid (Told w' B tb A' c' (putAll [] (l.take at' ++ r :: l.drop at'))) ∧ Below B x w') from by
    have hdl : (l.drop at').length = n - at' := by rw [List.length_drop, hn]
    have hlen3 : (putAll [] (l.take at' ++ [r])).length + (l.drop at').length ≤ 100000 := by
      have h9 := putAll_length [] (l.take at' ++ [r])
      rw [List.length_append, List.length_take] at h9
      simp at h9 ⊢
      omega
    have hok : PutOk (l.drop at') := asc_putOk fun q hq => hasc.may q (List.mem_of_mem_drop hq)
    have e0 : putAll [] (l.take at' ++ r :: l.drop at') = putAll (putAll [] (l.take at' ++ [r])) (l.drop at') := by rw [← putAll_append]; simp
    rw [e0]
    rcases hA2 with ⟨ad, rfl, rfl⟩ | hnil
    · have eb : (ad.add (at' * 6)).block = ad.block := by unfold Addr.add; split <;> rfl
      refine (put_any (l.drop at') _ (some (ad.add (at' * 6))) (n - at') c2 x B tb _ A1 c1 hdl (PutI.own (A0 := some ad) h hA0) (fun _ ad' e => ⟨ad, rfl, by cases e; exact eb⟩) ((HL.out x hx).drop at') hok hlen3).mono ?_
      rintro e w' ⟨h1, A', c', h2⟩
      exact ⟨h1, A', c', Lib.hid h2.t, h2.b⟩
    · rw [hnil] at hok hlen3 hdl ⊢
      refine (put_any [] _ A2 (n - at') c2 x B tb (fun k => False) A1 c1 hdl ⟨h, Below.refl _ _, fun k e => e.elim⟩ (fun h => absurd rfl h) (RgRow.nil _ _) hok hlen3).mono ?_
      rintro e w' ⟨h1, A', c', h2⟩
      exact ⟨h1, A', c', Lib.hid h2.t, h2.b⟩)
  have hz1 : (0 : Int) ≤ (at' : Int) := by omega
  have hz2 : (at' : Int) ≤ (n : Int) := by omega
  have hz3 : (at' : Int) ≤ (c0 : Int) := by omega
  have hz4 : (n : Int) ≤ (c0 : Int) := by omega
  unfold Filled
  clear hT hn hasc hl hA0 h1 h2 h3 h4 hlen hr
  obtain ⟨rf, rt, rp, rk, rfl', rpg⟩ := r
  obtain ⟨s0, s1, s2, s3, s4, s5⟩ := z3
  go_enter Try.func37, Try.ntmps37
  go_upto_region 1 with (go_at_call 41; with_reducible refine HP1.out.mono ?_; rintro e x ⟨rfl, A1, c1, h1, hb1⟩)
  clear z1 z2 s0 s1 s2 s3 s4 s5
  obtain ⟨z1, z2, s0, s1, s2, s3, s4, s5⟩ := HBX.out x hb1
  have HB1 := Lib.hid hb1
  clear hb1
  go_upto_region 2 with (go_at_call 41; with_reducible refine (HP2.out _ _ _ h1.out).mono ?_; rintro e y ⟨rfl, A2, c2, h2, hb2⟩)
  have hb3 := HB1.out.trans hb2
  clear z1 z2 s0 s1 s2 s3 s4 s5
  obtain ⟨z1, z2, s0, s1, s2, s3, s4, s5⟩ := HBX.out y hb3
  have HB3 := Lib.hid hb3
  clear hb3 hb2
  go_wp2_with fail
  · have hd : l.drop at' = [] := by rw [List.drop_eq_nil_iff, HN.out]; omega
    refine (HP3.out y _ _ A0 _ h2.out HB3.out (.inr hd)).mono ?_
    rintro e z ⟨rfl, A3, c3, h3, hb4⟩
    go_wp2
    go_end0
    exact ⟨rfl, A3, c3, h3.out, HB3.out.trans hb4⟩
  · have hA2 : (∃ ad, A0 = some ad ∧ Option.map (fun x => x.add (at' * 6)) A0 = some (ad.add (at' * 6))) ∨ l.drop at' = [] := by
      cases A0 with
      | none =>
        right
        cases hl9 : l with
        | nil => simp
        | cons q l9 =>
          obtain ⟨ad, e, _⟩ := HL.out v (Below.refl _ _) 0 (by rw [hl9]; simp)
          cases e
      | some ad => exact .inl ⟨ad, rfl, rfl⟩
    refine (HP3.out y _ _ _ _ h2.out HB3.out hA2).mono ?_
    rintro e z ⟨rfl, A3, c3, h3, hb4⟩
    go_wp2
    go_end0
    exact ⟨rfl, A3, c3, h3.out, HB3.out.trans hb4⟩
end Go.Proofs.Ytmknkdfdkanijaa
