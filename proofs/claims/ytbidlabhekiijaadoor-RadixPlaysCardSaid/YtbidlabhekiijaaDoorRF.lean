/- Package radix: a table in memory; closed, New, read, write. -/
import Derived.Test.YtbidlabhekiijaaDoorRA
import Derived.Test.YtbidlabhekiijaaDoorRD
namespace Go.Proofs.YtbidlabhekiijaaDoor
open Go.RowKit
set_option linter.unusedVariables false
set_option linter.unusedSimpArgs false

/-- A table lies at t, its root's frame is root, its pool lies at p, h, g. -/
structure Td (w : World) (t p h g : Nat) (X : Pol) (root : Int) : Prop where
  head : Blk w t 63 #[.pointer (some ⟨p, 0, none⟩), .int .i64 root]
  pl : Pl w p h g X
  tab : Tab w
  tp : t ≠ p
  th : t ≠ h
  tg : t ≠ g
  hw : h ≠ 0
  gw : g ≠ 0
section
variable {w w' : World} {t p h g : Nat} {X Y : Pol} {root : Int}
theorem Td.on (a : Td w t p h g X root) (hb : Below w.heap.size w w') : Td w' t p h g X root := ⟨a.head.below hb a.head.lt, a.pl.on hb, a.tab.below hb a.tab.pos, a.tp, a.th, a.tg, a.hw, a.gw⟩
theorem Td.but (a : Td w t p h g X root) (hb : But (fun j => j = h ∨ j = g) w w') (hl : Pl w' p h g Y) : Td w' t p h g Y root :=
  ⟨a.head.but hb (by have := a.th; have := a.tg; omega), hl, a.tab.but hb (by have := a.hw; have := a.gw; omega), a.tp, a.th, a.tg, a.hw, a.gw⟩
theorem Td.butg (a : Td w t p h g X root) (hb : But (· = g) w w') (hl : Pl w' p h g Y) : Td w' t p h g Y root := a.but (hb.mono fun _ e => .inr e) hl
theorem Td.buth (a : Td w t p h g X root) (hb : But (· = h) w w') (hl : Pl w' p h g Y) : Td w' t p h g Y root := a.but (hb.mono fun _ e => .inl e) hl
theorem Td.thru {S : Nat → Prop} (a : Td w t p h g X root) (hb : But S w w') (h1 : ¬ S t) (h2 : ¬ S p) (h3 : ¬ S h) (h4 : ¬ S g) (h5 : ¬ S 0) : Td w' t p h g X root :=
  ⟨a.head.but hb h1, a.pl.but hb h2 h3 h4, a.tab.but hb h5, a.tp, a.th, a.tg, a.hw, a.gw⟩
theorem Td.drewN (a : Td w t p h g X root) (n : Nat) : Td (w.drewN n) t p h g X root := ⟨a.head.drewN n, a.pl.drewN n, a.tab, a.tp, a.th, a.tg, a.hw, a.gw⟩
theorem Td.drew (a : Td w t p h g X root) : Td w.drew t p h g X root := a.drewN 1
theorem Td.alloc (a : Td w t p h g X root) (o : Obj) : Td (w.alloc o) t p h g X root := a.on ((Below.refl _ _).alloc (Nat.le_refl _) o)
theorem Td.far (a : Td w t p h g X root) {q : Addr} (hq : t < q.block ∧ p < q.block ∧ h < q.block ∧ g < q.block ∧ 0 < q.block) (u : Value) : Td (w.setCell q u) t p h g X root :=
  a.thru ((But.refl (· = q.block) w).setCell (.inl rfl) u) (by omega) (by omega) (by omega) (by omega) (by omega)
theorem Td.lts (a : Td w t p h g X root) : t < w.heap.size ∧ p < w.heap.size ∧ h < w.heap.size ∧ g < w.heap.size ∧ 0 < w.heap.size := ⟨a.head.lt, a.pl.head.lt, a.pl.row.lt, a.pl.byt.lt, a.tab.pos⟩
end

theorem readV_range (k : Int) (s : ByteArray) (hs : s.size ≤ 64) : 0 ≤ readV k s ∧ readV k s < 18446744073709551616 := by
  unfold readV
  split
  · omega
  · split
    · omega
    · have hw := wid_range k
      have := getN_range s (wid k) (by omega) (by omega)
      exact clipS_range k _ this.1 this.2
theorem partS_size {s : ByteArray} {a n : Int} (hs : s.size ≤ 64) : (partS s a n).size ≤ 64 := by
  unfold partS
  split
  · rw [ByteArray.size_extract]; omega
  · exact Nat.zero_le _
theorem getD_size {S : List ByteArray} (h : All64 S) (k : Nat) : (S.getD k ⟨#[]⟩).size ≤ 64 := by
  by_cases hk : k < S.length
  · have e : S.getD k ⟨#[]⟩ = S[k] := by simp [List.getD, hk]
    rw [e, h _ (List.getElem_mem hk)]
    exact Nat.le_refl _
  · have e : S.getD k ⟨#[]⟩ = ⟨#[]⟩ := by simp [List.getD, List.getElem?_eq_none (Nat.le_of_not_lt hk)]
    rw [e]
    exact Nat.zero_le _
theorem ldV_wf {H : List Int} {S : List ByteArray} (h : All64 S) (f a k : Int) : (Lit.int .u64 (ldV H S f a k)).wf = true := by
  have : 0 ≤ ldV H S f a k ∧ ldV H S f a k < 18446744073709551616 := by
    unfold ldV
    split
    · exact readV_range k _ (partS_size (getD_size h _))
    · omega
  exact wf_u64 this.1 this.2

set_option maxHeartbeats 400000 in
theorem closed_nil (w : World) : Calls Tryd.prog 58 #[.pointer none] w fun e w' => e = .returned (.bool true) ∧ w = w' := by
  go_enter Tryd.func58, Tryd.ntmps58
  go_wp2
  go_ret
  exact ⟨rfl, rfl⟩
set_option maxHeartbeats 400000 in
theorem closed_zero (t : Nat) (w : World) (hc : w.cell? ⟨t, 0, none⟩ = some (.pointer none)) : Calls Tryd.prog 58 #[.pointer (some ⟨t, 0, none⟩)] w fun e w' => e = .returned (.bool true) ∧ w = w' := by
  go_enter Tryd.func58, Tryd.ntmps58
  go_wp2
  go_ret
  exact ⟨rfl, rfl⟩
set_option maxHeartbeats 400000 in
theorem closed_no {w : World} {t p h g : Nat} {X : Pol} {root : Int} (a : Td w t p h g X root) : Calls Tryd.prog 58 #[.pointer (some ⟨t, 0, none⟩)] w fun e w' => e = .returned (.bool false) ∧ w = w' := by
  have hc := a.head.at_ 0 _ rfl
  clear a
  go_enter Tryd.func58, Tryd.ntmps58
  go_wp2
  go_ret
  exact ⟨rfl, rfl⟩

set_option maxHeartbeats 400000 in
theorem rnew_nil (w : World) : Calls Tryd.prog 17 #[.pointer none] w fun e w' => e = .returned (.tuple #[.pointer none, .int .i64 1]) ∧ w = w' := by
  have HT := Lib.hid (ptake_nil w)
  go_enter Tryd.func17, Tryd.ntmps17
  go_wp2_with (go_at_call 35; refine HT.out.mono ?_; rintro e w4 ⟨rfl, rfl⟩)
  go_ret2
  exact ⟨rfl, rfl⟩

@[go_sem] theorem build_tbl (a : Option Addr) (n : Int) (w : World) : (Instr.build 63 #[(0, .pointer a), (1, .int .i64 n)]).run Tryd.prog w = .ok (.agg #[.pointer a, .int .i64 n]) w := run_build w 63 _ _ (by kernel_rfl)
@[go_sem] theorem build_tbl0 (w : World) : (Instr.build 63 #[]).run Tryd.prog w = .ok (.agg #[.pointer none, .int .i64 0]) w := run_build w 63 _ _ (by kernel_rfl)

/-- A table was made, whose root's frame was taken. -/
def TMade (w : World) (p h g : Nat) (X : Pol) (e : Ending) (w' : World) : Prop :=
  ∃ t, e = .returned (.tuple #[.pointer (some ⟨t, 0, none⟩), .int .i64 0]) ∧ w.heap.size ≤ t ∧ But (fun j => j = h ∨ j = g) w w' ∧ Td w' t p h g X.tkX (freeAt X.H : Nat)
set_option maxHeartbeats 800000 in
theorem rnew_made {w : World} {p h g : Nat} {X : Pol} (a : Pl w p h g X) (hT : Tab w) (hw : h ≠ 0) (gw : g ≠ 0) (hf : freeAt X.H < X.H.length) :
    Calls Tryd.prog 17 #[.pointer (some ⟨p, 0, none⟩)] w (TMade w p h g X) := by
  have ht := ptake_any a
  rw [show tkV X.H = freeAt X.H by unfold tkV; rw [if_pos hf], show tkE X.H = 0 by unfold tkE; rw [if_pos hf]] at ht
  have HT := Lib.hid ht
  have HA := Lib.hid (And.intro hT (And.intro hw gw))
  have hlen := a.len
  have HL := Lib.hid (And.intro a.head.lt (And.intro a.row.lt a.byt.lt))
  clear a hT hw gw ht
  unfold TMade
  generalize freeAt X.H = k at *
  clear hf
  go_enter Tryd.func17, Tryd.ntmps17
  go_wp2_with (go_at_call 35; refine HT.out.mono ?_; rintro e w1 ⟨rfl, hb1, ha1⟩; have HB1 := Lib.hid hb1; have HA1 := Lib.hid ha1; clear hb1 ha1)
  go_ret2
  have l1 := HA1.out.head.lt
  have l2 := HA1.out.row.lt
  have l3 := HA1.out.byt.lt
  refine ⟨_, rfl, HB1.out.size, HB1.out.alloc _, Blk.new _ _ _, HA1.out.alloc _, ?_, by omega, by omega, by omega, HA.out.2.1, HA.out.2.2⟩
  exact (HA.out.1.but HB1.out (by have := HA.out.2.1; have := HA.out.2.2; omega)).alloc _
set_option maxHeartbeats 800000 in
theorem rnew_full {w : World} {p h g : Nat} {X : Pol} (a : Pl w p h g X) (hf : ¬ freeAt X.H < X.H.length) :
    Calls Tryd.prog 17 #[.pointer (some ⟨p, 0, none⟩)] w fun e w' => e = .returned (.tuple #[.pointer none, .int .i64 18]) ∧ But (fun j => j = h ∨ j = g) w w' ∧ Pl w' p h g X := by
  have ht := ptake_any a
  rw [show tkV X.H = 0 by unfold tkV; rw [if_neg hf], show tkE X.H = 18 by unfold tkE; rw [if_neg hf], show X.tkX = X by unfold Pol.tkX; rw [if_neg hf]] at ht
  have HT := Lib.hid ht
  clear a hf ht
  go_enter Tryd.func17, Tryd.ntmps17
  go_wp2_with (go_at_call 35; refine HT.out.mono ?_; rintro e w1 ⟨rfl, hb1, ha1⟩; have HB1 := Lib.hid (And.intro hb1 ha1); clear hb1 ha1)
  go_ret2
  exact ⟨rfl, HB1.out.1, HB1.out.2⟩

set_option maxRecDepth 100000 in
set_option maxHeartbeats 1600000 in
theorem tread_any {w : World} {t p h g : Nat} {X : Pol} {root : Int} (a : Td w t p h g X root) (f : Int) (hf : (Lit.int .i64 f).wf = true) (d : Nat) (hd : d < 8) :
    Calls Tryd.prog 52 #[.pointer (some ⟨t, 0, none⟩), .agg #[.int .i64 f, .int .i64 (d : Nat)]] w fun e w' => e = .returned (unpS (ldV X.H X.S f ((8 * d : Nat) : Int) 4)).v ∧ Below w.heap.size w w' := by
  have HU := Lib.hid (fun W => unpack_any (ldV X.H X.S f ((8 * d : Nat) : Int) 4) W (ldV_wf a.pl.all f _ 4))
  have k0 := (Blk.new w 78 #[.int .i64 f, .int .i64 (d : Nat)]).alloc (.cells Sl.zero.cs 23)
  have k1 := Blk.new (w.alloc (.cells #[.int .i64 f, .int .i64 (d : Nat)] 78)) 23 Sl.zero.cs
  have hB := ((Below.refl w.heap.size w).alloc (Nat.le_refl _) (.cells #[.int .i64 f, .int .i64 (d : Nat)] 78)).alloc (by simp) (.cells Sl.zero.cs 23)
  have a2 := (a.alloc (.cells #[.int .i64 f, .int .i64 (d : Nat)] 78)).alloc (.cells Sl.zero.cs 23)
  rw [World.size_alloc] at k1
  unfold Sl.v Sl.cs at *
  unfold Sl.zero at k0 k1 hB a2
  simp only at *
  obtain ⟨W0, hW0⟩ : ∃ W0, (w.alloc (.cells #[.int .i64 f, .int .i64 (d : Nat)] 78)).alloc (.cells #[.bool false, .bool false, .bool false, .bool false, .int .i64 0] 23) = W0 := ⟨_, rfl⟩
  rw [hW0] at k0 k1 hB a2
  have HL := Lib.hid (pload_any a2.drew.pl f ((8 * d : Nat) : Int) 4 (wf_i64 (by omega) (by omega)) (by decide) a2.drew.tab)
  have hm : IntKind.i64.wrap ((d : Int) * 8) = ((8 * d : Nat) : Int) := by rw [IntWalk.i64_in _ (by omega)]; omega
  generalize ldV X.H X.S f ((8 * d : Nat) : Int) 4 = V at *
  generalize wdE X.H f ((8 * d : Nat) : Int) 4 = E at *
  generalize ((8 * d : Nat) : Int) = m at *
  have a0 := a2.head.drew.at_ 0 _ rfl
  have a1 := k0.drew.at_ 0 _ rfl
  have a3 := k0.drew.at_ 1 _ rfl
  have K0 := Lib.hid k0
  have K1 := Lib.hid k1
  have HB := Lib.hid hB
  have HA := Lib.hid a2
  clear k0 k1 hB a2 a
  go_enter Tryd.func52, Tryd.ntmps52
  go_wp2_with fail
  go_region_held3 (fun w' => w'.cell? ⟨t, 0, none⟩ = some (.pointer (some ⟨p, 0, none⟩)) ∧ w'.cell? ⟨w.heap.size, 0, none⟩ = some (.int .i64 f) ∧ w'.cell? ⟨w.heap.size, 1, none⟩ = some (.int .i64 (d : Nat)))
    (first | exact ⟨a0, a1, a3⟩ | exact ⟨b0, b1, b3⟩)
    (first
    | (go_at_call 63; refine HL.out.mono ?_; rintro e v1 ⟨rfl, hb1⟩
       have KK := Lib.hid (And.intro (K1.out.drew.below hb1 K1.out.lt) (HB.out.drew.trans (hb1.mono HB.out.size)))
       have b0 := (HA.out.head.drew.below hb1 HA.out.head.lt).at_ 0 _ rfl
       have b1 := (K0.out.drew.below hb1 K0.out.lt).at_ 0 _ rfl
       have b3 := (K0.out.drew.below hb1 K0.out.lt).at_ 1 _ rfl
       clear a0 a1 a3 hb1))
  all_goals
    go_wp2_with (go_at_call 14; refine (HU.out _).mono ?_; rintro e v2 ⟨rfl, hb2⟩
                 have KK2 := Lib.hid (And.intro (KK.out.1.below hb2 KK.out.1.lt) (KK.out.2.trans (hb2.mono KK.out.2.size)))
                 have f0 := KK2.out.1.frozen 0
                 have f1 := KK2.out.1.frozen 1
                 have f2 := KK2.out.1.frozen 2
                 have f3 := KK2.out.1.frozen 3
                 have f4 := KK2.out.1.frozen 4
                 have r0 := KK2.out.1.at_ 0 _ rfl
                 have r1 := KK2.out.1.at_ 1 _ rfl
                 have r2 := KK2.out.1.at_ 2 _ rfl
                 have r3 := KK2.out.1.at_ 3 _ rfl
                 have r4 := KK2.out.1.at_ 4 _ rfl
                 clear hb2)
    have hRf := sl_set KK2.out.1 (unpS V)
    have hBf := sl_set_below KK2.out.2 (by omega : w.heap.size ≤ w.heap.size + 1) (unpS V)
    simp only [Sl.cs] at hRf hBf
    clear KK KK2
    generalize World.setCell _ _ _ = W5 at *
    refine bodyPost_ret (results_cell_row rfl _ _ (w.heap.size + 1) 23 _ (0, 0) _ rfl hRf Tryd.underlying23 rfl (by kernel_rfl)) rfl ?_
    exact ⟨rfl, hBf⟩

set_option maxRecDepth 100000 in
set_option maxHeartbeats 1600000 in
theorem twrite_any {w : World} {t p h g : Nat} {X : Pol} {root : Int} (a : Td w t p h g X root) (f : Int) (hf : (Lit.int .i64 f).wf = true) (d : Nat) (hd : d < 8) (s : Sl) :
    Calls Tryd.prog 44 #[.pointer (some ⟨t, 0, none⟩), .agg #[.int .i64 f, .int .i64 (d : Nat)], s.v] w fun e w' =>
      e = .returned (.int .i64 (wdE X.H f ((8 * d : Nat) : Int) 4)) ∧ But (· = g) w w' ∧ Td w' t p h g (X.stX f ((8 * d : Nat) : Int) 4 s.pack) root := by
  have HP := Lib.hid (pack_any s)
  have k0 := (Blk.new w 78 #[.int .i64 f, .int .i64 (d : Nat)]).alloc (.cells s.cs 23)
  have k1 := Blk.new (w.alloc (.cells #[.int .i64 f, .int .i64 (d : Nat)] 78)) 23 s.cs
  have hB := ((But.refl (· = g) w).alloc (.cells #[.int .i64 f, .int .i64 (d : Nat)] 78)).alloc (.cells s.cs 23)
  have a2 := (a.alloc (.cells #[.int .i64 f, .int .i64 (d : Nat)] 78)).alloc (.cells s.cs 23)
  rw [World.size_alloc] at k1
  have hlt := a.lts
  have hpk := s.pack_range
  have hm : IntKind.i64.wrap ((d : Int) * 8) = ((8 * d : Nat) : Int) := by rw [IntWalk.i64_in _ (by omega)]; omega
  have hst := fun (W : World) (b : Td W t p h g X root) => pstore_any b.pl f ((8 * d : Nat) : Int) 4 s.pack (wf_i64 (by omega) (by omega)) (by decide) (wf_u64 (by omega) (by omega)) b.tab
  obtain ⟨sh, sw, sc, so, sn⟩ := s
  unfold Sl.v Sl.cs at *
  simp only at *
  generalize Sl.pack _ = P at *
  generalize X.stX f ((8 * d : Nat) : Int) 4 P = Y at *
  generalize wdE X.H f ((8 * d : Nat) : Int) 4 = E at *
  generalize ((8 * d : Nat) : Int) = m at *
  obtain ⟨W0, hW0⟩ : ∃ W0, (w.alloc (.cells #[.int .i64 f, .int .i64 (d : Nat)] 78)).alloc (.cells #[.bool sh, .bool sw, .bool sc, .bool so, .int .i64 sn] 23) = W0 := ⟨_, rfl⟩
  rw [hW0] at k0 k1 hB a2
  have a0 := a2.head.drew.at_ 0 _ rfl
  have a1 := k0.drew.at_ 0 _ rfl
  have a3 := k0.drew.at_ 1 _ rfl
  have s0 := k1.drew.at_ 0 _ rfl
  have s1 := k1.drew.at_ 1 _ rfl
  have s2 := k1.drew.at_ 2 _ rfl
  have s3 := k1.drew.at_ 3 _ rfl
  have s4 := k1.drew.at_ 4 _ rfl
  have HK := Lib.hid (And.intro k0 (And.intro k1 (And.intro hB a2)))
  have HS := Lib.hid hst
  have LT := Lib.hid hlt
  clear k0 k1 hB a2 a hst hlt hpk
  go_enter Tryd.func44, Tryd.ntmps44
  go_wp2_with fail
  go_region_held3 (fun w' => w'.cell? ⟨t, 0, none⟩ = some (.pointer (some ⟨p, 0, none⟩)) ∧ w'.cell? ⟨w.heap.size, 0, none⟩ = some (.int .i64 f) ∧ w'.cell? ⟨w.heap.size, 1, none⟩ = some (.int .i64 (d : Nat)) ∧ w'.cell? ⟨w.heap.size + 1, 0, none⟩ = some (.bool sh) ∧ w'.cell? ⟨w.heap.size + 1, 1, none⟩ = some (.bool sw) ∧ w'.cell? ⟨w.heap.size + 1, 2, none⟩ = some (.bool sc) ∧ w'.cell? ⟨w.heap.size + 1, 3, none⟩ = some (.bool so) ∧ w'.cell? ⟨w.heap.size + 1, 4, none⟩ = some (.int .i64 sn))
    (first | exact ⟨a0, a1, a3, s0, s1, s2, s3, s4⟩ | exact ⟨b0, b1, b3, r0, r1, r2, r3, r4⟩ | exact ⟨c0, c1, c3, u0, u1, u2, u3, u4⟩)
    (first
    | (go_at_call 12; refine (HP.out _).mono ?_; rintro e v1 ⟨rfl, hb1⟩
       have KK := Lib.hid (And.intro (HK.out.1.drew.below hb1 HK.out.1.lt) (And.intro (HK.out.2.1.drew.below hb1 HK.out.2.1.lt) (And.intro (HK.out.2.2.1.drew.trans (But.of_below hb1)) (HK.out.2.2.2.drew.on hb1))))
       have b0 := KK.out.2.2.2.head.at_ 0 _ rfl
       have b1 := KK.out.1.at_ 0 _ rfl
       have b3 := KK.out.1.at_ 1 _ rfl
       have r0 := KK.out.2.1.at_ 0 _ rfl
       have r1 := KK.out.2.1.at_ 1 _ rfl
       have r2 := KK.out.2.1.at_ 2 _ rfl
       have r3 := KK.out.2.1.at_ 3 _ rfl
       have r4 := KK.out.2.1.at_ 4 _ rfl
       clear a0 a1 a3 s0 s1 s2 s3 s4 hb1)
    | (go_at_call 60; refine (HS.out _ KK.out.2.2.2).mono ?_; rintro e v2 ⟨rfl, hb2, ha2⟩
       have KK2 := Lib.hid (And.intro (KK.out.1.but hb2 (by have := LT.out; omega)) (And.intro (KK.out.2.1.but hb2 (by have := LT.out; omega)) (And.intro (KK.out.2.2.1.trans hb2) (KK.out.2.2.2.butg hb2 ha2))))
       have c0 := KK2.out.2.2.2.head.at_ 0 _ rfl
       have c1 := KK2.out.1.at_ 0 _ rfl
       have c3 := KK2.out.1.at_ 1 _ rfl
       have u0 := KK2.out.2.1.at_ 0 _ rfl
       have u1 := KK2.out.2.1.at_ 1 _ rfl
       have u2 := KK2.out.2.1.at_ 2 _ rfl
       have u3 := KK2.out.2.1.at_ 3 _ rfl
       have u4 := KK2.out.2.1.at_ 4 _ rfl
       clear b0 b1 b3 r0 r1 r2 r3 r4 hb2 ha2))
  all_goals
    go_wp2
    go_ret
    exact ⟨rfl, KK2.out.2.2.1, KK2.out.2.2.2⟩
end Go.Proofs.YtbidlabhekiijaaDoor
