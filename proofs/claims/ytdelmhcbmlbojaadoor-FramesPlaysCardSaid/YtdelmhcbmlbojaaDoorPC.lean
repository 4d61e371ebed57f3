/- Package frames: Take, Copy. -/
import Derived.Test.YtdelmhcbmlbojaaDoorPB
namespace Go.Proofs.YtdelmhcbmlbojaaDoor
open Go.RowKit
set_option linter.unusedVariables false

/-- What Take tells, and what the pool is then. -/
def tkE (H : List Int) : Int := if freeAt H < H.length then 0 else 18
def tkV (H : List Int) : Int := if freeAt H < H.length then freeAt H else 0
def Pol.tkX (X : Pol) : Pol := if freeAt X.H < X.H.length then ⟨X.H.set (freeAt X.H) 1, X.S.set (freeAt X.H) zsec⟩ else X
set_option maxHeartbeats 400000 in
theorem ptake_nil (w : World) : Calls Tryd.prog 14 #[.pointer none] w fun e w' => e = .returned (.tuple #[.int .i64 0, .int .i64 1]) ∧ w = w' := by
  go_enter Tryd.func14, Tryd.ntmps14
  go_wp2
  go_ret2
  exact ⟨rfl, rfl⟩

set_option maxHeartbeats 400000 in
theorem ptake_zero (p c : Nat) (w : World) (hc : w.cell? ⟨p, 0, none⟩ = some (.slice none 0 c)) : Calls Tryd.prog 14 #[.pointer (some ⟨p, 0, none⟩)] w fun e w' => e = .returned (.tuple #[.int .i64 0, .int .i64 18]) ∧ w = w' := by
  have HF := Lib.hid (pfree_zero p c w hc)
  clear hc
  go_enter Tryd.func14, Tryd.ntmps14
  go_wp2_with (go_at_call 35; refine HF.out.mono ?_; rintro e w4 ⟨rfl, rfl⟩)
  go_ret2
  exact ⟨rfl, rfl⟩

set_option maxHeartbeats 800000 in
theorem ptake_any {w : World} {p h g : Nat} {X : Pol} (a : Pl w p h g X) : Calls Tryd.prog 14 #[.pointer (some ⟨p, 0, none⟩)] w fun e w' =>
    e = .returned (.tuple #[.int .i64 (tkV X.H), .int .i64 (tkE X.H)]) ∧ But (fun j => j = h ∨ j = g) w w' ∧ Pl w' p h g X.tkX := by
  have hf := pfree_any a
  by_cases hlt : freeAt X.H < X.H.length
  · have e1 : tkV X.H = freeAt X.H := by unfold tkV; rw [if_pos hlt]
    have e2 : tkE X.H = 0 := by unfold tkE; rw [if_pos hlt]
    have e3 : X.tkX = ⟨X.H.set (freeAt X.H) 1, X.S.set (freeAt X.H) zsec⟩ := by unfold Pol.tkX; rw [if_pos hlt]
    rw [if_pos hlt, show decide (freeAt X.H < X.H.length) = true by simpa using hlt] at hf
    rw [e1, e2, e3]
    have hb := pbytes_any a _ hlt
    have hkS := a.at_S hlt
    have hle := a.len
    generalize freeAt X.H = k at *
    have HF := Lib.hid hf
    have HB := Lib.hid hb
    have HA := Lib.hid a
    clear hf hb a e1 e2 e3
    go_enter Tryd.func14, Tryd.ntmps14
    go_wp2_with (first
      | (go_at_call 35; refine HF.out.mono ?_; rintro e w4 ⟨rfl, rfl⟩)
      | (go_at_call 36; refine HB.out.mono ?_; rintro e w4 ⟨rfl, rfl⟩)
      | (refine wpList_clear_sec rfl (.tmp 17) _ rfl 5 Tryd.underlying62 zeroU8 g k 64 5 X.S rfl HA.out.all hkS HA.out.byt ?_
         intro w5 hb5 hg5
         have a5 := HA.out.setS hb5 hg5 (by simp) (HA.out.all.set_ zsec_size)
         have c5 := a5.head.at_ 0 _ rfl
         have c6 := a5.row.at_ k _ (icells_at hlt)
         have f6 := a5.row.frozen k
         have HA5 := Lib.hid a5
         have HG5 := Lib.hid hg5
         simp only at c5 c6
         clear hb5 hg5 a5))
    go_ret2
    exact ⟨rfl, ((But.refl (fun j => j = h ∨ j = g) w).grown HG5.out (fun j e => by injection e with e; exact .inl (.inr e.symm))).setCell (p := ⟨h, k, none⟩) (.inl (.inl rfl)) _, HA5.out.setH k 1⟩
  · have e1 : tkV X.H = 0 := by unfold tkV; rw [if_neg hlt]
    have e2 : tkE X.H = 18 := by unfold tkE; rw [if_neg hlt]
    have e3 : X.tkX = X := by unfold Pol.tkX; rw [if_neg hlt]
    rw [if_neg hlt, show decide (freeAt X.H < X.H.length) = false by simpa using hlt] at hf
    rw [e1, e2, e3]
    have HF := Lib.hid hf
    have HA := Lib.hid a
    clear hf a e1 e2 e3 hlt
    go_enter Tryd.func14, Tryd.ntmps14
    go_wp2_with (go_at_call 35; refine HF.out.mono ?_; rintro e w4 ⟨rfl, rfl⟩)
    go_ret2
    exact ⟨rfl, But.refl _ _, HA.out⟩

/-- What Copy tells, and what the pool is then. -/
def cpE (H : List Int) (s : Int) : Int := if askE H s = 0 then tkE H else askE H s
def cpV (H : List Int) (s : Int) : Int := if askE H s = 0 then tkV H else 0
def Pol.cpX (X : Pol) (s : Int) : Pol := if cpE X.H s = 0 then ⟨X.H.set (freeAt X.H) 1, X.S.set (freeAt X.H) (X.S.getD s.toNat ⟨#[]⟩)⟩ else X
theorem free_ne {H : List Int} {k : Nat} (hk : k < H.length) (hx : H[k] ≠ 0) (hf : freeAt H < H.length) : freeAt H ≠ k := by
  rintro rfl
  exact hx (freeAt_zero hf)
theorem cpE_zero {H : List Int} {s : Int} (h : cpE H s = 0) : askE H s = 0 ∧ freeAt H < H.length := by
  unfold cpE at h
  split at h
  · refine ⟨by assumption, ?_⟩
    unfold tkE at h
    split at h
    · assumption
    · cases h
  · exact absurd h (by assumption)
set_option maxHeartbeats 1600000 in
theorem pclo_copy {w : World} {p h g : Nat} {X : Pol} (a : Pl w p h g X) (k : Nat) (hk : k < X.H.length) (hx : X.H[k] ≠ 0) (b c : Nat) (u : Value) (hb : Blk w b 24 #[.pointer (some ⟨p, 0, none⟩)]) (hc : Blk w c 3 #[u])
    (b1 : b ≠ h) (b2 : b ≠ g) (b3 : b ≠ c) (c1 : c ≠ h) (c2 : c ≠ g) (c3 : c ≠ p) :
    Calls Tryd.prog 43 #[.slice (some ⟨g, 64 * k, none⟩) 64 64, .pointer (some ⟨b, 0, none⟩), .pointer (some ⟨c, 0, none⟩)] w fun e w' =>
      e = .returned (.int .i64 (cpE X.H k)) ∧ But (fun j => j = h ∨ j = g ∨ j = c) w w' ∧ w'.cell? ⟨c, 0, none⟩ = some (.int .i64 (cpV X.H k)) ∧ Pl w' p h g (X.cpX k) := by
  have h0 : askE X.H k = 0 := by rw [askE_in hk, if_neg hx]
  have e1 : cpE X.H k = tkE X.H := by unfold cpE; rw [if_pos h0]
  have e2 : cpV X.H k = tkV X.H := by unfold cpV; rw [if_pos h0]
  have ht := ptake_any a
  have d0 := hb.at_ 0 _ rfl
  have KB := Lib.hid hb
  have KC := Lib.hid hc
  have hlen := a.len
  by_cases hlt : freeAt X.H < X.H.length
  · have hne := free_ne hk hx hlt
    have hkS := a.at_S hk
    have t1 : tkV X.H = freeAt X.H := by unfold tkV; rw [if_pos hlt]
    have t2 : tkE X.H = 0 := by unfold tkE; rw [if_pos hlt]
    have t3 : X.tkX = ⟨X.H.set (freeAt X.H) 1, X.S.set (freeAt X.H) zsec⟩ := by unfold Pol.tkX; rw [if_pos hlt]
    have hl2 : freeAt X.H < (⟨X.H.set (freeAt X.H) 1, X.S.set (freeAt X.H) zsec⟩ : Pol).H.length := by simpa using hlt
    have hl3 : freeAt X.H < (⟨X.H.set (freeAt X.H) 1, X.S.set (freeAt X.H) zsec⟩ : Pol).S.length := by simpa using a.at_S hlt
    have hk3 : k < (⟨X.H.set (freeAt X.H) 1, X.S.set (freeAt X.H) zsec⟩ : Pol).S.length := by simpa using hkS
    have e3 : X.cpX k = ⟨X.H.set (freeAt X.H) 1, (⟨X.H.set (freeAt X.H) 1, X.S.set (freeAt X.H) zsec⟩ : Pol).S.set (freeAt X.H) ((⟨X.H.set (freeAt X.H) 1, X.S.set (freeAt X.H) zsec⟩ : Pol).S[k]'hk3)⟩ := by
      unfold Pol.cpX
      rw [if_pos (by rw [e1, t2])]
      simp [List.getD, hkS, hne]
    rw [t1, t2, t3] at ht
    rw [e1, e2, t1, t2, e3]
    clear e1 e2 t1 t2 t3 e3 h0 hx
    generalize hX1 : (⟨X.H.set (freeAt X.H) 1, X.S.set (freeAt X.H) zsec⟩ : Pol) = X1 at *
    have hX1H : X1.H = X.H.set (freeAt X.H) 1 := by rw [← hX1]
    generalize freeAt X.H = m at *
    rw [← hX1H]
    have HT := Lib.hid ht
    have HX := Lib.hid hX1H
    clear ht hX1 hX1H a hb hc
    go_enter Tryd.func43, Tryd.ntmps43
    go_wp2_with (first
      | (go_at_call 14; refine HT.out.mono ?_; rintro e w4 ⟨rfl, hb4, a4⟩
         have kb4 := KB.out.but hb4 (by omega)
         have kc4 := KC.out.but hb4 (by omega)
         have d4 := kc4.at_ 0 _ rfl
         have f4 := kc4.frozen 0
         have kc5 := kc4.set_ 0 (.int .i64 m)
         have kb5 := kb4.far (p := ⟨c, 0, none⟩) b3 (.int .i64 m)
         have a5 := a4.far (q := ⟨c, 0, none⟩) (fun e => c3 e.symm) (fun e => c1 e.symm) (fun e => c2 e.symm) (.int .i64 m)
         have hb5 := (hb4.mono (T := fun j => j = h ∨ j = g ∨ j = c) (fun j e => by rcases e with e | e; exact .inl e; exact .inr (.inl e))).setCell (p := ⟨c, 0, none⟩) (.inl (.inr (.inr rfl))) (.int .i64 m)
         have d5 := kb5.at_ 0 _ rfl
         have d6 := kc5.at_ 0 (.int .i64 m) (by simp)
         have hy := Lib.hid (pbytes_any a5 m hl2)
         have KC5 := Lib.hid kc5
         have HA5 := Lib.hid a5
         have HB5 := Lib.hid hb5
         clear hb4 a4 kb4 kc4 kc5 kb5 a5 hb5)
      | (go_at_call 36; refine hy.out.mono ?_; rintro e w6 ⟨rfl, rfl⟩)
      | (refine wpList_copy_page rfl (.tmp 14) (.tmp 15) _ _ rfl 5 Tryd.underlying62 sizeU8 g m k 64 64 5 X1.S rfl rfl HA5.out.all hl3 hk3 HA5.out.byt ?_
         intro w7 hb7 hg7
         have HB7 := Lib.hid hb7
         have HG7 := Lib.hid hg7
         clear hb7 hg7))
    go_ret
    refine ⟨rfl, HB5.out.grown HG7.out (fun j e => by injection e with e; exact .inl (.inr (.inl e.symm))), ?_, ?_⟩
    · exact (KC5.out.grown HG7.out (by intro e; injection e with e; exact c2 e)).at_ 0 _ (by simp)
    · exact HA5.out.setS HB7.out HG7.out (by simp) (HA5.out.all.set_ (HA5.out.all _ (List.getElem_mem hk3)))
  · have t1 : tkV X.H = 0 := by unfold tkV; rw [if_neg hlt]
    have t2 : tkE X.H = 18 := by unfold tkE; rw [if_neg hlt]
    have t3 : X.tkX = X := by unfold Pol.tkX; rw [if_neg hlt]
    have e3 : X.cpX k = X := by unfold Pol.cpX; rw [if_neg (by rw [e1, t2]; decide)]
    rw [t1, t2, t3] at ht
    rw [e1, e2, t1, t2, e3]
    have HT := Lib.hid ht
    clear e1 e2 t1 t2 t3 e3 h0 hx ht hlt a hb hc hk hlen
    go_enter Tryd.func43, Tryd.ntmps43
    go_wp2_with (go_at_call 14; refine HT.out.mono ?_; rintro e w4 ⟨rfl, hb4, a4⟩
                 have kc4 := KC.out.but hb4 (by omega)
                 have d4 := kc4.at_ 0 _ rfl
                 have f4 := kc4.frozen 0
                 have KC4 := Lib.hid kc4
                 have HA4 := Lib.hid a4
                 have HB4 := Lib.hid hb4
                 clear hb4 a4 kc4)
    go_ret
    exact ⟨rfl, (HB4.out.mono (T := fun j => j = h ∨ j = g ∨ j = c) (fun j e => by rcases e with e | e; exact .inl e; exact .inr (.inl e))).setCell (p := ⟨c, 0, none⟩) (.inl (.inr (.inr rfl))) _, (KC4.out.set_ 0 _).at_ 0 _ (by simp), HA4.out.far (q := ⟨c, 0, none⟩) (fun e => c3 e.symm) (fun e => c1 e.symm) (fun e => c2 e.symm) _⟩

theorem pwith_copy_any {w : World} {p h g : Nat} {X : Pol} (a : Pl w p h g X) (s : Int) :
    Calls Tryd.prog 37 #[.pointer (some ⟨p, 0, none⟩), .int .i64 s, .func (.func 43) #[] #[.pointer (some ⟨w.heap.size, 0, none⟩), .pointer (some ⟨w.heap.size + 1, 0, none⟩)]]
      ((w.alloc (.cells #[.pointer (some ⟨p, 0, none⟩)] 24)).alloc (.cells #[.int .i64 0] 3)) fun e w' =>
        e = .returned (.int .i64 (cpE X.H s)) ∧ But (fun j => j = h ∨ j = g) w w' ∧ w'.cell? ⟨w.heap.size + 1, 0, none⟩ = some (.int .i64 (cpV X.H s)) ∧ Pl w' p h g (X.cpX s) := by
  have a2 := (a.alloc (.cells #[.pointer (some ⟨p, 0, none⟩)] 24)).alloc (.cells #[.int .i64 0] 3)
  have hb := ((But.refl (fun j => j = h ∨ j = g) w).alloc (.cells #[.pointer (some ⟨p, 0, none⟩)] 24)).alloc (.cells #[.int .i64 0] 3)
  have k1 := (Blk.new w 24 #[.pointer (some ⟨p, 0, none⟩)]).alloc (.cells #[.int .i64 0] 3)
  have k2 := Blk.new (w.alloc (.cells #[.pointer (some ⟨p, 0, none⟩)] 24)) 3 #[.int .i64 0]
  simp only [World.size_alloc] at k2
  generalize (w.alloc (.cells #[.pointer (some ⟨p, 0, none⟩)] 24)).alloc (.cells #[.int .i64 0] 3) = v at *
  have l1 := a.head.lt
  have l2 := a.row.lt
  have l3 := a.byt.lt
  by_cases h0 : askE X.H s = 0
  · obtain ⟨k, rfl, hk, hx⟩ := askE_zero h0
    exact pwith_copy a2 k hk hx _ _ _ _ (Lib.hid ((pclo_copy a2 k hk hx w.heap.size (w.heap.size + 1) _ k1 k2 (by omega) (by omega) (by omega) (by omega) (by omega) (by omega)).mono fun e w' ⟨he, hb2, hc, ha⟩ =>
      ⟨he, hb.thru hb2 (fun j e => by omega), hc, ha⟩))
  · have e1 : cpE X.H s = askE X.H s := by unfold cpE; rw [if_neg h0]
    have e2 : cpV X.H s = 0 := by unfold cpV; rw [if_neg h0]
    have e3 : X.cpX s = X := by unfold Pol.cpX; rw [e1, if_neg h0]
    rw [e1, e2, e3]
    exact (pwith_no a2 s _ _ rfl h0).mono fun e w' ⟨he, hw⟩ => by subst hw; exact ⟨he, hb, k2.at_ 0 _ rfl, a2⟩

set_option maxHeartbeats 400000 in
theorem pcopy_any {w : World} {p h g : Nat} {X : Pol} (a : Pl w p h g X) (s : Int) :
    Calls Tryd.prog 23 #[.pointer (some ⟨p, 0, none⟩), .int .i64 s] w fun e w' => e = .returned (.tuple #[.int .i64 (cpV X.H s), .int .i64 (cpE X.H s)]) ∧ But (fun j => j = h ∨ j = g) w w' ∧ Pl w' p h g (X.cpX s) := by
  have hmf : ∀ (fn : Fn) (first cap : Array Value) (w : World), (Instr.makeFunc fn first cap).run Tryd.prog w = .ok (.func fn first cap) w := fun _ _ _ _ => rfl
  have HU := Lib.hid (pwith_copy_any a s)
  clear a
  go_enter Tryd.func23, Tryd.ntmps23
  go_wp2_with (go_at_call 37; refine HU.out.mono ?_; rintro e w4 ⟨rfl, hb, hc, ha⟩)
  go_ret2
  exact ⟨rfl, hb, ha⟩

set_option maxHeartbeats 400000 in
theorem pcopy_zero (q c : Nat) (w : World) (hc : w.cell? ⟨q, 0, none⟩ = some (.slice none 0 c)) (hq : q < w.heap.size) (s : Int) : Calls Tryd.prog 23 #[.pointer (some ⟨q, 0, none⟩), .int .i64 s] w fun e w' => e = .returned (.tuple #[.int .i64 0, .int .i64 14]) ∧ Below w.heap.size w w' := by
  have hmf : ∀ (fn : Fn) (first cap : Array Value) (w : World), (Instr.makeFunc fn first cap).run Tryd.prog w = .ok (.func fn first cap) w := fun _ _ _ _ => rfl
  have hb : ∀ o1 o2 : Obj, ((w.alloc o1).alloc o2).cell? ⟨q, 0, none⟩ = some (.slice none 0 c) := fun o1 o2 => by
    rw [World.cell?_alloc_lt (h := by simp <;> omega), World.cell?_alloc_lt (h := by simpa using hq)]
    exact hc
  have HU := Lib.hid (fun o1 o2 f => pwith_far q none 0 c _ (hb o1 o2) s (by omega) f)
  clear hb hc
  go_enter Tryd.func23, Tryd.ntmps23
  go_wp2_with (go_at_call 37; refine (HU.out _ _ _).mono ?_; rintro e w4 ⟨rfl, rfl⟩)
  go_ret2
  exact ⟨rfl, ((Below.refl _ w).alloc (Nat.le_refl _) _).alloc (by simp) _⟩
end Go.Proofs.YtdelmhcbmlbojaaDoor
