/- FilesBuild: disks are built, or not, as the document says. -/
import Derived.Test.YtgkhgjihjbjfnaaDoorFRf
import Derived.Test.YtgkhgjihjbjfnaaDoorFW
import Derived.Test.YtgkhgjihjbjfnaaDoorFNo
import Derived.Test.YtgkhgjihjbjfnaaDoorFFew
import Derived.Test.YtgkhgjihjbjfnaaDoorLaw
import Derived.Test.YtgkhgjihjbjfnaaDoorTie
import Derived.Test.YtgkhgjihjbjfnaaDoorCards
import Derived.LaidMore
import Derived.Lay
import Derived.SevenTiedAt
import Derived.Stop.Joined
namespace Go.Proofs.YtgkhgjihjbjfnaaDoor.lawFBd
open Go.ChangeShapes Go.WideShapes Go.ChangeAt Go.RowKit
set_option linter.unusedVariables false
set_option linter.unusedSimpArgs false

theorem TextRow.below {W W' : World} {v : Value} {L : List ByteArray} (h : TextRow W v L) (hb : Below W.heap.size W W') : TextRow W' v L := by
  obtain ⟨g, c, cur, hv, hk, ht⟩ := h
  exact ⟨g, c, cur, hv, hk.below hb hk.lt, ht⟩
theorem text_whole {W : World} {g : Nat} {L : List ByteArray} (h : Blk W g 9 (strs L).toArray) : TextRow W (.slice (some ⟨g, 0, none⟩) L.length L.length) L :=
  ⟨g, _, _, rfl, h, List.take_of_length_le (by simp [strs])⟩

set_option maxRecDepth 100000 in
set_option maxHeartbeats 4000000 in
theorem walk (A : Option Addr) (l : List Fl) (c0 : Nat) (B : Option Addr) (zs : List Int) (c1 : Nat) (s : Int) (w : World) (hl : l.length ≤ maxLen) (hA : FileIn w A l) (hz : zs.length ≤ maxLen) (hB : IntRow w B zs) (hs : (Lit.int .i64 s).wf = true) :
    Calls Tryd.prog 3 #[.slice A l.length c0, .slice B zs.length c1, .int .i64 s] w fun e w' => e = .returned (.bool true) ∧ Below w.heap.size w w' := by
  obtain ⟨_, _⟩ := bounds_i64 hs
  have HA := Lib.hid (fun v => awake_true v)
  have HIN := Lib.hid (fun v (h : Below w.heap.size w v) => few_any A B l zs c0 c1 v hl hz
    (fun i hi => by obtain ⟨ad, h1, h2, h3, h4, h5⟩ := hA i hi; exact ⟨ad, h1, Nat.lt_of_lt_of_le h2 h.size, (h.cell (p := ad.add (i * 2)) (by unfold Addr.add; split <;> exact h2)).trans h3, (h.cell (p := ad.add (i * 2 + 1)) (by unfold Addr.add; split <;> exact h2)).trans h4, h5⟩)
    (fun i hi => by obtain ⟨ad, h1, h2, h3, h4⟩ := hB i hi; exact ⟨ad, h1, Nat.lt_of_lt_of_le h2 h.size, (h.cell (p := ad.add i) (by unfold Addr.add; split <;> exact h2)).trans h3, h4⟩))
  unfold FewTold at HIN
  have HS := Lib.hid hs
  clear hl hA hz hB hs
  go_enter Tryd.func3, Tryd.ntmps3
  go_upto_region 3 with (first
    | (go_at_call 9; go_loud (refine (HA.out _).mono ?_; rintro e v0 ⟨rfl, hb0⟩; have HB0 := Lib.hid hb0; clear hb0))
    | (go_at_call 10; go_loud (refine (HIN.out _ HB0.out).mono ?_; rintro e v1 ⟨A', c', fs, rfl, hfl, hsm, hown, hbv⟩; have HFLM := Lib.hid hfl; clear hfl)))
  have hlen : fs.length ≤ 8 := by have := HFLM.out; omega
  have hfr := FileRow.of_own hown
  have HB1 := Lib.hid (HB0.out.trans (hbv.mono HB0.out.size))
  clear hown hbv HFLM
  have hnm : fs.length = 0 ∨ 0 < fs.length := by
    rcases Nat.eq_zero_or_pos fs.length with h | h
    · exact .inl h
    · exact .inr h
  by_cases hok : 1 ≤ s ∧ namesOk fs
  · obtain ⟨h1, hok⟩ := hok
    obtain ⟨sn, rfl⟩ := Int.eq_ofNat_of_zero_le (show 0 ≤ s by omega)
    have hs1 : 1 ≤ sn := by omega
    have hc := can_few fs sn (by omega) hok (fun f hf => by have := (hsm f hf).2; omega) hs1
    have q1 := fun v (hv : FileRow v (.slice A' fs.length c') fs) => build_yes A' c' fs sn v hv hc hs1 HS.out
    have q2 := fun v (hv : FileRow v (.slice A' fs.length c') fs) => rbuild_yes A' c' fs.length fs sn v rfl hv hlen hsm hok hs1 HS.out
    have hdl : (builtL fs sn).length ≤ 16384 := by rw [builtL_length hs1]; exact hc.room
    generalize builtL fs sn = DL at q1 q2 hdl
    have q3 := fun g h c d v h1 h2 => same_any g h DL.length c d DL v rfl hdl h1 h2
    unfold Built at q1
    unfold RBuilt at q2
    have Q1 := Lib.hid q1
    have Q2 := Lib.hid q2
    have Q3 := Lib.hid q3
    have HFR := Lib.hid hfr
    clear q1 q2 q3 hc hdl
    rcases hnm with h0 | h0
    · have c1 := fun v => check_any (⟨#[]⟩ : ByteArray) v
      have c2 := fun v => rcheck_any (⟨#[]⟩ : ByteArray) v (Nat.zero_le _)
      have C1 := Lib.hid c1
      have C2 := Lib.hid c2
      have h0I : ¬ (0 : Int) < (fs.length : Int) := by omega
      clear h0
      clear c1 c2 hfr hsm hok
      go_wp2_with (first
        | (go_at_call 11; go_loud (refine (Q1.out _ HFR.out).mono ?_; rintro e v2 ⟨g2, rfl, hg2, _, hb2⟩; have HFR2 := Lib.hid (HFR.out.below hb2); have HB2 := Lib.hid (HB1.out.trans (hb2.mono HB1.out.size)); have HT2 := Lib.hid (text_whole hg2); clear hb2 hg2))
        | (go_at_call 12; go_loud (refine (Q2.out _ HFR2.out).mono ?_; rintro e v3 ⟨g3, c3, rfl, ht3, hb3⟩; have HFR3 := Lib.hid (HFR2.out.below hb3); have HB3 := Lib.hid (HB2.out.trans (hb3.mono HB2.out.size)); have HT3 := Lib.hid (TextRow.below HT2.out hb3); have HT4 := Lib.hid ht3; clear hb3 ht3))
        | (go_at_call 13; go_loud (refine (Q3.out _ _ _ _ _ HT3.out HT4.out).mono ?_; rintro e v4 ⟨rfl, hb4⟩; have HB4 := Lib.hid (HB3.out.trans (hb4.mono HB3.out.size)); clear hb4))
        | (go_at_call 14; go_loud (refine (C1.out _).mono ?_; rintro e v5 ⟨rfl, rfl⟩))
        | (go_at_call 15; go_loud (refine (C2.out _).mono ?_; rintro e v6 ⟨rfl, rfl⟩)))
      go_ret
      exact ⟨by simp, HB4.out⟩
    · obtain ⟨g, rfl, _, _, _⟩ := hfr.at_ 0 h0
      have HC := Lib.hid (fun v (hv : FileRow v (.slice (some ⟨g, 0, none⟩) fs.length c') fs) => show v.cell? ⟨g, 0, none⟩ = some (.string fs[0].name) from by
        obtain ⟨g', e, _, h, _⟩ := hv.at_ 0 h0
        cases e
        simpa using h)
      have hz0 := (hsm _ (List.getElem_mem h0)).1
      have c1 := fun v => check_any fs[0].name v
      have c2 := fun v => rcheck_any fs[0].name v (by unfold maxLen; omega)
      generalize fs[0].name = nm at *
      have C1 := Lib.hid c1
      have C2 := Lib.hid c2
      have h0I : (0 : Int) < (fs.length : Int) := by omega
      clear c1 c2 hfr hsm hok
      go_wp2_with (first
        | (go_at_call 11; go_loud (refine (Q1.out _ HFR.out).mono ?_; rintro e v2 ⟨g2, rfl, hg2, _, hb2⟩; have HFR2 := Lib.hid (HFR.out.below hb2); have HB2 := Lib.hid (HB1.out.trans (hb2.mono HB1.out.size)); have HT2 := Lib.hid (text_whole hg2); clear hb2 hg2))
        | (go_at_call 12; go_loud (refine (Q2.out _ HFR2.out).mono ?_; rintro e v3 ⟨g3, c3, rfl, ht3, hb3⟩; have HFR3 := Lib.hid (HFR2.out.below hb3); have HB3 := Lib.hid (HB2.out.trans (hb3.mono HB2.out.size)); have HT3 := Lib.hid (TextRow.below HT2.out hb3); have HT4 := Lib.hid ht3; clear hb3 ht3))
        | (go_at_call 13; go_loud (refine (Q3.out _ _ _ _ _ HT3.out HT4.out).mono ?_; rintro e v4 ⟨rfl, hb4⟩; have HB4 := Lib.hid (HB3.out.trans (hb4.mono HB3.out.size)); have cc := HC.out _ (HFR3.out.below hb4); clear hb4))
        | (go_at_call 14; go_loud (refine (C1.out _).mono ?_; rintro e v5 ⟨rfl, rfl⟩))
        | (go_at_call 15; go_loud (refine (C2.out _).mono ?_; rintro e v6 ⟨rfl, rfl⟩)))
      go_ret
      exact ⟨by simp, HB4.out⟩
  · have q1 : ∀ v, FileRow v (.slice A' fs.length c') fs → Calls Tryd.prog 11 #[.slice A' fs.length c', .int .i64 s] v (NotBuilt v) := fun v hv => by
      by_cases h1 : s < 1
      · exact build_low _ s v h1
      · exact build_bad A' c' fs s v hv (by omega) (fun f hf => by have := (hsm f hf).1; unfold maxLen; omega) (fun h => hok ⟨by omega, h⟩) (by omega)
    have q2 : ∀ v, FileRow v (.slice A' fs.length c') fs → Calls Tryd.prog 12 #[.slice A' fs.length c', .int .i64 s] v (NotBuilt v) := fun v hv => by
      by_cases h1 : s < 1
      · exact rbuild_low _ s v h1
      · exact rbuild_bad A' c' fs.length fs s v rfl hv hlen hsm (fun h => hok ⟨by omega, h⟩) (by omega)
    unfold NotBuilt at q1 q2
    have Q1 := Lib.hid q1
    have Q2 := Lib.hid q2
    have HFR := Lib.hid hfr
    clear q1 q2 hok
    rcases hnm with h0 | h0
    · have c1 := fun v => check_any (⟨#[]⟩ : ByteArray) v
      have c2 := fun v => rcheck_any (⟨#[]⟩ : ByteArray) v (Nat.zero_le _)
      have C1 := Lib.hid c1
      have C2 := Lib.hid c2
      have h0I : ¬ (0 : Int) < (fs.length : Int) := by omega
      clear h0
      clear c1 c2 hfr hsm
      go_wp2_with (first
        | (go_at_call 11; go_loud (refine (Q1.out _ HFR.out).mono ?_; rintro e v2 ⟨rfl, hb2⟩; have HFR2 := Lib.hid (HFR.out.below hb2); have HB2 := Lib.hid (HB1.out.trans (hb2.mono HB1.out.size)); clear hb2))
        | (go_at_call 12; go_loud (refine (Q2.out _ HFR2.out).mono ?_; rintro e v3 ⟨rfl, hb3⟩; have HFR3 := Lib.hid (HFR2.out.below hb3); have HB3 := Lib.hid (HB2.out.trans (hb3.mono HB2.out.size)); clear hb3))
        | (go_at_call 13; go_loud (refine (same_nil _).mono ?_; rintro e v4 ⟨rfl, rfl⟩))
        | (go_at_call 14; go_loud (refine (C1.out _).mono ?_; rintro e v5 ⟨rfl, rfl⟩))
        | (go_at_call 15; go_loud (refine (C2.out _).mono ?_; rintro e v6 ⟨rfl, rfl⟩)))
      go_ret
      exact ⟨by simp, HB3.out⟩
    · obtain ⟨g, rfl, _, _, _⟩ := hfr.at_ 0 h0
      have HC := Lib.hid (fun v (hv : FileRow v (.slice (some ⟨g, 0, none⟩) fs.length c') fs) => show v.cell? ⟨g, 0, none⟩ = some (.string fs[0].name) from by
        obtain ⟨g', e, _, h, _⟩ := hv.at_ 0 h0
        cases e
        simpa using h)
      have hz0 := (hsm _ (List.getElem_mem h0)).1
      have c1 := fun v => check_any fs[0].name v
      have c2 := fun v => rcheck_any fs[0].name v (by unfold maxLen; omega)
      generalize fs[0].name = nm at *
      have C1 := Lib.hid c1
      have C2 := Lib.hid c2
      have h0I : (0 : Int) < (fs.length : Int) := by omega
      clear c1 c2 hfr hsm
      go_wp2_with (first
        | (go_at_call 11; go_loud (refine (Q1.out _ HFR.out).mono ?_; rintro e v2 ⟨rfl, hb2⟩; have HFR2 := Lib.hid (HFR.out.below hb2); have HB2 := Lib.hid (HB1.out.trans (hb2.mono HB1.out.size)); clear hb2))
        | (go_at_call 12; go_loud (refine (Q2.out _ HFR2.out).mono ?_; rintro e v3 ⟨rfl, hb3⟩; have HFR3 := Lib.hid (HFR2.out.below hb3); have HB3 := Lib.hid (HB2.out.trans (hb3.mono HB2.out.size)); clear hb3))
        | (go_at_call 13; go_loud (refine (same_nil _).mono ?_; rintro e v4 ⟨rfl, rfl⟩; have cc := HC.out _ HFR3.out))
        | (go_at_call 14; go_loud (refine (C1.out _).mono ?_; rintro e v5 ⟨rfl, rfl⟩))
        | (go_at_call 15; go_loud (refine (C2.out _).mono ?_; rintro e v6 ⟨rfl, rfl⟩)))
      go_ret
      exact ⟨by simp, HB3.out⟩

set_option maxRecDepth 100000 in
theorem lifted (os : Os) (started : os.Started) (H : Type) (enc : TypeId × Value → H) :
    ReturnsInHanded {} Tryd.checked os 3 .any (fun w args => (Rows.filesBuildSpec.pre enc Tryd.prog Tryd.f3 Rows.filesBuildRow.domain false w args ∧ laidMetH Tryd.prog Rows.filesBuildRow.laid w) ∧ sizedMet enc Tryd.prog Tryd.f3 (OpenSpec.ofChange Rows.filesBuildSpec) false w args) (Rows.filesBuildSpec.post enc Tryd.prog Tryd.f3 false true false false) := by
  refine returnsInHanded_of_change_and (C := Tryd.checked) (X := fun w _ => laidMetH Tryd.prog Rows.filesBuildRow.laid w) (fun _ _ _ hh h => h.of_heap hh) own started (by kernel_rfl) Tryd.func3
    (ChangeSpec.witness_shaped (enc := enc) (C := Tryd.checked) (os := os) (X := fun w _ => laidMetH Tryd.prog Rows.filesBuildRow.laid w) false (World.laidAll Tryd.prog os Rows.filesBuildRow.laid) #[.slice none 0 0, .slice none 0 0, .int .i64 0] 8 (World.laidAll_os _ _ _) (World.shaped_of_ZipB (by kernel_rfl) (by kernel_rfl)) (by kernel_rfl) (by kernel_rfl) (by kernel_rfl) (by rw [MakeChecks.laidMetH_plain _ _ _ (by kernel_rfl)]; exact laidMet_laidAll _ (by kernel_rfl) (by kernel_rfl))) ?_
  intro W base args ds gs before hval0 hW hcnd _ hL _
  have hval : ∀ (j : Nat) t v, Tryd.f3.params[j]? = some t → args[j]? = some v → Value.okWide Tryd.prog W .any base t v := hval0
  have hW' := hW
  obtain ⟨p, q, hA0, hV, rfl, hfz, hnd⟩ := hW
  have hA : DataW.TrodAll enc Tryd.prog W 0 (fun _ => true) true Tryd.f3.params.toList args.toList ds p := hA0
  rw [Tryd.params3] at hA hval
  obtain ⟨v0, vs0, d0, ds0, p0, q0, hargs, rfl, rfl, h0, r0⟩ := trodAll_cons hA
  obtain ⟨v1, vs1, d1, ds1, p1, q1, rfl, rfl, rfl, h1, r1⟩ := trodAll_cons r0
  obtain ⟨v2, vs2, d2, ds2, p2, q2, rfl, rfl, rfl, h2, r2⟩ := trodAll_cons r1
  obtain ⟨rfl, rfl, rfl⟩ := trodAll_nil r2
  obtain rfl : args = #[v0, v1, v2] := by cases args; simp_all
  obtain ⟨rfl, rfl⟩ := trodVars_none hV
  have k0 := h0
  have lt0 : ∀ x ∈ p0, x.block < W.heap.size := by obtain ⟨m, hm⟩ := k0; exact DataW.trod_lt m _ _ _ hm
  obtain ⟨LA0, Ll0, Lc0, rfl, Lm0, Lr0⟩ := openFiles4 (hval 0 22 v0 rfl rfl) h0
  have k1 := h1
  have lt1 : ∀ x ∈ p1, x.block < W.heap.size := by obtain ⟨m, hm⟩ := k1; exact DataW.trod_lt m _ _ _ hm
  obtain ⟨LA1, Ll1, Lc1, rfl, Lm1, Lr1⟩ := openInts4 (hval 1 23 v1 rfl rfl) h1
  have k2 := h2
  have lt2 : ∀ x ∈ p2, x.block < W.heap.size := by obtain ⟨m, hm⟩ := k2; exact DataW.trod_lt m _ _ _ hm
  obtain ⟨a2, rfl, _, _, w2⟩ := open_int Tryd.underlying3 (hval 2 3 v2 rfl rfl) h2
  clear hA0 hval0
  refine (walk LA0 Ll0 Lc0 LA1 Ll1 Lc1 a2 W Lm0 Lr0 Lm1 Lr1 w2).mono fun e W' ⟨he, bel⟩ => ?_
  subst he
  exact ⟨_, rfl, _, _, _, [], _, [], hW', trodAll_mk1 (shut_bool Tryd.underlying4 _), (trodAll_cons_mk (Below.trod laidOut (by kernel_rfl) (of_decide_eq_true (by kernel_rfl)) k0 bel lt0) (trodAll_cons_mk (Below.trod laidOut (by kernel_rfl) (of_decide_eq_true (by kernel_rfl)) k1 bel lt1) (trodAll_cons_mk (Below.trod laidOut (by kernel_rfl) (of_decide_eq_true (by kernel_rfl)) k2 bel lt2) trodAll_mk0))), rfl, bel.frame _, fun h => by cases h⟩
theorem over : Rows.filesBuildRow.holds Tryd.pinned (OpenSpec.ofChange Rows.filesBuildSpec) :=
  OpenClaim.holds_of_wide 3 Tryd.f3 rfl rfl rfl rfl rfl rfl rfl ⟨rfl, rfl, rfl, rfl, rfl⟩ rfl rfl rfl rfl rfl (by kernel_rfl) Tryd.func3 (by kernel_rfl)
    (of_decide_eq_true (by kernel_rfl)) (by unfold Func.isWrapper; first | (rw [if_pos (by decide +kernel)]; kernel_rfl) | (rw [if_neg (by decide +kernel)]; exact ⟨rfl, rfl⟩))
    (fun os started H enc _ => lifted os started H enc)
set_option maxRecDepth 100000 in
/-- The statement. -/
theorem proved : Rows.FilesBuildCardSaid :=
  Claim7.holds_tied_plain_at .later [] [.data, .pinned] true _ false over (fun _ h => by cases h) (by kernel_rfl) (fun _ h => by cases h) filesBuild_row_tie rfl ⟨rfl, rfl⟩ (by kernel_rfl) rfl
    (fun f fn hf hfn => by
      obtain rfl : f = 3 := Option.some.inj (hf.symm.trans (by kernel_rfl))
      obtain rfl : fn = Tryd.f3 := Option.some.inj (hfn.symm.trans Tryd.func3)
      refine ⟨by kernel_rfl, fun j t ht => ?_⟩
      rw [Tryd.params3] at ht
      match j, ht with
      | 0, ht =>
        obtain rfl : t = 22 := by simpa using ht.symm
        exact (by kernel_rfl : Tryd.pinned.checked.prog.wantsStandIn 22 = false)
      | 1, ht =>
        obtain rfl : t = 23 := by simpa using ht.symm
        exact (by kernel_rfl : Tryd.pinned.checked.prog.wantsStandIn 23 = false)
      | 2, ht =>
        obtain rfl : t = 3 := by simpa using ht.symm
        exact (by kernel_rfl : Tryd.pinned.checked.prog.wantsStandIn 3 = false)
      | j + 3, ht => simp at ht)
    (by kernel_rfl)
end Go.Proofs.YtgkhgjihjbjfnaaDoor.lawFBd
