/- FilesBack: what was built is opened, and has the files' names and bytes, page by page. -/
import Derived.Test.YtgkhgjihjbjfnaaDoorFRn
import Derived.Test.YtgkhgjihjbjfnaaDoorBits
import Derived.Test.YtgkhgjihjbjfnaaDoorLaw
import Derived.Test.YtgkhgjihjbjfnaaDoorTie
import Derived.Test.YtgkhgjihjbjfnaaDoorCards
import Derived.LaidMore
import Derived.Lay
import Derived.SevenTiedAt
import Derived.Stop.Joined
namespace Go.Proofs.YtgkhgjihjbjfnaaDoor.lawFBk
open Go.ChangeShapes Go.WideShapes Go.ChangeAt Go.RowKit
set_option linter.unusedVariables false
set_option linter.unusedSimpArgs false

theorem and7 (n : Int) : bits .and .i64 n 7 = n % 8 := i64_and_mask n 3 7 (by omega) (by decide)

set_option maxRecDepth 100000 in
set_option maxHeartbeats 4000000 in
theorem walk (A : Option Addr) (l : List Fl) (c0 : Nat) (B : Option Addr) (zs : List Int) (c1 : Nat) (b : Int) (w : World) (hl : l.length ≤ maxLen) (hA : FileIn w A l) (hz : zs.length ≤ maxLen) (hB : IntRow w B zs) (hb : (Lit.int .i64 b).wf = true) :
    Calls Tryd.prog 4 #[.slice A l.length c0, .slice B zs.length c1, .int .i64 b] w fun e w' => e = .returned (.bool true) ∧ Below w.heap.size w w' := by
  obtain ⟨r, hr⟩ : ∃ r : Nat, b % 8 = r := ⟨(b % 8).toNat, by omega⟩
  have hr8 : r < 8 := by omega
  have b2 := and7 b
  rw [hr] at b2
  obtain ⟨s, hs⟩ : ∃ s : Nat, 1 + r = s := ⟨_, rfl⟩
  have hs1 : 1 ≤ s := by omega
  have hs2 : (1 + (r : Int)) = (s : Int) := by omega
  have hs8 : s ≤ 8 := by omega
  have HA := Lib.hid (fun v => awake_true v)
  have HIN := Lib.hid (fun v (h : Below w.heap.size w v) => few_any A B l zs c0 c1 v hl hz
    (fun i hi => by obtain ⟨ad, h1, h2, h3, h4, h5⟩ := hA i hi; exact ⟨ad, h1, Nat.lt_of_lt_of_le h2 h.size, (h.cell (p := ad.add (i * 2)) (by unfold Addr.add; split <;> exact h2)).trans h3, (h.cell (p := ad.add (i * 2 + 1)) (by unfold Addr.add; split <;> exact h2)).trans h4, h5⟩)
    (fun i hi => by obtain ⟨ad, h1, h2, h3, h4⟩ := hB i hi; exact ⟨ad, h1, Nat.lt_of_lt_of_le h2 h.size, (h.cell (p := ad.add i) (by unfold Addr.add; split <;> exact h2)).trans h3, h4⟩))
  unfold FewTold at HIN
  clear hl hA hz hB hb hr hs
  go_enter Tryd.func4, Tryd.ntmps4
  go_wp2_with (first
    | (go_at_call 9; go_loud (refine (HA.out _).mono ?_; rintro e v0 ⟨rfl, hb0⟩))
    | (go_at_call 10; go_loud (refine (HIN.out _ hb0).mono ?_; rintro e v1 ⟨A', c', fs, rfl, hfl, hsm, hown, hbv⟩; have HFLM := Lib.hid hfl; clear hfl)))
  have hlen : fs.length ≤ 8 := by have := HFLM.out; omega
  obtain ⟨n, hn⟩ : ∃ n, fs.length = n := ⟨_, rfl⟩
  have hB1 := hb0.trans (hbv.mono hb0.size)
  have hown1 : v1.ownsRow w.heap.size 32 2 (.slice A' fs.length c') fs.length (fileCells (rn fs 0)) := own_weaken2 hown hb0.size
  rw [hn] at hown1 hlen ⊢
  have HOWN := Lib.hid hown1
  have HB1 := Lib.hid hB1
  have HN := Lib.hid hn
  have HSM := Lib.hid hsm
  clear hown hown1 hbv hb0 hB1 HFLM hn hsm
  go_loopw [9] (fun i wr => ∃ k : Nat, k ≤ n ∧ i = .int .i64 k ∧ wr.ownsRow w.heap.size 32 2 (.slice A' n c') n (fileCells (rn fs k)) ∧ Below w.heap.size w wr) (fun i _ => n - (intOf i).toNat)
  case atStart => exact ⟨0, Nat.zero_le _, rfl, HOWN.out, HB1.out⟩
  case round =>
    obtain ⟨k, hk, rfl, hown, hBw⟩ := hrel
    by_cases hlt : k < n
    · have hkf : k < fs.length := by rw [HN.out]; exact hlt
      have hcv := run_name k (by omega)
      rcases hown.2 with ⟨h0, h1⟩ | ⟨g, cap, cur, hv, hgB, hg, hr⟩
      · omega
      · injection hv with h1 h2 h3
        subst h1
        have hgb : Blk wr g 32 cur := hg
        obtain ⟨g', hg', _, d0, _⟩ := (FileRow.of_own hown).at_ k (by rw [rn_length]; exact hkf)
        cases hg'
        have d1 := ((Below.refl wr.heap.size wr).alloc (Nat.le_refl _) (.cells #[.int .u8 102, .int .u8 (48 + (k : Int))] 5)).cell (p := ⟨g, k * 2, none⟩) hgb.lt |>.trans d0
        have d2 := (hgb.alloc (.cells #[.int .u8 102, .int .u8 (48 + (k : Int))] 5)).frozen (k * 2)
        have HOWN2 := Lib.hid hown
        have HBW := Lib.hid hBw
        clear hown hBw hg hgb hr d0 h2 h3
        go_wp2
        go_roundw
        case rel => exact ⟨k + 1, by omega, by go_num, (rn_store HOWN2.out hkf).alloc _, (HBW.out.setCell (p := ⟨g, k * 2, none⟩) hgB _).alloc (HBW.out.setCell (p := ⟨g, k * 2, none⟩) hgB (.string (nmB k))).size _⟩
        case measure => simp [intOf]; omega
    · obtain rfl : k = n := by omega
      generalize wr = W0 at *
      have hc : CanBe (rn fs k) s := by have := rn_can (fs := fs) (by rw [HN.out]; exact hlen) HSM.out s hs1; rwa [HN.out] at this
      have hnone : (⟨#[110, 111, 110, 101]⟩ : ByteArray) ∉ (rn fs k).map Fl.name := by have := rn_none (fs := fs) (by rw [HN.out]; exact hlen); rwa [HN.out] at this
      have hFSl : (rn fs k).length = k := by rw [rn_length]; exact HN.out
      generalize rn fs k = FS at *
      have hfr := FileRow.of_own hown
      have hgA : ∀ g, (Value.slice A' k c').ownBlock = some g → g < W0.heap.size := fun g hg => hfr.lt hg
      have q1 := fun v (hv : FileRow v (.slice A' FS.length c') FS) => build_yes A' c' FS s v hv hc hs1 (WalkArith.wf_i64 (by omega))
      have q2 := fun g v hg => of_built hc hs1 g v hg
      have q3 := fun pd gd v (h : Dk v pd gd ⟨builtL FS s, 0, 0, 0⟩) => st_open hc hs1 pd gd v h
      have q4 := fun B p pd gd v (h : OpenSt FS s v B p pd gd) (k : Nat) (hk : k < FS.length) => st_lookup hc hs1 h k hk
      have q5 := fun B p pd gd v (h : OpenSt FS s v B p pd gd) (k : Nat) (hk : k < FS.length) => st_bytes hc hs1 h k hk
      have q6 := fun B p pd gd v (h : OpenSt FS s v B p pd gd) => st_count hs1 h
      have q7 := fun B p pd gd v (h : OpenSt FS s v B p pd gd) (k : Nat) (hk : k < FS.length) => st_pages hc hs1 h k hk
      have q8 := fun B p pd gd v (h : OpenSt FS s v B p pd gd) (k : Nat) (hk : k < FS.length) q hq => st_page hc hs1 h k hk q hq
      have q9 := fun B p pd gd v (h : OpenSt FS s v B p pd gd) => st_sectors h
      have q10 := fun B p pd gd v (h : OpenSt FS s v B p pd gd) => st_lookup_no hc hs1 h ⟨#[110, 111, 110, 101]⟩ hnone (by decide)
      unfold Built at q1
      unfold Made at q2
      unfold StTold at q5 q8
      rw [hFSl] at q1
      simp only [hFSl] at q6
      generalize builtL FS s = DL at *
      have Q1 := Lib.hid q1
      have Q2 := Lib.hid q2
      have Q3 := Lib.hid q3
      have Q4 := Lib.hid q4
      have Q5 := Lib.hid q5
      have Q6 := Lib.hid q6
      have Q7 := Lib.hid q7
      have Q8 := Lib.hid q8
      have Q9 := Lib.hid q9
      have Q10 := Lib.hid q10
      have HFR := Lib.hid hfr
      have HFL := Lib.hid hFSl
      have HDZ := Lib.hid hc.data
      have HB := Lib.hid hBw
      clear q1 q2 q3 q4 q5 q6 q7 q8 q9 q10 hc hnone hfr hFSl hgA hown hBw HOWN HB1 HA HIN
      go_wp2_with (first
        | (go_at_call 11; go_loud (refine (Q1.out _ HFR.out).mono ?_; rintro e v1 ⟨g1, rfl, hg, hgl, hb1⟩; have HB1 := Lib.hid hb1))
        | (go_at_call 17; go_loud (refine (Q2.out _ _ hg).mono ?_; rintro e v2 ⟨pd, gd, rfl, hp2, hg2, hb2, hd2⟩; have HB2 := Lib.hid (HB1.out.trans (hb2.mono HB1.out.size))))
        | (go_at_call 16; go_loud (refine (Q3.out _ _ _ hd2).mono ?_; rintro e v3 ⟨p, rfl, hst, hb3⟩; have HB3 := Lib.hid (HB2.out.trans (hb3.below (B := W0.heap.size) HB2.out.size (fun j e => by have := HB1.out.size; omega)))))
        | (go_at_call 18; go_loud ((with_reducible refine (Q6.out _ _ _ _ _ hst).mono ?_); rintro e v4 ⟨rfl, rfl⟩))
        | (go_at_call 19; go_loud ((with_reducible refine (Q9.out _ _ _ _ _ hst).mono ?_); rintro e v4 ⟨rfl, rfl⟩)))
      have hpw : W0.heap.size ≤ pd := by have := HB1.out.size; omega
      have HST := Lib.hid hst
      clear hb1 hb2 hb3 hd2 hg hst hgl hp2 hg2
      go_loopw [14] (fun i wx => ∃ t : Nat, t ≤ k ∧ i = .int .i64 t ∧ OpenSt FS s wx v2.heap.size p pd gd ∧ Below W0.heap.size W0 wx) (fun i _ => k - (intOf i).toNat)
      case atStart => exact ⟨0, Nat.zero_le _, rfl, HST.out, HB3.out⟩
      case round =>
        obtain ⟨t, ht, rfl, hst, hbx⟩ := hrel
        by_cases hlt3 : t < k
        · have htl : t < FS.length := by have := HFL.out; omega
          obtain ⟨g, rfl, hg, d0, d1⟩ := HFR.out.at_ t htl
          have r4 := fun v (h : OpenSt FS s v v2.heap.size p pd gd) => Q4.out _ _ _ _ v h t htl
          have r5 := fun v (h : OpenSt FS s v v2.heap.size p pd gd) => Q5.out _ _ _ _ v h t htl
          have r7 := fun v (h : OpenSt FS s v v2.heap.size p pd gd) => Q7.out _ _ _ _ v h t htl
          have r8 := fun v (h : OpenSt FS s v v2.heap.size p pd gd) => Q8.out _ _ _ _ v h t htl
          have hdz := HDZ.out _ (List.getElem_mem htl)
          generalize FS[t].name = nt at *
          generalize FS[t].data = dd at *
          have hcx : ∀ v, Below W0.heap.size W0 v → v.cell? ⟨g, t * 2, none⟩ = some (.string nt) ∧ v.cell? ⟨g, t * 2 + 1, none⟩ = some (.string dd) := fun v hv => ⟨(hv.cell (p := ⟨g, t * 2, none⟩) hg).trans d0, (hv.cell (p := ⟨g, t * 2 + 1, none⟩) hg).trans d1⟩
          obtain ⟨N, hN⟩ : ∃ N, pgs dd.size = N := ⟨_, rfl⟩
          have hN2 : N ≤ 16384 := by unfold pgs at hN; omega
          have hN3 : dd.size ≤ 64 * N := by unfold pgs at hN; omega
          rw [hN] at r7 r8
          have r9 := fun v => rfill_any dd ((64 * N : Nat) : Int) v (WalkArith.wf_i64 (by omega)) (by omega) (by omega)
          rw [fillS_sec] at r9
          have hsz : (mkb (secL dd 0 N)).size = 64 * N := by rw [mkb_size, secL_length]
          have R4 := Lib.hid r4
          have R5 := Lib.hid r5
          have R7 := Lib.hid r7
          have R8 := Lib.hid r8
          have R9 := Lib.hid r9
          have HSZ := Lib.hid hsz
          have HST2 := Lib.hid hst
          have HBX := Lib.hid hbx
          have HCX := Lib.hid hcx
          have d2 := (hcx _ hbx).1
          have HN5 := Lib.hid hN
          clear r4 r5 r7 r8 r9 hst hbx hcx d0 d1 hN hsz
          go_wp2_with (first
            | (go_at_call 20; go_loud (refine (R4.out _ HST2.out).mono ?_; rintro e v4 ⟨rfl, rfl⟩))
            | (go_at_call 21; go_loud (refine (R5.out _ HST2.out).mono ?_; rintro e v5 ⟨rfl, hst5, hb5⟩; have HB5 := Lib.hid (HBX.out.trans (hb5.below (B := W0.heap.size) HBX.out.size (fun j e => by omega))); have HST5 := Lib.hid hst5; have c5 := (HCX.out _ HB5.out).2; clear hst5 hb5)))
          go_loopw [19, 20] (fun all i wx => ∃ q : Nat, q ≤ N ∧ i = .int .i64 q ∧ all = .string (mkb (secL dd 0 q)) ∧ OpenSt FS s wx v2.heap.size p pd gd ∧ Below W0.heap.size W0 wx) (fun _ i _ => N - (intOf i).toNat)
          case atStart => exact ⟨0, Nat.zero_le _, rfl, rfl, HST5.out, HB5.out⟩
          case round =>
            obtain ⟨q, hq, rfl, rfl, hst7, hb7⟩ := hrel
            by_cases hlt4 : q < N
            · have hsn := mkb_snoc (secL dd 0 q) (pageOf dd q)
              have hsq : (mkb (secL dd 0 q)).size ≤ 1048576 := by rw [mkb_size, secL_length]; omega
              have hpz := pageOf_size dd q
              have r8 := fun v (h : OpenSt FS s v v2.heap.size p pd gd) => R8.out v h q hlt4
              have hnx := secL_succ dd 0 q
              rw [Nat.zero_add] at hnx
              rw [← hnx] at hsn
              have RR8 := Lib.hid r8
              have HSN := Lib.hid hsn
              have HST7 := Lib.hid hst7
              have HB7 := Lib.hid hb7
              clear r8 hsn hnx hst7 hb7
              generalize mkb (secL dd 0 q) = all at *
              generalize pageOf dd q = pg at *
              go_wp2_with (first
                | (go_at_call 22; go_loud (refine (R7.out _ HST7.out).mono ?_; rintro e v6 ⟨rfl, hb6⟩; have HST6 := Lib.hid (HST7.out.below hb6); have HB6 := Lib.hid (HB7.out.trans (hb6.mono HB7.out.size))))
                | (go_at_call 23; go_loud (refine (RR8.out _ HST6.out).mono ?_; rintro e v8 ⟨rfl, hst8, hb8⟩; have HB8 := Lib.hid (HB6.out.trans (hb8.below (B := W0.heap.size) HB6.out.size (fun j e => by omega))); have HST8 := Lib.hid hst8; clear hst8 hb8)))
              go_roundw
              case rel => exact ⟨q + 1, by omega, by go_num, by rw [HSN.out], HST8.out, HB8.out⟩
              case measure => simp [intOf]; omega
            · obtain rfl : q = N := by omega
              have hsz1 : dd.size ≤ (mkb (secL dd 0 q)).size := by rw [HSZ.out]; exact hN3
              have hsz2 : (mkb (secL dd 0 q)).size ≤ 2147483647 := by rw [HSZ.out]; omega
              have r9 := R9.out
              rw [← HSZ.out] at r9
              have RR9 := Lib.hid r9
              have HST7 := Lib.hid hst7
              have HB7 := Lib.hid hb7
              clear r9 hst7 hb7
              generalize mkb (secL dd 0 q) = all at *
              go_wp2_with (first
                | (go_at_call 22; go_loud (refine (R7.out _ HST7.out).mono ?_; rintro e v6 ⟨rfl, hb6⟩; have HST6 := Lib.hid (HST7.out.below hb6); have HB6 := Lib.hid (HB7.out.trans (hb6.mono HB7.out.size))))
                | (go_at_call 24; go_loud (refine (RR9.out _).mono ?_; rintro e v9 ⟨rfl, hb9⟩; have HST9 := Lib.hid (HST6.out.below hb9); have HB9 := Lib.hid (HB6.out.trans (hb9.mono HB6.out.size)))))
              go_roundw
              case rel => exact ⟨t + 1, by omega, by go_num, HST9.out, HB9.out⟩
              case measure => simp [intOf]; omega
        · obtain rfl : t = k := by omega
          have r10 := Q10.out _ _ _ _ _ hst
          have R10 := Lib.hid r10
          have HBX := Lib.hid hbx
          clear r10 hst hbx
          go_wp2_with (go_at_call 20; go_loud (refine R10.out.mono ?_; rintro e v6 ⟨rfl, rfl⟩))
          go_ret
          exact ⟨by simp, HB.out.trans (HBX.out.mono HB.out.size)⟩

set_option maxRecDepth 100000 in
theorem lifted (os : Os) (started : os.Started) (H : Type) (enc : TypeId × Value → H) :
    ReturnsInHanded {} Tryd.checked os 4 .any (fun w args => (Rows.filesBackSpec.pre enc Tryd.prog Tryd.f4 Rows.filesBackRow.domain false w args ∧ laidMetH Tryd.prog Rows.filesBackRow.laid w) ∧ sizedMet enc Tryd.prog Tryd.f4 (OpenSpec.ofChange Rows.filesBackSpec) false w args) (Rows.filesBackSpec.post enc Tryd.prog Tryd.f4 false true false false) := by
  refine returnsInHanded_of_change_and (C := Tryd.checked) (X := fun w _ => laidMetH Tryd.prog Rows.filesBackRow.laid w) (fun _ _ _ hh h => h.of_heap hh) own started (by kernel_rfl) Tryd.func4
    (ChangeSpec.witness_shaped (enc := enc) (C := Tryd.checked) (os := os) (X := fun w _ => laidMetH Tryd.prog Rows.filesBackRow.laid w) false (World.laidAll Tryd.prog os Rows.filesBackRow.laid) #[.slice none 0 0, .slice none 0 0, .int .i64 0] 8 (World.laidAll_os _ _ _) (World.shaped_of_ZipB (by kernel_rfl) (by kernel_rfl)) (by kernel_rfl) (by kernel_rfl) (by kernel_rfl) (by rw [MakeChecks.laidMetH_plain _ _ _ (by kernel_rfl)]; exact laidMet_laidAll _ (by kernel_rfl) (by kernel_rfl))) ?_
  intro W base args ds gs before hval0 hW hcnd _ hL _
  have hval : ∀ (j : Nat) t v, Tryd.f4.params[j]? = some t → args[j]? = some v → Value.okWide Tryd.prog W .any base t v := hval0
  have hW' := hW
  obtain ⟨p, q, hA0, hV, rfl, hfz, hnd⟩ := hW
  have hA : DataW.TrodAll enc Tryd.prog W 0 (fun _ => true) true Tryd.f4.params.toList args.toList ds p := hA0
  rw [Tryd.params4] at hA hval
  obtain ⟨v0, vs0, d0, ds0, p0, q0, hargs, rfl, rfl, h0, r0⟩ := trodAll_cons hA
  obtain ⟨v1, vs1, d1, ds1, p1, q1, rfl, rfl, rfl, h1, r1⟩ := trodAll_cons r0
  obtain ⟨v2, vs2, d2, ds2, p2, q2, rfl, rfl, rfl, h2, r2⟩ := trodAll_cons r1
  obtain ⟨rfl, rfl, rfl⟩ := trodAll_nil r2
  obtain rfl : args = #[v0, v1, v2] := by cases args; simp_all
  obtain ⟨rfl, rfl⟩ := trodVars_none hV
  have k0 := h0
  have lt0 : ∀ x ∈ p0, x.block < W.heap.size := by obtain ⟨m, hm⟩ := k0; exact DataW.trod_lt m _ _ _ hm
  obtain ⟨LA0, Ll0, Lc0, rfl, Lm0, Lr0⟩ := openFiles4 (hval 0 22 v0 rfl rfl) h0
  have k1 := h1
  have lt1 : ∀ x ∈ p1, x.block < W.heap.size := by obtain ⟨m, hm⟩ := k1; exact DataW.trod_lt m _ _ _ hm
  obtain ⟨LA1, Ll1, Lc1, rfl, Lm1, Lr1⟩ := openInts4 (hval 1 23 v1 rfl rfl) h1
  have k2 := h2
  have lt2 : ∀ x ∈ p2, x.block < W.heap.size := by obtain ⟨m, hm⟩ := k2; exact DataW.trod_lt m _ _ _ hm
  obtain ⟨a2, rfl, _, _, w2⟩ := open_int Tryd.underlying3 (hval 2 3 v2 rfl rfl) h2
  clear hA0 hval0
  refine (walk LA0 Ll0 Lc0 LA1 Ll1 Lc1 a2 W Lm0 Lr0 Lm1 Lr1 w2).mono fun e W' ⟨he, bel⟩ => ?_
  subst he
  exact ⟨_, rfl, _, _, _, [], _, [], hW', trodAll_mk1 (shut_bool Tryd.underlying4 _), (trodAll_cons_mk (Below.trod laidOut (by kernel_rfl) (of_decide_eq_true (by kernel_rfl)) k0 bel lt0) (trodAll_cons_mk (Below.trod laidOut (by kernel_rfl) (of_decide_eq_true (by kernel_rfl)) k1 bel lt1) (trodAll_cons_mk (Below.trod laidOut (by kernel_rfl) (of_decide_eq_true (by kernel_rfl)) k2 bel lt2) trodAll_mk0))), rfl, bel.frame _, fun h => by cases h⟩
theorem over : Rows.filesBackRow.holds Tryd.pinned (OpenSpec.ofChange Rows.filesBackSpec) :=
  OpenClaim.holds_of_wide 4 Tryd.f4 rfl rfl rfl rfl rfl rfl rfl ⟨rfl, rfl, rfl, rfl, rfl⟩ rfl rfl rfl rfl rfl (by kernel_rfl) Tryd.func4 (by kernel_rfl)
    (of_decide_eq_true (by kernel_rfl)) (by unfold Func.isWrapper; first | (rw [if_pos (by decide +kernel)]; kernel_rfl) | (rw [if_neg (by decide +kernel)]; exact ⟨rfl, rfl⟩))
    (fun os started H enc _ => lifted os started H enc)
set_option maxRecDepth 100000 in
/-- The statement. -/
theorem proved : Rows.FilesBackCardSaid :=
  Claim7.holds_tied_plain_at .later [] [.data, .pinned] true _ false over (fun _ h => by cases h) (by kernel_rfl) (fun _ h => by cases h) filesBack_row_tie rfl ⟨rfl, rfl⟩ (by kernel_rfl) rfl
    (fun f fn hf hfn => by
      obtain rfl : f = 4 := Option.some.inj (hf.symm.trans (by kernel_rfl))
      obtain rfl : fn = Tryd.f4 := Option.some.inj (hfn.symm.trans Tryd.func4)
      refine ⟨by kernel_rfl, fun j t ht => ?_⟩
      rw [Tryd.params4] at ht
      match j, ht with
      | 0, ht =>
        obtain rfl : t = 22 := by simpa using ht.symm
        exact (by kernel_rfl : Tryd.pinned.checked.prog.wantsStandIn 22 = false)
      | 1, ht =>
        obtain rfl : t = 23 := by simpa using ht.symm
        exact (by kernel_rfl : Tryd.pinned.checked.prog.wantsStandIn 23 = false)
      | 2, ht =>
        obtain rfl : t = 3 := by simpa using ht.symm
        exact (by kernel_rfl : Tryd.pinned.checked.prog.wantsStandIn 3 = false)
      | j + 3, ht => simp at ht)
    (by kernel_rfl)
end Go.Proofs.YtgkhgjihjbjfnaaDoor.lawFBk
