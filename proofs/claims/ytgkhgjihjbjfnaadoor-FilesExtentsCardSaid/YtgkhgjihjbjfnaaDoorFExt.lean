/- FilesExtents: one file alone has up to three extents of the stride, and one with the rest. -/
import Derived.Test.YtgkhgjihjbjfnaaDoorFX
import Derived.Test.YtgkhgjihjbjfnaaDoorBits
import Derived.Test.YtgkhgjihjbjfnaaDoorLaw
import Derived.Test.YtgkhgjihjbjfnaaDoorTie
import Derived.Test.YtgkhgjihjbjfnaaDoorCards
import Derived.LaidMore
import Derived.Lay
import Derived.SevenTiedAt
import Derived.Stop.Joined
namespace Go.Proofs.YtgkhgjihjbjfnaaDoor.lawFExt
open Go.ChangeShapes Go.WideShapes Go.ChangeAt Go.RowKit
set_option linter.unusedVariables false
set_option linter.unusedSimpArgs false

theorem and63 (n : Int) : bits .and .i64 n 63 = n % 64 := i64_and_mask n 6 63 (by omega) (by decide)
theorem and15 (n : Int) : bits .and .i64 n 15 = n % 16 := i64_and_mask n 4 15 (by omega) (by decide)
/-- A file of n pages. -/
def zf (n : Nat) : Fl := ⟨⟨#[102]⟩, mkb (List.replicate (64 * n) 0)⟩
theorem zf_size (n : Nat) : (zf n).data.size = 64 * n := by unfold zf; rw [mkb_size, List.length_replicate]
theorem zf_pg (n : Nat) : (zf n).pg = n := by unfold Fl.pg pgs; rw [zf_size]; omega
theorem zf_can (n s : Nat) (hn : n < 64) (hs : 1 ≤ s) : CanBe [zf n] s := by
  refine ⟨by simp, fun f hf => ?_, by simp, fun f hf => ?_, ?_⟩
  · rw [List.mem_singleton.1 hf]
    show nameOk ⟨#[102]⟩ = true
    decide +kernel
  · rw [List.mem_singleton.1 hf, zf_size]
    omega
  · rw [dat_len (LaidOk.rows [zf n] hs 4 (by omega))]
    simp [zf_pg]
    omega

set_option maxRecDepth 100000 in
set_option maxHeartbeats 4000000 in
theorem walk (a b : Int) (w : World) (ha : (Lit.int .i64 a).wf = true) (hb : (Lit.int .i64 b).wf = true) : Calls Tryd.prog 7 #[.int .i64 a, .int .i64 b] w fun e w' => e = .returned (.bool true) ∧ Below w.heap.size w w' := by
  obtain ⟨n, hn⟩ : ∃ n : Nat, a % 64 = n := ⟨(a % 64).toNat, by omega⟩
  obtain ⟨r, hr⟩ : ∃ r : Nat, b % 16 = r := ⟨(b % 16).toNat, by omega⟩
  have hn64 : n < 64 := by omega
  have hr16 : r < 16 := by omega
  have b1 := and63 a
  have b2 := and15 b
  rw [hn] at b1
  rw [hr] at b2
  obtain ⟨s, hs⟩ : ∃ s : Nat, 1 + r = s := ⟨_, rfl⟩
  have hs1 : 1 ≤ s := by omega
  have hs2 : (1 + (r : Int)) = (s : Int) := by omega
  have hs16 : s ≤ 16 := by omega
  obtain ⟨N, hN⟩ : ∃ N : Nat, 64 * n = N := ⟨_, rfl⟩
  have hN2 : 64 * (n : Int) = (N : Int) := by omega
  have hNb : N ≤ 4032 := by omega
  obtain ⟨i0, hi, hz0, hz1, hz2⟩ := info_parts infoU8
  have hmk := run_make_bytes (P := Tryd.prog) 35 5 i0 Tryd.underlying35 hi hz0 hz1 hz2 (N : Int) (by omega) (by omega)
  simp only [Int.toNat_natCast] at hmk
  have hcv := fun wr => run_string_blk (P := Tryd.prog) (World.alloc wr (.cells (zrow N) 5)) 35 9 5 wr.heap.size N 5 (List.replicate N 0) N (List.length_replicate ..) Tryd.underlying35 Tryd.underlying5 Tryd.underlying9 (Blk.new _ _ _)
  have hc := zf_can n s hn64 hs1
  obtain ⟨ex, hex, hdl, hcut, hat⟩ := single (F := zf n) hs1 4 (by omega)
  rw [zf_pg, List.take_of_length_le (cuts_len _ _)] at hcut
  have q1 := fun g v (h : FileRow v (.slice (some ⟨g, 0, none⟩) [zf n].length 1) [zf n]) => build_yes (some ⟨g, 0, none⟩) 1 [zf n] s v h hc hs1 (WalkArith.wf_i64 (by omega))
  have q2 := fun g v hg => of_built hc hs1 g v hg
  have q3 := fun pd gd v (h : Dk v pd gd ⟨builtL [zf n] s, 0, 0, 0⟩) => open_any pd gd _ _ _ v h (built_disk hc hs1 ⟨builtL [zf n] s, 0, 0, 0⟩ rfl)
  have hxl := builtX_length (fs := [zf n]) hs1
  have hk0 : 0 < (builtX [zf n] s).length := by rw [hxl]; simp
  have hx0 : (builtX [zf n] s)[0]'hk0 = ⟨⟨#[102]⟩, N, ex⟩ := by
    obtain ⟨_, h', e⟩ := builtX_at hs1 hk0
    rw [e]
    have h1 : (Laid.rows [zf n] s 4).ex[0]'h' = ex := by simp [hex]
    rw [h1]
    simp [zf_size, hN]
    rfl
  have hexl : ex.length ≤ 4 := by have := congrArg List.length hcut; rw [List.length_map] at this; have := cuts_len n s; omega
  have q4 := fun B p pd used v (h : Fs v B p pd used (builtX [zf n] s)) => finode_yes 0 hk0 (by rw [hxl]; simp) (by rw [hx0]; show ex.length ≤ 1000; omega) v h
  rw [hx0] at q4
  have hbl := builtL_length (fs := [zf n]) hs1
  rw [hdl] at hbl
  have hsum : (ex.map (·.2)).sum = n := by rw [hcut, cuts_sum]
  rw [hsum] at hbl
  have hrow : ∀ v : World, FileRow ((v.alloc (.cells (zrow N) 5)).alloc (.cells #[.string ⟨#[102]⟩, .string (mkb (List.replicate N 0))] 32)) (.slice (some ⟨v.heap.size + 1, 0, none⟩) [zf n].length 1) [zf n] := fun v => .inr ⟨_, _, _, rfl, by
    have h := Blk.new (v.alloc (.cells (zrow N) 5)) 32 #[.string ⟨#[102]⟩, .string (mkb (List.replicate N 0))]
    rw [World.size_alloc] at h
    exact h, by unfold zf fileCells; rw [hN]; rfl⟩
  have Q1 : Hid (∀ v : World, Calls Tryd.prog 11 #[.slice (some ⟨v.heap.size + 1, 0, none⟩) 1 1, .int .i64 s] ((v.alloc (.cells (zrow N) 5)).alloc (.cells #[.string ⟨#[102]⟩, .string (mkb (List.replicate N 0))] 32)) (Built ((v.alloc (.cells (zrow N) 5)).alloc (.cells #[.string ⟨#[102]⟩, .string (mkb (List.replicate N 0))] 32)) (builtL [zf n] s))) := Lib.hid (fun v => q1 _ _ (hrow v))
  unfold Built at Q1
  unfold Made at q2
  unfold Opened at q3
  have hcc : ∀ t (ht : t < ex.length), ex[t].2 = (if t < 3 then min (n - ahd ex t) s else n - ahd ex t) ∧ 1 ≤ ex[t].2 := fun t ht => by
    have h1 := cuts_at (n := n) hs1 (k := t) (by omega)
    rw [← hcut] at h1
    have h2 : ((ex.map (·.2)).take t).sum = ahd ex t := by unfold ahd; rw [List.map_take]
    rw [h2, List.getD, List.getElem?_map, List.getElem?_eq_getElem ht] at h1
    refine ⟨h1, cuts_pos (n := n) hs1 _ ?_⟩
    rw [← hcut]
    exact List.mem_map.2 ⟨_, List.getElem_mem ht, rfl⟩
  have hfull : ahd ex ex.length = n := by rw [ahd_full, hsum]
  have HA := Lib.hid (fun v => awake_true v)
  generalize builtL [zf n] s = DL at *
  generalize builtX [zf n] s = XS at *
  have Q2 := Lib.hid q2
  have Q3 := Lib.hid q3
  have Q4 := Lib.hid q4
  have HCC := Lib.hid hcc
  have HAT := Lib.hid hat
  have HFU := Lib.hid hfull
  have hDL : DL.length = 2 + n := by rw [hbl]; simp
  have HDL := Lib.hid hDL
  have hB0 := Below.refl w.heap.size w
  clear q1 q2 q3 q4 hc hx0 hcut hat hcc hfull hsum hbl hDL hdl hex hxl hk0 hn hr hs hN hrow
  go_enter Tryd.func7, Tryd.ntmps7
  go_wp2_with (first
    | (go_at_call 9; go_loud (refine (HA.out _).mono ?_; rintro e v0 ⟨rfl, hb0⟩; have HB0 := Lib.hid ((hb0.alloc hb0.size (.cells (zrow N) 5)).alloc (Nat.le_trans hb0.size (by simp)) (.cells #[.string ⟨#[102]⟩, .string (mkb (List.replicate N 0))] 32))))
    | (go_at_call 11; go_loud (refine (Q1.out _).mono ?_; rintro e v1 ⟨g, rfl, hg, hgl, hb1⟩; have HB1 := Lib.hid (HB0.out.trans (hb1.mono HB0.out.size))))
    | (go_at_call 17; go_loud (refine (Q2.out _ _ hg).mono ?_; rintro e v2 ⟨pd, gd, rfl, hp2, hg2, hb2, hd2⟩; have HB2 := Lib.hid (HB1.out.trans (hb2.mono HB1.out.size))))
    | (go_at_call 16; go_loud (refine (Q3.out _ _ _ hd2).mono ?_; rintro e v3 ⟨p, rfl, hfs, _, hb3⟩; have HB3 := Lib.hid (HB2.out.trans (hb3.below (B := w.heap.size) HB2.out.size (fun j e => by have := HB1.out.size; omega)))))
    | (go_at_call 25; go_loud (refine (Q4.out _ _ _ _ _ hfs).mono ?_; rintro e v4 ⟨vA, vc, rfl, hx, hb4⟩; have HB4 := Lib.hid (HB3.out.trans (hb4.mono HB3.out.size)))))
  have hX := Blk.new v4 55 #[.string ⟨#[102]⟩, .int .i64 N, .slice vA ex.length vc]
  have hx4 := hx.alloc (.cells #[.string ⟨#[102]⟩, .int .i64 N, .slice vA ex.length vc] 55)
  have HB5 := Lib.hid (HB4.out.alloc HB4.out.size (.cells #[.string ⟨#[102]⟩, .int .i64 N, .slice vA ex.length vc] 55))
  obtain ⟨bx, hbx⟩ : ∃ bx, v4.heap.size = bx := ⟨_, rfl⟩
  rw [hbx] at hX ⊢
  generalize v4.alloc (.cells #[.string ⟨#[102]⟩, .int .i64 N, .slice vA ex.length vc] 55) = W4 at *
  have x2 := hX.at_ 2 _ rfl
  have HX := Lib.hid hx4
  clear hX hx4 hx hbx hb4 hb3 hb2 hd2 hfs hb1 hg hgl hmk hcv hi hz0 hz1 hz2 ha hb b1 b2
  go_loopw [14, 15, 16] (fun at_ left k wr => ∃ t : Nat, t ≤ ex.length ∧ k = .int .i64 t ∧ at_ = .int .i64 (2 + ahd ex t : Nat) ∧ left = .int .i64 (n - ahd ex t : Nat) ∧ wr = W4) (fun _ _ k _ => ex.length - (intOf k).toNat)
  case atStart => exact ⟨0, Nat.zero_le _, rfl, rfl, rfl, rfl⟩
  case round =>
    obtain ⟨t, ht, rfl, rfl, rfl, rfl⟩ := hrel
    have hle := ahd_le ex t
    by_cases hlt : t < ex.length
    · obtain ⟨h2c, h2p⟩ := HCC.out t hlt
      have h1c := HAT.out t hlt
      have hs_ := ahd_succ ex hlt
      rcases HX.out with ⟨_, rfl⟩ | ⟨g, cap, cur, hv, hb, hc⟩
      · simp at hlt
      · injection hv with e1 e2 e3
        subst e1
        obtain ⟨k0, k1⟩ := ext_cells hb hc hlt
        rw [h1c] at k0
        obtain ⟨P, hP⟩ : ∃ P, 2 + ahd ex t = P := ⟨_, rfl⟩
        obtain ⟨Lf, hLf⟩ : ∃ Lf, n - ahd ex t = Lf := ⟨_, rfl⟩
        have hah : ahd ex t ≤ 64 := by
          have h4 := ahd_le ex t
          have h5 := HFU.out
          rw [ahd_full] at h5
          omega
        rw [hLf] at h2c
        rw [hP] at k0
        rw [hP, hLf]
        have hPb : P ≤ 100 := by omega
        have hLb : Lf ≤ 64 := by omega
        clear hb hc h1c
        by_cases h3 : t < 3
        · rw [if_pos h3] at h2c
          by_cases hgt : s < Lf
          · have hcs : ex[t].2 = s := by omega
            rw [hcs] at k1
            go_wp2
            go_roundw
            case rel =>
              refine ⟨_, _, _, _, ⟨t + 1, by omega, ?_, ?_, ?_⟩, rfl, rfl, rfl, rfl⟩
              · go_num
              · rw [hs_, hcs]; congr 1; omega
              · rw [hs_, hcs]; congr 1; omega
            case measure => simp [intOf]; omega
          · have hcs : ex[t].2 = Lf := by omega
            rw [hcs] at k1
            go_wp2
            go_roundw
            case rel =>
              refine ⟨_, _, _, _, ⟨t + 1, by omega, ?_, ?_, ?_⟩, rfl, rfl, rfl, rfl⟩
              · go_num
              · rw [hs_, hcs]; congr 1; omega
              · rw [hs_, hcs]; congr 1; omega
            case measure => simp [intOf]; omega
        · rw [if_neg h3] at h2c
          have hcs : ex[t].2 = Lf := by omega
          rw [hcs] at k1
          go_wp2
          go_roundw
          case rel =>
              refine ⟨_, _, _, _, ⟨t + 1, by omega, ?_, ?_, ?_⟩, rfl, rfl, rfl, rfl⟩
              · go_num
              · rw [hs_, hcs]; congr 1; omega
              · rw [hs_, hcs]; congr 1; omega
          case measure => simp [intOf]; omega
    · obtain rfl : t = ex.length := by omega
      have e1 : n - ahd ex ex.length = 0 := by rw [HFU.out]; omega
      have e2 : 2 + ahd ex ex.length = DL.length := by rw [HFU.out, HDL.out]
      rw [e1, e2]
      go_wp2
      go_ret
      exact ⟨by simp, HB5.out⟩

set_option maxRecDepth 100000 in
theorem lifted (os : Os) (started : os.Started) (H : Type) (enc : TypeId × Value → H) :
    ReturnsInHanded {} Tryd.checked os 7 .any (fun w args => (Rows.filesExtentsSpec.pre enc Tryd.prog Tryd.f7 Rows.filesExtentsRow.domain false w args ∧ laidMetH Tryd.prog Rows.filesExtentsRow.laid w) ∧ sizedMet enc Tryd.prog Tryd.f7 (OpenSpec.ofChange Rows.filesExtentsSpec) false w args) (Rows.filesExtentsSpec.post enc Tryd.prog Tryd.f7 false true false false) := by
  refine returnsInHanded_of_change_and (C := Tryd.checked) (X := fun w _ => laidMetH Tryd.prog Rows.filesExtentsRow.laid w) (fun _ _ _ hh h => h.of_heap hh) own started (by kernel_rfl) Tryd.func7
    (ChangeSpec.witness_shaped (enc := enc) (C := Tryd.checked) (os := os) (X := fun w _ => laidMetH Tryd.prog Rows.filesExtentsRow.laid w) false (World.laidAll Tryd.prog os Rows.filesExtentsRow.laid) #[.int .i64 0, .int .i64 0] 8 (World.laidAll_os _ _ _) (World.shaped_of_ZipB (by kernel_rfl) (by kernel_rfl)) (by kernel_rfl) (by kernel_rfl) (by kernel_rfl) (by rw [MakeChecks.laidMetH_plain _ _ _ (by kernel_rfl)]; exact laidMet_laidAll _ (by kernel_rfl) (by kernel_rfl))) ?_
  intro W base args ds gs before hval0 hW hcnd _ hL _
  have hval : ∀ (j : Nat) t v, Tryd.f7.params[j]? = some t → args[j]? = some v → Value.okWide Tryd.prog W .any base t v := hval0
  have hW' := hW
  obtain ⟨p, q, hA0, hV, rfl, hfz, hnd⟩ := hW
  have hA : DataW.TrodAll enc Tryd.prog W 0 (fun _ => true) true Tryd.f7.params.toList args.toList ds p := hA0
  rw [Tryd.params7] at hA hval
  obtain ⟨v0, vs0, d0, ds0, p0, q0, hargs, rfl, rfl, h0, r0⟩ := trodAll_cons hA
  obtain ⟨v1, vs1, d1, ds1, p1, q1, rfl, rfl, rfl, h1, r1⟩ := trodAll_cons r0
  obtain ⟨rfl, rfl, rfl⟩ := trodAll_nil r1
  obtain rfl : args = #[v0, v1] := by cases args; simp_all
  obtain ⟨rfl, rfl⟩ := trodVars_none hV
  have k0 := h0
  have lt0 : ∀ x ∈ p0, x.block < W.heap.size := by obtain ⟨m, hm⟩ := k0; exact DataW.trod_lt m _ _ _ hm
  obtain ⟨a0, rfl, _, _, w0⟩ := open_int Tryd.underlying3 (hval 0 3 v0 rfl rfl) h0
  have k1 := h1
  have lt1 : ∀ x ∈ p1, x.block < W.heap.size := by obtain ⟨m, hm⟩ := k1; exact DataW.trod_lt m _ _ _ hm
  obtain ⟨a1, rfl, _, _, w1⟩ := open_int Tryd.underlying3 (hval 1 3 v1 rfl rfl) h1
  clear hA0 hval0
  refine (walk a0 a1 W w0 w1).mono fun e W' ⟨he, bel⟩ => ?_
  subst he
  exact ⟨_, rfl, _, _, _, [], _, [], hW', trodAll_mk1 (shut_bool Tryd.underlying4 _), (trodAll_cons_mk (Below.trod laidOut (by kernel_rfl) (of_decide_eq_true (by kernel_rfl)) k0 bel lt0) (trodAll_cons_mk (Below.trod laidOut (by kernel_rfl) (of_decide_eq_true (by kernel_rfl)) k1 bel lt1) trodAll_mk0)), rfl, bel.frame _, fun h => by cases h⟩
theorem over : Rows.filesExtentsRow.holds Tryd.pinned (OpenSpec.ofChange Rows.filesExtentsSpec) :=
  OpenClaim.holds_of_wide 7 Tryd.f7 rfl rfl rfl rfl rfl rfl rfl ⟨rfl, rfl, rfl, rfl, rfl⟩ rfl rfl rfl rfl rfl (by kernel_rfl) Tryd.func7 (by kernel_rfl)
    (of_decide_eq_true (by kernel_rfl)) (by unfold Func.isWrapper; first | (rw [if_pos (by decide +kernel)]; kernel_rfl) | (rw [if_neg (by decide +kernel)]; exact ⟨rfl, rfl⟩))
    (fun os started H enc _ => lifted os started H enc)
set_option maxRecDepth 100000 in
/-- The statement. -/
theorem proved : Rows.FilesExtentsCardSaid :=
  Claim7.holds_tied_plain_at .later [] [.data, .pinned] true _ false over (fun _ h => by cases h) (by kernel_rfl) (fun _ h => by cases h) filesExtents_row_tie rfl ⟨rfl, rfl⟩ (by kernel_rfl) rfl
    (fun f fn hf hfn => by
      obtain rfl : f = 7 := Option.some.inj (hf.symm.trans (by kernel_rfl))
      obtain rfl : fn = Tryd.f7 := Option.some.inj (hfn.symm.trans Tryd.func7)
      refine ⟨by kernel_rfl, fun j t ht => ?_⟩
      rw [Tryd.params7] at ht
      match j, ht with
      | 0, ht =>
        obtain rfl : t = 3 := by simpa using ht.symm
        exact (by kernel_rfl : Tryd.pinned.checked.prog.wantsStandIn 3 = false)
      | 1, ht =>
        obtain rfl : t = 3 := by simpa using ht.symm
        exact (by kernel_rfl : Tryd.pinned.checked.prog.wantsStandIn 3 = false)
      | j + 2, ht => simp at ht)
    (by kernel_rfl)
end Go.Proofs.YtgkhgjihjbjfnaaDoor.lawFExt
