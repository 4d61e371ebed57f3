/- ElfPages: for any segments by numbers, 4 at most: a segment's pages have all its bytes, and no page without one; an image spans up to its last one's end. -/
import Derived.Test.YtakmmphjdkapeaaDoorFd
namespace Go.Proofs.YtakmmphjdkapeaaDoor
open Go.RowKit
set_option linter.unusedVariables false
set_option linter.unusedSimpArgs false
theorem SpecIn.In.below {p : SpecIn} {w v : World} (h : p.In w) (hb : Below w.heap.size w v) : p.In v := ⟨h.kind, h.entry, h.len, h.cap, h.row.below hb⟩
theorem rises_at {size : Int} : ∀ (l : List Seg) (e : Int) (k : Nat) (hk : k < l.length), rises size e l = true → (∀ s, s ∈ l → s.ty = 1) → lastTo (l.take k) e ≤ l[k].from_
  | s :: l, e, 0, _, h, ht => by
    have h1 : s.ty = 1 := ht s (by simp)
    unfold rises at h
    rw [if_pos h1] at h
    simp only [Bool.and_eq_true, Bool.not_eq_true', decide_eq_false_iff_not] at h
    show e ≤ s.from_
    omega
  | s :: l, e, k + 1, hk, h, ht => by
    have h1 : s.ty = 1 := ht s (by simp)
    unfold rises at h
    rw [if_pos h1] at h
    simp only [Bool.and_eq_true] at h
    have ih := rises_at l s.to_ k (by simpa using hk) h.2.2 (fun t ht2 => ht t (by simp [ht2]))
    show lastTo (l.take k) (if s.ty = 1 then s.to_ else e) ≤ (l[k]'(by simpa using hk)).from_
    rw [if_pos h1]
    exact ih
theorem may_to {s : Seg} {z : Int} (h : s.May z) : s.from_ = s.ad / 64 ∧ s.to_ = (s.ad + s.mem + 63) / 64 := ⟨Seg.from_eq h.ad.1, Seg.to_eq h.ad.1 h.mem.1⟩
end Go.Proofs.YtakmmphjdkapeaaDoor
namespace Go.Proofs.YtakmmphjdkapeaaDoor.lawPg
open Go.ChangeShapes Go.WideShapes Go.ChangeAt Go.RowKit
set_option linter.unusedVariables false
set_option linter.unusedSimpArgs false

set_option maxRecDepth 100000 in
set_option maxHeartbeats 3200000 in
theorem walk (p : SpecIn) (w : World) (hp : p.In w) (hT : ETab w) :
    Calls Tryd.prog 7 #[p.v] w fun e w' => e = .returned (.bool true) ∧ Below w.heap.size w w' := by
  have HA := Lib.hid (fun v (hv : Below w.heap.size w v) => awake8_any v (hT.on hv))
  have HI := Lib.hid (fun v (hv : Below w.heap.size w v) => image_any p v (hp.below hv))
  have hlen := img_len p
  have hmay := img_may p
  have hty := img_ty p
  have hri := img_rises p
  have hpv : p.v = .agg #[.int .i64 p.kind, .int .i64 p.entry, .slice p.A p.qs.length p.c] := rfl
  have HSP := Lib.hid (fun v A c (hr : SegRow v A p.img.segs) => span_any p.img A c v hr (by omega) (fun s hs => by
    have h := may_to (hmay s hs)
    have h1 := (hmay s hs).ad
    have h2 := (hmay s hs).mem
    rw [h.2]
    omega))
  obtain ⟨x, hx⟩ : ∃ x, p.img = x := ⟨_, rfl⟩
  rw [hx] at HI HSP hlen hmay hty hri
  rw [hpv] at HI ⊢
  generalize p.size = size at *
  have HRA := Lib.hid (fun k hk => rises_at x.segs 0 k hk hri (fun s hs => (hty s hs).1))
  have HMY := Lib.hid hmay
  have HTY := Lib.hid hty
  clear hx hpv hp hT hmay hty hri
  obtain ⟨pk, pe, pq, pA, pc⟩ := p
  obtain ⟨kind, entry, segs⟩ := x
  unfold Img.v Img.span at HSP
  simp only at *
  generalize pq.length = pn at *
  obtain ⟨W, hW⟩ : ∃ W, w.alloc (.cells #[.int .i64 pk, .int .i64 pe, .slice pA pn pc] 41) = W := ⟨_, rfl⟩
  have hB0 : Below w.heap.size w W := by rw [← hW]; exact (Below.refl _ _).alloc (Nat.le_refl _) _
  have hK0 : Blk W w.heap.size 41 #[.int .i64 pk, .int .i64 pe, .slice pA pn pc] := by rw [← hW]; exact Blk.new w _ _
  have HW := Lib.hid hW
  clear hW
  go_enter Tryd.func7, Tryd.ntmps7
  go_upto_region 1 with fail
  rw [HW.out]
  go_upto_region 2 with (go_at_call 10; refine (HA.out _ hB0).mono ?_; rintro e v1 ⟨rfl, hb⟩; have hB1 := hB0.trans (hb.mono hB0.size); have hK1 := hK0.below hb hK0.lt; clear hb hK0)
  have s0 : v1.cell? ⟨w.heap.size, 0, none⟩ = some (.int .i64 pk) := hK1.at_ 0 _ rfl
  have s1 : v1.cell? ⟨w.heap.size, 1, none⟩ = some (.int .i64 pe) := hK1.at_ 1 _ rfl
  have s2 : v1.cell? ⟨w.heap.size, 2, none⟩ = some (.slice pA pn pc) := hK1.at_ 2 _ rfl
  go_upto_region 4 with (go_at_call 21; refine (HI.out _ hB1).mono ?_; rintro e v2 ⟨A, c, rfl, hown, hb⟩; unfold Img.v; simp only; have hB2 := hB1.trans (hb.mono hB1.size); clear hb)
  obtain ⟨A1, c1, hv, hrow, -⟩ := SegRow.of_own hown (fun s hs => May.wf (HMY.out s hs))
  injection hv with e1 e2 e3
  subst e1 e3
  obtain ⟨n, hn⟩ : ∃ n, segs.length = n := ⟨_, rfl⟩
  obtain ⟨W2, hW2⟩ : ∃ W2, v2.alloc (.cells #[.int .i64 kind, .int .i64 entry, .slice A n c] 24) = W2 := ⟨_, rfl⟩
  have hB3 : Below w.heap.size w W2 := by rw [← hW2]; exact hB2.alloc hB2.size _
  have hrow2 : SegRow W2 A segs := by rw [← hW2]; exact hrow.below ((Below.refl _ _).alloc (Nat.le_refl _) _)
  have hK2 : Blk W2 v2.heap.size 24 #[.int .i64 kind, .int .i64 entry, .slice A n c] := by rw [← hW2]; exact Blk.new _ _ _
  rw [hn] at hlen HSP ⊢
  rw [hW2]
  obtain ⟨G, hG⟩ : ∃ G, v2.heap.size = G := ⟨_, rfl⟩
  rw [hG] at hK2 ⊢
  have HTR := Lib.hid (fun v (hv : Below W2.heap.size W2 v) => show SegRow v A segs ∧ Below w.heap.size w v ∧ v.cell? ⟨G, 0, none⟩ = some (.int .i64 kind) ∧ v.cell? ⟨G, 1, none⟩ = some (.int .i64 entry) ∧ v.cell? ⟨G, 2, none⟩ = some (.slice A n c) from
    ⟨hrow2.below hv, hB3.trans (hv.mono hB3.size), (hK2.below hv hK2.lt).at_ 0 _ rfl, (hK2.below hv hK2.lt).at_ 1 _ rfl, (hK2.below hv hK2.lt).at_ 2 _ rfl⟩)
  have HN := Lib.hid hn
  clear hrow hrow2 hK2 hB3 hB2 hB1 hB0 hK1 hown hW2 hG hn s0 s1 s2
  have hbq := Below.refl W2.heap.size W2
  go_wp2
  go_loopw [6, 7] (fun en i wr => ∃ (k : Nat) (E : Int), k ≤ n ∧ i = .int .i64 k ∧ en = .int .i64 E ∧ Hid (lastTo (segs.take k) 0 = E) ∧ 0 ≤ E ∧ E ≤ 10000 ∧ Below W2.heap.size W2 wr) (fun _ i _ => n - (intOf i).toNat)
  case atStart => exact ⟨0, 0, Nat.zero_le _, rfl, rfl, Lib.hid rfl, by omega, by omega, hbq⟩
  case round =>
    clear hbq
    obtain ⟨k, E, hk, rfl, rfl, HE, hE0, hE1, hbe⟩ := hrel
    obtain ⟨hr, hbw, x0, x1, x2⟩ := HTR.out _ hbe
    by_cases hlt : k < n
    · have hkl : k < segs.length := by rw [HN.out]; exact hlt
      obtain ⟨ad, rfl, hblt, hwf, d0, d1, d2, d3, d4, d5, d6⟩ := hr.at_ hkl
      have hra := HRA.out k hkl
      have hmem := List.getElem_mem hkl
      have hls : lastTo (segs.take (k + 1)) 0 = segs[k].to_ := by
        rw [List.take_succ_eq_append_getElem hkl, lastTo_snoc, if_pos (HTY.out _ hmem).1]
      obtain ⟨s, hs⟩ : ∃ s, segs[k] = s := ⟨_, rfl⟩
      rw [hs] at hwf d0 d1 d2 d3 d4 d5 d6 hra hls hmem
      have hM := HMY.out s hmem
      have ht1 := (HTY.out s hmem).1
      have hpg := fun w => epages_any s w hwf
      obtain ⟨hf, ht⟩ := may_to hM
      have ha := hM.ad
      have hm := hM.mem
      have hboth := hM.both (.inl ht1)
      have hload := hM.load ht1
      rw [HE.out] at hra
      obtain ⟨F, hF⟩ : ∃ F, s.from_ = F := ⟨_, rfl⟩
      obtain ⟨T, hTt⟩ : ∃ T, s.to_ = T := ⟨_, rfl⟩
      rw [hF] at hra hf hpg
      rw [hTt] at ht hls hpg
      have HB1 := Lib.hid (show Below W2.heap.size W2 (wr.alloc (.cells s.cs 47)) from hbe.alloc hbe.size _)
      have HK1 := Lib.hid (Blk.new wr 47 s.cs)
      have hcs := seg_cells HK1.out
      obtain ⟨ty, fl, off, ad', sz, mem, al⟩ := s
      unfold Seg.v Seg.cs at hpg
      unfold Seg.cs at HB1 HK1
      simp only at *
      obtain ⟨F64, h1⟩ : ∃ z, F * 64 = z := ⟨_, rfl⟩
      obtain ⟨F1, h2⟩ : ∃ z, F + 1 = z := ⟨_, rfl⟩
      obtain ⟨F164, h3⟩ : ∃ z, F1 * 64 = z := ⟨_, rfl⟩
      obtain ⟨T64, h4⟩ : ∃ z, T * 64 = z := ⟨_, rfl⟩
      obtain ⟨T1, h5⟩ : ∃ z, T - 1 = z := ⟨_, rfl⟩
      obtain ⟨T164, h6⟩ : ∃ z, T1 * 64 = z := ⟨_, rfl⟩
      obtain ⟨am, h7⟩ : ∃ z, ad' + mem = z := ⟨_, rfl⟩
      have w1 : IntKind.i64.wrap (F * 64) = F64 := by rw [IntWalk.i64_in _ (by omega)]; exact h1
      have w2 : IntKind.i64.wrap (F + 1) = F1 := by rw [IntWalk.i64_in _ (by omega)]; exact h2
      have w3 : IntKind.i64.wrap (F1 * 64) = F164 := by rw [IntWalk.i64_in _ (by omega)]; exact h3
      have w4 : IntKind.i64.wrap (T * 64) = T64 := by rw [IntWalk.i64_in _ (by omega)]; exact h4
      have w5 : IntKind.i64.wrap (T - 1) = T1 := by rw [IntWalk.i64_in _ (by omega)]; exact h5
      have w6 : IntKind.i64.wrap (T1 * 64) = T164 := by rw [IntWalk.i64_in _ (by omega)]; exact h6
      have w7 : IntKind.i64.wrap (ad' + mem) = am := by rw [IntWalk.i64_in _ (by omega)]; exact h7
      have g1 : decide (ad' < F64) = false := decide_eq_false (by omega)
      have g2 : decide (F164 ≤ ad') = false := decide_eq_false (by omega)
      have g3 : decide (T64 < am) = false := decide_eq_false (by omega)
      have g4 : decide (am ≤ T164) = false := decide_eq_false (by omega)
      have g5 : decide (F < E) = false := decide_eq_false (by omega)
      have HR := Lib.hid (show 0 ≤ T ∧ T ≤ 10000 from by omega)
      have HLS := Lib.hid hls
      have HPG := Lib.hid hpg
      have HCS := Lib.hid (fun v (hv : Below (wr.alloc (.cells #[.int .i64 ty, .int .i64 fl, .int .i64 off, .int .i64 ad', .int .i64 sz, .int .i64 mem, .int .i64 al] 47)).heap.size (wr.alloc (.cells #[.int .i64 ty, .int .i64 fl, .int .i64 off, .int .i64 ad', .int .i64 sz, .int .i64 mem, .int .i64 al] 47)) v) => seg_cells (s := ⟨ty, fl, off, ad', sz, mem, al⟩) (HK1.out.below hv HK1.out.lt))
      clear hra hmem hM ht1 hpg hf ht ha hm hboth hload hF hTt hls hs hwf h1 h2 h3 h4 h5 h6 h7 hE0 hE1 hr
      obtain ⟨y0, y1, y2, y3, y4, y5, y6⟩ := hcs
      go_wp2_with (go_at_call 23; refine (HPG.out _).mono ?_; rintro e v3 ⟨rfl, hb3⟩; clear y0 y1 y2 y3 y4 y5 y6 x0 x1 x2; obtain ⟨y0, y1, y2, y3, y4, y5, y6⟩ := HCS.out _ hb3; have hbz := HB1.out.trans (hb3.mono HB1.out.size))
      go_roundw
      case rel => exact ⟨k + 1, T, by omega, by go_num, rfl, HLS, HR.out.1, HR.out.2, hbz⟩
      case measure => simp [intOf]; omega
    · obtain rfl : k = n := by omega
      have he := HE.out
      rw [List.take_of_length_le (by rw [HN.out]; exact Nat.le_refl _)] at he
      have hsp := fun v (hr : SegRow v A segs) => HSP.out v A c hr
      rw [he] at hsp
      obtain ⟨E64, h1⟩ : ∃ z, E * 64 = z := ⟨_, rfl⟩
      have w1 : IntKind.i64.wrap (E * 64) = E64 := by rw [IntWalk.i64_in _ (by omega)]; exact h1
      rw [h1] at hsp
      have HS2 := Lib.hid hsp
      have hr2 := Lib.hid hr
      clear hsp he h1 hr HE
      go_wp2_with (go_at_call 24; refine (HS2.out _ hr2.out).mono ?_; rintro e v3 ⟨rfl, hb3⟩)
      go_ret
      exact ⟨rfl, hbw.trans (hb3.mono hbw.size)⟩
open Go.Proofs.YtakmmphjdkapeaaDoor.l8
set_option maxRecDepth 100000 in
theorem lifted (os : Os) (started : os.Started) (H : Type) (enc : TypeId × Value → H) :
    ReturnsInHanded {} Tryd.checked os 7 .any (fun w args => (Rows.elfPagesSpec.pre enc Tryd.prog Tryd.f7 Rows.elfPagesRow.domain false w args ∧ laidMet Tryd.prog Rows.elfPagesRow.laid w) ∧ sizedMet enc Tryd.prog Tryd.f7 (OpenSpec.ofChange Rows.elfPagesSpec) false w args) (Rows.elfPagesSpec.post enc Tryd.prog Tryd.f7 false true false false) := by
  refine returnsInHanded_of_change_and (C := Tryd.checked) (X := fun w _ => laidMet Tryd.prog Rows.elfPagesRow.laid w) (fun _ _ _ hh h => h.of_heap hh) own started (by kernel_rfl) Tryd.func7
    (ChangeSpec.witness_at (enc := enc) (C := Tryd.checked) (os := os) (X := fun w _ => laidMet Tryd.prog Rows.elfPagesRow.laid w) false (laidWorld os) #[zspecV] 8 rfl (by kernel_rfl) (by kernel_rfl) (by kernel_rfl) (by kernel_rfl) (by kernel_rfl) (laid_met os _)) ?_
  intro W base args ds gs before hval0 hW hcnd _ hL _
  have hval : ∀ (j : Nat) t v, Tryd.f7.params[j]? = some t → args[j]? = some v → Value.okWide Tryd.prog W .any base t v := hval0
  have hW' := hW
  obtain ⟨p, q, hA0, hV, rfl, hfz, hnd⟩ := hW
  have hA : DataW.TrodAll enc Tryd.prog W 0 (fun _ => true) true Tryd.f7.params.toList args.toList ds p := hA0
  rw [Tryd.params7] at hA hval
  obtain ⟨v0, vs0, d0, ds0, p0, q0, hargs, rfl, rfl, h0, r0⟩ := trodAll_cons hA
  obtain ⟨rfl, rfl, rfl⟩ := trodAll_nil r0
  obtain rfl : args = #[v0] := by cases args; simp_all
  obtain ⟨rfl, rfl⟩ := trodVars_none hV
  have k0 := h0
  have lt0 : ∀ x ∈ p0, x.block < W.heap.size := by obtain ⟨m, hm⟩ := k0; exact DataW.trod_lt m _ _ _ hm
  obtain ⟨a0, rfl, w0⟩ := open_spec (hval 0 41 v0 rfl rfl) h0
  clear hA0 hval0
  refine (walk a0 W w0 (tab_of_laid hL)).mono fun e W' ⟨he, bel⟩ => ?_
  subst he
  exact ⟨_, rfl, _, _, _, [], _, [], hW', trodAll_mk1 (shut_bool Tryd.underlying4 _), (trodAll_cons_mk (Below.trod laidOut (by kernel_rfl) (of_decide_eq_true (by kernel_rfl)) k0 bel lt0) trodAll_mk0), rfl, bel.frame _, fun h => by cases h⟩
theorem over : Rows.elfPagesRow.holds Tryd.pinned (OpenSpec.ofChange Rows.elfPagesSpec) :=
  OpenClaim.holds_of_wide 7 Tryd.f7 rfl rfl rfl rfl rfl rfl rfl ⟨rfl, rfl, rfl, rfl, rfl⟩ rfl rfl rfl rfl rfl (by kernel_rfl) Tryd.func7 (by kernel_rfl)
    (of_decide_eq_true (by kernel_rfl)) (by unfold Func.isWrapper; first | (rw [if_pos (by decide +kernel)]; kernel_rfl) | (rw [if_neg (by decide +kernel)]; exact ⟨rfl, rfl⟩))
    (fun os started H enc _ => lifted os started H enc)
set_option maxRecDepth 100000 in
/-- The statement. -/
theorem proved : Rows.ElfPagesCardSaid :=
  Claim7.holds_tied_plain_at .later [] [.data, .data] true _ false over (fun _ h => by cases h) (by kernel_rfl) (fun _ h => by cases h) elfPages_row_tie rfl ⟨rfl, rfl⟩ (by kernel_rfl) rfl
    (fun f fn hf hfn => by
      obtain rfl : f = 7 := Option.some.inj (hf.symm.trans (by kernel_rfl))
      obtain rfl : fn = Tryd.f7 := Option.some.inj (hfn.symm.trans Tryd.func7)
      refine ⟨by kernel_rfl, fun j t ht => ?_⟩
      rw [Tryd.params7] at ht
      match j, ht with
      | 0, ht =>
        obtain rfl : t = 41 := by simpa using ht.symm
        exact (by kernel_rfl : Tryd.pinned.checked.prog.wantsStandIn 41 = false)
      | j + 1, ht => simp at ht)
    (by kernel_rfl)
end Go.Proofs.YtakmmphjdkapeaaDoor.lawPg
