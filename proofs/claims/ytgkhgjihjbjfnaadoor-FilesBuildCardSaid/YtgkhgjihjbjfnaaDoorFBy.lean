/- Package files: Bytes. -/
import Derived.Test.YtgkhgjihjbjfnaaDoorFZ
import Derived.Test.YtgkhgjihjbjfnaaDoorFS
namespace Go.Proofs.YtgkhgjihjbjfnaaDoor
open Go.RowKit Go.Shelf Go.Maps
set_option linter.unusedVariables false
set_option linter.unusedSimpArgs false
attribute [local go_sem] Oper.semAt_some

/-- All bytes were told. -/
def BytesTold (w : World) (pd gd : Nat) (D : Dsk) (d : ByteArray) (e : Ending) (w' : World) : Prop :=
  e = .returned (.tuple #[.string d, .int .i64 0]) ∧ But (· = pd) w w' ∧ ∃ D' : Dsk, D'.S = D.S ∧ Dk w' pd gd D'
set_option maxRecDepth 100000 in
set_option maxHeartbeats 700000 in
theorem bytes_yes {B p pd gd used first : Nat} {xs : List Ino} {D : Dsk} (k : Nat) (hk : k < xs.length) (hl : xs.length ≤ 64) (d : ByteArray) (hf : InoFits xs[k]) (hs : Stands xs[k] first used) (hd : HasData D xs[k] d) (w : World)
    (h : Fs w B p pd used xs) (hdk : Dk w pd gd D) : Calls Tryd.prog 21 #[.pointer (some ⟨p, 0, none⟩), .int .i64 k] w (BytesTold w pd gd D d) := by
  obtain ⟨val, vs, mb, hF, _, _, hBp, _⟩ := h.ex
  have hp := hF.lt
  have hppd : p ≠ pd := by have := h.old; omega
  have hold := h.old
  have h1 := inode_yes k hk hl _ (h.below ((Below.refl w.heap.size w).alloc (Nat.le_refl _) (.cells #[.pointer (some ⟨p, 0, none⟩)] 36)))
  have hsz := hs.2.1
  have h2 := fun w => pages_any xs[k].size w (by omega)
  have hah := hs.2.2
  have hsm := hf.small
  have hm4 := hf.many
  have hnum := hf.nums
  have hat := hd.at_
  have hds := hd.size
  unfold ToldIno at h1
  unfold BytesTold
  clear hf hs hd h
  generalize xs[k] = x at *
  obtain ⟨nm, sz, ext⟩ := x
  simp only at *
  obtain rfl := hds
  obtain ⟨N, hN⟩ : ∃ N, pgs d.size = N := ⟨_, rfl⟩
  have hN2 : N ≤ 16384 := by unfold pgs at hN; omega
  have hN3 : d.size ≤ 64 * N := by unfold pgs at hN; omega
  have htake := secL_take d
  rw [hN] at h2 htake hah
  have hfull := cont_full d ext
  rw [hah] at hfull
  have hdd := len_data d
  obtain ⟨i0, hi, hz0, hz1, hz2⟩ := info_parts infoU8b
  have hmk := run_make_bytes0 (P := Tryd.prog) 35 5 i0 Tryd.underlying35 hi hz0 hz1 hz2 ((N : Int) * 64) (by omega) (by omega)
  have hn64 : ((N : Int) * 64).toNat = 64 * N := by omega
  rw [hn64] at hmk
  have hcl : ∀ pre : List (Fin ext.length), pre.length ≤ 4 → (cont d ext pre).length ≤ 16777216 := fun pre hpre => by
    have h1 := cont_le d ext 65536 (fun e he => by have := (hnum e he).2; omega) pre
    have : 64 * 65536 * pre.length ≤ 64 * 65536 * 4 := Nat.mul_le_mul_left _ hpre
    omega
  have H1 := Lib.hid h1
  have H2 := Lib.hid h2
  have HD := Lib.hid hdk
  have HT := Lib.hid htake
  have HFU := Lib.hid hfull
  have HCL := Lib.hid hcl
  have HAT := Lib.hid hat
  have HNUM := Lib.hid hnum
  have HDD := Lib.hid hdd
  have hpd := hdk.head.lt
  have hgd := hdk.row.lt
  have hB := (Below.refl w.heap.size w).alloc (Nat.le_refl _) (.cells #[.pointer (some ⟨p, 0, none⟩)] 36)
  have c0 := (Blk.new w 36 #[.pointer (some ⟨p, 0, none⟩)])
  have cc := c0.at_ 0 _ rfl
  clear h1 h2 hdk htake hfull hcl hat hnum hdd hN hah hn64 hi hz0 hz1 hz2
  refine callsIn_wide (n := 3).1 ?_
  refine callsIn_of_wp_marks Tryd.func21 rfl trivial ?_ rfl
  simp only [Tryd.ntmps21, List.size_toArray, List.length_cons, List.length_nil, Nat.reduceAdd, Nat.reduceSub, Array.replicate_succ, Array.replicate_zero, List.push_toArray, List.append_toArray, List.nil_append, List.cons_append]
  refine wpIn_wide.2 ?_
  go_wp2_with fail
  go_step3
  go_wp2_with (first
    | (go_at_call 41; with_reducible refine H1.out.mono ?_; rintro e v1 ⟨A, c, rfl, hv, hvb, hb⟩)
    | (go_at_call 42; with_reducible refine (H2.out _).mono ?_; rintro e v2 ⟨rfl, rfl⟩))
  have hst := BySt.start (I := #[.string nm, .int .i64 d.size, .slice A ext.length c]) hF HD.out hb N (by omega)
  have hpl : ByPl w p pd gd w.heap.size v1.heap.size := ⟨Nat.le_refl _, by have := hb.size; simp at this; omega, hp, hpd, hgd, hppd⟩
  have hvr := (((hv.alloc (.cells #[.string nm, .int .i64 d.size, .slice A ext.length c] 55)).alloc (.cells (zrow (64 * N)) 5)).alloc (.cells #[.slice (some ⟨v1.heap.size + 1, 0, none⟩) 0 (64 * N)] 35)).alloc (.cells #[.int .i64 0] 27)
  obtain ⟨V1, hV1⟩ : ∃ V1, ((((v1.alloc (.cells #[.string nm, .int .i64 d.size, .slice A ext.length c] 55)).alloc (.cells (zrow (64 * N)) 5)).alloc (.cells #[.slice (some ⟨v1.heap.size + 1, 0, none⟩) 0 (64 * N)] 35)).alloc (.cells #[.int .i64 0] 27)) = V1 := ⟨_, rfl⟩
  rw [hV1] at hst hvr ⊢
  obtain ⟨bx, hbx⟩ : ∃ bx, v1.heap.size = bx := ⟨_, rfl⟩
  rw [hbx] at hst hpl ⊢
  obtain ⟨b2, hb2⟩ : ∃ b2, w.heap.size = b2 := ⟨_, rfl⟩
  rw [hb2] at hst hpl ⊢
  clear hV1 hbx hv hvb hb hmk c0 cc hB H1 H2
  have y2 := hst.ino.at_ 2 _ rfl
  have HST := Lib.hid hst
  have HPL := Lib.hid hpl
  have HVR := Lib.hid hvr
  clear hst hpl hvr
  go_step3
  go_wp2_with (go_at_call 43; refine (parts_any A _ c _).mono ?_; rintro e w1 ⟨rfl, rfl⟩)
  have bS := Blk.new V1 53 #[.slice A ext.length c]
  have hst2 := HST.out.alloc (.cells #[.slice A ext.length c] 53)
  have hx2 := HVR.out.alloc (.cells #[.slice A ext.length c] 53)
  have lV : w.heap.size ≤ (V1.alloc (.cells #[.slice A ext.length c] 53)).heap.size := by have := HST.out.but.size; simp; omega
  obtain ⟨bq, hbq⟩ : ∃ bq, V1.heap.size = bq := ⟨_, rfl⟩
  generalize V1.alloc (.cells #[.slice A ext.length c] 53) = V2 at *
  rw [hbq] at bS ⊢
  have HST2 := Lib.hid hst2
  clear y2 hbq HST HVR hst2
  refine (wpIn_wide (n := 3)).1 ?_
  refine wpIn_named ?_
  intro T hT
  refine wpIn_rangeFunc_ownH rfl (by omega) (gf := 59) (lb := #[.pointer (some ⟨bq, 0, none⟩)]) (by rw [← hT]; rfl) trivial (enters_of Tryd.func59 (by kernel_rfl) rfl)
    (partsx_stops (3 - 1) (by omega) bq _ ext hsm V2 bS hx2) KpX.trans kpX_b (Below.refl _ _) (fun _ => rfl)
    (fun pre W => BySt w p pd gd b2 bx #[.pointer (some ⟨pd, 0, none⟩), .int .i64 used, val, .map (some mb)] #[.string nm, .int .i64 d.size, .slice A ext.length c] D (cont d ext pre) W)
    (fun _ _ _ => False)
    (BySt.own lV (fun pre => cont d ext pre))
    (fun _ _ _ _ _ hs _ _ => hs)
    HST2.out
    (fun x a' W => ∃ Bx, Blk W Bx 61 #[.int .i64 (ext[x.1].1 : Nat), .int .i64 (ext[x.1].2 : Nat)] ∧ a' = { tmps := (((T.setIfInBounds 30 (.int .i64 (ahd ext x.1 : Nat))).setIfInBounds 31 (.agg #[.int .i64 (ext[x.1].1 : Nat), .int .i64 (ext[x.1].2 : Nat)])).setIfInBounds 11 (.pointer (some ⟨Bx, 0, none⟩))), defers := [] })
    (fun x a' _ X Y row hs hg hr => by obtain ⟨Bx, h2, h3⟩ := hs; exact ⟨Bx, Blk.own _ _ (fun (_ : Unit) => _) () X Y row h2 hg (fun r e => (hr r e).2), h3⟩)
    ?assign ?body ?done ?stop
  case assign =>
    rintro l pre x W K h1 hK
    simp only [encE, List.zip_toArray, List.zip_cons_cons, List.zip_nil_right, List.size_toArray, List.foldl_toArray', List.foldl_toArray, List.foldl_cons, List.foldl_nil]
    subst hT
    simp only [List.setIfInBounds_toArray, List.set_cons_succ, List.set_cons_zero]
    gi_wp2
    refine hK _ _ ((KeepsOthers.alloc _ _).from _) (KpX.alloc W _) (h1.alloc _) ⟨W.heap.size, Blk.new W _ _, ?_⟩
    rfl
  case body =>
    rintro l pre x a' W hl2 _ h1 ⟨Bx, bX, rfl⟩ hlt2
    subst hT
    simp only [List.setIfInBounds_toArray, List.set_cons_succ, List.set_cons_zero]
    have x1 := bX.at_ 1 _ rfl
    have hpp := HAT.out x.1 x.2
    have hnm := HNUM.out _ (List.getElem_mem x.2)
    have hcn := HCL.out pre (by omega)
    have hcs := cont_snoc d ext pre x
    obtain ⟨aa, haa⟩ : ∃ aa, ahd ext x.1 = aa := ⟨_, rfl⟩
    obtain ⟨pp, hppe⟩ : ∃ pp, ext[x.1].1 = pp := ⟨_, rfl⟩
    obtain ⟨qq, hqqe⟩ : ∃ qq, ext[x.1].2 = qq := ⟨_, rfl⟩
    obtain ⟨L0, hL0⟩ : ∃ L0, cont d ext pre = L0 := ⟨_, rfl⟩
    simp only [haa, hppe, hqqe, hL0] at h1 hpp hnm hcn hcs x1 bX ⊢
    obtain ⟨hn1, hn2⟩ := hnm
    have HPP := Lib.hid hpp
    have HCS := Lib.hid hcs
    have HS0 := Lib.hid h1
    clear hpp hcs h1 hx2 bS HST2 HCL HNUM HAT HT HFU HDD
    gi_wp2
    gi_loopw [34] (fun i wr => ∃ (n' : Nat), n' ≤ qq ∧ i = .int .i64 n' ∧ BySt w p pd gd b2 bx #[.pointer (some ⟨pd, 0, none⟩), .int .i64 used, val, .map (some mb)] #[.string nm, .int .i64 d.size, .slice A ext.length c] D (L0 ++ secL d aa n') wr ∧ KpX W wr ∧ KeepsOthers W wr) (fun i _ => qq - (intOf i).toNat)
    case atStart => exact ⟨0, Nat.zero_le _, rfl, by rw [secL_zero, List.append_nil]; exact HS0.out, KpX.refl _, KeepsOthers.refl _⟩
    case round =>
      obtain ⟨n', hn', rfl, hs'', hk'', ho''⟩ := hrel
      by_cases hlt3 : n' < qq
      · have hmx : Tryd.prog.follows .mixedOrders = true := by kernel_rfl
        have bXr := hk'' _ _ _ (.inl rfl) bX
        have y0 := hs''.drew.box.at_ 0 _ rfl
        have y1 := hs''.drew.fs.at_ 0 _ rfl
        have y2 := (show Blk wr.drew Bx 61 _ from bXr).at_ 0 _ rfl
        have hrd := fun v (hv : BySt w p pd gd b2 bx #[.pointer (some ⟨pd, 0, none⟩), .int .i64 used, val, .map (some mb)] #[.string nm, .int .i64 d.size, .slice A ext.length c] D (L0 ++ secL d aa n') v) => hv.read HPL.out (pp + n') (pageOf d (aa + n')) (HPP.out n' hlt3) ((pp : Int) + (n' : Int)) (by omega)
        have HR := Lib.hid hrd
        have HS2 := Lib.hid hs''
        have HK2 := Lib.hid hk''
        have HO2 := Lib.hid ho''
        have E1 : IntKind.i64.wrap ((pp : Int) + (n' : Int)) = (pp : Int) + (n' : Int) := IntWalk.i64_in _ (by omega)
        clear hrd hs'' hk'' ho'' bXr
        gi_wp2
        refine Code.wpIn_mono calm_le (wpIn_region_any hmx (any_in l _ (by kernel_rfl) calm_not _ _ _ _ (wpAny_of_held (S := fun w' => w'.cell? ⟨b2, 0, none⟩ = some (.pointer (some ⟨p, 0, none⟩)) ∧ w'.cell? ⟨p, 0, none⟩ = some (.pointer (some ⟨pd, 0, none⟩)) ∧ w'.cell? ⟨Bx, 0, none⟩ = some (.int .i64 pp)) _ _ _ _ ?_)))
        change wpAnyH _ _ _ _ _ _ _ _ (World.drew _)
        refine wpAnyH_take (i := 0) (v := .pointer (some ⟨p, 0, none⟩)) rfl (by kernel_rfl) (by kernel_rfl) (by kernel_rfl) (fun _ _ _ h => h) (Or.inl ⟨by rfl, ?_⟩) ⟨y0, y1, y2⟩ ?_
        · intro w0 hS0
          obtain ⟨z0, z1, z2⟩ := hS0
          go_simp
        simp only [Act.put, List.setIfInBounds_toArray, List.set_cons_zero, List.set_cons_succ]
        refine wpAnyH_take (i := 1) (v := .pointer (some ⟨p, 0, none⟩)) rfl (by kernel_rfl) (by kernel_rfl) (by kernel_rfl) (fun _ _ _ h => h) (Or.inl ⟨by rfl, ?_⟩) ⟨y0, y1, y2⟩ ?_
        · intro w0 hS0
          obtain ⟨z0, z1, z2⟩ := hS0
          go_simp
        simp only [Act.put, List.setIfInBounds_toArray, List.set_cons_zero, List.set_cons_succ]
        refine wpAnyH_take (i := 2) (v := .pointer (some ⟨p, 0, none⟩)) rfl (by kernel_rfl) (by kernel_rfl) (by kernel_rfl) (fun _ _ _ h => h) (Or.inl ⟨by rfl, ?_⟩) ⟨y0, y1, y2⟩ ?_
        · intro w0 hS0
          obtain ⟨z0, z1, z2⟩ := hS0
          go_simp
        simp only [Act.put, List.setIfInBounds_toArray, List.set_cons_zero, List.set_cons_succ]
        refine wpAnyH_take (i := 3) (v := .pointer (some ⟨pd, 0, none⟩)) rfl (by kernel_rfl) (by kernel_rfl) (by kernel_rfl) (fun _ _ _ h => h) (Or.inl ⟨by rfl, ?_⟩) ⟨y0, y1, y2⟩ ?_
        · intro w0 hS0
          obtain ⟨z0, z1, z2⟩ := hS0
          go_simp
        simp only [Act.put, List.setIfInBounds_toArray, List.set_cons_zero, List.set_cons_succ]
        refine wpAnyH_take (i := 4) (v := .pointer (some ⟨Bx, 0, none⟩)) rfl (by kernel_rfl) (by kernel_rfl) (by kernel_rfl) (fun _ _ _ h => h) (Or.inl ⟨by rfl, ?_⟩) ⟨y0, y1, y2⟩ ?_
        · intro w0 hS0
          obtain ⟨z0, z1, z2⟩ := hS0
          go_simp
        simp only [Act.put, List.setIfInBounds_toArray, List.set_cons_zero, List.set_cons_succ]
        refine wpAnyH_take (i := 5) (v := .int .i64 pp) rfl (by kernel_rfl) (by kernel_rfl) (by kernel_rfl) (fun _ _ _ h => h) (Or.inl ⟨by rfl, ?_⟩) ⟨y0, y1, y2⟩ ?_
        · intro w0 hS0
          obtain ⟨z0, z1, z2⟩ := hS0
          go_simp
        simp only [Act.put, List.setIfInBounds_toArray, List.set_cons_zero, List.set_cons_succ]
        refine wpAnyH_take (i := 6) (v := .int .i64 n') rfl (by kernel_rfl) (by kernel_rfl) (by kernel_rfl) (fun _ _ _ h => h) (Or.inl ⟨by rfl, ?_⟩) ⟨y0, y1, y2⟩ ?_
        · intro w0 hS0
          obtain ⟨z0, z1, z2⟩ := hS0
          go_simp
        simp only [Act.put, List.setIfInBounds_toArray, List.set_cons_zero, List.set_cons_succ]
        refine wpAnyH_take (i := 7) (v := .int .i64 ((pp : Int) + (n' : Int))) rfl (by kernel_rfl) (by kernel_rfl) (by kernel_rfl) (fun _ _ _ h => h) (Or.inl ⟨by rfl, ?_⟩) ⟨y0, y1, y2⟩ ?_
        · intro w0 hS0
          obtain ⟨z0, z1, z2⟩ := hS0
          go_simp
        simp only [Act.put, List.setIfInBounds_toArray, List.set_cons_zero, List.set_cons_succ]
        refine wpAnyH_ready (rs := [8]) (by kernel_rfl) (by simp) ?_
        refine AllReadyH.cons rfl (fun K hK => ?_) AllReadyH.nil
        go_simp
        go_at_call 34
        refine (HR.out _ HS2.out.drew).mono ?_
        rintro e v5 ⟨rfl, hs5, hk5, ho5⟩
        have bX5 := (HK2.out.trans ((KpX.drew wr).trans hk5)) _ _ _ (.inl rfl) bX
        have q0 := hs5.box.at_ 0 _ rfl
        have q1 := hs5.fs.at_ 0 _ rfl
        have q2 := bX5.at_ 0 _ rfl
        have e5 := hs5.err.at_ 0 _ rfl
        have f5 := hs5.err.frozen 0
        obtain ⟨hs6, hk6⟩ := hs5.setErr HPL.out
        have hk7 := HK2.out.trans ((KpX.drew wr).trans (hk5.trans hk6))
        have ho7 := HO2.out.trans ((KeepsOthers.drew wr).trans (ho5.trans (KeepsOthers.setCell v5 ⟨bx + 1 + 1 + 1, 0, none⟩ (.int .i64 0))))
        have bX7 := hk7 _ _ _ (.inl rfl) bX
        have r0 := hs6.box.at_ 0 _ rfl
        have r1 := hs6.fs.at_ 0 _ rfl
        have r2 := bX7.at_ 0 _ rfl
        have HS6 := Lib.hid hs6
        have HK7 := Lib.hid hk7
        have HO7 := Lib.hid ho7
        clear hs5 hk5 ho5 hs6 hk6 hk7 ho7 bX5 bX7 HR HS2 HK2 HO2
        refine hK.out _ _ ⟨q0, q1, q2⟩ (fun hHeld => ?_)
        clear hK K
        refine wpAnyH_take (i := 9) (v := .tuple #[.string (pageOf d (aa + n')), .int .i64 0]) rfl (by kernel_rfl) (by kernel_rfl) (by kernel_rfl) (fun _ _ _ h => h) (Or.inl ⟨by rfl, ?_⟩) ⟨q0, q1, q2⟩ ?_
        · intro w0 hS0
          obtain ⟨z0, z1, z2⟩ := hS0
          go_simp
        simp only [Act.put, List.setIfInBounds_toArray, List.set_cons_zero, List.set_cons_succ]
        refine wpAnyH_take (i := 10) (v := .string (pageOf d (aa + n'))) rfl (by kernel_rfl) (by kernel_rfl) (by kernel_rfl) (fun _ _ _ h => h) (Or.inl ⟨by rfl, ?_⟩) ⟨q0, q1, q2⟩ ?_
        · intro w0 hS0
          obtain ⟨z0, z1, z2⟩ := hS0
          go_simp
        simp only [Act.put, List.setIfInBounds_toArray, List.set_cons_zero, List.set_cons_succ]
        refine wpAnyH_take (i := 11) (v := .int .i64 0) rfl (by kernel_rfl) (by kernel_rfl) (by kernel_rfl) (fun _ _ _ h => h) (Or.inl ⟨by rfl, ?_⟩) ⟨q0, q1, q2⟩ ?_
        · intro w0 hS0
          obtain ⟨z0, z1, z2⟩ := hS0
          go_simp
        simp only [Act.put, List.setIfInBounds_toArray, List.set_cons_zero, List.set_cons_succ]
        refine wpAnyH_take (i := 12) (v := .string (pageOf d (aa + n'))) rfl (by kernel_rfl) (by kernel_rfl) (by kernel_rfl) (fun _ _ _ h => h) (Or.inl ⟨by rfl, ?_⟩) ⟨q0, q1, q2⟩ ?_
        · intro w0 hS0
          obtain ⟨z0, z1, z2⟩ := hS0
          go_simp
        simp only [Act.put, List.setIfInBounds_toArray, List.set_cons_zero, List.set_cons_succ]
        refine wpAnyH_ready (rs := [13]) (by kernel_rfl) (by simp) ?_
        refine AllReadyH.cons rfl (fun K hK => ?_) AllReadyH.nil
        go_simp
        refine hK.out _ _ ⟨r0, r1, r2⟩ (fun hHeld => ?_)
        clear hK K
        try simp only [Act.put, List.setIfInBounds_toArray, List.set_cons_zero, List.set_cons_succ]
        refine wpAnyH_done (by kernel_rfl) ?_ _
        refine calm_normal ?_
        clear q0 q1 q2 e5 f5 r0 r1 r2 y0 y1 y2
        generalize v5.setCell ⟨bx + 1 + 1 + 1, 0, none⟩ (.int .i64 0) = W6 at *
        obtain ⟨v, A7, m7, c7', W7, k4, hrun, k5, hs7, hk7, ho7⟩ := HS6.out.app HPL.out (pageOf d (aa + n')) (by rw [List.length_append, secL_length, pageOf_size]; omega) 35
        have c9 := HS6.out.err.at_ 0 _ rfl
        have c8 := k4.at_ 0 _ rfl
        have c7 := k5.at_ 0 _ rfl
        have f7 := k5.frozen 0
        rw [List.append_assoc, ← secL_succ] at hs7
        have HRUN := Lib.hid hrun
        have HS8 := Lib.hid hs7
        have HK8 := Lib.hid (HK7.out.trans hk7)
        have HO8 := Lib.hid (HO7.out.trans ho7)
        clear hrun hs7 hk7 ho7 k4 k5 HS6 HK7 HO7 E1
        generalize pageOf d (aa + n') = pq at *
        gi_wp2_with (gi_at_builtin; refine wpListIn_append_run _ rfl _ _ 35 9 rfl v (.string pq) (.slice A7 m7 c7') W7 rfl rfl HRUN.out ?_)
        go_roundw
        case rel => exact ⟨n' + 1, by omega, by go_num, HS8.out, HK8.out, HO8.out⟩
        case measure => simp [intOf]; omega
      · obtain rfl : n' = qq := by omega
        gi_wp2
        refine ⟨ho''.from _, hk'', ?_⟩
        show BySt _ _ _ _ _ _ _ _ _ (cont d ext (pre ++ [x])) wr
        rw [HCS.out]
        exact hs''
  case done =>
    rintro D' ys W hD rfl h1 hKD
    rw [HFU.out] at h1
    have lD : w.heap.size ≤ D' := by omega
    obtain ⟨v, h8, hown⟩ := h1.val
    have c9 := h1.err.at_ 0 _ rfl
    have c8 := h8.at_ 0 _ rfl
    have c6 := h1.ino.at_ 1 _ rfl
    obtain ⟨D2, hs2, hd2⟩ := h1.dsk
    have HPUT := Lib.hid (show But (· = pd) w (W.putObj D' (.deferred none)) ∧ ∃ D'' : Dsk, D''.S = D.S ∧ Dk (W.putObj D' (.deferred none)) pd gd D'' from ⟨h1.but.grown (grownBy_putObj' W D' (.deferred none)) (fun k e => by cases e; exact .inr lD), D2, hs2, hd2.below (belowK_b (w := w) (Nat.le_refl _) W D' _ _ lD hKD rfl rfl) hpd hgd⟩)
    have HKD := Lib.hid hKD
    have hlen := secL_length d 0 N
    have HT2 := HT.out
    have HDD2 := HDD.out
    clear HST2 HCL HNUM HAT HT HFU HDD hx2 bS hKD
    subst hT
    have HB := Lib.hid hb2
    rcases hown.2 with ⟨rfl, h0⟩ | ⟨g, cap, cur, rfl, _, hg, hnc, hcm, _, _⟩
    · have hd0 : d.size = 0 := by omega
      have hde : d = ⟨#[]⟩ := by
        rw [hd0, List.take_zero] at HT2
        rw [← mkb_of d, ← HT2]
        rfl
      have hcv : (convert 35 9 (.slice none 0 0)).run Tryd.prog W = .ok (.string ⟨#[]⟩) W := by
        rw [run_convert_bytes_string W 35 9 5 none 0 0 Tryd.underlying35 Tryd.underlying5 Tryd.underlying9]
        rfl
      rw [hd0] at c6
      have HDE := Lib.hid hde
      clear hown h8 h1 hd2 hs2 HT2 hlen HDD2 hF hde h0 hd0 hN3
      go_wp2
      rw [Exit.noGoto_ret]
      refine ⟨by simp, .inl ⟨_, _, rfl, run_takeDeferred HKD.out, ?_⟩⟩
      exact ⟨_, results_tmp2 rfl _ _ _, by rw [HDE.out]; rfl, HPUT.out⟩
    · have hcv : (convert 35 9 (.slice (some ⟨g, 0, none⟩) d.size cap)).run Tryd.prog W = .ok (.string d) W := by
        have h := run_convert_bytes_back (P := Tryd.prog) W 35 9 5 ⟨g, 0, none⟩ cap d.data.toList Tryd.underlying35 Tryd.underlying5 Tryd.underlying9 (fun j hj => by
          refine hown.cells (g := g) rfl j _ ?_
          have hL : (secL d 0 N)[j]? = some d.data.toList[j] := by
            have h2 : d.data.toList[j]? = some d.data.toList[j] := List.getElem?_eq_getElem hj
            rw [← h2]
            conv => rhs; rw [← HT2, List.getElem?_take, if_pos (by rw [← HDD2]; exact hj)]
          unfold Lib.byteCells
          rw [List.getElem?_map, hL]
          rfl)
        rw [HDD2] at h
        rw [h]
      have hle : d.size ≤ (secL d 0 N).length := by rw [hlen]; exact hN3
      generalize (secL d 0 N).length = LL at *
      have HCV := hcv
      clear hown hg h8 h1 hd2 hs2 HT2 hlen HDD2 hF
      go_wp2
      rw [Exit.noGoto_ret]
      refine ⟨by simp, .inl ⟨_, _, rfl, run_takeDeferred HKD.out, ?_⟩⟩
      exact ⟨_, results_tmp2 rfl _ _ _, rfl, HPUT.out⟩
  case stop =>
    rintro D c pre W _ _ h _
    exact h.elim
end Go.Proofs.YtgkhgjihjbjfnaaDoor
