/- ElfChecks: for any image, any size and another image: the program's Check, Header and Same tell what the document's tell. -/
import Derived.Test.YtakmmphjdkapeaaDoorEX
import Derived.Test.YtakmmphjdkapeaaDoorEV
namespace Go.Proofs.YtakmmphjdkapeaaDoor.lawChk
open Go.ChangeShapes Go.WideShapes Go.ChangeAt Go.RowKit
set_option linter.unusedVariables false
set_option linter.unusedSimpArgs false

/-- The two images' blocks. -/
structure Mx (w : World) (k1 e1 k2 e2 : Int) (A D : Option Addr) (n c m d : Nat) (v : World) : Prop where
  kx : Blk v w.heap.size 24 #[.int .i64 k1, .int .i64 e1, .slice A n c]
  ky : Blk v (w.heap.size + 1) 24 #[.int .i64 k2, .int .i64 e2, .slice D m d]
  b : Below w.heap.size w v
variable {w : World} {k1 e1 k2 e2 : Int} {A D : Option Addr} {n c m d : Nat} {v : World}
theorem Mx.below (h : Mx w k1 e1 k2 e2 A D n c m d v) {v2 : World} (hb : Below v.heap.size v v2) : Mx w k1 e1 k2 e2 A D n c m d v2 :=
  ⟨h.kx.below hb h.kx.lt, h.ky.below hb h.ky.lt, h.b.trans (hb.mono h.b.size)⟩
theorem Mx.drew (h : Mx w k1 e1 k2 e2 A D n c m d v) : Mx w k1 e1 k2 e2 A D n c m d v.drew := ⟨h.kx.drew, h.ky.drew, h.b.drew⟩
theorem Mx.setx (h : Mx w k1 e1 k2 e2 A D n c m d v) (n2 : Nat) : Mx w k1 e1 k2 e2 A D n2 c m d (((v.setCell ⟨w.heap.size, 0, none⟩ (.int .i64 k1)).setCell ⟨w.heap.size, 1, none⟩ (.int .i64 e1)).setCell ⟨w.heap.size, 2, none⟩ (.slice A n2 c)) := by
  refine ⟨img_set h.kx rfl _ _ _, ?_, ((h.b.setCell (p := ⟨w.heap.size, 0, none⟩) (Nat.le_refl _) _).setCell (p := ⟨w.heap.size, 1, none⟩) (Nat.le_refl _) _).setCell (p := ⟨w.heap.size, 2, none⟩) (Nat.le_refl _) _⟩
  exact h.ky.but ((((But.refl (· = w.heap.size) v).setCell (p := ⟨w.heap.size, 0, none⟩) (.inl rfl) _).setCell (p := ⟨w.heap.size, 1, none⟩) (.inl rfl) _).setCell (p := ⟨w.heap.size, 2, none⟩) (.inl rfl) _) (by simp)
theorem Mx.sety (h : Mx w k1 e1 k2 e2 A D n c m d v) (m2 : Nat) : Mx w k1 e1 k2 e2 A D n c m2 d (((v.setCell ⟨w.heap.size + 1, 0, none⟩ (.int .i64 k2)).setCell ⟨w.heap.size + 1, 1, none⟩ (.int .i64 e2)).setCell ⟨w.heap.size + 1, 2, none⟩ (.slice D m2 d)) := by
  refine ⟨?_, img_set h.ky rfl _ _ _, ((h.b.setCell (p := ⟨w.heap.size + 1, 0, none⟩) (Nat.le_succ _) _).setCell (p := ⟨w.heap.size + 1, 1, none⟩) (Nat.le_succ _) _).setCell (p := ⟨w.heap.size + 1, 2, none⟩) (Nat.le_succ _) _⟩
  exact h.kx.but ((((But.refl (· = w.heap.size + 1) v).setCell (p := ⟨w.heap.size + 1, 0, none⟩) (.inl rfl) _).setCell (p := ⟨w.heap.size + 1, 1, none⟩) (.inl rfl) _).setCell (p := ⟨w.heap.size + 1, 2, none⟩) (.inl rfl) _) (by simp)
theorem Mx.cx (h : Mx w k1 e1 k2 e2 A D n c m d v) : v.cell? ⟨w.heap.size, 0, none⟩ = some (.int .i64 k1) ∧ v.cell? ⟨w.heap.size, 1, none⟩ = some (.int .i64 e1) ∧ v.cell? ⟨w.heap.size, 2, none⟩ = some (.slice A n c) := ⟨h.kx.at_ 0 _ rfl, h.kx.at_ 1 _ rfl, h.kx.at_ 2 _ rfl⟩
theorem Mx.cy (h : Mx w k1 e1 k2 e2 A D n c m d v) : v.cell? ⟨w.heap.size + 1, 0, none⟩ = some (.int .i64 k2) ∧ v.cell? ⟨w.heap.size + 1, 1, none⟩ = some (.int .i64 e2) ∧ v.cell? ⟨w.heap.size + 1, 2, none⟩ = some (.slice D m d) := ⟨h.ky.at_ 0 _ rfl, h.ky.at_ 1 _ rfl, h.ky.at_ 2 _ rfl⟩
theorem Mx.fx (h : Mx w k1 e1 k2 e2 A D n c m d v) : v.frozen? ⟨w.heap.size, 0, none⟩ = false ∧ v.frozen? ⟨w.heap.size, 1, none⟩ = false ∧ v.frozen? ⟨w.heap.size, 2, none⟩ = false := ⟨h.kx.frozen 0, h.kx.frozen 1, h.kx.frozen 2⟩
theorem Mx.fy (h : Mx w k1 e1 k2 e2 A D n c m d v) : v.frozen? ⟨w.heap.size + 1, 0, none⟩ = false ∧ v.frozen? ⟨w.heap.size + 1, 1, none⟩ = false ∧ v.frozen? ⟨w.heap.size + 1, 2, none⟩ = false := ⟨h.ky.frozen 0, h.ky.frozen 1, h.ky.frozen 2⟩

set_option maxRecDepth 100000 in
set_option maxHeartbeats 3200000 in
theorem walk (x : ImgIn) (size : Int) (y : ImgIn) (w : World) (hx : x.In w) (hz : (Lit.int .i64 size).wf = true) (hy : y.In w) (hT : ETab w) :
    Calls Tryd.prog 3 #[x.v, .int .i64 size, y.v] w fun e w' => e = .returned (.bool true) ∧ Below w.heap.size w w' := by
  obtain ⟨x, A, c⟩ := x
  obtain ⟨y, D, d⟩ := y
  have lx : x.few.segs.length ≤ 17 := few_len x
  have ly : y.few.segs.length ≤ 17 := few_len y
  have rx : SegRow w A x.few.segs := hx.row.take 17
  have ry : SegRow w D y.few.segs := hy.row.take 17
  have HA := Lib.hid (fun v (hv : Below w.heap.size w v) => awake8_any v (hT.on hv))
  have HFX := Lib.hid (fun v => few8_any ⟨x, A, c⟩ v hx.cap hx.len)
  have HFY := Lib.hid (fun v => few8_any ⟨y, D, d⟩ v hy.cap hy.len)
  have HCK := Lib.hid (fun v (hv : Below w.heap.size w v) => echeck_any x.few A c size v (hT.on hv) (rx.below hv) (by omega) hz)
  have HRC := Lib.hid (fun v (hv : Below w.heap.size w v) => rcheck_any x.few A c size v (rx.below hv) (by omega) hz)
  have HHD := Lib.hid (fun v (hv : Below w.heap.size w v) => header_any x.few A c v (hT.on hv) hx.kind hx.entry (rx.below hv) (by omega))
  have HRH := Lib.hid (fun v (hv : Below w.heap.size w v) => rheader_any x.few A c v hx.kind hx.entry (rx.below hv) (by omega))
  have HSM := Lib.hid (fun v (hv : Below w.heap.size w v) => same_img x.few y.few A D c d v (rx.below hv) (ry.below hv) (by omega) (by omega))
  have HRS := Lib.hid (fun v (hv : Below w.heap.size w v) => rsame_img x.few y.few A D c d v (rx.below hv) (ry.below hv) (by omega) (by omega))
  have hself : x.few.same x.few = true := by rw [Img.same_eq]; simp
  have hss := fun v (hv : Below w.heap.size w v) => same_img x.few x.few A A c c v (rx.below hv) (rx.below hv) (by omega) (by omega)
  rw [hself] at hss
  have HSS := Lib.hid hss
  clear hself hss hx hy rx ry hz hT
  generalize x.few.err size = err at *
  generalize x.few.same y.few = sm at *
  generalize x.few.headL = hd at *
  obtain ⟨k1, e1, l⟩ := x
  obtain ⟨k2, e2, l2⟩ := y
  unfold ImgIn.v Img.v at *
  simp only [Img.few] at *
  generalize (l.take 17).length = n2 at *
  generalize l.length = n at *
  generalize (l2.take 17).length = m2 at *
  generalize l2.length = m at *
  obtain ⟨W, hW⟩ : ∃ W, (w.alloc (.cells #[.int .i64 k1, .int .i64 e1, .slice A n c] 24)).alloc (.cells #[.int .i64 k2, .int .i64 e2, .slice D m d] 24) = W := ⟨_, rfl⟩
  have hM0 : Mx w k1 e1 k2 e2 A D n c m d W := by
    rw [← hW]
    exact ⟨(Blk.new w _ _).alloc _, by simpa using Blk.new (w.alloc (.cells #[.int .i64 k1, .int .i64 e1, .slice A n c] 24)) 24 #[.int .i64 k2, .int .i64 e2, .slice D m d], ((Below.refl _ _).alloc (Nat.le_refl _) _).alloc (by simp) _⟩
  have HW := Lib.hid hW
  clear hW
  go_enter Tryd.func3, Tryd.ntmps3
  go_upto_region 1 with fail
  rw [HW.out]
  go_upto_region 4 with (first
    | (go_at_call 10; refine (HA.out _ hM0.b).mono ?_; rintro e v1 ⟨rfl, hb⟩; have hM1 := hM0.below hb; clear hb hM0; obtain ⟨x0, x1, x2⟩ := hM1.cx)
    | (go_at_call 11; with_reducible refine (HFX.out _).mono ?_; rintro e v2 ⟨rfl, hb⟩; have hM2 := hM1.below hb; clear hb hM1 x0 x1 x2; obtain ⟨x0, x1, x2⟩ := hM2.cx; obtain ⟨f0, f1, f2⟩ := hM2.fx; have hM3 := hM2.setx n2; obtain ⟨V3, hV3⟩ : ∃ V3, (((v2.setCell ⟨w.heap.size, 0, none⟩ (.int .i64 k1)).setCell ⟨w.heap.size, 1, none⟩ (.int .i64 e1)).setCell ⟨w.heap.size, 2, none⟩ (.slice A n2 c)) = V3 := ⟨_, rfl⟩; rw [hV3] at hM3; obtain ⟨y0, y1, y2⟩ := hM3.cy)
    | (go_at_call 11; with_reducible refine (HFY.out _).mono ?_; rintro e v4 ⟨rfl, hb⟩; have hM4 := hM3.below hb; clear hb hM3 x0 x1 x2 f0 f1 f2 y0 y1 y2; obtain ⟨y0, y1, y2⟩ := hM4.cy; obtain ⟨f0, f1, f2⟩ := hM4.fy; have hM5 := hM4.sety m2; obtain ⟨V5, hV5⟩ : ∃ V5, (((v4.setCell ⟨w.heap.size + 1, 0, none⟩ (.int .i64 k2)).setCell ⟨w.heap.size + 1, 1, none⟩ (.int .i64 e2)).setCell ⟨w.heap.size + 1, 2, none⟩ (.slice D m2 d)) = V5 := ⟨_, rfl⟩; rw [hV5] at hM5))
  clear y0 y1 y2 f0 f1 f2 hM2 hM4 hV3 hV5
  have hM := hM5.drew
  clear hM5
  obtain ⟨z0, z1, z2⟩ := hM.cx
  obtain ⟨z3, z4, z5⟩ := hM.cy
  have hN := Lib.hid hM
  clear hM
  go_region_held3 (fun w' => w'.cell? ⟨w.heap.size, 0, none⟩ = some (.int .i64 k1) ∧ w'.cell? ⟨w.heap.size, 1, none⟩ = some (.int .i64 e1) ∧ w'.cell? ⟨w.heap.size, 2, none⟩ = some (.slice A n2 c) ∧ w'.cell? ⟨w.heap.size + 1, 0, none⟩ = some (.int .i64 k2) ∧ w'.cell? ⟨w.heap.size + 1, 1, none⟩ = some (.int .i64 e2) ∧ w'.cell? ⟨w.heap.size + 1, 2, none⟩ = some (.slice D m2 d) ∧ Hid (Mx w k1 e1 k2 e2 A D n2 c m2 d w'))
      (first | exact ⟨z0, z1, z2, z3, z4, z5, hN⟩)
      (first
      | (rcases ‹(_ : Prop) ∧ _ ∧ _ ∧ _ ∧ _ ∧ _ ∧ Hid _› with ⟨-, -, -, -, -, -, kz⟩; go_at_call 12; with_reducible refine (HCK.out _ kz.out.b).mono ?_; rintro e v1 ⟨rfl, hb⟩; have hM := kz.out.below hb; obtain ⟨z0, z1, z2⟩ := hM.cx; obtain ⟨z3, z4, z5⟩ := hM.cy; have hN := Lib.hid hM; clear hb hM kz)
      | (rcases ‹(_ : Prop) ∧ _ ∧ _ ∧ _ ∧ _ ∧ _ ∧ Hid _› with ⟨-, -, -, -, -, -, kz⟩; go_at_call 13; with_reducible refine (HRC.out _ kz.out.b).mono ?_; rintro e v1 ⟨rfl, hb⟩; have hM := kz.out.below hb; obtain ⟨z0, z1, z2⟩ := hM.cx; obtain ⟨z3, z4, z5⟩ := hM.cy; have hN := Lib.hid hM; clear hb hM kz)
      | (rcases ‹(_ : Prop) ∧ _ ∧ _ ∧ _ ∧ _ ∧ _ ∧ Hid _› with ⟨-, -, -, -, -, -, kz⟩; go_at_call 14; with_reducible refine (HHD.out _ kz.out.b).mono ?_; rintro e v1 ⟨rfl, hb⟩; have hM := kz.out.below hb; obtain ⟨z0, z1, z2⟩ := hM.cx; obtain ⟨z3, z4, z5⟩ := hM.cy; have hN := Lib.hid hM; clear hb hM kz)
      | (rcases ‹(_ : Prop) ∧ _ ∧ _ ∧ _ ∧ _ ∧ _ ∧ Hid _› with ⟨-, -, -, -, -, -, kz⟩; go_at_call 15; with_reducible refine (HRH.out _ kz.out.b).mono ?_; rintro e v1 ⟨rfl, hb⟩; have hM := kz.out.below hb; obtain ⟨z0, z1, z2⟩ := hM.cx; obtain ⟨z3, z4, z5⟩ := hM.cy; have hN := Lib.hid hM; clear hb hM kz)
      | (rcases ‹(_ : Prop) ∧ _ ∧ _ ∧ _ ∧ _ ∧ _ ∧ Hid _› with ⟨-, -, -, -, -, -, kz⟩; go_at_call 16; with_reducible refine (HSM.out _ kz.out.b).mono ?_; rintro e v1 ⟨rfl, hb⟩; have hM := kz.out.below hb; obtain ⟨z0, z1, z2⟩ := hM.cx; obtain ⟨z3, z4, z5⟩ := hM.cy; have hN := Lib.hid hM; clear hb hM kz)
      | (rcases ‹(_ : Prop) ∧ _ ∧ _ ∧ _ ∧ _ ∧ _ ∧ Hid _› with ⟨-, -, -, -, -, -, kz⟩; go_at_call 16; with_reducible refine (HSS.out _ kz.out.b).mono ?_; rintro e v1 ⟨rfl, hb⟩; have hM := kz.out.below hb; obtain ⟨z0, z1, z2⟩ := hM.cx; obtain ⟨z3, z4, z5⟩ := hM.cy; have hN := Lib.hid hM; clear hb hM kz)
      | (rcases ‹(_ : Prop) ∧ _ ∧ _ ∧ _ ∧ _ ∧ _ ∧ Hid _› with ⟨-, -, -, -, -, -, kz⟩; go_at_call 17; with_reducible refine (HRS.out _ kz.out.b).mono ?_; rintro e v1 ⟨rfl, hb⟩; have hM := kz.out.below hb; obtain ⟨z0, z1, z2⟩ := hM.cx; obtain ⟨z3, z4, z5⟩ := hM.cy; have hN := Lib.hid hM; clear hb hM kz))
  all_goals
    rcases ‹(_ : Prop) ∧ _ ∧ _ ∧ _ ∧ _ ∧ _ ∧ Hid _› with ⟨-, -, -, -, -, -, kz⟩
    go_wp2
    go_ret
    exact ⟨rfl, kz.out.b⟩
open Go.Proofs.YtakmmphjdkapeaaDoor.l8
set_option maxRecDepth 100000 in
theorem lifted (os : Os) (started : os.Started) (H : Type) (enc : TypeId × Value → H) :
    ReturnsInHanded {} Tryd.checked os 3 .any (fun w args => (Rows.elfChecksSpec.pre enc Tryd.prog Tryd.f3 Rows.elfChecksRow.domain false w args ∧ laidMet Tryd.prog Rows.elfChecksRow.laid w) ∧ sizedMet enc Tryd.prog Tryd.f3 (OpenSpec.ofChange Rows.elfChecksSpec) false w args) (Rows.elfChecksSpec.post enc Tryd.prog Tryd.f3 false true false false) := by
  refine returnsInHanded_of_change_and (C := Tryd.checked) (X := fun w _ => laidMet Tryd.prog Rows.elfChecksRow.laid w) (fun _ _ _ hh h => h.of_heap hh) own started (by kernel_rfl) Tryd.func3
    (ChangeSpec.witness_at (enc := enc) (C := Tryd.checked) (os := os) (X := fun w _ => laidMet Tryd.prog Rows.elfChecksRow.laid w) false (laidWorld os) #[zimgV, .int .i64 0, zimgV] 8 rfl (by kernel_rfl) (by kernel_rfl) (by kernel_rfl) (by kernel_rfl) (by kernel_rfl) (laid_met os _)) ?_
  intro W base args ds gs before hval0 hW hcnd _ hL _
  have hval : ∀ (j : Nat) t v, Tryd.f3.params[j]? = some t → args[j]? = some v → Value.okWide Tryd.prog W .any base t v := hval0
  have hW' := hW
  obtain ⟨p, q, hA0, hV, rfl, hfz, hnd⟩ := hW
  have hA : DataW.TrodAll enc Tryd.prog W 0 (fun _ => true) true Tryd.f3.params.toList args.toList ds p := hA0
  rw [Tryd.params3] at hA hval
  obtain ⟨v0, vs0, d0, ds0, p0, q0, hargs, rfl, rfl, h0, r0⟩ := trodAll_cons hA
  obtain ⟨v1, vs1, d1, ds1, p1, q1, rfl, rfl, rfl, h1, r1⟩ := trodAll_cons r0
  obtain ⟨v2, vs2, d2, ds2, p2, q2, rfl, rfl, rfl, h2, r2⟩ := trodAll_cons r1
  obtain ⟨rfl, rfl, rfl⟩ := trodAll_nil r2
  obtain rfl : args = #[v0, v1, v2] := by cases args; simp_all
  obtain ⟨rfl, rfl⟩ := trodVars_none hV
  have k0 := h0
  have lt0 : ∀ x ∈ p0, x.block < W.heap.size := by obtain ⟨m, hm⟩ := k0; exact DataW.trod_lt m _ _ _ hm
  obtain ⟨a0, rfl, w0⟩ := open_img (hval 0 24 v0 rfl rfl) h0
  have k1 := h1
  have lt1 : ∀ x ∈ p1, x.block < W.heap.size := by obtain ⟨m, hm⟩ := k1; exact DataW.trod_lt m _ _ _ hm
  obtain ⟨a1, rfl, _, _, w1⟩ := open_int Tryd.underlying3 (hval 1 3 v1 rfl rfl) h1
  have k2 := h2
  have lt2 : ∀ x ∈ p2, x.block < W.heap.size := by obtain ⟨m, hm⟩ := k2; exact DataW.trod_lt m _ _ _ hm
  obtain ⟨a2, rfl, w2⟩ := open_img (hval 2 24 v2 rfl rfl) h2
  clear hA0 hval0
  refine (walk a0 a1 a2 W w0 w1 w2 (tab_of_laid hL)).mono fun e W' ⟨he, bel⟩ => ?_
  subst he
  exact ⟨_, rfl, _, _, _, [], _, [], hW', trodAll_mk1 (shut_bool Tryd.underlying4 _), (trodAll_cons_mk (Below.trod laidOut (by kernel_rfl) (of_decide_eq_true (by kernel_rfl)) k0 bel lt0) (trodAll_cons_mk (Below.trod laidOut (by kernel_rfl) (of_decide_eq_true (by kernel_rfl)) k1 bel lt1) (trodAll_cons_mk (Below.trod laidOut (by kernel_rfl) (of_decide_eq_true (by kernel_rfl)) k2 bel lt2) trodAll_mk0))), rfl, bel.frame _, fun h => by cases h⟩
theorem over : Rows.elfChecksRow.holds Tryd.pinned (OpenSpec.ofChange Rows.elfChecksSpec) :=
  OpenClaim.holds_of_wide 3 Tryd.f3 rfl rfl rfl rfl rfl rfl rfl ⟨rfl, rfl, rfl, rfl, rfl⟩ rfl rfl rfl rfl rfl (by kernel_rfl) Tryd.func3 (by kernel_rfl)
    (of_decide_eq_true (by kernel_rfl)) (by unfold Func.isWrapper; first | (rw [if_pos (by decide +kernel)]; kernel_rfl) | (rw [if_neg (by decide +kernel)]; exact ⟨rfl, rfl⟩))
    (fun os started H enc _ => lifted os started H enc)
set_option maxRecDepth 100000 in
/-- The statement. -/
theorem proved : Rows.ElfChecksCardSaid :=
  Claim7.holds_tied_plain_at .later [] [.data, .data] true _ false over (fun _ h => by cases h) (by kernel_rfl) (fun _ h => by cases h) elfChecks_row_tie rfl ⟨rfl, rfl⟩ (by kernel_rfl) rfl
    (fun f fn hf hfn => by
      obtain rfl : f = 3 := Option.some.inj (hf.symm.trans (by kernel_rfl))
      obtain rfl : fn = Tryd.f3 := Option.some.inj (hfn.symm.trans Tryd.func3)
      refine ⟨by kernel_rfl, fun j t ht => ?_⟩
      rw [Tryd.params3] at ht
      match j, ht with
      | 0, ht =>
        obtain rfl : t = 24 := by simpa using ht.symm
        exact (by kernel_rfl : Tryd.pinned.checked.prog.wantsStandIn 24 = false)
      | 1, ht =>
        obtain rfl : t = 3 := by simpa using ht.symm
        exact (by kernel_rfl : Tryd.pinned.checked.prog.wantsStandIn 3 = false)
      | 2, ht =>
        obtain rfl : t = 24 := by simpa using ht.symm
        exact (by kernel_rfl : Tryd.pinned.checked.prog.wantsStandIn 24 = false)
      | j + 3, ht => simp at ht)
    (by kernel_rfl)
end Go.Proofs.YtakmmphjdkapeaaDoor.lawChk
