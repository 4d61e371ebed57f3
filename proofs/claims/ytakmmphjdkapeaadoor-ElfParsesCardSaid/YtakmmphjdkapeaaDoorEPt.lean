/- ElfParses: for any image and any turn: the headers, turned, are parsed, or refused, as the document's Parse does. -/
import Derived.Test.YtakmmphjdkapeaaDoorFa
namespace Go.Proofs.YtakmmphjdkapeaaDoor
open Go.RowKit Go.ChangeShapes Go.WideShapes Go.Deep
set_option linter.unusedVariables false
set_option linter.unusedSimpArgs false
/-- A turn. -/
structure Tn where (a b c m : Int)
def Tn.v (t : Tn) : Value := .agg #[.int .i64 t.a, .int .i64 t.b, .int .i64 t.c, .int .i64 t.m]
structure Tn.In (t : Tn) : Prop where
  a : (Lit.int .i64 t.a).wf = true
  b : (Lit.int .i64 t.b).wf = true
  c : (Lit.int .i64 t.c).wf = true
  m : (Lit.int .i64 t.m).wf = true
theorem list4 {l : List Value} {u0 u1 u2 u3 : Value} (h : l.length = 4) (h0 : l[0]? = some u0) (h1 : l[1]? = some u1) (h2 : l[2]? = some u2) (h3 : l[3]? = some u3) : l = [u0, u1, u2, u3] := by
  match l, h with
  | [c0, c1, c2, c3], _ =>
    simp only [List.getElem?_cons_zero, List.getElem?_cons_succ, Option.some.injEq] at h0 h1 h2 h3
    rw [h0, h1, h2, h3]
set_option maxRecDepth 100000 in
theorem open_turn {H : Type} {enc : TypeId × Value → H} {w : World} {base : Nat} {spare : Nat → Bool} {held : Bool} {r : Reach} {b0 : Nat} {v : Value} {d : DataW H} {ps : List MemPlace}
    (hv : Value.okWide Tryd.prog w r b0 33 v) (h : DataW.Trod enc Tryd.prog w base spare held 33 v d ps) : ∃ t : Tn, v = t.v ∧ t.In := by
  obtain ⟨cs, rfl, hsz⟩ := okWide_struct Tryd.underlying33 hv
  obtain ⟨fuel, hy⟩ := h
  obtain ⟨hlen, hf⟩ := fields_trod Tryd.underlying33 (by kernel_rfl) (by kernel_rfl) hy
  obtain ⟨u0, _, _, c0, t0⟩ := hf 0 _ rfl
  obtain ⟨u1, _, _, c1, t1⟩ := hf 1 _ rfl
  obtain ⟨u2, _, _, c2, t2⟩ := hf 2 _ rfl
  obtain ⟨u3, _, _, c3, t3⟩ := hf 3 _ rfl
  obtain ⟨n0, h0, _, w0⟩ := DataW.trod_int Tryd.underlying3 t0
  obtain ⟨n1, h1, _, w1⟩ := DataW.trod_int Tryd.underlying3 t1
  obtain ⟨n2, h2, _, w2⟩ := DataW.trod_int Tryd.underlying3 t2
  obtain ⟨n3, h3, _, w3⟩ := DataW.trod_int Tryd.underlying3 t3
  cases h0
  cases h1
  cases h2
  cases h3
  have e := list4 (l := (Value.agg cs).cells.toList) hlen c0 c1 c2 c3
  have e2 : cs = #[.int .i64 n0, .int .i64 n1, .int .i64 n2, .int .i64 n3] := by
    have : cs.toList = [.int .i64 n0, .int .i64 n1, .int .i64 n2, .int .i64 n3] := e
    rw [← Array.toArray_toList (xs := cs), this]
  exact ⟨⟨n0, n1, n2, n3⟩, by rw [e2]; rfl, ⟨w0, w1, w2, w3⟩⟩
def zturnV : Value := .agg #[.int .i64 0, .int .i64 0, .int .i64 0, .int .i64 0]
end Go.Proofs.YtakmmphjdkapeaaDoor
namespace Go.Proofs.YtakmmphjdkapeaaDoor.lawPt
open Go.ChangeShapes Go.WideShapes Go.ChangeAt Go.RowKit
set_option linter.unusedVariables false
set_option linter.unusedSimpArgs false

/-- The blocks of what came in. -/
structure Mt (w : World) (x t : Array Value) (v : World) : Prop where
  kx : Blk v w.heap.size 24 x
  kt : Blk v (w.heap.size + 1) 33 t
  b : Below w.heap.size w v
theorem Mt.below {w : World} {x t : Array Value} {v v2 : World} (h : Mt w x t v) (hb : Below v.heap.size v v2) : Mt w x t v2 := ⟨h.kx.below hb h.kx.lt, h.kt.below hb h.kt.lt, h.b.trans (hb.mono h.b.size)⟩
theorem Mt.drew {w : World} {x t : Array Value} {v : World} (h : Mt w x t v) : Mt w x t v.drew := ⟨h.kx.drew, h.kt.drew, h.b.drew⟩

set_option maxRecDepth 100000 in
set_option maxHeartbeats 3200000 in
theorem walk (x : ImgIn) (t : Tn) (w : World) (hx : x.In w) (ht : t.In) (hT : ETab w) :
    Calls Tryd.prog 4 #[x.v, t.v] w fun e w' => e = .returned (.bool true) ∧ Below w.heap.size w w' := by
  obtain ⟨x, A, c⟩ := x
  have lx : x.few.segs.length ≤ 17 := few_len x
  have rx : SegRow w A x.few.segs := hx.row.take 17
  have HA := Lib.hid (fun v (hv : Below w.heap.size w v) => awake8_any v (hT.on hv))
  have HT := Lib.hid (fun v (hv : Below w.heap.size w v) => hT.on hv)
  have HFX := Lib.hid (fun v => few8_any ⟨x, A, c⟩ v hx.cap hx.len)
  have HRH := Lib.hid (fun v (hv : Below w.heap.size w v) => rheader_any x.few A c v hx.kind hx.entry (rx.below hv) (by omega))
  have hls : (mkb x.few.headL).size = 64 + 56 * x.few.segs.length := by rw [mkb_size, headL_len]
  obtain ⟨s, hs⟩ : ∃ s, mkb x.few.headL = s := ⟨_, rfl⟩
  rw [hs] at HRH hls
  obtain ⟨ta, tb, tc, tm⟩ := t
  have HTN := Lib.hid (fun v => turn_any ta tb tc tm s v ht.a ht.b ht.c ht.m (by omega) (by omega))
  clear hs hls hx rx ht hT lx
  obtain ⟨k1, e1, l⟩ := x
  unfold ImgIn.v Img.v Tn.v at *
  simp only [Img.few] at *
  generalize (l.take 17).length = n2 at *
  generalize l.length = n at *
  obtain ⟨W, hW⟩ : ∃ W, (w.alloc (.cells #[.int .i64 k1, .int .i64 e1, .slice A n c] 24)).alloc (.cells #[.int .i64 ta, .int .i64 tb, .int .i64 tc, .int .i64 tm] 33) = W := ⟨_, rfl⟩
  have hM0 : Mt w #[.int .i64 k1, .int .i64 e1, .slice A n c] #[.int .i64 ta, .int .i64 tb, .int .i64 tc, .int .i64 tm] W := by
    rw [← hW]
    exact ⟨(Blk.new w _ _).alloc _, by simpa using Blk.new (w.alloc (.cells #[.int .i64 k1, .int .i64 e1, .slice A n c] 24)) 33 #[.int .i64 ta, .int .i64 tb, .int .i64 tc, .int .i64 tm], ((Below.refl _ _).alloc (Nat.le_refl _) _).alloc (by simp) _⟩
  have HW := Lib.hid hW
  clear hW
  go_enter Tryd.func4, Tryd.ntmps4
  go_upto_region 1 with fail
  rw [HW.out]
  go_upto_region 2 with (go_at_call 10; refine (HA.out _ hM0.b).mono ?_; rintro e v1 ⟨rfl, hb⟩; have hM1 := (hM0.below hb).drew; clear hb hM0)
  have x0 := hM1.kx.at_ 0 _ rfl
  have x1 := hM1.kx.at_ 1 _ rfl
  have x2 := hM1.kx.at_ 2 _ rfl
  have t0 := hM1.kt.at_ 0 _ rfl
  have t1 := hM1.kt.at_ 1 _ rfl
  have t2 := hM1.kt.at_ 2 _ rfl
  have t3 := hM1.kt.at_ 3 _ rfl
  have hN := Lib.hid hM1
  clear hM1
  go_region_held3 (fun w' => w'.cell? ⟨w.heap.size, 0, none⟩ = some (.int .i64 k1) ∧ w'.cell? ⟨w.heap.size, 1, none⟩ = some (.int .i64 e1) ∧ w'.cell? ⟨w.heap.size, 2, none⟩ = some (.slice A n c) ∧ w'.cell? ⟨w.heap.size + 1, 0, none⟩ = some (.int .i64 ta) ∧ w'.cell? ⟨w.heap.size + 1, 1, none⟩ = some (.int .i64 tb) ∧ w'.cell? ⟨w.heap.size + 1, 2, none⟩ = some (.int .i64 tc) ∧ w'.cell? ⟨w.heap.size + 1, 3, none⟩ = some (.int .i64 tm) ∧ Hid (Mt w #[.int .i64 k1, .int .i64 e1, .slice A n c] #[.int .i64 ta, .int .i64 tb, .int .i64 tc, .int .i64 tm] w'))
    (first | exact ⟨x0, x1, x2, t0, t1, t2, t3, hN⟩)
    (first
    | (rcases ‹(_ : Prop) ∧ _ ∧ _ ∧ _ ∧ _ ∧ _ ∧ _ ∧ Hid _› with ⟨-, -, -, -, -, -, -, kz⟩; go_at_call 11; with_reducible refine (HFX.out _).mono ?_; rintro e v1 ⟨rfl, hb⟩; have hM := kz.out.below hb; have x0 := hM.kx.at_ 0 _ rfl; have x1 := hM.kx.at_ 1 _ rfl; have x2 := hM.kx.at_ 2 _ rfl; have t0 := hM.kt.at_ 0 _ rfl; have t1 := hM.kt.at_ 1 _ rfl; have t2 := hM.kt.at_ 2 _ rfl; have t3 := hM.kt.at_ 3 _ rfl; have hN := Lib.hid hM; clear hb hM kz)
    | (rcases ‹(_ : Prop) ∧ _ ∧ _ ∧ _ ∧ _ ∧ _ ∧ _ ∧ Hid _› with ⟨-, -, -, -, -, -, -, kz⟩; go_at_call 15; with_reducible refine (HRH.out _ kz.out.b).mono ?_; rintro e v1 ⟨rfl, hb⟩; have hM := kz.out.below hb; have x0 := hM.kx.at_ 0 _ rfl; have x1 := hM.kx.at_ 1 _ rfl; have x2 := hM.kx.at_ 2 _ rfl; have t0 := hM.kt.at_ 0 _ rfl; have t1 := hM.kt.at_ 1 _ rfl; have t2 := hM.kt.at_ 2 _ rfl; have t3 := hM.kt.at_ 3 _ rfl; have hN := Lib.hid hM; clear hb hM kz)
    | (rcases ‹(_ : Prop) ∧ _ ∧ _ ∧ _ ∧ _ ∧ _ ∧ _ ∧ Hid _› with ⟨-, -, -, -, -, -, -, kz⟩; go_at_call 18; with_reducible refine (HTN.out _).mono ?_; rintro e v1 ⟨⟨s2, rfl, hsz⟩, hb⟩; have hM := kz.out.below hb; have x0 := hM.kx.at_ 0 _ rfl; have x1 := hM.kx.at_ 1 _ rfl; have x2 := hM.kx.at_ 2 _ rfl; have t0 := hM.kt.at_ 0 _ rfl; have t1 := hM.kt.at_ 1 _ rfl; have t2 := hM.kt.at_ 2 _ rfl; have t3 := hM.kt.at_ 3 _ rfl; have hN := Lib.hid hM; have HSZ := Lib.hid hsz; clear hb hM kz hsz))
  all_goals
    rcases ‹(_ : Prop) ∧ _ ∧ _ ∧ _ ∧ _ ∧ _ ∧ _ ∧ Hid _› with ⟨-, -, -, -, -, -, -, kz⟩
    rename Hid (ByteArray.size _ ≤ 2300) => hz
    obtain ⟨k, en, E, l, -, -, hl, h1, h2⟩ := parse_two _ (Nat.le_trans hz.out (by decide))
    have HP := Lib.hid h1
    have HR := Lib.hid h2
    have HS := Lib.hid (rsame_same k en l hl)
    clear h1 h2 hl HFX HRH HTN HA
    unfold Told at HP HR
    generalize l.length = n at *
    have hB1 := kz.out.b
    clear kz
    go_wp2_with (first
      | (go_at_call 19; refine (HP.out _ (HT.out _ hB1)).mono ?_; rintro e v2 ⟨A, c, rfl, hr, hb⟩
         have hB2 := (hB1.trans (hb.mono hB1.size)).alloc (by have := hB1.size; have := hb.size; omega) (.cells #[.int .i64 k, .int .i64 en, .slice A n c] 24)
         have k2 := Blk.new v2 24 #[.int .i64 k, .int .i64 en, .slice A n c]
         have r2 := hr.below ((Below.refl v2.heap.size v2).alloc (Nat.le_refl _) (.cells #[.int .i64 k, .int .i64 en, .slice A n c] 24))
         clear hb hr)
      | (go_at_call 20; refine (HR.out _).mono ?_; rintro e v3 ⟨D, d, rfl, hr, hb⟩
         have hB3 := (hB2.trans (hb.mono hB2.size)).alloc (by have := hB2.size; have := hb.size; omega) (.cells #[.int .i64 k, .int .i64 en, .slice D n d] 24)
         have k3 := (k2.below hb k2.lt).alloc (.cells #[.int .i64 k, .int .i64 en, .slice D n d] 24)
         have r3 := (r2.below hb).below ((Below.refl v3.heap.size v3).alloc (Nat.le_refl _) (.cells #[.int .i64 k, .int .i64 en, .slice D n d] 24))
         have q3 := hr.below ((Below.refl v3.heap.size v3).alloc (Nat.le_refl _) (.cells #[.int .i64 k, .int .i64 en, .slice D n d] 24))
         have x0 := k3.at_ 0 _ rfl
         have x1 := k3.at_ 1 _ rfl
         have x2 := k3.at_ 2 _ rfl)
      | (go_at_call 17; refine (HS.out _ _ _ _ _ r3 q3).mono ?_; rintro e v4 ⟨rfl, hb4⟩; have hB4 := hB3.trans (hb4.mono hB3.size)))
    go_ret
    exact ⟨rfl, hB4⟩
open Go.Proofs.YtakmmphjdkapeaaDoor.l8
set_option maxRecDepth 100000 in
theorem lifted (os : Os) (started : os.Started) (H : Type) (enc : TypeId × Value → H) :
    ReturnsInHanded {} Tryd.checked os 4 .any (fun w args => (Rows.elfParsesSpec.pre enc Tryd.prog Tryd.f4 Rows.elfParsesRow.domain false w args ∧ laidMet Tryd.prog Rows.elfParsesRow.laid w) ∧ sizedMet enc Tryd.prog Tryd.f4 (OpenSpec.ofChange Rows.elfParsesSpec) false w args) (Rows.elfParsesSpec.post enc Tryd.prog Tryd.f4 false true false false) := by
  refine returnsInHanded_of_change_and (C := Tryd.checked) (X := fun w _ => laidMet Tryd.prog Rows.elfParsesRow.laid w) (fun _ _ _ hh h => h.of_heap hh) own started (by kernel_rfl) Tryd.func4
    (ChangeSpec.witness_at (enc := enc) (C := Tryd.checked) (os := os) (X := fun w _ => laidMet Tryd.prog Rows.elfParsesRow.laid w) false (laidWorld os) #[zimgV, zturnV] 8 rfl (by kernel_rfl) (by kernel_rfl) (by kernel_rfl) (by kernel_rfl) (by kernel_rfl) (laid_met os _)) ?_
  intro W base args ds gs before hval0 hW hcnd _ hL _
  have hval : ∀ (j : Nat) t v, Tryd.f4.params[j]? = some t → args[j]? = some v → Value.okWide Tryd.prog W .any base t v := hval0
  have hW' := hW
  obtain ⟨p, q, hA0, hV, rfl, hfz, hnd⟩ := hW
  have hA : DataW.TrodAll enc Tryd.prog W 0 (fun _ => true) true Tryd.f4.params.toList args.toList ds p := hA0
  rw [Tryd.params4] at hA hval
  obtain ⟨v0, vs0, d0, ds0, p0, q0, hargs, rfl, rfl, h0, r0⟩ := trodAll_cons hA
  obtain ⟨v1, vs1, d1, ds1, p1, q1, rfl, rfl, rfl, h1, r1⟩ := trodAll_cons r0
  obtain ⟨rfl, rfl, rfl⟩ := trodAll_nil r1
  obtain rfl : args = #[v0, v1] := by cases args; simp_all
  obtain ⟨rfl, rfl⟩ := trodVars_none hV
  have k0 := h0
  have lt0 : ∀ x ∈ p0, x.block < W.heap.size := by obtain ⟨m, hm⟩ := k0; exact DataW.trod_lt m _ _ _ hm
  obtain ⟨a0, rfl, w0⟩ := open_img (hval 0 24 v0 rfl rfl) h0
  have k1 := h1
  have lt1 : ∀ x ∈ p1, x.block < W.heap.size := by obtain ⟨m, hm⟩ := k1; exact DataW.trod_lt m _ _ _ hm
  obtain ⟨a1, rfl, w1⟩ := open_turn (hval 1 33 v1 rfl rfl) h1
  clear hA0 hval0
  refine (walk a0 a1 W w0 w1 (tab_of_laid hL)).mono fun e W' ⟨he, bel⟩ => ?_
  subst he
  exact ⟨_, rfl, _, _, _, [], _, [], hW', trodAll_mk1 (shut_bool Tryd.underlying4 _), (trodAll_cons_mk (Below.trod laidOut (by kernel_rfl) (of_decide_eq_true (by kernel_rfl)) k0 bel lt0) (trodAll_cons_mk (Below.trod laidOut (by kernel_rfl) (of_decide_eq_true (by kernel_rfl)) k1 bel lt1) trodAll_mk0)), rfl, bel.frame _, fun h => by cases h⟩
theorem over : Rows.elfParsesRow.holds Tryd.pinned (OpenSpec.ofChange Rows.elfParsesSpec) :=
  OpenClaim.holds_of_wide 4 Tryd.f4 rfl rfl rfl rfl rfl rfl rfl ⟨rfl, rfl, rfl, rfl, rfl⟩ rfl rfl rfl rfl rfl (by kernel_rfl) Tryd.func4 (by kernel_rfl)
    (of_decide_eq_true (by kernel_rfl)) (by unfold Func.isWrapper; first | (rw [if_pos (by decide +kernel)]; kernel_rfl) | (rw [if_neg (by decide +kernel)]; exact ⟨rfl, rfl⟩))
    (fun os started H enc _ => lifted os started H enc)
set_option maxRecDepth 100000 in
/-- The statement. -/
theorem proved : Rows.ElfParsesCardSaid :=
  Claim7.holds_tied_plain_at .later [] [.data, .data] true _ false over (fun _ h => by cases h) (by kernel_rfl) (fun _ h => by cases h) elfParses_row_tie rfl ⟨rfl, rfl⟩ (by kernel_rfl) rfl
    (fun f fn hf hfn => by
      obtain rfl : f = 4 := Option.some.inj (hf.symm.trans (by kernel_rfl))
      obtain rfl : fn = Tryd.f4 := Option.some.inj (hfn.symm.trans Tryd.func4)
      refine ⟨by kernel_rfl, fun j t ht => ?_⟩
      rw [Tryd.params4] at ht
      match j, ht with
      | 0, ht =>
        obtain rfl : t = 24 := by simpa using ht.symm
        exact (by kernel_rfl : Tryd.pinned.checked.prog.wantsStandIn 24 = false)
      | 1, ht =>
        obtain rfl : t = 33 := by simpa using ht.symm
        exact (by kernel_rfl : Tryd.pinned.checked.prog.wantsStandIn 33 = false)
      | j + 2, ht => simp at ht)
    (by kernel_rfl)
end Go.Proofs.YtakmmphjdkapeaaDoor.lawPt
