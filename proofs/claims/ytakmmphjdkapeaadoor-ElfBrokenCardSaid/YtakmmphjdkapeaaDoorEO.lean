/- Package elf: Parse. -/
import Derived.Test.YtakmmphjdkapeaaDoorEN
namespace Go.Proofs.YtakmmphjdkapeaaDoor
open Go.RowKit
set_option linter.unusedVariables false
set_option linter.unusedSimpArgs false

theorem results_img_tmp {P : Program} {fn : Func} {p u : Tmp} {ty : TypeId} (h : fn.results = #[.cell p ty, .tmp u]) (tmps : Array Value) (w : World) (g : Nat) (t : TypeId) (cs : Array Value) (fr : Nat × Nat) (d : TypeDesc)
    (hp : tmps.getD p undef = .pointer (some ⟨g, 0, none⟩)) (hg : w.heap[g]? = some (.cells cs t fr))
    (hu : P.underlying ty = some d) (hd : (match d with | .struct _ | .array _ _ => true | _ => false) = true) (hi : (P.info? ty).map (·.size) = some cs.size) :
    (results fn tmps).run P w = .ok (.tuple #[.agg cs, tmps.getD u undef]) w := by
  rw [results_cell_tmp h, hp]
  show ((loadVar ty ⟨g, 0, none⟩).run P w).andThen _ = _
  rw [run_loadVar_row w g t ty cs fr d hg hu hd hi]
  rfl
/-- No image. -/
def Img.zero : Img := ⟨0, 0, []⟩
/-- Does a file begin with an image's headers, but where any bytes may stand? -/
def headedS (f : ByteArray) (x : Img) : Bool := Lib.hasPrefix f.data.toList (lentS (mkb x.headL) f x.segs.length).data.toList
def parseB (f : ByteArray) : Bool := (readS f).chk f.size && headedS f (readS f)
def parseX (f : ByteArray) : Img := if parseB f then readS f else Img.zero
def parseE (f : ByteArray) : Int := if parseB f then 0 else 16
/-- An image and an error were told. -/
def ImgET (w : World) (x : Img) (er : Int) (e : Ending) (w' : World) : Prop := ∃ A c, e = .returned (.tuple #[x.v A c, .int .i64 er]) ∧ SegRow w' A x.segs ∧ (∀ ad, A = some ad → w.heap.size ≤ ad.block) ∧ Below w.heap.size w w'
theorem SegRow.but {S : Nat → Prop} {w w' : World} {A : Option Addr} {l : List Seg} (h : SegRow w A l) (hb : But S w w') (hS : ∀ ad, A = some ad → ¬ S ad.block) : SegRow w' A l := fun i hi => by
  obtain ⟨ad, e, hlt, hc, hw⟩ := h i hi
  refine ⟨ad, e, Nat.lt_of_lt_of_le hlt hb.size, fun j hj => ?_, hw⟩
  have hbl : (ad.add (i * 7 + j)).block = ad.block := by unfold Addr.add; split <;> rfl
  have hblk := hb.block ad.block hlt (hS ad e)
  rw [← hc j hj]
  unfold World.cell?
  rw [hbl, hblk]
theorem chk_size {x : Img} {size : Int} (h : x.chk size = true) : 1 ≤ x.segs.length ∧ x.segs.length ≤ 16 ∧ 64 + (x.segs.length : Int) * 56 ≤ size := by
  unfold Img.chk at h
  simp only [Bool.and_eq_true, decide_eq_true_eq] at h
  obtain ⟨⟨⟨⟨⟨⟨-, h1⟩, h2⟩, h3⟩, -⟩, -⟩, -⟩ := h
  exact ⟨h1, h2, h3⟩

set_option maxRecDepth 100000 in
set_option maxHeartbeats 3200000 in
theorem eparse_any (f : ByteArray) (w : World) (hT : ETab w) (hs : f.size ≤ 281474976710656) : Calls Tryd.prog 19 #[.string f] w (ImgET w (parseX f) (parseE f)) := by
  have hlen : (readS f).segs.length ≤ 17 := by unfold readS; simp only [segsAt_length]; exact Nat.min_le_right _ _
  have hkw : (Lit.int .i64 (readS f).kind).wf = true := numS_wf _ _ _
  have hew : (Lit.int .i64 (readS f).entry).wf = true := numS_wf _ _ _
  have hsz : (Lit.int .i64 (f.size : Int)).wf = true := i64_wf (by omega)
  have HRD := Lib.hid (fun v (hT : ETab v) => read_any f v hT hs)
  have HCK := Lib.hid (fun v A c (hT : ETab v) (hr : SegRow v A (readS f).segs) => echeck_any (readS f) A c f.size v hT hr (by omega) hsz)
  have HHD := Lib.hid (fun v A c (hT : ETab v) (hr : SegRow v A (readS f).segs) (hf : 64 + 56 * (readS f).segs.length ≤ f.size) => headed_any f (readS f) A c v hT hkw hew hr (by omega) hf hs)
  have hchk := fun h : (readS f).chk f.size = true => chk_size h
  have hpb : parseB f = ((readS f).chk f.size && headedS f (readS f)) := rfl
  obtain ⟨ck, hck⟩ : ∃ ck, (readS f).chk f.size = ck := ⟨_, rfl⟩
  obtain ⟨hd, hhd⟩ : ∃ hd, headedS f (readS f) = hd := ⟨_, rfl⟩
  have herr : (readS f).err f.size = if ck then 0 else 16 := by unfold Img.err; rw [hck]
  rw [hck] at hchk
  rw [hck, hhd] at hpb
  unfold headedS at hhd
  rw [herr] at HCK
  rw [hhd] at HHD
  have hres : parseX f = (if parseB f then readS f else Img.zero) ∧ parseE f = if parseB f then 0 else 16 := ⟨rfl, rfl⟩
  rw [hpb] at hres
  obtain ⟨X, hX⟩ : ∃ X, parseX f = X := ⟨_, rfl⟩
  obtain ⟨E, hE⟩ : ∃ E, parseE f = E := ⟨_, rfl⟩
  rw [hX, hE] at hres ⊢
  have HRES := Lib.hid hres
  generalize readS f = x at *
  clear hres hX hE hpb hhd hck herr hkw hew
  obtain ⟨R, hR⟩ : ∃ R, w.alloc (.cells #[.int .i64 0, .int .i64 0, .slice none 0 0] 24) = R := ⟨_, rfl⟩
  have hBR : Below w.heap.size w R := by rw [← hR]; exact (Below.refl _ _).alloc (Nat.le_refl _) _
  have hKR : Blk R w.heap.size 24 #[.int .i64 0, .int .i64 0, .slice none 0 0] := by rw [← hR]; exact Blk.new w _ _
  have hTR := hT.on hBR
  have HRR := Lib.hid hR
  clear hR
  go_enter Tryd.func19, Tryd.ntmps19
  go_wp2_with fail
  rw [HRR.out]
  refine (HRD.out R hTR).mono ?_
  rintro e v1 ⟨A, c, rfl, hrow, hlow, hb1⟩
  have hBR1 := hBR.trans (hb1.mono hBR.size)
  replace hKR := hKR.below hb1 hKR.lt
  replace hrow := hrow.below (Below.refl v1.heap.size v1 |>.alloc (Nat.le_refl _) (.cells (x.cs A c) 24))
  obtain ⟨W1, hW1⟩ : ∃ W1, v1.alloc (.cells (x.cs A c) 24) = W1 := ⟨_, rfl⟩
  rw [hW1] at hrow
  have hB1 : Below w.heap.size w W1 := by rw [← hW1]; exact hBR1.alloc hBR1.size _
  replace hKR : Blk W1 w.heap.size 24 #[.int .i64 0, .int .i64 0, .slice none 0 0] := by rw [← hW1]; exact hKR.alloc _
  have hKX : Blk W1 v1.heap.size 24 (x.cs A c) := by rw [← hW1]; exact Blk.new _ _ _
  have HLOW := Lib.hid (fun ad (e : A = some ad) => show w.heap.size < ad.block from by
    have h1 := hlow ad e
    have h2 : R.heap.size = w.heap.size + 1 := by rw [← HRR.out]; simp
    omega)
  clear hlow
  have hxw : w.heap.size < v1.heap.size := by have h1 := hb1.size; have h2 : R.heap.size = w.heap.size + 1 := by rw [← HRR.out]; simp
                                              omega
  obtain ⟨p, hp⟩ : ∃ p, v1.heap.size = p := ⟨_, rfl⟩
  rw [hp] at hKX hxw
  have hck := HCK.out W1 A c (hT.on hB1) hrow
  have hhd := HHD.out
  obtain ⟨x0, x1, x2⟩ := img_cells hKX
  clear hBR hTR hb1 hBR1 HRR
  obtain ⟨kind, entry, segs⟩ := x
  unfold Img.v at hck hhd ⊢
  unfold Img.cs at hKX hW1
  simp only at *
  have HIX := Lib.hid (fun v (hv : Below W1.heap.size W1 v) => show (v.cell? ⟨p, 0, none⟩ = some (.int .i64 kind) ∧ v.cell? ⟨p, 1, none⟩ = some (.int .i64 entry) ∧ v.cell? ⟨p, 2, none⟩ = some (.slice A segs.length c)) ∧ Blk v w.heap.size 24 #[.int .i64 0, .int .i64 0, .slice none 0 0] ∧ SegRow v A segs ∧ ETab v ∧ Below w.heap.size w v from
    ⟨img_cells (x := ⟨kind, entry, segs⟩) (hKX.below hv hKX.lt), hKR.below hv hKR.lt, hrow.below hv, (hT.on hB1).on hv, hB1.trans (hv.mono hB1.size)⟩)
  have hv0 := Below.refl W1.heap.size W1
  obtain ⟨n, hn⟩ : ∃ n, segs.length = n := ⟨_, rfl⟩
  simp only [hn] at HIX hck hhd hW1 hchk x2 ⊢
  have HW := Lib.hid (And.intro hW1 hp)
  have HN := Lib.hid hn
  have HCK2 := Lib.hid hck
  have HHD2 := Lib.hid hhd
  have hxw2 : w.heap.size < p := hxw
  clear hck hhd hKX hKR hrow hB1 hn HCK HHD
  cases ck
  case false =>
    have HRX := Lib.hid (show X = Img.zero ∧ E = 16 from by simpa using HRES.out)
    clear HRES
    go_wp2_with (go_at_call 12; refine HCK2.out.mono ?_; rintro e v2 ⟨rfl, hb2⟩; replace hv0 := hb2; clear hb2; clear x0 x1 x2; obtain ⟨⟨x0, x1, x2⟩, hR2, hrow, hT2, hB2⟩ := HIX.out _ hv0; have r0 := hR2.at_ 0 _ rfl; have r1 := hR2.at_ 1 _ rfl; have r2 := hR2.at_ 2 _ rfl; have f0 := hR2.frozen 0; have f1 := hR2.frozen 1; have f2 := hR2.frozen 2)
    have hfin := img_set hR2 rfl (.int .i64 0) (.int .i64 0) (.slice none 0 0)
    have hbt := (((But.refl (· = w.heap.size) v2).setCell (p := ⟨w.heap.size, 0, none⟩) (.inl rfl) (.int .i64 0)).setCell (p := ⟨w.heap.size, 1, none⟩) (.inl rfl) (.int .i64 0)).setCell (p := ⟨w.heap.size, 2, none⟩) (.inl rfl) (.slice none 0 0)
    have hbl := ((hB2.setCell (p := ⟨w.heap.size, 0, none⟩) (Nat.le_refl _) (.int .i64 0)).setCell (p := ⟨w.heap.size, 1, none⟩) (Nat.le_refl _) (.int .i64 0)).setCell (p := ⟨w.heap.size, 2, none⟩) (Nat.le_refl _) (.slice none 0 0)
    generalize World.setCell _ _ _ = W5 at *
    refine bodyPost_ret (results_img_tmp rfl _ _ w.heap.size 24 _ (0, 0) _ rfl hfin Tryd.underlying24 rfl (by kernel_rfl)) rfl ?_
    unfold ImgET
    rw [HRX.out.1, HRX.out.2]
    exact ⟨none, 0, rfl, fun i hi => absurd hi (by simp [Img.zero]), (fun ad e => by cases e), hbl⟩
  case true =>
    have hchk := hchk rfl
    cases hd
    case false =>
      have HRX := Lib.hid (show X = Img.zero ∧ E = 16 from by simpa using HRES.out)
      clear HRES
      go_wp2_with (first | (go_at_call 12; refine HCK2.out.mono ?_; rintro e v2 ⟨rfl, hb2⟩; replace hv0 := hb2; clear hb2; clear x0 x1 x2; obtain ⟨⟨x0, x1, x2⟩, hR2, hrow, hT2, hB2⟩ := HIX.out _ hv0; have r0 := hR2.at_ 0 _ rfl; have r1 := hR2.at_ 1 _ rfl; have r2 := hR2.at_ 2 _ rfl; have f0 := hR2.frozen 0; have f1 := hR2.frozen 1; have f2 := hR2.frozen 2) | (go_at_call 42; refine (HHD2.out _ _ _ hT2 hrow (by omega)).mono ?_; rintro e v3 ⟨rfl, hb3⟩; replace hv0 := hv0.trans (hb3.mono hv0.size); clear hb3; clear x0 x1 x2 r0 r1 r2 f0 f1 f2 hR2 hrow hT2 hB2; obtain ⟨⟨x0, x1, x2⟩, hR2, hrow, hT2, hB2⟩ := HIX.out _ hv0; have r0 := hR2.at_ 0 _ rfl; have r1 := hR2.at_ 1 _ rfl; have r2 := hR2.at_ 2 _ rfl; have f0 := hR2.frozen 0; have f1 := hR2.frozen 1; have f2 := hR2.frozen 2))
      have hfin := img_set hR2 rfl (.int .i64 0) (.int .i64 0) (.slice none 0 0)
      have hbt := (((But.refl (· = w.heap.size) v3).setCell (p := ⟨w.heap.size, 0, none⟩) (.inl rfl) (.int .i64 0)).setCell (p := ⟨w.heap.size, 1, none⟩) (.inl rfl) (.int .i64 0)).setCell (p := ⟨w.heap.size, 2, none⟩) (.inl rfl) (.slice none 0 0)
      have hbl := ((hB2.setCell (p := ⟨w.heap.size, 0, none⟩) (Nat.le_refl _) (.int .i64 0)).setCell (p := ⟨w.heap.size, 1, none⟩) (Nat.le_refl _) (.int .i64 0)).setCell (p := ⟨w.heap.size, 2, none⟩) (Nat.le_refl _) (.slice none 0 0)
      generalize World.setCell _ _ _ = W5 at *
      refine bodyPost_ret (results_img_tmp rfl _ _ w.heap.size 24 _ (0, 0) _ rfl hfin Tryd.underlying24 rfl (by kernel_rfl)) rfl ?_
      unfold ImgET
      rw [HRX.out.1, HRX.out.2]
      exact ⟨none, 0, rfl, fun i hi => absurd hi (by simp [Img.zero]), (fun ad e => by cases e), hbl⟩
    case true =>
      have HRX := Lib.hid (show X = ⟨kind, entry, segs⟩ ∧ E = 0 from by simpa using HRES.out)
      clear HRES
      go_wp2_with (first | (go_at_call 12; refine HCK2.out.mono ?_; rintro e v2 ⟨rfl, hb2⟩; replace hv0 := hb2; clear hb2; clear x0 x1 x2; obtain ⟨⟨x0, x1, x2⟩, hR2, hrow, hT2, hB2⟩ := HIX.out _ hv0; have r0 := hR2.at_ 0 _ rfl; have r1 := hR2.at_ 1 _ rfl; have r2 := hR2.at_ 2 _ rfl; have f0 := hR2.frozen 0; have f1 := hR2.frozen 1; have f2 := hR2.frozen 2) | (go_at_call 42; refine (HHD2.out _ _ _ hT2 hrow (by omega)).mono ?_; rintro e v3 ⟨rfl, hb3⟩; replace hv0 := hv0.trans (hb3.mono hv0.size); clear hb3; clear x0 x1 x2 r0 r1 r2 f0 f1 f2 hR2 hrow hT2 hB2; obtain ⟨⟨x0, x1, x2⟩, hR2, hrow, hT2, hB2⟩ := HIX.out _ hv0; have r0 := hR2.at_ 0 _ rfl; have r1 := hR2.at_ 1 _ rfl; have r2 := hR2.at_ 2 _ rfl; have f0 := hR2.frozen 0; have f1 := hR2.frozen 1; have f2 := hR2.frozen 2))
      have hfin := img_set hR2 rfl (.int .i64 kind) (.int .i64 entry) (.slice A n c)
      have hbt := (((But.refl (· = w.heap.size) v3).setCell (p := ⟨w.heap.size, 0, none⟩) (.inl rfl) (.int .i64 kind)).setCell (p := ⟨w.heap.size, 1, none⟩) (.inl rfl) (.int .i64 entry)).setCell (p := ⟨w.heap.size, 2, none⟩) (.inl rfl) (.slice A n c)
      have hbl := ((hB2.setCell (p := ⟨w.heap.size, 0, none⟩) (Nat.le_refl _) (.int .i64 kind)).setCell (p := ⟨w.heap.size, 1, none⟩) (Nat.le_refl _) (.int .i64 entry)).setCell (p := ⟨w.heap.size, 2, none⟩) (Nat.le_refl _) (.slice A n c)
      have hrw := hrow.but hbt (fun ad e e2 => by have := HLOW.out ad e; omega)
      generalize World.setCell _ _ _ = W5 at *
      refine bodyPost_ret (results_img_tmp rfl _ _ w.heap.size 24 _ (0, 0) _ rfl hfin Tryd.underlying24 rfl (by kernel_rfl)) rfl ?_
      unfold ImgET
      rw [HRX.out.1, HRX.out.2]
      exact ⟨A, c, by unfold Img.v; rw [HN.out]; rfl, hrw, fun ad e => Nat.le_of_lt (HLOW.out ad e), hbl⟩
end Go.Proofs.YtakmmphjdkapeaaDoor
