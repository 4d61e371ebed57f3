/- Package files: fill. -/
import Derived.Test.YtgkhgjihjbjfnaaDoorFS
namespace Go.Proofs.YtgkhgjihjbjfnaaDoor
open Go.RowKit Go.Shelf
set_option linter.unusedVariables false
set_option linter.unusedSimpArgs false
attribute [local go_sem] Oper.semAt_some

/-- The sectors were filled. -/
def Filled (w : World) (L : List ByteArray) (e : Ending) (w' : World) : Prop := ∃ g, e = .returned (.slice (some ⟨g, 0, none⟩) L.length L.length) ∧ Blk w' g 9 (strs L).toArray ∧ w.heap.size ≤ g ∧ Below w.heap.size w w'

set_option maxRecDepth 100000 in
set_option maxHeartbeats 4000000 in
theorem fill_all (A : Option Addr) (c : Nat) (fs : List Fl) (s : Nat) (w : World) (hf : FileRow w (.slice A fs.length c) fs) (hm : fs.length ≤ 64) (hd : ∀ f ∈ fs, f.data.size ≤ 1048576) (hn : ∀ f ∈ fs, f.name.size ≤ 24) (L : Laid) (hL : LaidOk fs s 4 0 L) (hu : 1 + fs.length + L.dat.length ≤ 16384)
    (B gi gl : Nat) (ls : List Nat) (vs : List Value) (hi : LaySt w B gi gl fs L.ex ls vs) :
    Calls Tryd.prog 28 #[.slice A fs.length c, .slice (some ⟨gi, 0, none⟩) fs.length fs.length, .int .i64 (1 + fs.length + L.dat.length : Nat)] w (Filled w (diskL fs L.ex L.dat)) := by
  obtain ⟨U, hU⟩ : ∃ U, 1 + fs.length + L.dat.length = U := ⟨_, rfl⟩
  rw [hU] at hu ⊢
  obtain ⟨i0, hi0, hz0, hz1, hz2⟩ := info_parts infoStr
  have hmk := run_make_strs (P := Tryd.prog) 26 9 i0 Tryd.underlying26 hi0 hz0 hz1 hz2 U hu
  have h1 := fun w => headText_any fs.length U w (by omega) (by omega)
  obtain ⟨DL, hDL⟩ : ∃ DL, diskL fs L.ex L.dat = DL := ⟨_, rfl⟩
  have hlen : DL.length = U := by rw [← hDL, diskL_length _ hL.len, hU]
  have hhead : DL[0]? = some (headS fs.length U) := by rw [← hDL, ← hU]; rfl
  have hsz0 : (List.replicate U (⟨#[]⟩ : ByteArray)).length = U := List.length_replicate ..
  have hwr0 : Wr DL (List.replicate U (⟨#[]⟩ : ByteArray)) (fun _ => False) := ⟨by rw [hsz0, hlen], fun p h => h.elim⟩
  rw [hDL]
  have H1 := Lib.hid h1
  have HWR := Lib.hid hwr0
  have HHD := Lib.hid hhead
  have HL := Lib.hid hL
  have HI := Lib.hid hi
  have HF := Lib.hid hf
  have HLEN := Lib.hid hlen
  have HDL := Lib.hid hDL
  have HU := Lib.hid hU
  have HDD := Lib.hid hd
  have HNN := Lib.hid hn
  have HSZ := Lib.hid hsz0
  clear h1 hwr0 hhead hL hi hf hlen hDL hU hd hn hsz0
  refine callsIn_wide (n := 3).1 ?_
  refine callsIn_of_wp_marks Tryd.func28 rfl trivial ?_ rfl
  simp only [Tryd.ntmps28, List.size_toArray, List.length_cons, List.length_nil, Nat.reduceAdd, Nat.reduceSub, Array.replicate_succ, Array.replicate_zero, List.push_toArray, List.append_toArray, List.nil_append, List.cons_append]
  refine wpIn_wide.2 ?_
  go_wp2_with fail
  obtain ⟨b0, hb0⟩ : ∃ b0, w.heap.size = b0 := ⟨_, rfl⟩
  have e0 := Blk.new w 22 #[.slice A fs.length c]
  have e1 := Blk.new (w.alloc (.cells #[.slice A fs.length c] 22)) 9 (Array.replicate U (.string ⟨#[]⟩))
  have e2 := Blk.new ((w.alloc (.cells #[.slice A fs.length c] 22)).alloc (.cells (Array.replicate U (.string ⟨#[]⟩)) 9)) 26 #[.slice (some ⟨w.heap.size + 1, 0, none⟩) U U]
  have e3 := Blk.new (((w.alloc (.cells #[.slice A fs.length c] 22)).alloc (.cells (Array.replicate U (.string ⟨#[]⟩)) 9)).alloc (.cells #[.slice (some ⟨w.heap.size + 1, 0, none⟩) U U] 26)) 87 #[.func (.func 47) #[] #[.pointer (some ⟨w.heap.size + 1 + 1, 0, none⟩)]]
  replace e0 := ((e0.alloc (.cells (Array.replicate U (.string ⟨#[]⟩)) 9)).alloc (.cells #[.slice (some ⟨w.heap.size + 1, 0, none⟩) U U] 26)).alloc (.cells #[.func (.func 47) #[] #[.pointer (some ⟨w.heap.size + 1 + 1, 0, none⟩)]] 87)
  replace e1 := (e1.alloc (.cells #[.slice (some ⟨w.heap.size + 1, 0, none⟩) U U] 26)).alloc (.cells #[.func (.func 47) #[] #[.pointer (some ⟨w.heap.size + 1 + 1, 0, none⟩)]] 87)
  replace e2 := e2.alloc (.cells #[.func (.func 47) #[] #[.pointer (some ⟨w.heap.size + 1 + 1, 0, none⟩)]] 87)
  obtain ⟨W1, hW1⟩ : ∃ W1, (((w.alloc (.cells #[.slice A fs.length c] 22)).alloc (.cells (Array.replicate U (.string ⟨#[]⟩)) 9)).alloc (.cells #[.slice (some ⟨w.heap.size + 1, 0, none⟩) U U] 26)).alloc (.cells #[.func (.func 47) #[] #[.pointer (some ⟨w.heap.size + 1 + 1, 0, none⟩)]] 87) = W1 := ⟨_, rfl⟩
  have hB1 : Below w.heap.size w W1 := by rw [← hW1]; exact ((((Below.refl _ w).alloc (Nat.le_refl _) _).alloc (by simp) _).alloc (by simp; omega) _).alloc (by simp; omega) _
  have hz1' : W1.heap.size = w.heap.size + 1 + 1 + 1 + 1 := by rw [← hW1]; simp
  simp only [World.size_alloc] at e1 e2 e3
  rw [hW1] at e0 e1 e2 e3 ⊢
  have hsec : Secs W1 (w.heap.size + 1 + 1) (w.heap.size + 1) (List.replicate U ⟨#[]⟩) := ⟨by rw [HSZ.out]; exact e2, by unfold strs; simpa using e1⟩
  clear hW1 e1 e2
  rw [hb0] at e0 e3 hB1 hz1' hsec ⊢
  obtain ⟨gs, hgs⟩ : ∃ gs, b0 + 1 = gs := ⟨_, rfl⟩
  have l1 : b0 < gs := by omega
  rw [hgs] at e3 hz1' hsec ⊢
  obtain ⟨bs, hbs⟩ : ∃ bs, gs + 1 = bs := ⟨_, rfl⟩
  have l2 : gs < bs := by omega
  rw [hbs] at e3 hz1' hsec ⊢
  obtain ⟨bp, hbp⟩ : ∃ bp, bs + 1 = bp := ⟨_, rfl⟩
  have l3 : bs < bp := by omega
  rw [hbp] at e3 hz1' ⊢
  have l4 : bp < W1.heap.size := by omega
  have HBB := Lib.hid (fun v (h : Below b0 w v) => (show b0 ≤ v.heap.size by have := h.size; omega))
  have HB0 := Lib.hid hb0
  clear hgs hbs hbp hz1' hb0
  generalize List.replicate U (⟨#[]⟩ : ByteArray) = cs0 at *
  have a0 := e3.drew.at_ 0 _ rfl
  have HE0 := Lib.hid e0
  have HE3 := Lib.hid e3
  have HS1 := Lib.hid hsec
  have HB1 := Lib.hid hB1
  have q3 : ∀ w', Secs w' bs gs cs0 → Calls Tryd.prog 47 #[.int .i64 0, .string (mkb (headL fs.length U)), .pointer (some ⟨bs, 0, none⟩)] w' _ := fun w' h => put_sec bs gs cs0 0 (mkb (headL fs.length U)) w' h (by rw [HSZ.out]; have := HU.out; omega) (by rw [mkb_size, headL_length]; omega) 0 rfl
  have Q3 := Lib.hid q3
  clear e0 e3 hsec hB1 q3
  go_region_held3 (fun w' => w'.cell? ⟨bp, 0, none⟩ = some (.func (.func 47) #[] #[.pointer (some ⟨bs, 0, none⟩)]))
    (first | exact a0)
    (first
    | (go_at_call 48; go_loud (refine (H1.out _).mono ?_; rintro e v1 ⟨rfl, hb⟩; have HE0 := Lib.hid (HE0.out.drew.below hb HE0.out.lt); have HE3 := Lib.hid (HE3.out.drew.below hb HE3.out.lt); have HS1 := Lib.hid (HS1.out.drew.below hb); have HB1 := Lib.hid (HB1.out.drew.trans (hb.mono (HBB.out _ HB1.out.drew))); clear a0; have a0 := HE3.out.at_ 0 _ rfl; clear hb))
    | (go_at_call 47; refine (Q3.out _ HS1.out).mono ?_; rintro e v2 ⟨rfl, hs2, hb2⟩; have HE0 := Lib.hid (HE0.out.but hb2 (by omega)); have HE3 := Lib.hid (HE3.out.but hb2 (by omega)); have HS2 := Lib.hid hs2; have HB2 := Lib.hid (HB1.out.trans (hb2.below (B := b0) (HBB.out _ HB1.out) (fun k e => by omega))); clear a0; have a0 := HE3.out.at_ 0 _ rfl; clear hb2 hs2))
  have hwr1 : Wr DL (cs0.set 0 (fill64 (mkb (headL fs.length U)))) (DoneAt L.ex 0 false 0 0) := HWR.out.put (q := 0) (by rw [HHD.out]; unfold fill64 headS; rw [mkb_data]) (fun p hp => .inr hp.head)
  generalize cs0.set 0 (fill64 (mkb (headL fs.length U))) = cs1 at *
  have HW1 := Lib.hid hwr1
  clear hwr1 a0 Q3 HWR HSZ H1 HHD hmk
  go_wp2
  refine wp_loop_k (FillI A c fs.length gi U b0 bs bp gs (mkb (headL fs.length U)) w DL L.ex) (fun a _ => fillM fs.length a) ?start ?round
  case start => exact ⟨0, _, [], cs1, Nat.zero_le _, rfl, ⟨rfl, rfl, rfl, rfl, rfl, rfl, rfl, rfl, rfl, rfl, rfl, rfl, rfl, rfl, rfl, rfl, rfl, rfl, rfl, rfl, rfl, rfl, rfl⟩, Marks.nil _ _, HE0.out, HE3.out, HS2.out, HW1.out, HB2.out⟩
  case round =>
    rintro a W ⟨k, T, Ds, cs, hk, rfl, hfr, hM, h0, hp, hS, hW, hB⟩ K hK
    obtain ⟨u, rfl⟩ := hfr.lit
    dsimp only [putV] at hp ⊢
    clear hfr
    by_cases hlt : k < fs.length
    · have hvl : k < vs.length := by rw [HI.out.lenv]; exact hlt
      have hxl : k < L.ex.length := by rw [HL.out.len]; exact hlt
      have hil : k < (inosOf fs L.ex).length := by rw [inosOf_length HL.out.len]; exact hlt
      obtain ⟨_, _, hie⟩ := inosOf_at hil
      obtain ⟨c0, c1, c2⟩ := inoCells_at (inosOf fs L.ex) vs k hil hvl
      rw [hie] at c0 c1
      have hgi : gi < b0 := by rw [← HB0.out]; exact HI.out.bi.lt
      replace c0 := (hB.cell (p := ⟨gi, k * 3, none⟩) hgi).trans (HI.out.bi.at_ _ _ (by simpa using c0))
      replace c1 := (hB.cell (p := ⟨gi, k * 3 + 1, none⟩) hgi).trans (HI.out.bi.at_ _ _ (by simpa using c1))
      replace c2 := (hB.cell (p := ⟨gi, k * 3 + 2, none⟩) hgi).trans (HI.out.bi.at_ _ _ (by simpa using c2))
      have hext := HI.out.own k hxl hvl
      obtain ⟨vA, vc, hvs⟩ := own_slice2 hext
      rw [hvs] at c2 hext
      have hM2 := Lib.hid hM
      have h02 := Lib.hid h0
      have hp2 := Lib.hid hp
      have hS2 := Lib.hid hS
      have hW2 := Lib.hid hW
      have hB2 := Lib.hid hB
      have HK := Lib.hid hK
      clear hM h0 hp hS hW hB hK
      go_wp2_with fail
      have f0 := Blk.new W 3 #[.int .i64 k]
      have f1 := Blk.new (W.alloc (.cells #[.int .i64 k] 3)) 55 #[.string fs[k].name, .int .i64 fs[k].data.size, .slice vA L.ex[k].length vc]
      replace f0 := f0.alloc (.cells #[.string fs[k].name, .int .i64 fs[k].data.size, .slice vA L.ex[k].length vc] 55)
      have hbt : Below W.heap.size W ((W.alloc (.cells #[.int .i64 k] 3)).alloc (.cells #[.string fs[k].name, .int .i64 fs[k].data.size, .slice vA L.ex[k].length vc] 55)) := ((Below.refl _ W).alloc (Nat.le_refl _) _).alloc (by simp) _
      have hsz : ((W.alloc (.cells #[.int .i64 k] 3)).alloc (.cells #[.string fs[k].name, .int .i64 fs[k].data.size, .slice vA L.ex[k].length vc] 55)).heap.size = W.heap.size + 1 + 1 := by simp
      simp only [World.size_alloc] at f1
      obtain ⟨bi, hbi⟩ : ∃ bi, W.heap.size = bi := ⟨_, rfl⟩
      obtain ⟨V, hV⟩ : ∃ V, (W.alloc (.cells #[.int .i64 k] 3)).alloc (.cells #[.string fs[k].name, .int .i64 fs[k].data.size, .slice vA L.ex[k].length vc] 55) = V := ⟨_, rfl⟩
      rw [hV] at f0 f1 hbt hsz ⊢
      have lW : bp < W.heap.size := hp2.out.lt
      have l6 : bi + 1 < V.heap.size := by omega
      have l7 : bp < bi := by omega
      rw [hbi] at f0 f1 ⊢
      have hM3 := hM2.out.but (S := fun _ => False) (But.of_below hbt) (fun _ h => h.elim)
      have h03 := h02.out.below hbt h02.out.lt
      have hp3 := hp2.out.below hbt hp2.out.lt
      have hS3 := hS2.out.below hbt
      have hB3 := hB2.out.trans (hbt.mono (HBB.out _ hB2.out))
      have hx3 := (ExtRow.of_own (n := L.ex[k].length) hext).below (by rw [HB0.out]; exact hB3)
      clear hbt hsz hV c0 c1 c2 hM2 h02 hp2 hS2 hB2 hbi lW
      have a0 := hp3.drew.at_ 0 _ rfl
      have a1 := f0.drew.at_ 0 _ rfl
      have a2 := f1.drew.at_ 0 _ rfl
      have a3 := f1.drew.at_ 1 _ rfl
      have a4 := f1.drew.at_ 2 _ rfl
      have HM := Lib.hid hM3
      have H0 := Lib.hid h03
      have HP := Lib.hid hp3
      have HS := Lib.hid hS3
      have HB := Lib.hid hB3
      have HX := Lib.hid hx3
      have HF0 := Lib.hid f0
      have HF1 := Lib.hid f1
      have hcsl : cs.length = U := by rw [hW2.out.1, HLEN.out]
      have hkU : 1 + k < U := by have := HU.out; omega
      obtain ⟨hsm, hl4, hahd⟩ := HL.out.small HDD.out (by rw [HU.out]; exact hu) k hlt hxl
      have hnm := HNN.out _ (List.getElem_mem hlt)
      have hdz := HDD.out _ (List.getElem_mem hlt)
      have q1 : ∀ v, ExtRow v (.slice vA L.ex[k].length vc) L.ex[k] → Calls Tryd.prog 49 #[.agg #[.string fs[k].name, .int .i64 fs[k].data.size, .slice vA L.ex[k].length vc]] v (fun e w' => e = .returned (.string (mkb (inoL ⟨fs[k].name, fs[k].data.size, L.ex[k]⟩))) ∧ Below v.heap.size v w') := fun v hv => inodeText_any ⟨fs[k].name, fs[k].data.size, L.ex[k]⟩ (.slice vA L.ex[k].length vc) v (show fs[k].name.size ≤ 1000000 by omega) (show fs[k].data.size ≤ 1000000000000 by omega) hsm hv
      have Q1 := Lib.hid q1
      have q2 : ∀ v, Secs v bs gs cs → Calls Tryd.prog 47 #[.int .i64 (1 + (k : Int)), .string (mkb (inoL ⟨fs[k].name, fs[k].data.size, L.ex[k]⟩)), .pointer (some ⟨bs, 0, none⟩)] v (fun e w' => e = .returned (.tuple #[]) ∧ Secs w' bs gs (cs.set (1 + k) (fill64 (mkb (inoL ⟨fs[k].name, fs[k].data.size, L.ex[k]⟩)))) ∧ But (· = gs) v w') := fun v h => put_sec bs gs cs (1 + k) _ v h (by omega) (by rw [mkb_size, inoL_length]; show 30 + 4 * L.ex[k].length ≤ 1000000000; omega) (1 + (k : Int)) (by omega)
      have Q2 := Lib.hid q2
      have hwk : IntKind.i64.wrap (1 + (k : Int)) = 1 + (k : Int) := IntWalk.i64_in _ (by omega)
      clear hM3 h03 hp3 hS3 hB3 hx3 f0 f1 q1 q2
      go_region_held3 (fun w' => w'.cell? ⟨bp, 0, none⟩ = some (.func (.func 47) #[] #[.pointer (some ⟨bs, 0, none⟩)]) ∧ w'.cell? ⟨bi, 0, none⟩ = some (.int .i64 k) ∧ w'.cell? ⟨bi + 1, 0, none⟩ = some (.string fs[k].name) ∧ w'.cell? ⟨bi + 1, 1, none⟩ = some (.int .i64 fs[k].data.size) ∧ w'.cell? ⟨bi + 1, 2, none⟩ = some (.slice vA L.ex[k].length vc))
        (first | exact ⟨a0, a1, a2, a3, a4⟩)
        (first
        | (go_at_call 49; go_loud (refine (Q1.out _ (HX.out.below (Below.refl _ _).drew)).mono ?_; rintro e v1 ⟨rfl, hb⟩; have HM := Lib.hid ((HM.out.but (S := fun _ => False) (But.refl _ _).drew (fun _ h => h.elim)).but (S := fun _ => False) (But.of_below hb) (fun _ h => h.elim)); have H0 := Lib.hid (H0.out.drew.below hb H0.out.lt); have HP := Lib.hid (HP.out.drew.below hb HP.out.lt); have HS := Lib.hid (HS.out.drew.below hb); have HB := Lib.hid (HB.out.drew.trans (hb.mono (HBB.out _ HB.out.drew))); have HX := Lib.hid ((HX.out.below (Below.refl _ _).drew).below hb); have HF0 := Lib.hid (HF0.out.drew.below hb HF0.out.lt); have HF1 := Lib.hid (HF1.out.drew.below hb HF1.out.lt); clear a0 a1 a2 a3 a4; have a0 := HP.out.at_ 0 _ rfl; have a1 := HF0.out.at_ 0 _ rfl; have a2 := HF1.out.at_ 0 _ rfl; have a3 := HF1.out.at_ 1 _ rfl; have a4 := HF1.out.at_ 2 _ rfl; clear hb))
        | (go_at_call 47; go_loud (refine (Q2.out _ HS.out).mono ?_; rintro e v2 ⟨rfl, hs2, hb2⟩; have HM := Lib.hid (HM.out.but hb2 (fun D e => by rw [e]; exact HS.out.row.not_mark)); have H0 := Lib.hid (H0.out.but hb2 (by omega)); have HP := Lib.hid (HP.out.but hb2 (by omega)); have HS2 := Lib.hid hs2; have HB2 := Lib.hid (HB.out.trans (hb2.below (B := b0) (HBB.out _ HB.out) (fun k e => by omega))); have HX := Lib.hid (HX.out.kp (KpC.of_but hb2) (fun g hg e => ext_not_blk HX.out HS.out.row (by decide) hg e)); have HF0 := Lib.hid (HF0.out.but hb2 (by omega)); have HF1 := Lib.hid (HF1.out.but hb2 (by omega)); clear a0 a1 a2 a3 a4; have a0 := HP.out.at_ 0 _ rfl; have a1 := HF0.out.at_ 0 _ rfl; have a2 := HF1.out.at_ 0 _ rfl; have a3 := HF1.out.at_ 1 _ rfl; have a4 := HF1.out.at_ 2 _ rfl; clear hb2 hs2)))
      have hW4 : Wr DL (cs.set (1 + k) (fill64 (mkb (inoL ⟨fs[k].name, fs[k].data.size, L.ex[k]⟩)))) (DoneAt L.ex k true 0 0) := by
        have h1 := diskL_ino (fs := fs) L.dat HL.out.len k hil
        rw [HDL.out, hie] at h1
        refine hW2.out.put (q := 1 + k) ?_ (fun p hp => hp.ino)
        rw [h1]
        unfold fill64 inoS
        rw [mkb_data]
      generalize cs.set (1 + k) (fill64 (mkb (inoL ⟨fs[k].name, fs[k].data.size, L.ex[k]⟩))) = cs2 at *
      have HW4 := Lib.hid hW4
      clear hW4 hW2 Q1 Q2 hwk a0 a1 a2 a3
      go_wp2_with (go_at_call 43; refine (parts_any vA _ vc _).mono ?_; rintro e w1 ⟨rfl, rfl⟩)
      have bS := Blk.new v2 53 #[.slice vA L.ex[k].length vc]
      have hbt : Below v2.heap.size v2 (v2.alloc (.cells #[.slice vA L.ex[k].length vc] 53)) := (Below.refl _ v2).alloc (Nat.le_refl _) _
      have l8 : v2.heap.size < (v2.alloc (.cells #[.slice vA L.ex[k].length vc] 53)).heap.size := by simp
      have l9 : bi + 1 < v2.heap.size := HF1.out.lt
      obtain ⟨bq, hbq⟩ : ∃ bq, v2.heap.size = bq := ⟨_, rfl⟩
      have hM3 := HM.out.but (S := fun _ => False) (But.of_below hbt) (fun _ h => h.elim)
      have h03 := H0.out.below hbt H0.out.lt
      have hp3 := HP.out.below hbt HP.out.lt
      have hS3 := HS2.out.below hbt
      have hB3 := HB2.out.trans (hbt.mono (HBB.out _ HB2.out))
      have hx3 := HX.out.below hbt
      have hf03 := HF0.out.below hbt HF0.out.lt
      have hf13 := HF1.out.below hbt HF1.out.lt
      generalize v2.alloc (.cells #[.slice vA L.ex[k].length vc] 53) = V2 at *
      rw [hbq] at bS l8 l9 ⊢
      clear hbt hbq
      refine (wpIn_wide (n := 3)).1 ?_
      refine wpIn_named ?_
      intro T hT
      refine wpIn_rangeFunc_ownH rfl (by omega) (gf := 59) (lb := #[.pointer (some ⟨bq, 0, none⟩)]) (by rw [← hT]; rfl) trivial (enters_of Tryd.func59 (by kernel_rfl) rfl)
        (parts_stops (3 - 1) (by omega) bq _ L.ex[k] hsm (fun j => j = gs) V2 (fun j hj => by omega) (by omega) (fun g hg e => ext_not_blk hx3 hS3.row (by decide) hg e) bS hx3) KpC.trans kpC_b (Below.refl _ _) (fun _ => rfl)
        (fun pre W => ∃ cs, Secs W bs gs cs ∧ Wr DL cs (fun p => DoneAt L.ex k true 0 0 p ∨ ∃ x ∈ pre, ∃ i, i < L.ex[k][x.1].2 ∧ p = L.ex[k][x.1].1 + i) ∧ But (fun j => j = gs) V2 W)
        (fun _ _ _ => False)
        (fun pre X Y row hs hg hr => by
          obtain ⟨cs', h1, h2, h3⟩ := hs
          exact ⟨cs', ⟨Blk.own _ _ (fun (_ : Unit) => _) () X Y row h1.var hg (fun r e => (hr r e).2), Blk.own _ _ (fun (_ : Unit) => _) () X Y row h1.row hg (fun r e => (hr r e).2)⟩, h2, ownFrom_but (S := fun j => j = gs) (Nat.le_refl _) () X Y row h3 hg hr⟩)
        (fun _ _ _ _ _ hs _ _ => hs)
        ⟨cs2, hS3, HW4.out.mono (fun p hp => by
          rcases hp with h | ⟨x, hx, _⟩
          · exact h
          · simp at hx), But.refl _ _⟩
        (fun x a' W => ∃ Bx, V2.heap.size ≤ Bx ∧ Blk W Bx 61 #[.int .i64 (L.ex[k][x.1].1 : Nat), .int .i64 (L.ex[k][x.1].2 : Nat)] ∧ a' = { tmps := (((T.setIfInBounds 40 (.int .i64 (ahd L.ex[k] x.1 : Nat))).setIfInBounds 41 (.agg #[.int .i64 (L.ex[k][x.1].1 : Nat), .int .i64 (L.ex[k][x.1].2 : Nat)])).setIfInBounds 11 (.int .i64 (ahd L.ex[k] x.1 : Nat))).setIfInBounds 12 (.pointer (some ⟨Bx, 0, none⟩)), defers := [] })
        (fun x a' _ X Y row hs hg hr => by obtain ⟨Bx, h1, h2, h3⟩ := hs; exact ⟨Bx, h1, Blk.own _ _ (fun (_ : Unit) => _) () X Y row h2 hg (fun r e => (hr r e).2), h3⟩)
        ?assign ?body ?done ?stop
      case assign =>
        rintro l pre x W K ⟨cs', h1, h2, h3⟩ hK
        simp only [encE, List.zip_toArray, List.zip_cons_cons, List.zip_nil_right, List.size_toArray, List.foldl_toArray', List.foldl_toArray, List.foldl_cons, List.foldl_nil]
        subst hT
        simp only [List.setIfInBounds_toArray, List.set_cons_succ, List.set_cons_zero]
        gi_wp2
        refine hK _ _ ((KeepsOthers.alloc _ _).from _) (KpC.alloc W _) ⟨cs', ⟨h1.var.alloc _, h1.row.alloc _⟩, h2, h3.alloc _⟩ ⟨W.heap.size, h3.size, Blk.new W _ _, ?_⟩
        rfl
      case body =>
        rintro l pre x a' W hl _ ⟨cs', h1, h2, h3⟩ ⟨Bx, hBx, bX, rfl⟩ hlt2
        subst hT
        simp only [List.setIfInBounds_toArray, List.set_cons_succ, List.set_cons_zero]
        have hBW : Below b0 w W := hB3.trans (h3.below (B := b0) (HBB.out _ hB3) (fun j e => by omega))
        obtain ⟨gA, rfl, hgA, _, cA⟩ := HF.out.at_ k hlt
        have hgA2 : gA < b0 := by rw [← HB0.out]; exact hgA
        have CAW := Lib.hid cA
        replace cA := (hBW.cell (p := ⟨gA, k * 2 + 1, none⟩) hgA2).trans cA
        have k0 := h03.but h3 (by omega)
        have kp := hp3.but h3 (by omega)
        have ki := hf03.but h3 (by omega)
        have kx := hf13.but h3 (by omega)
        have x1 := bX.at_ 1 _ rfl
        have hpp := part_page HL.out k hlt hxl x.1 x.2
        have hA1 := ahd_succ L.ex[k] x.2
        have hA2 := ahd_le L.ex[k] (x.1 + 1)
        have hA4 := ahd_full L.ex[k]
        have hpg := pg_le (HDD.out _ (List.getElem_mem hlt))
        have hat := (HL.out.put k hlt hxl x.1 x.2).2.1
        have haq : ahd L.ex[k] x.1 + L.ex[k][x.1].2 ≤ 16384 := by rw [← hA1]; omega
        have haq2 : ahd L.ex[k] x.1 + L.ex[k][x.1].2 ≤ fs[k].pg := by rw [← hA1]; omega
        have hpq : L.ex[k][x.1].1 + L.ex[k][x.1].2 ≤ 16384 := by have := HU.out; omega
        have hpU : L.ex[k][x.1].1 + L.ex[k][x.1].2 ≤ U := by have := HU.out; omega
        obtain ⟨aa, haa⟩ : ∃ aa, ahd L.ex[k] x.1 = aa := ⟨_, rfl⟩
        obtain ⟨pp, hppe⟩ : ∃ pp, L.ex[k][x.1].1 = pp := ⟨_, rfl⟩
        obtain ⟨qq, hqqe⟩ : ∃ qq, L.ex[k][x.1].2 = qq := ⟨_, rfl⟩
        simp only [haa, hppe, hqqe] at haq haq2 hpq hpU hpp x1 bX ⊢
        have HAQ := Lib.hid haq2
        clear haq2
        have HPP := Lib.hid hpp
        have HAA := Lib.hid haa
        have HPE := Lib.hid hppe
        have HQE := Lib.hid hqqe
        clear hpp hA1 hA2 hA4 hat
        have HS0 := Lib.hid h1
        have HW0 := Lib.hid h2
        have HB0' := Lib.hid h3
        have K0 := Lib.hid k0
        have KP := Lib.hid kp
        have KI := Lib.hid ki
        have KX := Lib.hid kx
        have CA := Lib.hid cA
        clear h1 h2 h3 k0 kp ki kx cA hM3 h03 hp3 hS3 hB3 hx3 hf03 hf13
        gi_wp2
        gi_loopw [44] (fun i wr => ∃ (n' : Nat) (cs'' : List ByteArray), n' ≤ qq ∧ i = .int .i64 n' ∧ Secs wr bs gs cs'' ∧ Wr DL cs'' (fun p => (DoneAt L.ex k true 0 0 p ∨ ∃ x ∈ pre, ∃ i, i < L.ex[k][x.1].2 ∧ p = L.ex[k][x.1].1 + i) ∨ ∃ i, i < n' ∧ p = pp + i) ∧ But (fun j => j = gs) W wr) (fun i _ => qq - (intOf i).toNat)
        case atStart => exact ⟨0, cs', Nat.zero_le _, rfl, HS0.out, HW0.out.mono (fun p hp => by
          rcases hp with h | ⟨i, hi, _⟩
          · exact h
          · omega), But.refl _ _⟩
        case round =>
          obtain ⟨n', cs'', hn', rfl, hs'', hw'', hb''⟩ := hrel
          by_cases hlt3 : n' < qq
          · have hbw : Below b0 w wr := hBW.trans (hb''.below (B := b0) (HBB.out _ hBW) (fun j e => by omega))
            have y0 := (KP.out.but hb'' (by omega)).drew.at_ 0 _ rfl
            have y1 := (bX.but hb'' (by omega)).drew.at_ 0 _ rfl
            have y2 := (K0.out.but hb'' (by omega)).drew.at_ 0 _ rfl
            have y3 := (KI.out.but hb'' (by omega)).drew.at_ 0 _ rfl
            have y5 := (KX.out.but hb'' (by omega)).drew.at_ 1 _ rfl
            have y4 : wr.drew.cell? ⟨gA, k * 2 + 1, none⟩ = some (.string fs[k].data) := (hbw.cell (p := ⟨gA, k * 2 + 1, none⟩) hgA2).trans CAW.out
            have hfrom : (aa + n') * 64 < fs[k].data.size := by
              have h1 := HAQ.out
              unfold Fl.pg pgs at h1
              omega
            have hmx : Tryd.prog.follows .mixedOrders = true := by kernel_rfl
            have HS2' := Lib.hid hs''
            have HW2' := Lib.hid hw''
            have HB2' := Lib.hid hb''
            clear hs'' hw'' hb'' hbw
            gi_wp2
            have E1 : IntKind.i64.wrap ((pp : Int) + (n' : Int)) = (pp : Int) + (n' : Int) := IntWalk.i64_in _ (by omega)
            obtain ⟨F, hF⟩ : ∃ F : Nat, (aa + n') * 64 = F := ⟨_, rfl⟩
            obtain ⟨M, hMd⟩ : ∃ M : Nat, min (F + 64) fs[k].data.size = M := ⟨_, rfl⟩
            have eF : ((aa : Int) + (n' : Int)) * 64 = (F : Int) := by omega
            have hFM : F ≤ M := by omega
            have hMz : M ≤ fs[k].data.size := by omega
            have hFb : F ≤ 2000000 := by omega
            have HPG := Lib.hid (fill_page fs[k].data (aa + n'))
            rw [hF, hMd] at HPG
            have q5 : ∀ v, Secs v bs gs cs'' → Calls Tryd.prog 47 #[.int .i64 ((pp : Int) + (n' : Int)), .string (fs[k].data.extract F M), .pointer (some ⟨bs, 0, none⟩)] v (fun e w' => e = .returned (.tuple #[]) ∧ Secs w' bs gs (cs''.set (pp + n') (fill64 (fs[k].data.extract F M))) ∧ But (· = gs) v w') := fun v h => put_sec bs gs cs'' (pp + n') _ v h (by rw [HW2'.out.1, HLEN.out]; omega) (by rw [extract_mkb, mkb_size, List.length_take, List.length_drop, len_data]; omega) _ (by omega)
            have Q5 := Lib.hid q5
            clear q5 HF0 HF1
            have Emin : min ((F : Int) + 64) (fs[k].data.size : Int) = (M : Int) := by omega
            rw [eF]
            have E2 : IntKind.i64.wrap ((F : Int) + 64) = (F : Int) + 64 := IntWalk.i64_in _ (by omega)
            clear hF hMd eF
            refine wpIn_region_still_tail 17 hmx (by kernel_rfl) (by kernel_rfl) ?_
            simp only [List.take_succ_cons, List.take_zero, List.drop_succ_cons, List.drop_zero]
            repeat still_step
            refine wpStill_nil ?_
            change wpList _ _ _ _ _ wr.drew
            go_wp2_with (go_at_call 47; go_loud (refine (Q5.out _ HS2'.out.drew).mono ?_; rintro e v5 ⟨rfl, hs5, hb5⟩))
            unfold noOut
            gi_wp2
            go_roundw
            case rel =>
              refine ⟨n' + 1, cs''.set (pp + n') (fill64 (fs[k].data.extract F M)), by omega, by go_num, hs5, HW2'.out.put (q := pp + n') ?_ ?_, HB2'.out.drew.trans hb5⟩
              · rw [HPG.out, ← HDL.out]
                exact HPP.out n' hlt3
              · rintro p (h | ⟨i, hi, he⟩)
                · exact .inl (.inl h)
                · rcases Nat.lt_or_ge i n' with h | h
                  · exact .inl (.inr ⟨i, h, he⟩)
                  · have : i = n' := by omega
                    subst this
                    exact .inr he
            case measure => simp [intOf]; omega
          · obtain rfl : n' = qq := by omega
            gi_wp2
            refine ⟨keepsFrom_but hb'' (fun j e => by omega), KpC.of_but hb'', cs'', hs'', hw''.mono ?_, HB0'.out.trans hb''⟩
            rintro p (h | ⟨x', hx', i, hi, hp⟩)
            · exact .inl (.inl h)
            · rcases List.mem_append.1 hx' with h | h
              · exact .inl (.inr ⟨x', h, i, hi, hp⟩)
              · rw [List.mem_singleton.1 h] at hi hp
                rw [HQE.out] at hi
                rw [HPE.out] at hp
                exact .inr ⟨i, hi, hp⟩
      case done =>
        rintro D ys W hD rfl ⟨cs', h1, h2, h3⟩ hKD
        have lD := HBB.out _ hB3
        subst hT
        go_wp2
        refine HK.out _ _ ⟨k + 1, _, D :: Ds, cs', by omega, rfl, ⟨rfl, rfl, rfl, rfl, rfl, rfl, rfl, rfl, rfl, rfl, rfl, rfl, rfl, rfl, rfl, rfl, rfl, rfl, rfl, rfl, rfl, rfl, rfl⟩, (hM3.but h3 (fun E e => by rw [e]; exact hS3.row.not_mark)).cons hKD (by omega) (fun E hE => by have := hM3.lt hE; omega), h03.but h3 (by omega), hp3.but h3 (by omega), h1, h2.mono ?_, hB3.trans (h3.below (B := b0) (HBB.out _ hB3) (fun j e => by omega))⟩ ?_
        · intro p hp
          rcases DoneAt.file hxl hp with h | h | h | h | ⟨h, j, hj, i, hi, he, _⟩
          · exact .inl (.inl h)
          · exact .inl (.inr (.inl h))
          · exact .inl (.inr (.inr (.inl h)))
          · exact .inl (.inr (.inr (.inr (.inl h))))
          · exact .inr ⟨⟨j, hj⟩, List.mem_finRange _, i, hi, he⟩
        · show fs.length - (intOf (.int .i64 ((k : Int) + 1))).toNat < fs.length - (intOf (.int .i64 k)).toNat
          simp [intOf]
          omega
      case stop =>
        rintro D c pre W _ _ h _
        exact h.elim
    · obtain rfl : k = fs.length := by omega
      have hcs : cs = DL := hW.all (fun p hp => done_all HL.out (by rw [HU.out, ← HLEN.out]; exact hp))
      rw [hcs] at hS
      have c0 := hS.var.at_ 0 _ rfl
      have hM2 := Lib.hid hM
      have hR2 := Lib.hid hS.row
      have hB2 := Lib.hid hB
      have hgb : w.heap.size ≤ gs := by rw [HB0.out]; omega
      clear hM h0 hp hS hW hB hK hcs
      go_wp2
      show LeavesInM _ _ _ _ _ _ (Ds.map markOf) .returning W
      refine leaves_marks (fun W' => Blk W' gs 9 (strs DL).toArray ∧ Below b0 w W') b0 ?_ Ds W hM2.out.1 hM2.out.2 ⟨hR2.out, hB2.out⟩ ?_
      · rintro W' D hD hd ⟨h1, h2⟩
        refine ⟨(World.putObj_heap_other (fun e => by rw [← e] at hd; exact h1.not_mark hd)).trans h1, h2.trans (belowK_b (w := w) (by rw [HB0.out]; exact Nat.le_refl _) W' D _ _ (by rw [HB0.out]; exact hD) hd rfl rfl)⟩
      · rintro W' ⟨h1, h2⟩
        exact ⟨_, results_tmp rfl _ _ _, gs, rfl, h1, hgb, by rw [HB0.out]; exact h2⟩
end Go.Proofs.YtgkhgjihjbjfnaaDoor
