/- Layer 14's laws: a cache of the law's own, what is asked of it. -/
import Derived.Test.YtmbjflcmbenbdaeDoorKL
namespace Go.Proofs.YtmbjflcmbenbdaeDoor
open Go.RowKit Go.Maps
set_option linter.unusedVariables false
set_option linter.unusedSimpArgs false

@[go_sem] theorem eq_key (p k p' k' : Int) (w : World) : (Op.equalIn 10000 33 (.agg #[.int .i64 p, .int .i64 k]) (.agg #[.int .i64 p', .int .i64 k'])).run Tryd.prog w = .ok (p == p' && k == k') w := by
  have u2 := Tryd.underlying3
  have hS : Tryd.prog.underlying 33 = some (.struct (Tryd.prog.fieldsOf 33)) := by kernel_rfl
  rw [show (10000 : Nat) = 9999 + 1 from rfl, run_equalIn_agg w 9999 33 _ _ hS (by kernel_rfl)]
  simp only [Program.fieldsOf, Tryd.underlying33]
  go_simp
  by_cases h1 : p = p' <;> by_cases h2 : k = k' <;> simp [h1, h2]
theorem dat3_at {k : Nat} (hk : k < fs3.length) (q : Nat) : dat3 k q = pageOf fs3[k].data q := by
  unfold dat3
  simp [hk]
theorem dat3_size (f q : Int) : (dat3 f q).size = 64 := pageOf_size _ _

/-- A disk that a reference built is made. -/
theorem of_textL (g c : Nat) (L : List ByteArray) (w : World) (h1 : 1 ≤ L.length) (h2 : L.length ≤ 16384) (hf : L.map fill64 = L) (h : TextRow w (.slice (some ⟨g, 0, none⟩) L.length c) L) :
    Calls Tryd.prog 16 #[.slice (some ⟨g, 0, none⟩) L.length c] w (Made w ⟨L, 0, 0, 0⟩) := by
  have hlt : g < w.heap.size := by
    obtain ⟨g', c', cur, e, hb, _⟩ := h
    injection e with e _ _
    injection e with e
    injection e with e _ _
    subst e
    exact hb.lt
  have := of_yes ⟨g, 0, none⟩ L c w h1 h2 hlt (fun i hi => by
    rw [show (⟨g, 0, none⟩ : Addr).add i = ⟨g, i, none⟩ by unfold Addr.add; split <;> simp_all]
    exact h.at_ i hi)
  rw [hf] at this
  exact this.mono fun _ _ ⟨he, hb, hd⟩ => ⟨_, _, he, by omega, Nat.le_refl _, hb, hd⟩
theorem of_text (g c : Nat) (w : World) (h : TextRow w (.slice (some ⟨g, 0, none⟩) (builtL fs3 2).length c) (builtL fs3 2)) :
    Calls Tryd.prog 16 #[.slice (some ⟨g, 0, none⟩) (builtL fs3 2).length c] w (Made w ⟨builtL fs3 2, 0, 0, 0⟩) := by
  have hl := builtL_length (fs := fs3) (s := 2) (by omega)
  have hr := can3.room
  exact of_textL g c _ w (by rw [hl]; omega) (by rw [hl]; exact hr) (built_fill (by omega)) h

/-- A cache over the files was made. -/
def MadeC (w : World) (n : Nat) (e : Ending) (w' : World) : Prop := ∃ a v, e = .returned (.tuple #[.pointer (some ⟨a.pc, 0, none⟩), .pointer (some ⟨a.pp, 0, none⟩)]) ∧ Ca fs3 2 w' a v (newC n) ∧ w.heap.size ≤ a.N ∧ Below w.heap.size w w'
set_option maxRecDepth 100000 in
set_option maxHeartbeats 1600000 in
theorem made_any (w : World) (n : Nat) (h1 : 1 ≤ n) (h2 : n ≤ 4096) : Calls Tryd.prog 5 #[.int .i64 n] w (MadeC w n) := by
  have HS := Lib.hid (some_any w)
  have HR := Lib.hid (fun (v : World) g (h : FileRow v (.slice (some ⟨g, 0, none⟩) 3 3) fs3) => rbuild_yes (some ⟨g, 0, none⟩) 3 3 fs3 2 v rfl h (by omega) fs3_small fs3_names (by omega) (by decide))
  have HO := Lib.hid (fun g c v h => of_text g c v h)
  have HOP := Lib.hid (fun pd gd v (h : Dk v pd gd ⟨builtL fs3 2, 0, 0, 0⟩) => st_open can3 (by omega) pd gd v h)
  have HP := Lib.hid (fun v => pnew_made n v h1 h2)
  have HC := Lib.hid (fun (W3 W4 : World) (B p pd gd pp h g : Nat) (ho : OpenSt fs3 2 W3 B p pd gd) (hb : Below W3.heap.size W3 W4) (hX : Pl W4 pp h g (newP n)) (q1 : W3.heap.size ≤ pp) (q2 : W3.heap.size ≤ h) (q3 : W3.heap.size ≤ g) (q4 : w.heap.size ≤ W3.heap.size) (q5 : w.heap.size ≤ pd) =>
    cnew_any (fs := fs3) (s := 2) (W := W4) ⟨w.heap.size, W3.heap.size, B, p, pd, gd, pp, h, g, 0, 0⟩ ((OpenIn.of ho).keep hb) hX q1 q2 q3 q4 q5)
  unfold RBuilt at HR
  unfold Made at HO
  unfold PMade at HP
  unfold MadeC newC
  generalize builtL fs3 2 = DL at *
  generalize newP n = X0 at *
  go_enter Tryd.func5, Tryd.ntmps5
  go_wp2_with (first
    | (go_at_call 14; refine HS.out.mono ?_; rintro e w1 ⟨g1, rfl, hf1, hb1⟩; have HF1 := Lib.hid hf1; have HB1 := Lib.hid hb1; clear hf1 hb1)
    | (go_at_call 13; refine (HR.out w1 g1 HF1.out).mono ?_; rintro e w2 ⟨g2, c2, rfl, ht2, hb2⟩; have HT2 := Lib.hid ht2; have HB2 := Lib.hid (HB1.out.trans (hb2.mono HB1.out.size)); clear ht2 hb2)
    | (go_at_call 16; refine (HO.out g2 c2 w2 HT2.out).mono ?_; rintro e w3 ⟨pd, gd, rfl, l1, l2, hb3, hd3⟩; have HD3 := Lib.hid hd3; have HL3 := Lib.hid (And.intro l1 l2); have HB3 := Lib.hid (HB2.out.trans (hb3.mono HB2.out.size)); clear hb3 hd3 l1 l2)
    | (go_at_call 15; refine (HOP.out pd gd w3 HD3.out).mono ?_; rintro e w4 ⟨pf, rfl, ho4, hb4⟩; have HO4 := Lib.hid ho4; have HB4 := Lib.hid (HB3.out.trans (hb4.below (B := w.heap.size) HB3.out.size (fun j e => by have := HL3.out.1; have := HB2.out.size; omega))); clear ho4 hb4)
    | (go_at_call 17; refine (HP.out w4).mono ?_; rintro e w5 ⟨pp, h, g, rfl, l1, l2, l3, hb5, hX5⟩; have HC5 := Lib.hid (HC.out w4 w5 _ _ _ _ _ _ _ HO4.out hb5 hX5 l1 l2 l3 HB4.out.size (by have := HL3.out.1; have := HB2.out.size; omega)); have HB5 := Lib.hid (HB4.out.trans (hb5.mono HB4.out.size)); clear hb5 hX5 l1 l2 l3)
    | (go_at_call 18; refine HC5.out.mono ?_; rintro e w6 ⟨rfl, hA6, hb6⟩; have HA6 := Lib.hid hA6; have HB6 := Lib.hid (HB5.out.trans (hb6.mono HB5.out.size)); clear hA6 hb6))
  go_ret2
  exact ⟨_, _, rfl, HA6.out, Nat.le_refl _, HB6.out⟩
end Go.Proofs.YtmbjflcmbenbdaeDoor
