/- Package files: Build. -/
import Derived.Test.YtgkhgjihjbjfnaaDoorFT
namespace Go.Proofs.YtgkhgjihjbjfnaaDoor
open Go.RowKit Go.Shelf Go.Maps
set_option linter.unusedVariables false
set_option linter.unusedSimpArgs false

/-- Files of which a disk can be made. -/
structure CanBe (fs : List Fl) (s : Nat) : Prop where
  many : fs.length ≤ 64
  name : ∀ f ∈ fs, nameOk f.name = true
  once : (fs.map Fl.name).Nodup
  data : ∀ f ∈ fs, f.data.size ≤ 1048576
  room : 1 + fs.length + (Laid.rows fs s 4).dat.length ≤ 16384
/-- The sectors of the disk. -/
def builtL (fs : List Fl) (s : Nat) : List ByteArray := diskL fs (Laid.rows fs s 4).ex (Laid.rows fs s 4).dat
/-- It was built. -/
def Built (w : World) (L : List ByteArray) (e : Ending) (w' : World) : Prop := ∃ g, e = .returned (.tuple #[.slice (some ⟨g, 0, none⟩) L.length L.length, .int .i64 0]) ∧ Blk w' g 9 (strs L).toArray ∧ w.heap.size ≤ g ∧ Below w.heap.size w w'

set_option maxRecDepth 100000 in
set_option maxHeartbeats 4000000 in
theorem build_yes (A : Option Addr) (c : Nat) (fs : List Fl) (s : Nat) (w : World) (hf : FileRow w (.slice A fs.length c) fs) (hc : CanBe fs s) (h1 : 1 ≤ s) (hs : (Lit.int .i64 s).wf = true) :
    Calls Tryd.prog 11 #[.slice A fs.length c, .int .i64 s] w (Built w (builtL fs s)) := by
  obtain ⟨_, _⟩ := bounds_i64 hs
  have hm := hc.many
  have hroom := hc.room
  have hok := LaidOk.rows fs h1 4 (by omega)
  have hnm : ∀ f ∈ fs, f.name.size ≤ 24 := fun f hf => (nameOk_iff.1 (hc.name f hf)).2.1
  have q1 := fun w (hf : FileRow w (.slice A fs.length c) fs) => lay_any A c fs s w hf hm hc.data h1 hs
  unfold WasLaid at q1
  have q2 := fun w (hf : FileRow w (.slice A fs.length c) fs) B gi gl ls vs (hi : LaySt w B gi gl fs (Laid.rows fs s 4).ex ls vs) => fill_all A c fs s w hf hm hc.data hnm (Laid.rows fs s 4) hok hroom B gi gl ls vs hi
  unfold Built builtL
  unfold Filled at q2
  have Q1 := Lib.hid q1
  have Q2 := Lib.hid q2
  have HF := Lib.hid hf
  have HAT := Lib.hid (fun k hk => hf.at_ k hk)
  have HC := Lib.hid hc
  generalize diskL fs (Laid.rows fs s 4).ex (Laid.rows fs s 4).dat = DL at *
  obtain ⟨U, hU⟩ : ∃ U, 1 + fs.length + (Laid.rows fs s 4).dat.length = U := ⟨_, rfl⟩
  rw [hU] at hroom Q1 Q2
  have hmm := @run_makeMap Tryd.prog
  have hm0 := NumMap.made w
  have hB0 := (Below.refl w.heap.size w).alloc (Nat.le_refl _) (.map #[] 0)
  clear q1 q2 hf hc hok hnm hU
  go_enter Tryd.func11, Tryd.ntmps11
  go_wp2
  go_loopw [16] (fun i wr => ∃ k : Nat, k ≤ fs.length ∧ i = .int .i64 k ∧ NumMap wr w.heap.size ((fs.take k).map Fl.name) ∧ Below w.heap.size w wr) (fun i _ => fs.length - (intOf i).toNat)
  case atStart => exact ⟨0, Nat.zero_le _, rfl, hm0, hB0⟩
  case round =>
    clear hm0 hB0
    obtain ⟨k, hk, rfl, hnum, hB⟩ := hrel
    by_cases hlt : k < fs.length
    · obtain ⟨g, rfl, hg, c0, c1⟩ := HAT.out k hlt
      replace c0 := (hB.cell (p := ⟨g, k * 2, none⟩) hg).trans c0
      replace c1 := (hB.cell (p := ⟨g, k * 2 + 1, none⟩) hg).trans c1
      have hnl : ((fs.take k).map Fl.name).length = k := by simp; omega
      have hns : (fs.take (k + 1)).map Fl.name = (fs.take k).map Fl.name ++ [fs[k].name] := by rw [List.take_succ_eq_append_getElem hlt, List.map_append]; rfl
      have hnn : fs[k].name ∉ (fs.take k).map Fl.name := by
        have hnd := HC.out.once
        have h2 : (fs.take (k + 1)).map Fl.name <+: fs.map Fl.name := (List.take_prefix _ _).map _
        have h3 := hnd.sublist h2.sublist
        rw [hns, List.nodup_append] at h3
        intro hmem
        exact h3.2.2 _ hmem _ (by simp) rfl
      have r4 := fun v (h : NumMap v w.heap.size ((fs.take k).map Fl.name)) => enter_yes w.heap.size _ fs[k].name v h (by omega) (HC.out.name _ (List.getElem_mem hlt)) hnn
      rw [hnl, ← hns] at r4
      have R4 := Lib.hid r4
      have HNUM := Lib.hid (hnum.below ((Below.refl _ wr).alloc (Nat.le_refl _) (.cells #[.string fs[k].name, .string fs[k].data] 32)) (by obtain ⟨_, _, h, _⟩ := hnum; exact (Array.getElem?_eq_some_iff.1 h).1))
      have HB2 := Lib.hid (hB.alloc hB.size (.cells #[.string fs[k].name, .string fs[k].data] 32))
      clear r4 hnl hns hnn hnum hB
      go_wp2_with (go_at_call 26; refine (R4.out _ HNUM.out).mono ?_; rintro e v1 ⟨rfl, hb1, hm1⟩)
      go_roundw
      case rel => exact ⟨k + 1, by omega, by go_num, hm1, HB2.out.trans (hb1.below (B := w.heap.size) HB2.out.size (fun j e => by omega))⟩
      case measure => simp [intOf]; omega
    · obtain rfl : k = fs.length := by omega
      have hf2 := HF.out.below hB
      have HF2 := Lib.hid hf2
      have HB := Lib.hid hB
      clear hf2 hB hnum
      go_wp2_with (first
        | (go_at_call 27; refine (Q1.out _ HF2.out).mono ?_; rintro e v1 ⟨gi, gl, ls, vs, rfl, hst, _, hb1⟩)
        | (go_at_call 28; refine (Q2.out _ (HF2.out.below hb1) _ _ _ _ _ hst).mono ?_; rintro e v2 ⟨g, rfl, hg, hgl, hb2⟩))
      go_ret2
      exact ⟨g, rfl, hg, Nat.le_trans HB.out.size (Nat.le_trans hb1.size hgl), (HB.out.trans (hb1.mono HB.out.size)).trans (hb2.mono (Nat.le_trans HB.out.size hb1.size))⟩
end Go.Proofs.YtgkhgjihjbjfnaaDoor
