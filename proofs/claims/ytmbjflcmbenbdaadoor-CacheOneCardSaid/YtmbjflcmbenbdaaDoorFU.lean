/- Package files: Build. -/
import Derived.Test.YtmbjflcmbenbdaaDoorFS
namespace Go.Proofs.YtmbjflcmbenbdaaDoor
open Go.RowKit Go.Shelf Go.Maps
set_option linter.unusedVariables false
set_option linter.unusedSimpArgs false

/-- Files of which a disk can be made. -/
structure CanBe (fs : List Fl) (s : Nat) : Prop where
  many : fs.length ≤ 64
  name : ∀ f ∈ fs, nameOk f.name = true
  once : (fs.map Fl.name).Nodup
  data : ∀ f ∈ fs, f.data.size ≤ 1048576
  room : 1 + fs.length + (Laid.rows fs s 4).dat.length ≤ 16384
/-- The sectors of the disk. -/
def builtL (fs : List Fl) (s : Nat) : List ByteArray := diskL fs (Laid.rows fs s 4).ex (Laid.rows fs s 4).dat
/-- It was built. -/
def Built (w : World) (L : List ByteArray) (e : Ending) (w' : World) : Prop := ∃ g, e = .returned (.tuple #[.slice (some ⟨g, 0, none⟩) L.length L.length, .int .i64 0]) ∧ Blk w' g 9 (strs L).toArray ∧ w.heap.size ≤ g ∧ Below w.heap.size w w'

end Go.Proofs.YtmbjflcmbenbdaaDoor

/- Package files: what was built, is a disk of these files. -/
namespace Go.Proofs.YtmbjflcmbenbdaaDoor
open Go.RowKit Go.Shelf Go.Maps
set_option linter.unusedVariables false
set_option linter.unusedSimpArgs false

theorem fillL_fillL (l : List UInt8) : fillL (fillL l 64) 64 = fillL l 64 := by
  have h := fillL_length l 64
  generalize fillL l 64 = r at *
  unfold fillL
  rw [List.take_of_length_le (by omega), h]
  simp
theorem fill64_fill (l : List UInt8) : fill64 (mkb (fillL l 64)) = mkb (fillL l 64) := by
  unfold fill64
  rw [mkb_data, fillL_fillL]
theorem built_fill {fs : List Fl} {s : Nat} (h1 : 1 ≤ s) : (builtL fs s).map fill64 = builtL fs s := by
  have hok := LaidOk.rows fs h1 4 (by omega)
  apply List.ext_getElem?
  intro p
  rw [List.getElem?_map]
  rcases Nat.lt_or_ge p (builtL fs s).length with h | h
  · obtain ⟨v, hv⟩ : ∃ v, (builtL fs s)[p]? = some v := ⟨_, List.getElem?_eq_getElem h⟩
    rw [hv, Option.map_some]
    congr 1
    have hmem := List.mem_of_getElem? hv
    unfold builtL diskL at hmem
    rw [List.mem_append, List.mem_cons, List.mem_map] at hmem
    rcases hmem with (rfl | ⟨x, _, rfl⟩) | hmem
    · exact fill64_fill _
    · exact fill64_fill _
    · obtain ⟨q, hq, rfl⟩ := List.getElem_of_mem hmem
      obtain ⟨j, hj, t, ht, n, hn, he⟩ := hok.all q hq
      have hj' : j < fs.length := by rw [← hok.len]; exact hj
      have h3 := (hok.put j hj' hj t ht).2.2 n hn
      rw [show (Laid.rows fs s 4).ex[j][t].1 - (1 + fs.length) + n = q by have := (hok.put j hj' hj t ht).1; omega, List.getElem?_eq_getElem hq] at h3
      rw [Option.some.inj h3]
      exact fill64_fill _
  · rw [List.getElem?_eq_none h]; rfl
theorem inosOf_names {fs : List Fl} {ex : List (List (Nat × Nat))} (h : ex.length = fs.length) : (inosOf fs ex).map Ino.name = fs.map Fl.name := by
  apply List.ext_getElem?
  intro j
  rw [List.getElem?_map, List.getElem?_map]
  rcases Nat.lt_or_ge j fs.length with hj | hj
  · have hj2 : j < (inosOf fs ex).length := by rw [inosOf_length h]; exact hj
    obtain ⟨_, _, e⟩ := inosOf_at hj2
    rw [List.getElem?_eq_getElem hj2, List.getElem?_eq_getElem hj, e]
    rfl
  · rw [List.getElem?_eq_none (by rw [inosOf_length h]; exact hj), List.getElem?_eq_none hj]
    rfl
theorem dat_len {fs : List Fl} {s : Nat} {L : Laid} (h : LaidOk fs s 4 0 L) : L.dat.length = (fs.map Fl.pg).sum := by
  rw [h.sum]
  congr 1
  apply List.ext_getElem?
  intro j
  rw [List.getElem?_map, List.getElem?_map]
  rcases Nat.lt_or_ge j fs.length with hj | hj
  · have hj2 : j < L.ex.length := by rw [h.len]; exact hj
    have hc := h.cut j hj hj2
    rw [if_neg (by omega), List.take_of_length_le (cuts_len _ _)] at hc
    rw [List.getElem?_eq_getElem hj, List.getElem?_eq_getElem hj2, Option.map_some, Option.map_some, hc, cuts_sum]
  · rw [List.getElem?_eq_none (by rw [h.len]; exact hj), List.getElem?_eq_none hj]
    rfl
/-- The inodes of what was built. -/
def builtX (fs : List Fl) (s : Nat) : List Ino := inosOf fs (Laid.rows fs s 4).ex
theorem builtX_length {fs : List Fl} {s : Nat} (h1 : 1 ≤ s) : (builtX fs s).length = fs.length := inosOf_length (LaidOk.rows fs h1 4 (by omega)).len
theorem builtX_at {fs : List Fl} {s : Nat} (h1 : 1 ≤ s) {k : Nat} (hk : k < (builtX fs s).length) : ∃ (h : k < fs.length) (h' : k < (Laid.rows fs s 4).ex.length), (builtX fs s)[k] = ⟨fs[k].name, fs[k].data.size, (Laid.rows fs s 4).ex[k]⟩ := inosOf_at hk
theorem builtL_length {fs : List Fl} {s : Nat} (h1 : 1 ≤ s) : (builtL fs s).length = 1 + fs.length + (Laid.rows fs s 4).dat.length := diskL_length _ (LaidOk.rows fs h1 4 (by omega)).len
theorem built_disk {fs : List Fl} {s : Nat} (hc : CanBe fs s) (h1 : 1 ≤ s) (D : Dsk) (hD : D.S = builtL fs s) : OnDisk D (builtL fs s).length (builtX fs s) := by
  have hok := LaidOk.rows fs h1 4 (by omega)
  have hl := builtL_length (fs := fs) h1
  have hxl := builtX_length (fs := fs) h1
  have hroom := hc.room
  refine ⟨by rw [hxl]; exact hc.many, by rw [hD], ?_, ?_, ?_, ?_, by rw [hD, hl]; exact hroom⟩
  · rw [hD, hxl, hl]; rfl
  · intro k hk
    rw [hD]
    exact diskL_ino _ hok.len k hk
  · intro x hx
    obtain ⟨k, hk, rfl⟩ := List.getElem_of_mem hx
    obtain ⟨h2, h3, e⟩ := builtX_at h1 hk
    obtain ⟨hsm, h4, hah⟩ := hok.small hc.data hroom k h2 h3
    have hcut := hok.cut k h2 h3
    rw [if_neg (by omega), List.take_of_length_le (cuts_len _ _)] at hcut
    rw [e]
    have hput : ∀ e ∈ (Laid.rows fs s 4).ex[k], 1 ≤ e.2 ∧ 1 + fs.length ≤ e.1 ∧ e.1 + e.2 ≤ 1 + fs.length + (Laid.rows fs s 4).dat.length := fun e he => by
      obtain ⟨t, ht, rfl⟩ := List.getElem_of_mem he
      have h5 := hok.put k h2 h3 t ht
      refine ⟨?_, h5.1, h5.2.1⟩
      have h6 : (Laid.rows fs s 4).ex[k][t].2 ∈ (Laid.rows fs s 4).ex[k].map (·.2) := List.mem_map.2 ⟨_, he, rfl⟩
      rw [hcut] at h6
      exact cuts_pos h1 _ h6
    refine ⟨⟨hc.name _ (List.getElem_mem h2), hc.data _ (List.getElem_mem h2), h4, fun e he => ?_⟩, ⟨fun e he => ?_, hc.data _ (List.getElem_mem h2), hah⟩⟩
    · have := hput e he
      omega
    · rw [hxl, hl]
      exact hput e he
  · unfold builtX
    rw [inosOf_names hok.len]
    exact hc.once
theorem built_data {fs : List Fl} {s : Nat} (h1 : 1 ≤ s) (D : Dsk) (hD : D.S = builtL fs s) (k : Nat) (hk : k < (builtX fs s).length) (h2 : k < fs.length) : HasData D (builtX fs s)[k] fs[k].data := by
  have hok := LaidOk.rows fs h1 4 (by omega)
  obtain ⟨_, h3, e⟩ := builtX_at h1 hk
  rw [e]
  exact ⟨rfl, fun t ht n hn => by rw [hD]; exact part_page hok k h2 h3 t ht n hn⟩

/-- A disk D was made, in new blocks. -/
def Made (w : World) (D : Dsk) (e : Ending) (w' : World) : Prop := ∃ p g, e = .returned (.pointer (some ⟨p, 0, none⟩)) ∧ w.heap.size ≤ p ∧ w.heap.size ≤ g ∧ Below w.heap.size w w' ∧ Dk w' p g D
theorem of_strs (g : Nat) (l : List ByteArray) (w : World) (h1 : 1 ≤ l.length) (h2 : l.length ≤ 16384) (hg : Blk w g 9 (strs l).toArray) : Calls Tryd.prog 21 #[.slice (some ⟨g, 0, none⟩) l.length l.length] w (Made w ⟨l.map fill64, 0, 0, 0⟩) :=
  (of_yes ⟨g, 0, none⟩ l l.length w h1 h2 hg.lt (fun i hi => by
    rw [show (⟨g, 0, none⟩ : Addr).add i = ⟨g, i, none⟩ by unfold Addr.add; split <;> simp_all]
    exact hg.at_ i _ (by simp [strs, hi]))).mono fun _ _ ⟨he, hb, hd⟩ => ⟨_, _, he, by omega, Nat.le_refl _, hb, hd⟩
theorem of_built {fs : List Fl} {s : Nat} (hc : CanBe fs s) (h1 : 1 ≤ s) (g : Nat) (w : World) (hg : Blk w g 9 (strs (builtL fs s)).toArray) : Calls Tryd.prog 21 #[.slice (some ⟨g, 0, none⟩) (builtL fs s).length (builtL fs s).length] w (Made w ⟨builtL fs s, 0, 0, 0⟩) := by
  have h := of_strs g (builtL fs s) w (by rw [builtL_length h1]; omega) (by rw [builtL_length h1]; exact hc.room) hg
  rw [built_fill h1] at h
  exact h
end Go.Proofs.YtmbjflcmbenbdaaDoor

/- Layer 4: awake. -/
namespace Go.Proofs.YtmbjflcmbenbdaaDoor
open Go.RowKit Go.Shelf Go.Maps
set_option linter.unusedVariables false
set_option linter.unusedSimpArgs false

/-- The chapter's example. -/
def exF : Fl := ⟨⟨#[97]⟩, ⟨#[104, 101, 108, 108, 111]⟩⟩
theorem exF_pg : exF.pg = 1 := by decide
theorem ex_can : CanBe [exF] 1 := by
  refine ⟨by simp, by decide +kernel, by simp, by decide +kernel, ?_⟩
  rw [dat_len (LaidOk.rows [exF] (Nat.le_refl 1) 4 (by omega))]
  simp [exF_pg]
theorem page_zero (d : ByteArray) : pageOf d 0 = fillS d 64 := by
  unfold pageOf fillS
  rw [if_neg (by omega)]
  simp

end Go.Proofs.YtmbjflcmbenbdaaDoor
