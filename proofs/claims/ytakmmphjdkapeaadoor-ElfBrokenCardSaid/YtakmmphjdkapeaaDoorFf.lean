/- Layer 8: images of plain numbers as files; total. -/
import Derived.Test.YtakmmphjdkapeaaDoorFe
namespace Go.Proofs.YtakmmphjdkapeaaDoor
open Go.RowKit
set_option linter.unusedVariables false
set_option linter.unusedSimpArgs false

theorem SpecIn.In.below {p : SpecIn} {w v : World} (h : p.In w) (hb : Below w.heap.size w v) : p.In v := ⟨h.kind, h.entry, h.len, h.cap, h.row.below hb⟩
theorem img_fits (p : SpecIn) : p.img.Fits := ⟨by have := (img_kind p).1; omega, by have := (img_kind p).2; omega, by have := img_len p; omega, fun s hs => May.fits (img_may p s hs)⟩
/-- A file that begins so has the image, and no other. -/
theorem file_parse {p : SpecIn} {f : ByteArray} (hne : p.img.segs ≠ []) (hs : (f.size : Int) = p.size) (hf : ∀ j, j < 64 + 56 * p.img.segs.length → freeK p.img.segs.length j = false → f.data.toList.getD j 0 = p.img.headL.getD j 0) : parseX f = p.img ∧ parseE f = 0 := by
  have hl := img_len p
  have hz := size_in p
  obtain ⟨h1, h2⟩ := read_written (img_fits p) rfl (by omega) hf
  have hb : parseB f = true := by
    unfold parseB
    rw [h1, h2, hs, img_chk p, decide_eq_true hne]
    rfl
  unfold parseX parseE
  rw [hb, h1]
  exact ⟨rfl, rfl⟩
/-- Cut to 1000 bytes it has none. -/
theorem file_less {p : SpecIn} {f : ByteArray} (hne : p.img.segs ≠ []) (hs : f.size = 1000) (hf : ∀ j, j < 64 + 56 * p.img.segs.length → freeK p.img.segs.length j = false → f.data.toList.getD j 0 = p.img.headL.getD j 0) : parseX f = Img.zero ∧ parseE f = 16 := by
  have hl := img_len p
  obtain ⟨h1, h2⟩ := read_written (img_fits p) rfl (by omega) hf
  have hb : parseB f = false := by
    cases hb : parseB f
    · rfl
    · exfalso
      unfold parseB at hb
      rw [h1] at hb
      simp only [Bool.and_eq_true] at hb
      have hm := chk_may hb.1
      obtain ⟨s, l, hsl⟩ : ∃ s l, p.img.segs = s :: l := by
        cases h : p.img.segs with
        | nil => exact absurd h hne
        | cons s l => exact ⟨s, l, rfl⟩
      have hmem : s ∈ p.img.segs := by rw [hsl]; simp
      have ht := img_ty p s hmem
      have h3 := (hm s hmem).both (.inl ht.1)
      have h4 := (hm s hmem).sz
      rw [hs] at h3
      omega
  unfold parseX parseE
  rw [hb]
  exact ⟨rfl, rfl⟩

set_option maxRecDepth 100000 in
set_option maxHeartbeats 1600000 in
theorem total_any (x : Img) (A : Option Addr) (c : Nat) (w : World) (hr : SegRow w A x.segs) (hl : x.segs.length ≤ 16) (hne : x.segs ≠ []) (ho : ∀ s, s ∈ x.segs → 1024 ≤ s.off ∧ s.off ≤ 1099511627776) :
    Calls Tryd.prog 22 #[x.v A c] w fun e w' => (∃ t, e = .returned (.int .i64 t) ∧ 0 < t) ∧ Below w.heap.size w w' := by
  obtain ⟨kind, entry, segs⟩ := x
  unfold Img.v
  simp only at *
  have hlp : 1 ≤ segs.length := List.length_pos_iff.2 hne
  obtain ⟨n, hn⟩ : ∃ n, segs.length = n := ⟨_, rfl⟩
  rw [hn] at hl hlp ⊢
  obtain ⟨W, hW⟩ : ∃ W, w.alloc (.cells #[.int .i64 kind, .int .i64 entry, .slice A n c] 24) = W := ⟨_, rfl⟩
  have hB : Below w.heap.size w W := by rw [← hW]; exact (Below.refl _ _).alloc (Nat.le_refl _) _
  have hK : Blk W w.heap.size 24 #[.int .i64 kind, .int .i64 entry, .slice A n c] := by rw [← hW]; exact Blk.new w _ _
  have x2 : W.cell? ⟨w.heap.size, 2, none⟩ = some (.slice A n c) := hK.at_ 2 _ rfl
  have HR := Lib.hid (hr.below hB)
  have HN := Lib.hid hn
  have HO := Lib.hid ho
  have HB := Lib.hid hB
  have HW := Lib.hid hW
  clear hr hn ho hB hW hK hne
  go_enter Tryd.func22, Tryd.ntmps22
  go_upto_region 1 with fail
  rw [HW.out]
  go_wp2
  go_loopw [3, 4] (fun t i wr => ∃ (k : Nat) (T : Int), k ≤ n ∧ i = .int .i64 k ∧ t = .int .i64 T ∧ (k : Int) * 1024 ≤ T ∧ T ≤ (k : Int) * 1099511627776 ∧ wr = W) (fun _ i _ => n - (intOf i).toNat)
  case atStart => exact ⟨0, 0, Nat.zero_le _, rfl, rfl, by omega, by omega, rfl⟩
  case round =>
    obtain ⟨k, T, hk, rfl, rfl, hT1, hT2, rfl⟩ := hrel
    by_cases hlt : k < n
    · have hkl : k < segs.length := by rw [HN.out]; exact hlt
      obtain ⟨ad, rfl, hblt, hwf, d0, d1, d2, d3, d4, d5, d6⟩ := HR.out.at_ hkl
      have ho := HO.out _ (List.getElem_mem hkl)
      generalize segs[k].off = o at *
      obtain ⟨T2, hT⟩ : ∃ z, T + o = z := ⟨_, rfl⟩
      have hw : IntKind.i64.wrap (T + o) = T2 := by rw [IntWalk.i64_in _ (by omega)]; exact hT
      have HH := Lib.hid (show ((k + 1 : Nat) : Int) * 1024 ≤ T2 ∧ T2 ≤ ((k + 1 : Nat) : Int) * 1099511627776 from by omega)
      clear d0 d1 d3 d4 d5 d6 hT hT1 hT2 ho hwf
      go_wp2
      go_roundw
      case rel => exact ⟨k + 1, T2, by omega, by go_num, rfl, HH.out.1, HH.out.2, by first | rfl | trivial⟩
      case measure => simp [intOf]; omega
    · obtain rfl : k = n := by omega
      have HT := Lib.hid (show 0 < T from by omega)
      clear hT1 hT2
      go_wp2
      go_ret
      exact ⟨⟨T, rfl, HT.out⟩, HB.out⟩
end Go.Proofs.YtakmmphjdkapeaaDoor
