/- Package files: fill's closure. -/
import Derived.Test.YtgkhgjihjbjfnaaDoorFO
import Derived.StillTailTactics
import Derived.Deep.RegionHeld3
namespace Go.Proofs.YtgkhgjihjbjfnaaDoor
open Go.RowKit Go.Shelf
set_option linter.unusedVariables false
set_option linter.unusedSimpArgs false

theorem fillS_64 (s : ByteArray) : fillS s 64 = fill64 s := rfl
theorem strs_set (cs : List ByteArray) (k : Nat) (s : ByteArray) : (strs cs).toArray.setIfInBounds k (.string s) = (strs (cs.set k s)).toArray := by
  unfold strs
  rw [List.map_set]
  simp
/-- The sectors lie at gs, the variable that holds them at bs. -/
structure Secs (W : World) (bs gs : Nat) (cs : List ByteArray) : Prop where
  var : Blk W bs 26 #[.slice (some ⟨gs, 0, none⟩) cs.length cs.length]
  row : Blk W gs 9 (strs cs).toArray
theorem Secs.below {W W' : World} {bs gs : Nat} {cs : List ByteArray} (h : Secs W bs gs cs) (hb : Below W.heap.size W W') : Secs W' bs gs cs := ⟨h.var.below hb h.var.lt, h.row.below hb h.row.lt⟩
theorem Secs.drew {W : World} {bs gs : Nat} {cs : List ByteArray} (h : Secs W bs gs cs) : Secs W.drew bs gs cs := ⟨h.var.drew, h.row.drew⟩
theorem Secs.ne {W : World} {bs gs : Nat} {cs : List ByteArray} (h : Secs W bs gs cs) : bs ≠ gs := by
  rintro rfl
  have h1 := h.var
  have h2 := h.row
  unfold Blk at h1 h2
  rw [h1] at h2
  injection h2 with h2
  injection h2 with _ h3 _
  exact absurd h3 (by decide)

set_option maxRecDepth 100000 in
set_option maxHeartbeats 1600000 in
theorem put_sec (bs gs : Nat) (cs : List ByteArray) (k : Nat) (s : ByteArray) (w : World) (h : Secs w bs gs cs) (hk : k < cs.length) (hs : s.size ≤ 1000000000) (z : Int) (hz : z = k) :
    Calls Tryd.prog 47 #[.int .i64 z, .string s, .pointer (some ⟨bs, 0, none⟩)] w fun e w' => e = .returned (.tuple #[]) ∧ Secs w' bs gs (cs.set k (fill64 s)) ∧ But (· = gs) w w' := by
  subst hz
  have h1 := fun w => fill_any s 64 w (by decide) (by omega) (by omega)
  rw [fillS_64] at h1
  have H1 := Lib.hid h1
  have a0 := h.var.drew.at_ 0 _ rfl
  have a1 := h.row.drew.at_ k (.string cs[k]) (by simp [strs, hk])
  have a2 := h.row.drew.frozen k
  have HS := Lib.hid h.drew
  have HB := Lib.hid (But.refl (· = gs) w).drew
  have hne := h.ne
  have hne2 := h.ne.symm
  have hlb := h.var.lt
  have hlg := h.row.lt
  clear h1 h
  go_enter Tryd.func47, Tryd.ntmps47
  go_region_held3 (fun w' => w'.cell? ⟨bs, 0, none⟩ = some (.slice (some ⟨gs, 0, none⟩) cs.length cs.length))
    (first | exact a0 | exact (HS.out.var.far (p := ⟨gs, k, none⟩) hne _).at_ 0 _ rfl)
    (first
    | (go_at_call 45; with_reducible refine (H1.out _).mono ?_; rintro e v1 ⟨rfl, hb⟩; have HS2 := Lib.hid (HS.out.below hb); have HB2 := Lib.hid (HB.out.trans (But.of_below hb)); clear a0 a1 a2 HS HB; have HS := HS2; have HB := HB2; have a0 := HS.out.var.at_ 0 _ rfl; have a1 := HS.out.row.at_ k (.string cs[k]) (by simp [strs, hk]); have a2 := HS.out.row.frozen k; clear hb HS2 HB2))
  have hvar := HS.out.var.far (p := ⟨gs, k, none⟩) hne (.string (fill64 s))
  have hrow := HS.out.row.set_ k (.string (fill64 s))
  rw [strs_set] at hrow
  refine bodyPost_end (results_none rfl _ _ _) rfl ⟨rfl, ⟨by rw [List.length_set]; exact hvar, hrow⟩, HB.out.setCell (p := ⟨gs, k, none⟩) (.inl rfl) _⟩
end Go.Proofs.YtgkhgjihjbjfnaaDoor
