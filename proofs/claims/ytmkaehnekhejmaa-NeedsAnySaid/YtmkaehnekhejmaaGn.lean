/- Layer 12: awake. -/
import Derived.Test.YtmkaehnekhejmaaGm
namespace Go.Proofs.Ytmkaehnekhejmaa
open Go.RowKit
set_option linter.unusedVariables false
set_option linter.unusedSimpArgs false

/-- The chapter's example. -/
def tB (c : UInt8) : ByteArray := ⟨#[c]⟩
def awL : List Lb := [⟨tB 97, [tB 98, tB 99]⟩, ⟨tB 98, [tB 100]⟩, ⟨tB 99, [tB 100, tB 97]⟩, ⟨tB 100, []⟩]
theorem aw_facts : ordE awL (tB 97) = 0 ∧ ordN awL (tB 97) = [tB 97, tB 98, tB 99, tB 100] ∧ rndW awL (tB 97) = true ∧ depW awL (tB 97) (tB 100) = 2 := by decide +kernel

theorem strRow2 {w : World} {g : Nat} {cs : Array Value} {l : List ByteArray} (h : Blk w g 9 cs) (e : cs = (strs l).toArray) (hs : ∀ x ∈ l, x.size ≤ maxLen) : StrRow w (some ⟨g, 0, none⟩) l := strRow_blk (by rw [← e]; exact h) hs
theorem addr0 (g i : Nat) : (⟨g, 0, none⟩ : Addr).add i = ⟨g, i, none⟩ := by unfold Addr.add; split <;> simp_all
/-- A library of a block of libraries. -/
theorem lbAt_blk {w : World} {g i : Nat} {cs : Array Value} {b : Lb} {An : Option Addr} {cn : Nat} (h : Blk w g 27 cs) (h0 : cs[i * 2]? = some (.string b.name)) (h1 : cs[i * 2 + 1]? = some (.slice An b.need.length cn)) (hr : StrRow w An b.need) (hn : b.name.size ≤ maxLen) (hl : b.need.length ≤ 100000) : LbAt w ⟨g, 0, none⟩ i b An cn := by
  refine ⟨?_, ?_, hr, hn, hl⟩
  · rw [addr0, h.cell]; exact h0
  · rw [addr0]
    exact (h.cell (i * 2 + 1)).trans h1
set_option maxRecDepth 100000 in
theorem aw_row (W : World) (B : Nat) (h0 : Blk W B 9 #[.string (tB 98), .string (tB 99)]) (h1 : Blk W (B + 1) 9 #[.string (tB 100)]) (h2 : Blk W (B + 2) 9 #[.string (tB 100), .string (tB 97)])
    (h3 : Blk W (B + 3) 27 #[.string (tB 97), .slice (some ⟨B, 0, none⟩) 2 2, .string (tB 98), .slice (some ⟨B + 1, 0, none⟩) 1 1, .string (tB 99), .slice (some ⟨B + 2, 0, none⟩) 2 2, .string (tB 100), .slice none 0 0]) :
    LibRow W (some ⟨B + 3, 0, none⟩) awL := by
  have hz : ∀ c, (tB c).size ≤ maxLen := fun c => by show (1 : Nat) ≤ maxLen; decide
  intro i hi
  have hl : awL.length = 4 := rfl
  refine ⟨⟨B + 3, 0, none⟩, ?_⟩
  match i, hi with
  | 0, _ => exact ⟨_, _, rfl, h3.lt, lbAt_blk h3 rfl rfl (strRow2 h0 rfl (by intro x hx; simp [awL] at hx; rcases hx with rfl | rfl <;> exact hz _)) (hz _) (by show _ ≤ 100000; simp [awL])⟩
  | 1, _ => exact ⟨_, _, rfl, h3.lt, lbAt_blk h3 rfl rfl (strRow2 h1 rfl (by intro x hx; simp [awL] at hx; rcases hx with rfl; exact hz _)) (hz _) (by show _ ≤ 100000; simp [awL])⟩
  | 2, _ => exact ⟨_, _, rfl, h3.lt, lbAt_blk h3 rfl rfl (strRow2 h2 rfl (by intro x hx; simp [awL] at hx; rcases hx with rfl | rfl <;> exact hz _)) (hz _) (by show _ ≤ 100000; simp [awL])⟩
  | 3, _ => exact ⟨none, 0, rfl, h3.lt, lbAt_blk h3 rfl rfl (fun i hi => absurd hi (by simp [awL])) (hz _) (by show _ ≤ 100000; simp [awL])⟩
  | i + 4, hi => rw [hl] at hi; omega
set_option maxRecDepth 100000 in
set_option maxHeartbeats 3200000 in
theorem awake_any (w : World) : Calls Try.prog 7 #[] w fun e w' => e = .returned (.bool true) ∧ Below w.heap.size w w' := by
  obtain ⟨B, hB⟩ : ∃ B, w.heap.size = B := ⟨_, rfl⟩
  obtain ⟨W, hW⟩ : ∃ W, (((w.alloc (.cells #[.string (tB 98), .string (tB 99)] 9)).alloc (.cells #[.string (tB 100)] 9)).alloc (.cells #[.string (tB 100), .string (tB 97)] 9)).alloc (.cells #[.string (tB 97), .slice (some ⟨B, 0, none⟩) 2 2, .string (tB 98), .slice (some ⟨B + 1, 0, none⟩) 1 1, .string (tB 99), .slice (some ⟨B + 1 + 1, 0, none⟩) 2 2, .string (tB 100), .slice none 0 0] 27) = W := ⟨_, rfl⟩
  have hF : LibRow W (some ⟨B + 3, 0, none⟩) awL ∧ Below B w W := by
    subst hW hB
    have b1 := blk_two w (.cells #[.string (tB 98), .string (tB 99)] 9) 9 #[.string (tB 100)]
    have b2 := Blk.new ((w.alloc (.cells #[.string (tB 98), .string (tB 99)] 9)).alloc (.cells #[.string (tB 100)] 9)) 9 #[.string (tB 100), .string (tB 97)]
    have b3 := Blk.new (((w.alloc (.cells #[.string (tB 98), .string (tB 99)] 9)).alloc (.cells #[.string (tB 100)] 9)).alloc (.cells #[.string (tB 100), .string (tB 97)] 9)) 27 #[.string (tB 97), .slice (some ⟨w.heap.size, 0, none⟩) 2 2, .string (tB 98), .slice (some ⟨w.heap.size + 1, 0, none⟩) 1 1, .string (tB 99), .slice (some ⟨w.heap.size + 1 + 1, 0, none⟩) 2 2, .string (tB 100), .slice none 0 0]
    simp only [World.size_alloc] at b2 b3
    exact ⟨aw_row _ _ ((((Blk.new w _ _).alloc _).alloc _).alloc _) ((b1.alloc _).alloc _) (b2.alloc _) b3, ((((Below.refl _ _).alloc (Nat.le_refl _) _).alloc (by simp) _).alloc (by simp; omega) _).alloc (by simp; omega) _⟩
  have HF := Lib.hid hF
  have hz : ∀ c, (tB c).size ≤ maxLen := fun c => by show (1 : Nat) ≤ maxLen; decide
  obtain ⟨f1, f2, f3, f4⟩ := aw_facts
  have HO : Hid (∀ v, Below W.heap.size W v → Calls Try.prog 9 #[.slice (some ⟨B + 3, 0, none⟩) 4 4, .string (tB 97)] v fun e v' => ∃ A c, e = .returned (.tuple #[.slice A 4 c, .int .i64 0]) ∧ StrRow v' A [tB 97, tB 98, tB 99, tB 100] ∧ Below v.heap.size v v') := Lib.hid (fun v hv => (order_any awL (tB 97) _ 4 v (hF.1.below rfl hv) (by decide) (hz _)).mono (by
    rintro e v' ⟨A, c, he, hr, hb⟩
    rw [f1, f2] at he
    rw [f2] at hr
    exact ⟨A, c, he, hr, hb⟩))
  have hRo := fun v (hv : Below W.heap.size W v) => round_any awL (tB 97) _ 4 v (hF.1.below rfl hv) (by decide) (hz _)
  have hDe := fun v (hv : Below W.heap.size W v) => depth_any awL (tB 97) (tB 100) _ 4 v (hF.1.below rfl hv) (by decide) (hz _) (hz _)
  rw [f3] at hRo
  rw [f4] at hDe
  have HRo := Lib.hid hRo
  have HDe := Lib.hid hDe
  have HW := Lib.hid hW
  have HZ := Lib.hid hz
  have HBQ := Lib.hid hB
  unfold tB at HW HO HRo HDe
  clear hF hRo hDe hW f1 f2 f3 f4 hz
  go_enter Try.func7, Try.ntmps7
  go_upto_region 2 with fail
  rw [HW.out]
  go_upto_region 3 with (go_at_call 9; refine (HO.out _ (Below.refl _ _)).mono ?_; rintro e w1 ⟨A, c, rfl, hr1, hb1⟩)
  have hbb : Below W.heap.size W (w1.alloc (.cells #[.string (tB 97), .string (tB 98), .string (tB 99), .string (tB 100)] 9)) := hb1.alloc hb1.size _
  have hr2 : StrRow (w1.alloc (.cells #[.string (tB 97), .string (tB 98), .string (tB 99), .string (tB 100)] 9)) (some ⟨w1.heap.size, 0, none⟩) [tB 97, tB 98, tB 99, tB 100] := strRow2 (Blk.new w1 _ _) rfl (by intro x hx; simp at hx; rcases hx with rfl | rfl | rfl | rfl <;> exact HZ.out _)
  have hT := texts_any [tB 97, tB 98, tB 99, tB 100] [tB 97, tB 98, tB 99, tB 100] A _ c 4 _ (strRow_belowG hr1 rfl ((Below.refl w1.heap.size w1).alloc (Nat.le_refl _) _)) hr2 (by decide) (by decide)
  rw [decide_eq_true rfl] at hT
  have HT : Hid (Calls Try.prog 11 #[.slice A 4 c, .slice (some ⟨w1.heap.size, 0, none⟩) 4 4] (w1.alloc (.cells #[.string (tB 97), .string (tB 98), .string (tB 99), .string (tB 100)] 9)) fun e w' => e = .returned (.bool true) ∧ Below (w1.alloc (.cells #[.string (tB 97), .string (tB 98), .string (tB 99), .string (tB 100)] 9)).heap.size (w1.alloc (.cells #[.string (tB 97), .string (tB 98), .string (tB 99), .string (tB 100)] 9)) w') := Lib.hid hT
  have HBB := Lib.hid hbb
  unfold tB at HT HBB
  clear hT hbb hr2 hr1 hb1
  go_wp2_with (first
    | (go_at_call 11; refine (HT.out).mono ?_; rintro e w3 ⟨rfl, hb3⟩; have HB3 := Lib.hid (HBB.out.trans (hb3.mono HBB.out.size)); clear hb3)
    | (go_at_call 14; refine (HRo.out _ HB3.out).mono ?_; rintro e w4 ⟨rfl, hb4⟩; have HB4 := Lib.hid (HB3.out.trans (hb4.mono HB3.out.size)); clear hb4)
    | (go_at_call 18; refine (HDe.out _ HB4.out).mono ?_; rintro e w5 ⟨rfl, hb5⟩; have HB5 := Lib.hid (HB4.out.trans (hb5.mono HB4.out.size)); clear hb5))
  go_ret
  exact ⟨rfl, by rw [HBQ.out]; exact HF.out.2.trans (HB5.out.mono (by have := HF.out.2.size; have := HBQ.out; omega))⟩
end Go.Proofs.Ytmkaehnekhejmaa
