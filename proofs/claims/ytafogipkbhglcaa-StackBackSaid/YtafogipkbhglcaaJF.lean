/- Package stack: Build's closure over texts. -/
import Derived.Test.YtafogipkbhglcaaJE
namespace Go.Proofs.Ytafogipkbhglcaa
open Go.RowKit
set_option linter.unusedVariables false
set_option linter.unusedSimpArgs false

theorem bdAt_set {B b a : Nat} {p : Value} {l : List Value} {w : World} {t : TypeId} {cs : Array Value} (h : Lib.BuilderAt 62 5 B b p l w) (ha : Blk w a t cs) (h1 : t ≠ 62) (h2 : t ≠ 5) (j : Nat) (u : Value) :
    Lib.BuilderAt 62 5 B b p l (w.setCell ⟨a, j, none⟩ u) := by
  obtain ⟨hB, v, hk, ho, hn⟩ := h
  have hne : a ≠ b := Kp.other ha hk h1
  have hg : w.grownBy (w.setCell ⟨a, j, none⟩ u) (some a) := ⟨rfl, rfl, rfl, by simp [World.setCell], fun k _ hk => Below.heap_setCell _ _ _ _ (fun e => hk (by rw [e]))⟩
  refine ⟨hB, v, (Below.heap_setCell w ⟨a, j, none⟩ u b (fun e => hne e.symm)).trans hk, ho.kept hg ?_, hn⟩
  rcases hv : v.ownBlock with _ | g
  · exact .inl rfl
  · refine .inr fun e => ?_
    rcases ho.2 with ⟨rfl, _⟩ | ⟨g1, cap, cur, rfl, _, hb, _⟩
    · cases hv
    · have e3 : g1 = a := by have := hv.trans e; injection this
      subst e3
      exact Kp.other ha hb h2 rfl
theorem Bd.setCell {B b a : Nat} {l : List UInt8} {w : World} {t : TypeId} {cs : Array Value} (h : Bd B b l w) (ha : Blk w a t cs) (h1 : t ≠ 62) (h2 : t ≠ 5) (j : Nat) (u : Value) : Bd B b l (w.setCell ⟨a, j, none⟩ u) := by
  rcases h with h | h
  · exact .inl (bdAt_set h ha h1 h2 j u)
  · exact .inr (bdAt_set h ha h1 h2 j u)
theorem Bd.weaken {B C b : Nat} {l : List UInt8} {w : World} (h : Bd B b l w) (hc : C ≤ B) : Bd C b l w := by
  rcases h with ⟨hB, v, hk, ho, hn⟩ | ⟨hB, v, hk, ho, hn⟩
  · exact .inl ⟨Nat.le_trans hc hB, v, hk, own_weaken ho hc, hn⟩
  · exact .inr ⟨Nat.le_trans hc hB, v, hk, own_weaken ho hc, hn⟩

/-- What the closure that puts numbers is. -/
def putV (b : Nat) : Value := .func (.func 24) #[] #[.pointer (some ⟨b, 0, none⟩)]

set_option maxRecDepth 100000 in
set_option maxHeartbeats 1600000 in
theorem splaces_any (B b F a : Nat) (L : List UInt8) (A : Option Addr) (ss : List ByteArray) (n c p0 : Nat) (hn : ss.length = n) (w : World) (h : Bd B b L w) (hf : Blk w F 68 #[putV b]) (ha : Blk w a 3 #[.int .i64 (p0 : Int)]) (hBa : B ≤ a)
    (hr : ∀ v, Below B w v → StrRow v A ss) (hl : L.length ≤ 50000) (hz : n ≤ 1000) (hp : p0 + tlen ss ≤ 1099511627776) :
    Calls Try.prog 27 #[.slice A n c, .pointer (some ⟨F, 0, none⟩), .pointer (some ⟨a, 0, none⟩)] w fun e w' => e = .returned (.tuple #[]) ∧ Bd B b (L ++ nums (placesL p0 ss ++ [0])) w' ∧ Blk w' F 68 #[putV b] ∧ Blk w' a 3 #[.int .i64 ((p0 + tlen ss : Nat) : Int)] ∧ Below B w w' := by
  have HN := Lib.hid hn
  have HR := Lib.hid hr
  have HF0 := Lib.hid hf
  have HA0 := Lib.hid ha
  have HD0 := Lib.hid h
  have HTK := Lib.hid (fun k => (show p0 + tlen (ss.take k) ≤ 1099511627776 from by have := tlen_take_le ss k; omega))
  clear hn hr hf ha h hp
  go_enter Try.func27, Try.ntmps27
  go_wp2
  go_loopw [5, 8] (fun _ i wr => ∃ k : Nat, k ≤ n ∧ i = .int .i64 k ∧ Hid (Bd B b (L ++ nums (placesL p0 (ss.take k))) wr) ∧ Hid (Blk wr F 68 #[putV b]) ∧ Hid (Blk wr a 3 #[.int .i64 ((p0 + tlen (ss.take k) : Nat) : Int)]) ∧ Hid (Below B w wr)) (fun _ i _ => n - (intOf i).toNat)
  case atStart => exact ⟨0, Nat.zero_le _, rfl, Lib.hid (by simpa [nums, placesL] using HD0.out), HF0, Lib.hid (by simpa [tlen_nil] using HA0.out), Lib.hid (Below.refl _ _)⟩
  case round =>
    obtain ⟨k, hk, rfl, HBD, HF, HA, HBL⟩ := hrel
    have hle := HBD.out.le
    have hlz : (nums (placesL p0 (ss.take k))).length ≤ 8000 := by rw [nums_length, placesL_length, List.length_take]; omega
    by_cases hlt : k < n
    · have hkl : k < ss.length := by rw [HN.out]; exact hlt
      obtain ⟨ad, rfl, hblt, d0, hsz⟩ := HR.out wr HBL.out k hkl
      have h1 := HTK.out k
      have h2 := HTK.out (k + 1)
      have h3 := tlen_take hkl
      have h4 := placesL_take (a := p0) hkl
      obtain ⟨p, hpp⟩ : ∃ p, p0 + tlen (ss.take k) = p := ⟨_, rfl⟩
      have h5 : p0 + tlen (ss.take (k + 1)) = p + (ss[k].size + 1) := by omega
      rw [hpp] at h1 h4 HA
      rw [h5] at h2
      have HNX := Lib.hid (And.intro h4 h5)
      generalize ss[k] = s at *
      clear h3 h4 h5 hpp hkl
      have cf := HF.out.at_ 0 _ rfl
      have ca := HA.out.at_ 0 _ rfl
      unfold putV at cf
      have hal : Below wr.heap.size wr (wr.alloc (.cells #[.int .i64 (p : Int)] 3)) := (Below.refl _ _).alloc (Nat.le_refl _) _
      have HC := Lib.hid (sput_any B b _ wr.heap.size [p] 1 1 rfl (wr.alloc (.cells #[.int .i64 (p : Int)] 3)) (HBD.out.below hal) (Blk.new _ _ _) (by rw [List.length_append]; omega) (by omega) (by intro x hx; simp at hx; omega))
      have HAA := Lib.hid (HA.out.alloc (.cells #[.int .i64 (p : Int)] 3))
      have HFF := Lib.hid (HF.out.alloc (.cells #[.int .i64 (p : Int)] 3))
      have HBB := Lib.hid (HBL.out.alloc hle (.cells #[.int .i64 (p : Int)] 3))
      have k0 : (0 : Int) ≤ (k : Int) := by omega
      have k1 : (k : Int) < (n : Int) := by omega
      clear hal hsz
      go_wp2_with (go_at_call 24; with_reducible refine HC.out.mono ?_; rintro e v1 ⟨rfl, hd1, hb1, hk1⟩; have HA1 := Lib.hid (hk1.row _ _ _ (by decide) (by decide) HAA.out); have ca1 := HA1.out.at_ 0 _ rfl; have fa1 := HA1.out.frozen 0)
      go_roundw
      case rel =>
        obtain ⟨e1, e2⟩ := HNX.out
        refine ⟨k + 1, by omega, by go_num, ?_⟩
        rw [e2, e1, nums_append, ← List.append_assoc]
        refine ⟨Lib.hid (hd1.setCell HA1.out (by decide) (by decide) 0 _), Lib.hid ((hk1.row _ _ _ (by decide) (by decide) HFF.out).far (p := ⟨a, 0, none⟩) (Kp.other (HF.out) (T := 3) HA.out (by decide)) _), Lib.hid ?_, Lib.hid ((HBB.out.trans hb1).setCell (p := ⟨a, 0, none⟩) hBa _)⟩
        rw [show (((p + (s.size + 1) : Nat) : Nat) : Int) = (p : Int) + ((s.size : Int) + 1) by omega]
        exact HA1.out.set_ 0 _
      case measure => simp [intOf]; omega
    · obtain rfl : k = n := by omega
      have hf := HBD.out
      have ha := HA.out
      rw [← HN.out, List.take_length] at hf ha
      have cf := HF.out.at_ 0 _ rfl
      unfold putV at cf
      have hal : Below wr.heap.size wr (wr.alloc (.cells #[.int .i64 0] 3)) := (Below.refl _ _).alloc (Nat.le_refl _) _
      have hlz2 : (nums (placesL p0 ss)).length ≤ 8000 := by rw [nums_length, placesL_length, HN.out]; omega
      have HC := Lib.hid (sput_any B b _ wr.heap.size [0] 1 1 rfl (wr.alloc (.cells #[.int .i64 0] 3)) (hf.below hal) (Blk.new _ _ _) (by rw [List.length_append]; omega) (by omega) (by intro x hx; simp at hx; omega))
      have HAA := Lib.hid (ha.alloc (.cells #[.int .i64 0] 3))
      have HFF := Lib.hid (HF.out.alloc (.cells #[.int .i64 0] 3))
      have HBB := Lib.hid (HBL.out.alloc hle (.cells #[.int .i64 0] 3))
      clear hal hf ha
      go_wp2_with (go_at_call 24; with_reducible refine HC.out.mono ?_; rintro e v1 ⟨rfl, hd1, hb1, hk1⟩)
      go_end0
      rw [nums_append, ← List.append_assoc]
      exact ⟨rfl, hd1, hk1.row _ _ _ (by decide) (by decide) HFF.out, hk1.row _ _ _ (by decide) (by decide) HAA.out, HBB.out.trans hb1⟩
end Go.Proofs.Ytafogipkbhglcaa
