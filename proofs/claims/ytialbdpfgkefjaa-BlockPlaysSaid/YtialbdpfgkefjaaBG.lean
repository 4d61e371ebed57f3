/- The reference's disk: New, Of. -/
import Derived.Test.YtialbdpfgkefjaaBE
import Derived.Deep.RegionLaw
import Derived.Deep.AppendLies
import Derived.BigRegion
import Derived.RegionTactic
namespace Go.Proofs.Ytialbdpfgkefjaa
open Go.RowKit
set_option linter.unusedVariables false

theorem infoStr : (Try.prog.info? 9).map (fun i => (i.zero, i.size, i.bytes)) = some (some (.string ⟨#[]⟩), 1, 16) := by kernel_rfl
def strs (l : List ByteArray) : List Value := l.map Value.string
theorem ownsRow_drewN {w : World} {B e size n : Nat} {v : Value} {xs : List Value} (h : w.ownsRow B e size v n xs) (q : Nat) : (w.drewN q).ownsRow B e size v n xs := h
theorem grown_none {w w' : World} (h : Below w.heap.size w w') : w.grownBy w' none := ⟨h.os, h.tape, h.output, h.size, fun k hk _ => h.block k hk⟩
theorem own_below {w w' : World} {B e size n : Nat} {v : Value} {xs : List Value} (h : w.ownsRow B e size v n xs) (hb : Below w.heap.size w w') : w'.ownsRow B e size v n xs := by
  cases hv : v.ownBlock with
  | none => exact h.kept (grown_none hb) (.inl hv)
  | some g => exact h.kept (grown_none hb) (.inr (by rw [hv]; simp))

/-- The reference's disk D lies at q, its sectors are a row of its own, at h. -/
structure Rk (w : World) (B q h cap : Nat) (D : Dsk) : Prop where
  ne : q ≠ h
  base : B ≤ q
  head : Blk w q 39 #[.slice (some ⟨h, 0, none⟩) D.S.length cap, .int .i64 D.low, .int .i64 D.rd, .int .i64 D.wr]
  own : w.ownsRow B 9 1 (.slice (some ⟨h, 0, none⟩) D.S.length cap) D.S.length (strs D.S)
  len : D.S.length ≤ 16384
theorem Rk.low {w : World} {B q h cap : Nat} {D : Dsk} (k : Rk w B q h cap D) : B ≤ h ∧ h < w.heap.size := k.own.lt h rfl
theorem Rk.but {S : Nat → Prop} {w w' : World} {B q h cap : Nat} {D : Dsk} (k : Rk w B q h cap D) (hb : But S w w') (hq : ¬ S q) (hh : ¬ S h) : Rk w' B q h cap D :=
  ⟨k.ne, k.base, k.head.but hb hq, by
    obtain ⟨h1, h2⟩ := k.own
    refine ⟨h1, ?_⟩
    rcases h2 with h2 | ⟨g, c, cur, hv, hbg, hg, r⟩
    · exact .inl h2
    · injection hv with e1 e2 e3
      injection e1 with e1
      injection e1 with e1
      subst e1
      exact .inr ⟨_, c, cur, by rw [e3], hbg, (hb.block _ k.low.2 hh).trans hg, r⟩, k.len⟩
theorem Rk.on {w w' : World} {B q h cap : Nat} {D : Dsk} (k : Rk w B q h cap D) (hb : Below w.heap.size w w') : Rk w' B q h cap D := k.but (S := fun _ => False) (But.of_below hb) id id

/-- The disk behind k rounds of the reference's Of. -/
def rofD (l : List ByteArray) (k : Nat) : List ByteArray := (l.take k).map fill64
theorem rofD_succ (l : List ByteArray) {k : Nat} (h : k < l.length) : strs (rofD l (k + 1)) = strs (rofD l k) ++ [.string (fill64 l[k])] := by
  unfold rofD strs
  rw [List.take_succ_eq_append_getElem h, List.map_append, List.map_append]
  rfl
theorem rofD_full (l : List ByteArray) : rofD l l.length = l.map fill64 := by simp [rofD]

set_option maxHeartbeats 400000 in
theorem rof_no (A : Option Addr) (n c : Nat) (w : World) (h : n < 1 ∨ 16384 < n) (hn : n ≤ 281474976710656) : Calls Try.prog 24 #[.slice A n c] w fun e w' => e = .returned (.pointer none) ∧ w = w' := by
  rcases h with h | h
  · go_enter Try.func24, Try.ntmps24
    go_wp2
    go_ret
    exact ⟨rfl, rfl⟩
  · have h1 : ¬ n < 1 := by omega
    go_enter Try.func24, Try.ntmps24
    go_wp2
    go_ret
    exact ⟨rfl, rfl⟩

/-- Such a disk was made. -/
def RMade (w : World) (D : Dsk) (e : Ending) (w' : World) : Prop := ∃ q h cap, e = .returned (.pointer (some ⟨q, 0, none⟩)) ∧ Below w.heap.size w w' ∧ Rk w' w.heap.size q h cap D

set_option maxHeartbeats 1600000 in
theorem rof_yes (ad : Addr) (l : List ByteArray) (c : Nat) (w : World) (h1 : 1 ≤ l.length) (h2 : l.length ≤ 16384) (hb : ad.block < w.heap.size)
    (hl : ∀ i (hi : i < l.length), w.cell? (ad.add i) = some (.string l[i])) (hs : ∀ s ∈ l, s.size ≤ 281474976710656) :
    Calls Try.prog 24 #[.slice (some ad) l.length c] w (RMade w ⟨l.map fill64, 0, 0, 0⟩) := by
  obtain ⟨i0, hi, hz0, hz1, hz2⟩ := info_parts infoStr
  have HL := Lib.hid hl
  have HS := Lib.hid hs
  clear hl hs
  have hb0 := (Below.refl w.heap.size w).alloc (Nat.le_refl _) (.cells #[.slice none 0 0, .int .i64 0, .int .i64 0, .int .i64 0] 39)
  have hh0 := Blk.new w 39 #[.slice none 0 0, .int .i64 0, .int .i64 0, .int .i64 0]
  have ho0 := World.ownsRow_nil (w.alloc (.cells #[.slice none 0 0, .int .i64 0, .int .i64 0, .int .i64 0] 39)) w.heap.size 9 1
  have HB0 := Lib.hid hb0
  have HH0 := Lib.hid hh0
  have HO0 := Lib.hid ho0
  clear hb0 hh0 ho0
  go_enter Try.func24, Try.ntmps24
  go_wp2
  go_loopw [4] (fun i wr => ∃ (k : Nat) (v : Value), k ≤ l.length ∧ i = .int .i64 k ∧ Below w.heap.size w wr ∧ Blk wr w.heap.size 39 #[v, .int .i64 0, .int .i64 0, .int .i64 0] ∧ wr.ownsRow w.heap.size 9 1 v k (strs (rofD l k)) ∧ v.ownBlock ≠ some w.heap.size) (fun i _ => l.length - (intOf i).toNat)
  case atStart => exact ⟨0, _, Nat.zero_le _, rfl, HB0.out, HH0.out, HO0.out, by simp [Value.ownBlock]⟩
  case round =>
    clear HB0 HH0 HO0
    obtain ⟨k, v, hk, rfl, hbel, hhd, hown, hvq⟩ := hrel
    by_cases hlt : k < l.length
    · have hblk : (ad.add k).block < w.heap.size := by rw [show (ad.add k).block = ad.block by unfold Addr.add; split <;> rfl]; exact hb
      have hc : wr.cell? (ad.add k) = some (.string l[k]) := (hbel.cell (p := ad.add k) hblk).trans (HL.out k hlt)
      have hq : wr.cell? ⟨w.heap.size, 0, none⟩ = some v := hhd.at_ 0 _ rfl
      have hsz := HS.out l[k] (List.getElem_mem hlt)
      have hsucc := rofD_succ l hlt
      have hf := fun w => rfill_any l[k] 64 w (by decide) hsz (by omega)
      rw [show fillS l[k] 64 = fill64 l[k] from rfl] at hf
      have HF := Lib.hid hf
      have HC := Lib.hid hsucc
      have HB := Lib.hid hbel
      have HH := Lib.hid hhd
      have HO := Lib.hid hown
      clear hf hsucc hbel hhd hown hsz
      generalize fill64 l[k] = F at *
      generalize l[k] = s at *
      go_wp2_with (fail)
      go_region_law (first
        | (go_simp; go_at_call 29; refine (HF.out _).mono ?_; rintro e v5 ⟨rfl, hb5⟩
           have HB5 := Lib.hid hb5
           have q5 := (hb5.cell (p := ⟨w.heap.size, 0, none⟩) HH.out.lt).trans hq
           have s5 : w.heap.size < v5.heap.size := Nat.lt_of_lt_of_le HH.out.lt hb5.size
           have HH5 := Lib.hid (HH.out.drew.below hb5 HH.out.lt)
           have HO5 := Lib.hid (own_below (w := wr.drew) HO.out hb5)
           clear hb5)
        | (refine step_append_lies _ (by rfl) _ _ _ (by rfl) w.heap.size 9 i0 _ 1 16 Try.underlying37 hi hz0 hz1 hz2 rfl (by omega) v k (strs (rofD l k)) (by rfl) (HO5.out.alloc _)
             ⟨v5.heap.size, 0, none⟩ 1 1 [.string F] (by rfl) (by rfl) (World.news_of_block (cs := #[.string F]) (t := 9) (fr := (0, 0)) (heap_alloc_new v5 _)) (by simp [Value.oneCell'])
             (by omega) (by unfold maxLen; omega) (by omega) (by simp; omega) (v5.heap.size + 1) (by simp) ?_; intro gg cap w1 hown1 hgrow hat hlt1
           have HH1 := Lib.hid ((HH5.out.alloc _).grown hgrow (by exact fun e => hvq e.symm))
           have q1 := HH1.out.at_ 0 _ rfl
           have f1 := HH1.out.frozen 0
           have HO1 := Lib.hid hown1
           have HG1 := Lib.hid hgrow
           have HA1 := Lib.hid hat
           clear hown1 hgrow hat))
      all_goals
        have hne : gg ≠ w.heap.size := by
          rcases HA1.out with h | h
          · rintro rfl
            exact hvq h
          · omega
        have k1 : Below w.heap.size w v5 := HB.out.drew.trans (HB5.out.mono HB.out.drew.size)
        have k2 := (k1.alloc (by omega) (.cells #[.string F] 9)).grown HG1.out (by simp; omega) (fun j e => (HO.out.lt j e).1)
        have k3 := Lib.hid (k2.setCell (p := ⟨w.heap.size, 0, none⟩) (Nat.le_refl _) (.slice (some ⟨gg, 0, none⟩) (k + 1) cap))
        have hset := HH1.out.set_ 0 (.slice (some ⟨gg, 0, none⟩) (k + 1) cap)
        have HSET := Lib.hid hset
        have hkeep := HO1.out.kept (w' := w1.setCell ⟨w.heap.size, 0, none⟩ (.slice (some ⟨gg, 0, none⟩) (k + 1) cap)) (row := some w.heap.size) ⟨rfl, rfl, rfl, by simp, fun j _ hj => Below.heap_setCell _ _ _ _ (fun e => hj (by rw [e]))⟩ (.inr (by simp [Value.ownBlock]; exact hne))
        rw [← HC.out] at hkeep
        have HK := Lib.hid hkeep
        clear hset hkeep k1 k2
        go_wp2
        go_roundw
        case rel => exact ⟨k + 1, _, by omega, by go_num, k3.out, by simpa using HSET.out, HK.out, by simp [Value.ownBlock]; exact hne⟩
        case measure => simp [intOf]; omega
    · obtain rfl : k = l.length := by omega
      obtain ⟨g, cap, rfl, hg1, hg2⟩ := hown.form (by omega)
      rw [rofD_full] at hown
      have HB := Lib.hid hbel
      have HH := Lib.hid hhd
      have HO := Lib.hid hown
      clear hbel hhd hown
      go_wp2
      go_ret
      refine ⟨w.heap.size, g, cap, rfl, HB.out, ?_, Nat.le_refl _, by simpa using HH.out, by simpa using HO.out, by simpa using h2⟩
      rintro rfl
      exact hvq rfl
end Go.Proofs.Ytialbdpfgkefjaa
