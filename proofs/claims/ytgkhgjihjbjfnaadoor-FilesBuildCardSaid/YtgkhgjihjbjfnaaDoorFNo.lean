/- Package files: Build, where no disk can be made. -/
import Derived.Test.YtgkhgjihjbjfnaaDoorFU
namespace Go.Proofs.YtgkhgjihjbjfnaaDoor
open Go.RowKit Go.Shelf Go.Maps
set_option linter.unusedVariables false
set_option linter.unusedSimpArgs false

/-- Names that may be, each once. -/
def namesOk (fs : List Fl) : Prop := (∀ f ∈ fs, nameOk f.name = true) ∧ (fs.map Fl.name).Nodup
theorem namesOk_nil : namesOk [] := ⟨by simp, by simp⟩
theorem namesOk_snoc (fs : List Fl) (f : Fl) : namesOk (fs ++ [f]) ↔ namesOk fs ∧ nameOk f.name = true ∧ f.name ∉ fs.map Fl.name := by
  unfold namesOk
  rw [List.map_append, List.nodup_append]
  constructor
  · rintro ⟨h1, h2, _, h3⟩
    exact ⟨⟨fun g hg => h1 g (by simp [hg]), h2⟩, h1 f (by simp), fun hm => h3 _ hm f.name (by simp) rfl⟩
  · rintro ⟨⟨h1, h2⟩, h3, h4⟩
    refine ⟨fun g hg => ?_, h2, by simp, fun a ha b hb e => ?_⟩
    · rcases List.mem_append.1 hg with h | h
      · exact h1 g h
      · rw [List.mem_singleton.1 h]; exact h3
    · have hb' : b = f.name := by simpa using hb
      subst hb'
      exact h4 (e ▸ ha)
theorem not_no {ns : List ByteArray} {s : ByteArray} (h : ¬ (nameOk s = true ∧ s ∉ ns)) : s ∈ ns ∨ nameOk s = false := by
  rcases Classical.em (s ∈ ns) with h1 | h1
  · exact .inl h1
  · cases h2 : nameOk s with
    | false => exact .inr rfl
    | true => exact absurd ⟨h2, h1⟩ h

/-- Nothing was built. -/
def NotBuilt (w : World) (e : Ending) (w' : World) : Prop := e = .returned (.tuple #[.slice none 0 0, .int .i64 1]) ∧ Below w.heap.size w w'
set_option maxRecDepth 100000 in
set_option maxHeartbeats 1000000 in
theorem build_low (v : Value) (s : Int) (w : World) (h : s < 1) : Calls Tryd.prog 11 #[v, .int .i64 s] w (NotBuilt w) := by
  unfold NotBuilt
  go_enter Tryd.func11, Tryd.ntmps11
  go_wp2
  go_ret2
  exact ⟨rfl, Below.refl _ _⟩
set_option maxRecDepth 100000 in
set_option maxHeartbeats 4000000 in
theorem build_bad (A : Option Addr) (c : Nat) (fs : List Fl) (s : Int) (w : World) (hf : FileRow w (.slice A fs.length c) fs) (hm : fs.length ≤ 64) (hz : ∀ f ∈ fs, f.name.size ≤ maxLen) (hn : ¬ namesOk fs) (h1 : 1 ≤ s) :
    Calls Tryd.prog 11 #[.slice A fs.length c, .int .i64 s] w (NotBuilt w) := by
  unfold NotBuilt
  have HF := Lib.hid hf
  have HAT := Lib.hid (fun k hk => hf.at_ k hk)
  have HZ := Lib.hid hz
  have HN := Lib.hid hn
  have hmm := @run_makeMap Tryd.prog
  have hm0 := NumMap.made w
  have hB0 := (Below.refl w.heap.size w).alloc (Nat.le_refl _) (.map #[] 0)
  clear hf hz hn
  go_enter Tryd.func11, Tryd.ntmps11
  go_wp2
  go_loopw [16] (fun i wr => ∃ k : Nat, k ≤ fs.length ∧ i = .int .i64 k ∧ namesOk (fs.take k) ∧ NumMap wr w.heap.size ((fs.take k).map Fl.name) ∧ Below w.heap.size w wr) (fun i _ => fs.length - (intOf i).toNat)
  case atStart => exact ⟨0, Nat.zero_le _, rfl, namesOk_nil, hm0, hB0⟩
  case round =>
    clear hm0 hB0
    obtain ⟨k, hk, rfl, hok, hnum, hB⟩ := hrel
    by_cases hlt : k < fs.length
    · obtain ⟨g, rfl, hg, c0, c1⟩ := HAT.out k hlt
      replace c0 := (hB.cell (p := ⟨g, k * 2, none⟩) hg).trans c0
      replace c1 := (hB.cell (p := ⟨g, k * 2 + 1, none⟩) hg).trans c1
      have hnl : ((fs.take k).map Fl.name).length = k := by simp; omega
      have htk : fs.take (k + 1) = fs.take k ++ [fs[k]] := List.take_succ_eq_append_getElem hlt
      have hns : (fs.take (k + 1)).map Fl.name = (fs.take k).map Fl.name ++ [fs[k].name] := by rw [htk, List.map_append]; rfl
      have hss := namesOk_snoc (fs.take k) fs[k]
      rw [← htk] at hss
      have hzk := HZ.out _ (List.getElem_mem hlt)
      have HNUM := Lib.hid (hnum.below ((Below.refl _ wr).alloc (Nat.le_refl _) (.cells #[.string fs[k].name, .string fs[k].data] 32)) (by obtain ⟨_, _, h, _⟩ := hnum; exact (Array.getElem?_eq_some_iff.1 h).1))
      have HB2 := Lib.hid (hB.alloc hB.size (.cells #[.string fs[k].name, .string fs[k].data] 32))
      by_cases hgood : nameOk fs[k].name = true ∧ fs[k].name ∉ (fs.take k).map Fl.name
      · have r4 := fun v (h : NumMap v w.heap.size ((fs.take k).map Fl.name)) => enter_yes w.heap.size _ fs[k].name v h (by omega) hgood.1 hgood.2
        rw [hnl, ← hns] at r4
        have R4 := Lib.hid r4
        have HS := Lib.hid (hss.2 ⟨hok, hgood⟩)
        clear r4 hnl hns hnum hB hgood hss htk hok hzk
        go_wp2_with (go_at_call 26; refine (R4.out _ HNUM.out).mono ?_; rintro e v1 ⟨rfl, hb1, hm1⟩)
        go_roundw
        case rel => exact ⟨k + 1, by omega, by go_num, HS.out, hm1, HB2.out.trans (hb1.below (B := w.heap.size) HB2.out.size (fun j e => by omega))⟩
        case measure => simp [intOf]; omega
      · have r4 := fun v (h : NumMap v w.heap.size ((fs.take k).map Fl.name)) => enter_no w.heap.size _ fs[k].name k v h hzk (not_no hgood)
        have R4 := Lib.hid r4
        clear r4 hnl hns hnum hB hgood hss htk hok hzk
        go_wp2_with (go_at_call 26; refine (R4.out _ HNUM.out).mono ?_; rintro e v1 ⟨rfl, rfl⟩)
        go_ret2
        exact ⟨rfl, HB2.out⟩
    · obtain rfl : k = fs.length := by omega
      rw [List.take_length] at hok
      exact absurd hok HN.out
end Go.Proofs.YtgkhgjihjbjfnaaDoor
