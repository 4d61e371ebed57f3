/- The reference of layer 4: Check, pages, head; same. -/
import Derived.Test.YtgkhgjihjbjfnaaDoorFW
import Derived.Test.YtgkhgjihjbjfnaaDoorOctE
import Derived.BigQuiet
import Derived.Deep.QuietTactic
namespace Go.Proofs.YtgkhgjihjbjfnaaDoor
open Go.RowKit Go.Shelf
set_option linter.unusedVariables false
set_option linter.unusedSimpArgs false

set_option maxHeartbeats 800000 in
theorem rcheck_any (s : ByteArray) (w : World) (hs : s.size ≤ maxLen) : Calls Tryd.prog 15 #[.string s] w fun e w' => e = .returned (.bool (nameOk s)) ∧ w = w' := by
  unfold maxLen at hs
  obtain ⟨ok, hok⟩ : ∃ ok, nameOk s = ok := ⟨_, rfl⟩
  rw [hok]
  have HOK := Lib.hid hok
  clear hok
  go_enter Tryd.func15, Tryd.ntmps15
  go_wp2
  go_loop [3] (fun i => ∃ k : Nat, k ≤ s.size ∧ i = .int .i64 k ∧ Hid (∀ j (h : j < s.size), j < k → s[j] ≠ 0)) (fun i => s.size - (intOf i).toNat)
  case atStart => exact ⟨0, Nat.zero_le _, rfl, Lib.hid (fun j _ h => by omega)⟩
  case round =>
    obtain ⟨k, hk, rfl, hno⟩ := hrel
    by_cases hlt : k < s.size
    · by_cases hz : s[k] = 0
      · have hbad : ok = false := by
          rw [← HOK.out]
          have hmem : (0 : UInt8) ∈ s.data.toList := by
            rw [← hz, ByteArray.getElem_eq_getElem_data]
            exact Array.mem_toList_iff.2 (Array.getElem_mem _)
          simp [nameOk, hmem]
        have hx : (((s[k]).toNat : Int) == 0) = true := by rw [hz]; rfl
        clear hz
        subst hbad
        go_wp2
        go_ret
        exact ⟨rfl, rfl⟩
      · have hx : (((s[k]).toNat : Int) == 0) = false := by
          have h2 : (s[k]).toNat ≠ 0 := fun e => hz (UInt8.toNat_inj.1 (by simpa using e))
          simpa using h2
        have HN := Lib.hid (fun j (h : j < s.size) (hj : j < k + 1) => show s[j] ≠ 0 from by
          rcases Nat.lt_or_ge j k with h1 | h1
          · exact hno.out j h h1
          · have : j = k := by omega
            subst this
            exact hz)
        clear hz
        go_wp2
        go_round
        case rel => exact ⟨k + 1, by omega, by go_num, Lib.hid HN.out⟩
        case measure => simp [intOf]; omega
    · obtain rfl : k = s.size := by omega
      have hmem : (0 : UInt8) ∉ s.data.toList := fun hm => by
        obtain ⟨j, hj, e⟩ := List.getElem_of_mem hm
        have hj' : j < s.size := by rw [← len_data]; exact hj
        exact hno.out j hj' hj' (by rw [ByteArray.getElem_eq_getElem_data]; simpa using e)
      by_cases h1 : 1 ≤ s.size
      · by_cases h2 : s.size ≤ 24
        · have e : ok = true := by rw [← HOK.out]; exact nameOk_iff.2 ⟨h1, h2, hmem⟩
          subst e
          have hd : decide ((s.size : Int) ≤ 24) = true := decide_eq_true (by omega)
          clear hmem
          go_wp2
          go_ret
          exact ⟨rfl, rfl⟩
        · have e : ok = false := by rw [← HOK.out]; simp [nameOk, h2]
          subst e
          have hd : decide ((s.size : Int) ≤ 24) = false := decide_eq_false (by omega)
          clear hmem
          go_wp2
          go_ret
          exact ⟨rfl, rfl⟩
      · have e : ok = false := by rw [← HOK.out]; simp [nameOk, h1]
        subst e
        clear hmem
        go_wp2
        go_ret
        exact ⟨rfl, rfl⟩
set_option maxHeartbeats 400000 in
theorem rpages_any (n : Nat) (w : World) (hn : n ≤ 1000000000000) : Calls Tryd.prog 29 #[.int .i64 n] w fun e w' => e = .returned (.int .i64 (pgs n)) ∧ w = w' := by
  have e : ((pgs n : Nat) : Int) = ((n : Int) + 63) / 64 := by unfold pgs; omega
  rw [e]
  clear e
  go_enter Tryd.func29, Tryd.ntmps29
  go_wp2
  go_ret
  exact ⟨rfl, rfl⟩
set_option maxHeartbeats 800000 in
theorem rhead_any (c u : Nat) (w : World) (hc : c ≤ 1000000000000) (hu : u ≤ 1000000000000) :
    Calls Tryd.prog 31 #[.int .i64 c, .int .i64 u] w fun e w' => e = .returned (.string (headS c u)) ∧ Below w.heap.size w w' := by
  have h1 := fun w => rput_any c 2 w (wf_u64 (by omega)) (by decide)
  have h2 := fun w => rput_any u 4 w (wf_u64 (by omega)) (by decide)
  simp only [Int.toNat_natCast, show wide 2 = 2 by decide, show wide 4 = 4 by decide] at h1 h2
  have s1 : (mkb (putL c 2)).size = 2 := by rw [mkb_size, putL_length]
  have s2 : (mkb (putL u 4)).size = 4 := by rw [mkb_size, putL_length]
  have s3 : ((⟨#[70, 76, 89, 49]⟩ : ByteArray) ++ mkb (putL c 2)).size = 6 := by rw [ByteArray.size_append, s1]; rfl
  have hcat : ((⟨#[70, 76, 89, 49]⟩ : ByteArray) ++ mkb (putL c 2)) ++ mkb (putL u 4) = mkb (headL c u) := by
    show (mkb [70, 76, 89, 49] ++ _) ++ _ = _
    rw [mkb_append, mkb_append]
    rfl
  have h3 := fun w => rfill_any (((⟨#[70, 76, 89, 49]⟩ : ByteArray) ++ mkb (putL c 2)) ++ mkb (putL u 4)) 64 w (by decide) (by rw [ByteArray.size_append, s3, s2]; decide) (by decide)
  have hfs : fillS (((⟨#[70, 76, 89, 49]⟩ : ByteArray) ++ mkb (putL c 2)) ++ mkb (putL u 4)) 64 = headS c u := by
    rw [hcat]
    unfold fillS headS
    rw [if_neg (by decide), mkb_data]
    rfl
  rw [hfs] at h3
  generalize headS c u = HS at *
  generalize mkb (putL c 2) = P at *
  generalize mkb (putL u 4) = U at *
  have H1 := Lib.hid h1
  have H2 := Lib.hid h2
  have H3 := Lib.hid h3
  have hB := Below.refl w.heap.size w
  have w1 := u64w hc
  have w2 := u64w hu
  clear h1 h2 hcat h3 hfs
  go_enter Tryd.func31, Tryd.ntmps31
  go_wp2_with (first
    | (go_at_call 50; with_reducible refine (H1.out _).mono ?_; rintro e v1 ⟨rfl, hb⟩; replace hB := hB.trans (hb.mono hB.size); clear hb)
    | (go_at_call 50; with_reducible refine (H2.out _).mono ?_; rintro e v2 ⟨rfl, hb⟩; replace hB := hB.trans (hb.mono hB.size); clear hb)
    | (go_at_call 24; with_reducible refine (H3.out _).mono ?_; rintro e v3 ⟨rfl, hb⟩; replace hB := hB.trans (hb.mono hB.size); clear hb))
  go_ret
  exact ⟨rfl, hB⟩

/-- The slice A holds these texts. -/
def TextRow (w : World) (v : Value) (L : List ByteArray) : Prop := ∃ g c cur, v = .slice (some ⟨g, 0, none⟩) L.length c ∧ Blk w g 9 cur ∧ cur.toList.take L.length = strs L
theorem TextRow.at_ {w : World} {g n c : Nat} {L : List ByteArray} (h : TextRow w (.slice (some ⟨g, 0, none⟩) n c) L) (k : Nat) (hk : k < L.length) : w.cell? ⟨g, k, none⟩ = some (.string L[k]) := by
  obtain ⟨g', c', cur, hv, hb, ht⟩ := h
  injection hv with h1 h2 h3
  cases h1
  have h4 : (strs L)[k]? = some (.string L[k]) := by unfold strs; rw [List.getElem?_map, List.getElem?_eq_getElem hk]; rfl
  rw [← ht, List.getElem?_take, if_pos hk] at h4
  exact hb.at_ _ _ (by simpa using h4)
set_option maxHeartbeats 800000 in
theorem same_nil (w : World) : Calls Tryd.prog 13 #[.slice none 0 0, .slice none 0 0] w fun e w' => e = .returned (.bool true) ∧ w = w' := by
  go_enter Tryd.func13, Tryd.ntmps13
  go_wp2
  go_loop [5] (fun i => i = .int .i64 0) (fun _ => 0)
  case atStart => rfl
  case round =>
    subst hrel
    go_wp2
    go_ret
    exact ⟨rfl, rfl⟩
set_option maxHeartbeats 1600000 in
theorem same_any (g h n c d : Nat) (L : List ByteArray) (w : World) (hn : L.length = n) (hm : n ≤ 16384) (h1 : TextRow w (.slice (some ⟨g, 0, none⟩) n c) L) (h2 : TextRow w (.slice (some ⟨h, 0, none⟩) n d) L) :
    Calls Tryd.prog 13 #[.slice (some ⟨g, 0, none⟩) n c, .slice (some ⟨h, 0, none⟩) n d] w fun e w' => e = .returned (.bool true) ∧ Below w.heap.size w w' := by
  have H1 := Lib.hid (fun k hk => h1.at_ k hk)
  have H2 := Lib.hid (fun k hk => h2.at_ k hk)
  have HN := Lib.hid hn
  clear h1 h2 hn
  go_enter Tryd.func13, Tryd.ntmps13
  go_wp2
  go_loopw [5] (fun i wr => ∃ k q : Nat, k ≤ n ∧ i = .int .i64 k ∧ wr = w.drewN q) (fun i _ => n - (intOf i).toNat)
  case atStart => exact ⟨0, 0, Nat.zero_le _, rfl, (World.drewN_zero w).symm⟩
  case round =>
    obtain ⟨k, q, hk, rfl, rfl⟩ := hrel
    by_cases hlt : k < n
    · have hkl : k < L.length := by rw [HN.out]; exact hlt
      have c1 : w.cell? ⟨g, k, none⟩ = some (.string L[k]) := H1.out k hkl
      have c2 : w.cell? ⟨h, k, none⟩ = some (.string L[k]) := H2.out k hkl
      have k0 : (0 : Int) ≤ (k : Int) := by omega
      have k1 : (k : Int) < (n : Int) := by omega
      generalize L[k] = x at *
      go_wp2
      go_quiet (fail)
      go_wp2
      go_roundw
      case rel => exact ⟨k + 1, _, by omega, by go_num, rfl⟩
      case measure => simp [intOf]; omega
    · go_wp2
      go_ret
      exact ⟨rfl, Go.Proofs.YtgkhgjihjbjfnaaDoor.Below.drewN (Below.refl _ w) q⟩
end Go.Proofs.YtgkhgjihjbjfnaaDoor
