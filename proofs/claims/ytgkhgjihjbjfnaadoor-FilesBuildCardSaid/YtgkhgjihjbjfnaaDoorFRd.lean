/- The reference of layer 4: Build, where no disk can be made. -/
import Derived.Test.YtgkhgjihjbjfnaaDoorFRc
import Derived.Test.YtgkhgjihjbjfnaaDoorFNo
import Derived.Test.YtgkhgjihjbjfnaaDoorFFew
namespace Go.Proofs.YtgkhgjihjbjfnaaDoor
open Go.RowKit Go.Shelf
set_option linter.unusedVariables false
set_option linter.unusedSimpArgs false

theorem beq_no4 {a b : ByteArray} (h : a ≠ b) : (a.toList == b.toList) = false := by
  have h2 : a.toList ≠ b.toList := fun e => h (by
    have h3 : a.data.toList = b.data.toList := by rw [← ByteArray.toList_eq, e, ByteArray.toList_eq]
    rw [← mkb_of a, h3, mkb_of])
  simpa using h2
theorem take_ok {fs : List Fl} {k : Nat} (hk : k < fs.length) (h : namesOk (fs.take k)) (h1 : nameOk fs[k].name = true) (h2 : ∀ i (hi : i < fs.length), i < k → fs[i].name ≠ fs[k].name) : namesOk (fs.take (k + 1)) := by
  rw [List.take_succ_eq_append_getElem hk, namesOk_snoc]
  refine ⟨h, h1, fun hm => ?_⟩
  obtain ⟨f, hf, e⟩ := List.mem_map.1 hm
  obtain ⟨i, hi, rfl⟩ := List.getElem_of_mem hf
  have hi1 : i < k := by rw [List.length_take] at hi; omega
  rw [List.getElem_take] at e
  exact h2 i (by omega) hi1 e

set_option maxRecDepth 100000 in
set_option maxHeartbeats 1600000 in
theorem rbuild_low (v : Value) (s : Int) (w : World) (h : s < 1) : Calls Tryd.prog 12 #[v, .int .i64 s] w (NotBuilt w) := by
  unfold NotBuilt
  go_enter Tryd.func12, Tryd.ntmps12
  go_wp2
  go_ret2
  exact ⟨rfl, Below.refl _ _⟩
set_option maxRecDepth 100000 in
set_option maxHeartbeats 4000000 in
theorem rbuild_bad (A : Option Addr) (c n : Nat) (fs : List Fl) (s : Int) (w : World) (hn : fs.length = n) (hf : FileRow w (.slice A n c) fs) (hm : n ≤ 8) (hsm : Small8 fs) (hbad : ¬ namesOk fs) (h1 : 1 ≤ s) :
    Calls Tryd.prog 12 #[.slice A n c, .int .i64 s] w (NotBuilt w) := by
  unfold NotBuilt
  have HAT := Lib.hid (fun k hk => hf.at_ k hk)
  have HSM := Lib.hid hsm
  have HN := Lib.hid hn
  have HBD := Lib.hid hbad
  clear hf hsm hn hbad
  go_enter Tryd.func12, Tryd.ntmps12
  go_wp2
  go_loopw [6, 7] (fun a i wr => ∃ k q S : Nat, k ≤ n ∧ i = .int .i64 k ∧ a = .int .i64 S ∧ S ≤ 9 + 16 * k ∧ Hid (namesOk (fs.take k)) ∧ wr = w.drewN q) (fun _ i _ => n - (intOf i).toNat)
  case atStart => exact ⟨0, 0, 1 + n, Nat.zero_le _, rfl, by go_num, by omega, Lib.hid namesOk_nil, (World.drewN_zero w).symm⟩
  case round =>
    obtain ⟨k, q, S, hk, rfl, rfl, hS, hok, rfl⟩ := hrel
    by_cases hlt : k < n
    · have hkl : k < fs.length := by rw [HN.out]; exact hlt
      obtain ⟨g, rfl, hg, d0, d1⟩ := HAT.out k hkl
      have hsz := HSM.out _ (List.getElem_mem hkl)
      have HCK := Lib.hid (fun v => rcheck_any fs[k].name v (by unfold maxLen; omega))
      have HPG := Lib.hid (fun v => rpages_any fs[k].data.size v (by omega))
      have hpg : pgs fs[k].data.size ≤ 16 := by unfold pgs; omega
      have HOTH := Lib.hid (fun j (hj : j < fs.length) => show w.cell? ⟨g, j * 2, none⟩ = some (.string fs[j].name) from by
        obtain ⟨g', e, _, h, _⟩ := HAT.out j hj
        cases e
        exact h)
      have k0 : (0 : Int) ≤ (k : Int) := by omega
      have k1 : (k : Int) < (n : Int) := by omega
      by_cases hgood : nameOk fs[k].name = true
      · have HGD := Lib.hid hgood
        rw [hgood] at HCK
        clear hgood
        go_wp2_with (go_at_call 15; refine (HCK.out _).mono ?_; rintro e v1 ⟨rfl, rfl⟩)
        go_loopw [9] (fun j wr => ∃ t r : Nat, t ≤ k ∧ j = .int .i64 t ∧ Hid (∀ i (hi : i < fs.length), i < t → fs[i].name ≠ fs[k].name) ∧ wr = w.drewN r) (fun j _ => k - (intOf j).toNat)
        case atStart => exact ⟨0, q, Nat.zero_le _, rfl, Lib.hid (fun i _ h => by omega), rfl⟩
        case round =>
          obtain ⟨t, r, ht, rfl, hno, rfl⟩ := hrel
          by_cases hlt2 : t < k
          · have htl : t < fs.length := by omega
            have c1 := HOTH.out t htl
            have t0 : (0 : Int) ≤ (t : Int) := by omega
            have t1 : (t : Int) < (n : Int) := by omega
            by_cases heq : fs[t].name = fs[k].name
            · rw [heq] at c1
              generalize fs[k].name = nk at *
              clear heq
              go_wp2
              go_quiet (fail)
              go_wp2
              go_ret2
              exact ⟨rfl, Go.Proofs.YtgkhgjihjbjfnaaDoor.Below.drewN (Go.Proofs.YtgkhgjihjbjfnaaDoor.Below.drewN (Below.refl _ w) _) _⟩
            · have HNO := Lib.hid (fun i (hi : i < fs.length) (h : i < t + 1) => show fs[i].name ≠ fs[k].name from by
                rcases Nat.lt_or_ge i t with h1 | h1
                · exact hno.out i hi h1
                · have : i = t := by omega
                  subst this
                  exact heq)
              have hx := beq_no4 heq
              clear heq hno
              generalize fs[t].name = nt at *
              go_wp2
              go_quiet (fail)
              go_wp2
              go_roundw
              case rel => exact ⟨t + 1, _, by omega, by go_num, Lib.hid HNO.out, rfl⟩
              case measure => simp [intOf]; omega
          · obtain rfl : t = k := by omega
            have HK := Lib.hid (take_ok hkl hok.out HGD.out hno.out)
            have hpg2 := hpg
            generalize pgs fs[t].data.size = pg at *
            clear hno
            go_wp2_with (go_at_call 29; refine (HPG.out _).mono ?_; rintro e v1 ⟨rfl, rfl⟩)
            go_roundw
            case rel => exact ⟨t + 1, r, S + pg, by omega, by go_num, by go_num, by omega, HK, rfl⟩
            case measure => simp [intOf]; omega
      · have hbd : nameOk fs[k].name = false := by simpa using hgood
        rw [hbd] at HCK
        clear hgood hbd
        go_wp2_with (go_at_call 15; refine (HCK.out _).mono ?_; rintro e v1 ⟨rfl, rfl⟩)
        go_ret2
        exact ⟨rfl, Go.Proofs.YtgkhgjihjbjfnaaDoor.Below.drewN (Below.refl _ w) _⟩
    · obtain rfl : k = n := by omega
      have h := hok.out
      rw [← HN.out, List.take_length] at h
      exact absurd h HBD.out
end Go.Proofs.YtgkhgjihjbjfnaaDoor
