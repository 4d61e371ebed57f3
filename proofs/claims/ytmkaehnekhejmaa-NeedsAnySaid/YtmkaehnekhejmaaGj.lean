/- Package needs: Round's each; what each does. -/
import Derived.Test.YtmkaehnekhejmaaGi
namespace Go.Proofs.Ytmkaehnekhejmaa
open Go.RowKit
set_option linter.unusedVariables false
set_option linter.unusedSimpArgs false

/-- What each reads lies so. -/
structure RdE (w0 : World) (L : List Lb) (S : Wk) (A : Option Addr) (c : Nat) (A1 A2 A3 : Option Addr) (c1 c2 c3 MC pl pcc : Nat) (v : World) : Prop where
  low : Below w0.heap.size w0 v
  box : v.cell? ⟨pl, 0, none⟩ = some (.slice A L.length c)
  libs : v.cell? ⟨pcc, 0, none⟩ = some (.slice A1 S.N.length c1)
  map : v.cell? ⟨pcc, 3, none⟩ = some (.map (some MC))
  cl : ClT L S A1 A2 A3 MC v
/-- The needs, by their places among N. -/
def idxL (N : List ByteArray) (l : List ByteArray) : List Nat := l.filterMap fun z => if z ∈ N then some (N.idxOf z) else none
theorem idxL_take {N l : List ByteArray} {k : Nat} (h : k < l.length) : idxL N (l.take (k + 1)) = idxL N (l.take k) ++ (if l[k] ∈ N then [N.idxOf l[k]] else []) := by
  unfold idxL
  rw [List.take_succ_eq_append_getElem h, List.filterMap_append]
  congr 1
  by_cases hm : l[k] ∈ N <;> simp [hm]
theorem idxL_drop {N l : List ByteArray} {k : Nat} (h : k < l.length) : idxL N (l.drop k) = (if l[k] ∈ N then [N.idxOf l[k]] else []) ++ idxL N (l.drop (k + 1)) := by
  unfold idxL
  rw [List.drop_eq_getElem_cons h, List.filterMap_cons]
  by_cases hm : l[k] ∈ N <;> simp [hm]
theorem atF_there {s : Wk} {x : ByteArray} (h : x ∈ s.N) : atF s x = some ((s.N.idxOf x : Nat) : Int) := by unfold atF; rw [if_pos h]
theorem atF_gone {s : Wk} {x : ByteArray} (h : x ∉ s.N) (h2 : x ∈ s.M) : atF s x = some (-1) := by unfold atF; rw [if_neg h, if_pos h2]

set_option maxRecDepth 100000 in
set_option maxHeartbeats 3200000 in
theorem each2_any (w0 : World) (L : List Lb) (r : ByteArray) (A : Option Addr) (c : Nat) (A1 A2 A3 : Option Addr) (c1 c2 c3 MC pl pcc pu : Nat) (J : Nat → World → Prop) (i : Nat) (w : World) (hR0 : LibRow w0 A L) (hL : L.length ≤ 255)
    (S : Wk) (hI : Inv L r S S.N.length) (hi : i < S.N.length) (need : List ByteArray) (hneed : needOf L S.N[i] = need)
    (hRd : ∀ k v, J k v → RdE w0 L S A c A1 A2 A3 c1 c2 c3 MC pl pcc v) (hDr : ∀ k v q, J k v → J k (v.drewN q)) (h0 : J 0 w)
    (hdo : ∀ k, (hk : k < need.length) → need[k] ∈ S.N → ∀ v, J k v → Calls Try.prog 23 #[.int .i64 (S.N.idxOf need[k] : Nat), .pointer (some ⟨pu, 0, none⟩)] v fun e v' => e = .returned (.tuple #[]) ∧ J (k + 1) v')
    (hsk : ∀ k, (hk : k < need.length) → need[k] ∉ S.N → ∀ v, J k v → J (k + 1) v) :
    Calls Try.prog 22 #[.int .i64 i, .func (.func 23) #[] #[.pointer (some ⟨pu, 0, none⟩)], .pointer (some ⟨pl, 0, none⟩), .pointer (some ⟨pcc, 0, none⟩)] w
      fun e w' => e = .returned (.tuple #[]) ∧ J need.length w' := by
  have hcl := fun z (hz : z ∈ needOf L S.N[i]) => hI.closed i _ hi (List.getElem?_eq_getElem hi) z hz
  obtain ⟨hp, hnm, hnd⟩ := there_pos (hI.th _ (List.getElem_mem hi))
  rw [hneed] at hnd hcl
  obtain ⟨ad, An, cn, rfl, hblt, hLb⟩ := hR0 _ hp
  obtain ⟨b, hb⟩ : ∃ b, L[posL L S.N[i]] = b := ⟨_, rfl⟩
  rw [hb] at hnd hLb
  obtain ⟨pp, hpp⟩ : ∃ pp, posL L S.N[i] = pp := ⟨_, rfl⟩
  rw [hpp] at hp hLb
  have hlb := fun v (hv : Below w0.heap.size w0 v) => hLb.below hblt rfl hv
  have hnl : need.length ≤ 100000 := by rw [hnd]; exact hLb.len
  obtain ⟨n, hn⟩ : ∃ n, S.N.length = n := ⟨_, rfl⟩
  obtain ⟨m, hm⟩ : ∃ m, need.length = m := ⟨_, rfl⟩
  obtain ⟨l, hl⟩ : ∃ l, L.length = l := ⟨_, rfl⟩
  have HN := Lib.hid (And.intro hn (And.intro hm hl))
  have hin : i < n := by omega
  have hmany := hI.many
  have hn255 : n ≤ 255 := by omega
  have HLB := Lib.hid hlb
  have HND := Lib.hid hnd
  have HRd := Lib.hid hRd
  have HDO := Lib.hid hdo
  have HSK := Lib.hid hsk
  have HDR := Lib.hid hDr
  have HCL := Lib.hid hcl
  have HI := Lib.hid hI
  have HPP := Lib.hid hpp
  have hpl : pp < l := by omega
  obtain ⟨rb1, rb2, rb3, rb4, rb5⟩ := hRd 0 w h0
  obtain ⟨al, rfl, -, r1⟩ := rb5.libs i (by rw [List.length_map]; exact hi)
  rw [List.getElem_map, hpp] at r1
  obtain ⟨l0, l1, -, -, -⟩ := hlb w rb1
  rw [← hnd, hm] at l1
  rw [hl] at rb2
  rw [hn] at rb3
  rw [hm] at hnl ⊢
  have hi0 : (0 : Int) ≤ (i : Int) := by omega
  have hi1 : (i : Int) < (n : Int) := by omega
  have hp0 : (0 : Int) ≤ (pp : Int) := by omega
  have hp1 : (pp : Int) < (l : Int) := by omega
  have H0 := Lib.hid (hDr 0 w 1 h0)
  clear hlb hRd hdo hsk hDr hcl hI hpp hLb hp hnm hneed hn hm hl hmany rb1 rb4 rb5 h0 hnd l0 hb
  go_enter Try.func22, Try.ntmps22
  go_wp2_with fail
  go_region
  all_goals
    clear l1 r1 rb2 rb3
    generalize hW1 : w.drew = W1
    have H1 : Hid (J 0 W1) := Lib.hid (by rw [← hW1]; exact H0.out)
    clear H0 hW1
    go_wp2_with fail
    go_loopw [19] (fun z wr => ∃ k : Nat, k ≤ m ∧ z = .int .i64 k ∧ Hid (J k wr)) (fun z _ => m - (intOf z).toNat)
  case atStart => exact ⟨0, Nat.zero_le _, rfl, H1⟩
  case round =>
    obtain ⟨k, hk, rfl, HJ⟩ := hrel
    by_cases hlt : k < m
    · have hk1 : k < need.length := by rw [HN.out.2.1]; exact hlt
      obtain ⟨b1, b2, b3, b4, b5⟩ := HRd.out k wr HJ.out
      have hrow := (HLB.out wr b1).row
      rw [← HND.out] at hrow
      obtain ⟨an, rfl, -, q0, hqs⟩ := hrow k hk1
      have hlk := b5.map.look hqs
      have hkk := HCL.out _ (List.getElem_mem hk1)
      have hdo := HDO.out k hk1
      have hsk := HSK.out k hk1
      have hk0 : (0 : Int) ≤ (k : Int) := by omega
      have hk2 : (k : Int) < (m : Int) := by omega
      by_cases hmm : need[k] ∈ S.N
      · rw [atF_there hmm, Option.getD_some] at hlk
        have hdo2 := hdo hmm wr HJ.out
        generalize need[k] = nm at *
        obtain ⟨z, hz⟩ : ∃ z, S.N.idxOf nm = z := ⟨_, rfl⟩
        rw [hz] at hlk hdo2
        have HD := Lib.hid hdo2
        have hz0 : (0 : Int) ≤ (z : Int) := by omega
        have hz1 : ((z : Int) ≥ 0) := hz0
        clear hdo hsk hkk hrow b1 b2 b3 b5 hmm hz hdo2
        go_wp2_with (go_at_call 23; with_reducible refine HD.out.mono ?_; rintro e w2 ⟨rfl, hj⟩; have HJ2 := Lib.hid hj; clear hj)
        go_roundw
        case rel => exact ⟨k + 1, by omega, by go_num, HJ2⟩
        case measure => simp [intOf]; omega
      · have hmM : need[k] ∈ S.M := by
          rcases hkk with h | h
          · exact absurd h hmm
          · exact h
        rw [atF_gone hmm hmM, Option.getD_some] at hlk
        have HS2 := Lib.hid (hsk hmm wr HJ.out)
        generalize need[k] = nm at *
        clear hdo hsk hkk hrow b1 b2 b3 b5 hmm hmM
        go_wp2_with fail
        go_roundw
        case rel => exact ⟨k + 1, by omega, by go_num, HS2⟩
        case measure => simp [intOf]; omega
    · obtain rfl : k = m := by omega
      go_wp2
      go_end0
      exact ⟨rfl, HJ.out⟩

set_option maxRecDepth 100000 in
set_option maxHeartbeats 3200000 in
theorem each3_any (w0 : World) (L : List Lb) (r : ByteArray) (A : Option Addr) (c : Nat) (A1 A2 A3 : Option Addr) (c1 c2 c3 MC pl pcc pu pfr : Nat) (J : Nat → World → Prop) (i : Nat) (w : World) (hR0 : LibRow w0 A L) (hL : L.length ≤ 255)
    (S : Wk) (hI : Inv L r S S.N.length) (hi : i < S.N.length) (need : List ByteArray) (hneed : needOf L S.N[i] = need)
    (hRd : ∀ k v, J k v → RdE w0 L S A c A1 A2 A3 c1 c2 c3 MC pl pcc v) (hDr : ∀ k v q, J k v → J k (v.drewN q)) (h0 : J 0 w)
    (hdo : ∀ k, (hk : k < need.length) → need[k] ∈ S.N → ∀ v, J k v → Calls Try.prog 24 #[.int .i64 (S.N.idxOf need[k] : Nat), .pointer (some ⟨pu, 0, none⟩), .pointer (some ⟨pfr, 0, none⟩)] v fun e v' => e = .returned (.tuple #[]) ∧ J (k + 1) v')
    (hsk : ∀ k, (hk : k < need.length) → need[k] ∉ S.N → ∀ v, J k v → J (k + 1) v) :
    Calls Try.prog 22 #[.int .i64 i, .func (.func 24) #[] #[.pointer (some ⟨pu, 0, none⟩), .pointer (some ⟨pfr, 0, none⟩)], .pointer (some ⟨pl, 0, none⟩), .pointer (some ⟨pcc, 0, none⟩)] w
      fun e w' => e = .returned (.tuple #[]) ∧ J need.length w' := by
  have hcl := fun z (hz : z ∈ needOf L S.N[i]) => hI.closed i _ hi (List.getElem?_eq_getElem hi) z hz
  obtain ⟨hp, hnm, hnd⟩ := there_pos (hI.th _ (List.getElem_mem hi))
  rw [hneed] at hnd hcl
  obtain ⟨ad, An, cn, rfl, hblt, hLb⟩ := hR0 _ hp
  obtain ⟨b, hb⟩ : ∃ b, L[posL L S.N[i]] = b := ⟨_, rfl⟩
  rw [hb] at hnd hLb
  obtain ⟨pp, hpp⟩ : ∃ pp, posL L S.N[i] = pp := ⟨_, rfl⟩
  rw [hpp] at hp hLb
  have hlb := fun v (hv : Below w0.heap.size w0 v) => hLb.below hblt rfl hv
  have hnl : need.length ≤ 100000 := by rw [hnd]; exact hLb.len
  obtain ⟨n, hn⟩ : ∃ n, S.N.length = n := ⟨_, rfl⟩
  obtain ⟨m, hm⟩ : ∃ m, need.length = m := ⟨_, rfl⟩
  obtain ⟨l, hl⟩ : ∃ l, L.length = l := ⟨_, rfl⟩
  have HN := Lib.hid (And.intro hn (And.intro hm hl))
  have hin : i < n := by omega
  have hmany := hI.many
  have hn255 : n ≤ 255 := by omega
  have HLB := Lib.hid hlb
  have HND := Lib.hid hnd
  have HRd := Lib.hid hRd
  have HDO := Lib.hid hdo
  have HSK := Lib.hid hsk
  have HDR := Lib.hid hDr
  have HCL := Lib.hid hcl
  have HI := Lib.hid hI
  have HPP := Lib.hid hpp
  have hpl : pp < l := by omega
  obtain ⟨rb1, rb2, rb3, rb4, rb5⟩ := hRd 0 w h0
  obtain ⟨al, rfl, -, r1⟩ := rb5.libs i (by rw [List.length_map]; exact hi)
  rw [List.getElem_map, hpp] at r1
  obtain ⟨l0, l1, -, -, -⟩ := hlb w rb1
  rw [← hnd, hm] at l1
  rw [hl] at rb2
  rw [hn] at rb3
  rw [hm] at hnl ⊢
  have hi0 : (0 : Int) ≤ (i : Int) := by omega
  have hi1 : (i : Int) < (n : Int) := by omega
  have hp0 : (0 : Int) ≤ (pp : Int) := by omega
  have hp1 : (pp : Int) < (l : Int) := by omega
  have H0 := Lib.hid (hDr 0 w 1 h0)
  clear hlb hRd hdo hsk hDr hcl hI hpp hLb hp hnm hneed hn hm hl hmany rb1 rb4 rb5 h0 hnd l0 hb
  go_enter Try.func22, Try.ntmps22
  go_wp2_with fail
  go_region
  all_goals
    clear l1 r1 rb2 rb3
    generalize hW1 : w.drew = W1
    have H1 : Hid (J 0 W1) := Lib.hid (by rw [← hW1]; exact H0.out)
    clear H0 hW1
    go_wp2_with fail
    go_loopw [19] (fun z wr => ∃ k : Nat, k ≤ m ∧ z = .int .i64 k ∧ Hid (J k wr)) (fun z _ => m - (intOf z).toNat)
  case atStart => exact ⟨0, Nat.zero_le _, rfl, H1⟩
  case round =>
    obtain ⟨k, hk, rfl, HJ⟩ := hrel
    by_cases hlt : k < m
    · have hk1 : k < need.length := by rw [HN.out.2.1]; exact hlt
      obtain ⟨b1, b2, b3, b4, b5⟩ := HRd.out k wr HJ.out
      have hrow := (HLB.out wr b1).row
      rw [← HND.out] at hrow
      obtain ⟨an, rfl, -, q0, hqs⟩ := hrow k hk1
      have hlk := b5.map.look hqs
      have hkk := HCL.out _ (List.getElem_mem hk1)
      have hdo := HDO.out k hk1
      have hsk := HSK.out k hk1
      have hk0 : (0 : Int) ≤ (k : Int) := by omega
      have hk2 : (k : Int) < (m : Int) := by omega
      by_cases hmm : need[k] ∈ S.N
      · rw [atF_there hmm, Option.getD_some] at hlk
        have hdo2 := hdo hmm wr HJ.out
        generalize need[k] = nm at *
        obtain ⟨z, hz⟩ : ∃ z, S.N.idxOf nm = z := ⟨_, rfl⟩
        rw [hz] at hlk hdo2
        have HD := Lib.hid hdo2
        have hz0 : (0 : Int) ≤ (z : Int) := by omega
        have hz1 : ((z : Int) ≥ 0) := hz0
        clear hdo hsk hkk hrow b1 b2 b3 b5 hmm hz hdo2
        go_wp2_with (go_at_call 24; with_reducible refine HD.out.mono ?_; rintro e w2 ⟨rfl, hj⟩; have HJ2 := Lib.hid hj; clear hj)
        go_roundw
        case rel => exact ⟨k + 1, by omega, by go_num, HJ2⟩
        case measure => simp [intOf]; omega
      · have hmM : need[k] ∈ S.M := by
          rcases hkk with h | h
          · exact absurd h hmm
          · exact h
        rw [atF_gone hmm hmM, Option.getD_some] at hlk
        have HS2 := Lib.hid (hsk hmm wr HJ.out)
        generalize need[k] = nm at *
        clear hdo hsk hkk hrow b1 b2 b3 b5 hmm hmM
        go_wp2_with fail
        go_roundw
        case rel => exact ⟨k + 1, by omega, by go_num, HS2⟩
        case measure => simp [intOf]; omega
    · obtain rfl : k = m := by omega
      go_wp2
      go_end0
      exact ⟨rfl, HJ.out⟩

end Go.Proofs.Ytmkaehnekhejmaa
