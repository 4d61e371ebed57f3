/- The reference of layer 4: inode. -/
import Derived.Test.YtgkhgjihjbjfnaaDoorFRb
import Derived.Deep.RegionHeld3
namespace Go.Proofs.YtgkhgjihjbjfnaaDoor
open Go.RowKit Go.Shelf
set_option linter.unusedVariables false
set_option linter.unusedSimpArgs false

set_option maxRecDepth 100000 in
set_option maxHeartbeats 3200000 in
theorem rinode_any (x : Ino) (v : Value) (w : World) (hn : x.name.size ≤ 1000000) (hz : x.size ≤ 1000000000000) (hsm : SmallE x.ext) (hv : ExtRow w v x.ext) :
    Calls Tryd.prog 32 #[inoV x v] w fun e w' => e = .returned (.string (inoS x)) ∧ Below w.heap.size w w' := by
  obtain ⟨nm, sz, xs⟩ := x
  obtain ⟨A, c, rfl⟩ := hv.slice
  simp only [inoV] at *
  have hl := hsm.1
  have h1 := fun w => rfill_any nm 24 w (by decide) (by omega) (by omega)
  have h2 := fun w => rput_any sz 4 w (wf_u64 (by omega)) (by decide)
  have h3 := fun w => rput_any xs.length 2 w (wf_u64 (by omega)) (by decide)
  have hp : ∀ n w, n ≤ 1000000000000 → Calls Tryd.prog 50 #[.int .u64 (n : Nat), .int .i64 2] w fun e w' => e = .returned (.string (mkb (putL n 2))) ∧ Below w.heap.size w w' := fun n w hn => by
    have h := rput_any n 2 w (wf_u64 (by omega)) (by decide)
    simpa only [Int.toNat_natCast, show wide 2 = 2 by decide] using h
  have h6 := fun w => rfill_any (mkb (inoL ⟨nm, sz, xs⟩)) 64 w (by decide) (by rw [mkb_size]; simp only [inoL, List.length_append, inoBase_length, extT_length]; omega) (by decide)
  have hfs : fillS (mkb (inoL ⟨nm, sz, xs⟩)) 64 = inoS ⟨nm, sz, xs⟩ := by
    unfold fillS inoS
    rw [if_neg (by decide), mkb_data]
    rfl
  rw [hfs] at h6
  simp only [Int.toNat_natCast, show wide 2 = 2 by decide, show wide 4 = 4 by decide, fillS, show ¬ ((24 : Int) < 0) by decide, if_false, show (24 : Int).toNat = 24 from rfl] at h1 h2 h3
  have s1 : (mkb (fillL nm.data.toList 24)).size = 24 := by rw [mkb_size, fillL_length]
  have s2 : (mkb (putL sz 4)).size = 4 := by rw [mkb_size, putL_length]
  have s3 : (mkb (putL xs.length 2)).size = 2 := by rw [mkb_size, putL_length]
  have s4 : (mkb (fillL nm.data.toList 24) ++ mkb (putL sz 4)).size = 28 := by rw [ByteArray.size_append, s1, s2]
  have hcat : (mkb (fillL nm.data.toList 24) ++ mkb (putL sz 4)) ++ mkb (putL xs.length 2) = mkb (inoBase ⟨nm, sz, xs⟩) := by
    rw [mkb_append, mkb_append]
    rfl
  generalize mkb (fillL nm.data.toList 24) = F at *
  generalize mkb (putL sz 4) = P at *
  generalize mkb (putL xs.length 2) = U at *
  generalize inoS ⟨nm, sz, xs⟩ = IS at *
  have H1 := Lib.hid h1
  have H2 := Lib.hid h2
  have H3 := Lib.hid h3
  have H6 := Lib.hid h6
  have HV := Lib.hid hv
  have hB := (Below.refl w.heap.size w).alloc (Nat.le_refl _) (.cells #[.string nm, .int .i64 sz, .slice A xs.length c] 55)
  have hb := Blk.new w 55 #[.string nm, .int .i64 sz, .slice A xs.length c]
  have w1 := u64w hz
  have w2 : IntKind.u64.wrap (xs.length : Int) = xs.length := u64w (by omega)
  clear h1 h2 h3 hv h6 hfs
  go_enter Tryd.func32, Tryd.ntmps32
  go_wp2
  generalize w.alloc (.cells #[.string nm, .int .i64 sz, .slice A xs.length c] 55) = W at *
  obtain ⟨bb, hbb⟩ : ∃ bb, w.heap.size = bb := ⟨_, rfl⟩
  have hBw := hB
  rw [hbb] at hb hB ⊢
  have n1 := hb.drew
  have n2 := hB.drew
  have n3 := hb.drew.at_ 0 _ rfl
  have n4 := hb.drew.at_ 1 _ rfl
  have n5 := hb.drew.at_ 2 _ rfl
  clear hBw
  go_region_held3 (fun w' => w'.cell? ⟨bb, 0, none⟩ = some (.string nm) ∧ w'.cell? ⟨bb, 1, none⟩ = some (.int .i64 sz) ∧ w'.cell? ⟨bb, 2, none⟩ = some (.slice A xs.length c) ∧ Hid (Blk w' bb 55 #[.string nm, .int .i64 sz, .slice A xs.length c]) ∧ Hid (Below bb w w'))
    (first | exact ⟨n3, n4, n5, n1, n2⟩)
    (first
    | (go_at_call 24; with_reducible refine (H1.out _).mono ?_; rintro e v1 ⟨rfl, hb⟩; rcases ‹(_ : Prop) ∧ _ ∧ _ ∧ Hid _ ∧ Hid _› with ⟨-, -, -, kb, kB⟩; clear n1 n2 n3 n4 n5; have n1 := kb.out.below hb kb.out.lt; have n2 := kB.out.trans (hb.mono (by have := kB.out.size; omega)); have n3 := n1.at_ 0 _ rfl; have n4 := n1.at_ 1 _ rfl; have n5 := n1.at_ 2 _ rfl; clear hb kb kB)
    | (go_at_call 50; with_reducible refine (H2.out _).mono ?_; rintro e v1 ⟨rfl, hb⟩; rcases ‹(_ : Prop) ∧ _ ∧ _ ∧ Hid _ ∧ Hid _› with ⟨-, -, -, kb, kB⟩; clear n1 n2 n3 n4 n5; have n1 := kb.out.below hb kb.out.lt; have n2 := kB.out.trans (hb.mono (by have := kB.out.size; omega)); have n3 := n1.at_ 0 _ rfl; have n4 := n1.at_ 1 _ rfl; have n5 := n1.at_ 2 _ rfl; clear hb kb kB)
    | (go_at_call 50; with_reducible refine (H3.out _).mono ?_; rintro e v1 ⟨rfl, hb⟩; rcases ‹(_ : Prop) ∧ _ ∧ _ ∧ Hid _ ∧ Hid _› with ⟨-, -, -, kb, kB⟩; clear n1 n2 n3 n4 n5; have n1 := kb.out.below hb kb.out.lt; have n2 := kB.out.trans (hb.mono (by have := kB.out.size; omega)); have n3 := n1.at_ 0 _ rfl; have n4 := n1.at_ 1 _ rfl; have n5 := n1.at_ 2 _ rfl; clear hb kb kB))
  rcases ‹(_ : Prop) ∧ _ ∧ _ ∧ Hid _ ∧ Hid _› with ⟨-, -, q3, kb, kB⟩
  clear n1 n2 n3 n4 n5 hB hb s1 s2 s3 s4 hcat H1 H2 H3 w1 w2
  rename_i W1 _
  have KB := Lib.hid kB.out
  have KK := Lib.hid kb.out
  have HBB := Lib.hid hbb
  clear kb kB hbb
  go_wp2
  go_loopw [3, 4] (fun sv i wr => ∃ k : Nat, k ≤ xs.length ∧ i = .int .i64 k ∧ sv = .string (mkb (inoBase ⟨nm, sz, xs⟩ ++ (xs.take k).flatMap extT)) ∧ Blk wr bb 55 #[.string nm, .int .i64 sz, .slice A xs.length c] ∧ Below bb w wr) (fun _ i _ => xs.length - (intOf i).toNat)
  case atStart => exact ⟨0, Nat.zero_le _, rfl, by simp, KK.out, KB.out⟩
  case round =>
    obtain ⟨k, hk, rfl, rfl, hbr, hBr⟩ := hrel
    have b2 := hbr.at_ 2 _ rfl
    by_cases hlt : k < xs.length
    · rcases HV.out.below (by rw [HBB.out]; exact hBr) with ⟨_, h0⟩ | ⟨g, cap, cur, hA, hbg, hc⟩
      · rw [h0] at hlt; simp at hlt
      injection hA with hA _ hcap
      subst hA
      subst hcap
      have hm := List.getElem_mem hlt
      have hq1 := hsm.2.2 _ hm
      have hq2 : xs[k].2 ≤ 1000000000000 := by have := ahd_succ xs hlt; have := ahd_le xs (k + 1); have := hsm.2.1; omega
      have hcat : (mkb (inoBase ⟨nm, sz, xs⟩ ++ (xs.take k).flatMap extT) ++ mkb (putL xs[k].1 2)) ++ mkb (putL xs[k].2 2) = mkb (inoBase ⟨nm, sz, xs⟩ ++ (xs.take (k + 1)).flatMap extT) := by
        rw [mkb_append, mkb_append, List.take_succ_eq_append_getElem hlt, List.flatMap_append, List.append_assoc]
        simp [extT]
      have hs0 : (mkb (inoBase ⟨nm, sz, xs⟩ ++ (xs.take k).flatMap extT)).size ≤ 5000 := by
        rw [mkb_size, List.length_append, inoBase_length, extT_length, List.length_take]; omega
      have hs1 : (mkb (putL xs[k].1 2)).size = 2 := by rw [mkb_size, putL_length]
      have hs2 : (mkb (putL xs[k].2 2)).size = 2 := by rw [mkb_size, putL_length]
      have hs3 : ¬ 9223372036854775807 < (mkb (inoBase ⟨nm, sz, xs⟩ ++ (xs.take k).flatMap extT)).size + 2 := by omega
      have hs4 : ¬ 9223372036854775807 < (mkb (inoBase ⟨nm, sz, xs⟩ ++ (xs.take k).flatMap extT)).size + 2 + 2 := by omega
      have hs5 : ¬ 9223372036854775807 < (mkb (inoBase ⟨nm, sz, xs⟩ ++ (xs.take k).flatMap extT)).size + 4 := by omega
      have h1 := fun w => hp xs[k].1 w hq1
      have h2 := fun w => hp xs[k].2 w hq2
      have w1 := u64w hq1
      have w2 := u64w hq2
      have k0 : (0 : Int) ≤ (k : Int) := by omega
      have k1 : (k : Int) < (xs.length : Int) := by omega
      have HC := Lib.hid hcat
      have H1 := Lib.hid h1
      have H2 := Lib.hid h2
      have hcx : ∀ v, Blk v g 61 cur → v.cell? ⟨g, k * 2, none⟩ = some (.int .i64 (xs[k].1 : Nat)) ∧ v.cell? ⟨g, k * 2 + 1, none⟩ = some (.int .i64 (xs[k].2 : Nat)) := fun v hv => ext_cells hv hc hlt
      have n1 := hbr.drew
      have n2 := hBr.drew
      have n6 : Blk wr.drew g 61 cur := hbg
      obtain ⟨n3, n4⟩ := hcx wr.drew n6
      have n5 := hbr.drew.at_ 2 _ rfl
      have HCX := Lib.hid hcx
      clear hcat h1 h2 hp hm hbg hcx hc
      generalize mkb (inoBase ⟨nm, sz, xs⟩ ++ (xs.take k).flatMap extT) = Sk at *
      generalize mkb (putL xs[k].1 2) = P1 at *
      generalize mkb (putL xs[k].2 2) = P2 at *
      generalize xs[k].1 = pp at *
      generalize xs[k].2 = qq at *
      go_wp2
      go_region_held3 (fun w' => w'.cell? ⟨g, k * 2, none⟩ = some (.int .i64 (pp : Nat)) ∧ w'.cell? ⟨g, k * 2 + 1, none⟩ = some (.int .i64 (qq : Nat)) ∧ w'.cell? ⟨bb, 2, none⟩ = some (.slice (some ⟨g, 0, none⟩) xs.length c) ∧ Hid (Blk w' bb 55 #[.string nm, .int .i64 sz, .slice (some ⟨g, 0, none⟩) xs.length c]) ∧ Hid (Blk w' g 61 cur) ∧ Hid (Below bb w w'))
        (first | exact ⟨n3, n4, n5, n1, n6, n2⟩)
        (first
        | (go_at_call 50; with_reducible refine (H1.out _).mono ?_; rintro e v1 ⟨rfl, hb⟩; rcases ‹(_ : Prop) ∧ _ ∧ _ ∧ Hid _ ∧ Hid _ ∧ Hid _› with ⟨-, -, -, kb, kg, kB⟩; clear n1 n2 n3 n4 n5 n6; have n1 := kb.out.below hb kb.out.lt; have n6 := kg.out.below hb kg.out.lt; have n2 := kB.out.trans (hb.mono (by have := kB.out.size; have := HBB.out; omega)); have n3 := (HCX.out _ n6).1; have n4 := (HCX.out _ n6).2; have n5 := n1.at_ 2 _ rfl; clear hb kb kB kg)
        | (go_at_call 50; with_reducible refine (H2.out _).mono ?_; rintro e v1 ⟨rfl, hb⟩; rcases ‹(_ : Prop) ∧ _ ∧ _ ∧ Hid _ ∧ Hid _ ∧ Hid _› with ⟨-, -, -, kb, kg, kB⟩; clear n1 n2 n3 n4 n5 n6; have n1 := kb.out.below hb kb.out.lt; have n6 := kg.out.below hb kg.out.lt; have n2 := kB.out.trans (hb.mono (by have := kB.out.size; have := HBB.out; omega)); have n3 := (HCX.out _ n6).1; have n4 := (HCX.out _ n6).2; have n5 := n1.at_ 2 _ rfl; clear hb kb kB kg))
      all_goals
        rcases ‹(_ : Prop) ∧ _ ∧ _ ∧ Hid _ ∧ Hid _ ∧ Hid _› with ⟨-, -, -, kb, -, kB⟩
        go_wp2
        go_roundw
      case rel => exact ⟨k + 1, by omega, by go_num, by rw [HC.out], kb.out, kB.out⟩
      case measure => simp [intOf]; omega
    · obtain rfl : k = xs.length := by omega
      have e : mkb (inoBase ⟨nm, sz, xs⟩ ++ (xs.take xs.length).flatMap extT) = mkb (inoL ⟨nm, sz, xs⟩) := by rw [List.take_length]; rfl
      rw [e]
      clear hp
      go_wp2_with (go_at_call 24; with_reducible refine (H6.out _).mono ?_; rintro e v6 ⟨rfl, hb6⟩)
      go_ret
      exact ⟨rfl, by rw [HBB.out]; exact hBr.trans (hb6.mono (by have := hBr.size; have := HBB.out; omega))⟩
end Go.Proofs.YtgkhgjihjbjfnaaDoor
