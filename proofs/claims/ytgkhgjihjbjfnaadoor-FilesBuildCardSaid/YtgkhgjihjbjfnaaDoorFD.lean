/- Package files: what stands in a disk's sectors, as texts. -/
import Derived.Test.YtgkhgjihjbjfnaaDoorFC
import Derived.Deep.RegionHeld3
namespace Go.Proofs.YtgkhgjihjbjfnaaDoor
open Go.RowKit Go.Shelf
set_option linter.unusedVariables false
set_option linter.unusedSimpArgs false

theorem wf_u64 {z : Int} (h : 0 ≤ z ∧ z ≤ 18446744073709551615) : (Lit.int .u64 z).wf = true := by
  have h1 : IntKind.u64.min = 0 := rfl
  have h2 : IntKind.u64.max = 18446744073709551615 := by decide
  simp [Lit.wf, h1, h2]
  omega
theorem u64w {n : Nat} (h : n ≤ 1000000000000) : IntKind.u64.wrap (n : Int) = n := by
  show (n : Int) % 18446744073709551616 = n
  omega

/-- What sector 0 says. -/
def headL (count used : Nat) : List UInt8 := [70, 76, 89, 49] ++ putL count 2 ++ putL used 4
def headS (count used : Nat) : ByteArray := mkb (fillL (headL count used) 64)
/-- What a file's own sector says. -/
def extT (e : Nat × Nat) : List UInt8 := putL e.1 2 ++ putL e.2 2
def inoBase (x : Ino) : List UInt8 := fillL x.name.data.toList 24 ++ putL x.size 4 ++ putL x.ext.length 2
def inoL (x : Ino) : List UInt8 := inoBase x ++ x.ext.flatMap extT
def inoS (x : Ino) : ByteArray := mkb (fillL (inoL x) 64)
theorem headL_length (c u : Nat) : (headL c u).length = 10 := by simp [headL, putL_length]
theorem inoBase_length (x : Ino) : (inoBase x).length = 30 := by simp [inoBase, putL_length, fillL_length]
theorem extT_length (l : List (Nat × Nat)) : (l.flatMap extT).length = 4 * l.length := by
  induction l with
  | nil => rfl
  | cons e l ih =>
    rw [List.flatMap_cons, List.length_append, ih]
    simp [extT, putL_length]
    omega
theorem headS_size (c u : Nat) : (headS c u).size = 64 := by unfold headS; rw [mkb_size, fillL_length]
theorem inoS_size (x : Ino) : (inoS x).size = 64 := by unfold inoS; rw [mkb_size, fillL_length]

set_option maxHeartbeats 800000 in
theorem headText_any (c u : Nat) (w : World) (hc : c ≤ 1000000000000) (hu : u ≤ 1000000000000) :
    Calls Tryd.prog 48 #[.int .i64 c, .int .i64 u] w fun e w' => e = .returned (.string (mkb (headL c u))) ∧ Below w.heap.size w w' := by
  have h1 := fun w => put_any c 2 w (wf_u64 (by omega)) (by decide)
  have h2 := fun w => put_any u 4 w (wf_u64 (by omega)) (by decide)
  simp only [Int.toNat_natCast, show wide 2 = 2 by decide, show wide 4 = 4 by decide] at h1 h2
  have s1 : (mkb (putL c 2)).size = 2 := by rw [mkb_size, putL_length]
  have s2 : (mkb (putL u 4)).size = 4 := by rw [mkb_size, putL_length]
  have s3 : ((⟨#[70, 76, 89, 49]⟩ : ByteArray) ++ mkb (putL c 2)).size = 6 := by rw [ByteArray.size_append, s1]; rfl
  have hcat : ((⟨#[70, 76, 89, 49]⟩ : ByteArray) ++ mkb (putL c 2)) ++ mkb (putL u 4) = mkb (headL c u) := by
    show (mkb [70, 76, 89, 49] ++ _) ++ _ = _
    rw [mkb_append, mkb_append]
    rfl
  rw [← hcat]
  generalize mkb (putL c 2) = P at *
  generalize mkb (putL u 4) = U at *
  have H1 := Lib.hid h1
  have H2 := Lib.hid h2
  have hB := Below.refl w.heap.size w
  have w1 := u64w hc
  have w2 := u64w hu
  clear h1 h2 hcat
  go_enter Tryd.func48, Tryd.ntmps48
  go_wp2_with (first
    | (go_at_call 60; with_reducible refine (H1.out _).mono ?_; rintro e v1 ⟨rfl, hb⟩; replace hB := hB.trans (hb.mono hB.size); clear hb)
    | (go_at_call 60; with_reducible refine (H2.out _).mono ?_; rintro e v2 ⟨rfl, hb⟩; replace hB := hB.trans (hb.mono hB.size); clear hb))
  go_ret
  exact ⟨rfl, hB⟩

set_option maxRecDepth 100000 in
set_option maxHeartbeats 3200000 in
theorem inodeText_any (x : Ino) (v : Value) (w : World) (hn : x.name.size ≤ 1000000) (hz : x.size ≤ 1000000000000) (hsm : SmallE x.ext) (hv : ExtRow w v x.ext) :
    Calls Tryd.prog 49 #[inoV x v] w fun e w' => e = .returned (.string (mkb (inoL x))) ∧ Below w.heap.size w w' := by
  obtain ⟨nm, sz, xs⟩ := x
  obtain ⟨A, c, rfl⟩ := hv.slice
  simp only [inoV] at *
  have hl := hsm.1
  have h1 := fun w => fill_any nm 24 w (by decide) (by omega) (by omega)
  have h2 := fun w => put_any sz 4 w (wf_u64 (by omega)) (by decide)
  have h3 := fun w => put_any xs.length 2 w (wf_u64 (by omega)) (by decide)
  have hp : ∀ n w, n ≤ 1000000000000 → Calls Tryd.prog 60 #[.int .u64 (n : Nat), .int .i64 2] w fun e w' => e = .returned (.string (mkb (putL n 2))) ∧ Below w.heap.size w w' := fun n w hn => by
    have h := put_any n 2 w (wf_u64 (by omega)) (by decide)
    simpa only [Int.toNat_natCast, show wide 2 = 2 by decide] using h
  simp only [Int.toNat_natCast, show wide 2 = 2 by decide, show wide 4 = 4 by decide, fillS, show ¬ ((24 : Int) < 0) by decide, if_false, show (24 : Int).toNat = 24 from rfl] at h1 h2 h3
  have s1 : (mkb (fillL nm.data.toList 24)).size = 24 := by rw [mkb_size, fillL_length]
  have s2 : (mkb (putL sz 4)).size = 4 := by rw [mkb_size, putL_length]
  have s3 : (mkb (putL xs.length 2)).size = 2 := by rw [mkb_size, putL_length]
  have s4 : (mkb (fillL nm.data.toList 24) ++ mkb (putL sz 4)).size = 28 := by rw [ByteArray.size_append, s1, s2]
  have hcat : (mkb (fillL nm.data.toList 24) ++ mkb (putL sz 4)) ++ mkb (putL xs.length 2) = mkb (inoBase ⟨nm, sz, xs⟩) := by
    rw [mkb_append, mkb_append]
    rfl
  generalize mkb (fillL nm.data.toList 24) = F at *
  generalize mkb (putL sz 4) = P at *
  generalize mkb (putL xs.length 2) = U at *
  have H1 := Lib.hid h1
  have H2 := Lib.hid h2
  have H3 := Lib.hid h3
  have HV := Lib.hid hv
  have hB := (Below.refl w.heap.size w).alloc (Nat.le_refl _) (.cells #[.string nm, .int .i64 sz, .slice A xs.length c] 55)
  have hb := Blk.new w 55 #[.string nm, .int .i64 sz, .slice A xs.length c]
  have w1 := u64w hz
  have w2 : IntKind.u64.wrap (xs.length : Int) = xs.length := u64w (by omega)
  clear h1 h2 h3 hv
  go_enter Tryd.func49, Tryd.ntmps49
  go_wp2
  generalize w.alloc (.cells #[.string nm, .int .i64 sz, .slice A xs.length c] 55) = W at *
  have n1 := hb.drew
  have n2 := hB.drew
  have n3 := hb.drew.at_ 0 _ rfl
  have n4 := hb.drew.at_ 1 _ rfl
  have n5 := hb.drew.at_ 2 _ rfl
  go_region_held3 (fun w' => w'.cell? ⟨w.heap.size, 0, none⟩ = some (.string nm) ∧ w'.cell? ⟨w.heap.size, 1, none⟩ = some (.int .i64 sz) ∧ w'.cell? ⟨w.heap.size, 2, none⟩ = some (.slice A xs.length c) ∧ Hid (Blk w' w.heap.size 55 #[.string nm, .int .i64 sz, .slice A xs.length c]) ∧ Hid (Below w.heap.size w w'))
    (first | exact ⟨n3, n4, n5, n1, n2⟩)
    (first
    | (go_at_call 45; with_reducible refine (H1.out _).mono ?_; rintro e v1 ⟨rfl, hb⟩; rcases ‹(_ : Prop) ∧ _ ∧ _ ∧ Hid _ ∧ Hid _› with ⟨-, -, -, kb, kB⟩; clear n1 n2 n3 n4 n5; have n1 := kb.out.below hb kb.out.lt; have n2 := kB.out.trans (hb.mono kB.out.size); have n3 := n1.at_ 0 _ rfl; have n4 := n1.at_ 1 _ rfl; have n5 := n1.at_ 2 _ rfl; clear hb kb kB)
    | (go_at_call 60; with_reducible refine (H2.out _).mono ?_; rintro e v1 ⟨rfl, hb⟩; rcases ‹(_ : Prop) ∧ _ ∧ _ ∧ Hid _ ∧ Hid _› with ⟨-, -, -, kb, kB⟩; clear n1 n2 n3 n4 n5; have n1 := kb.out.below hb kb.out.lt; have n2 := kB.out.trans (hb.mono kB.out.size); have n3 := n1.at_ 0 _ rfl; have n4 := n1.at_ 1 _ rfl; have n5 := n1.at_ 2 _ rfl; clear hb kb kB)
    | (go_at_call 60; with_reducible refine (H3.out _).mono ?_; rintro e v1 ⟨rfl, hb⟩; rcases ‹(_ : Prop) ∧ _ ∧ _ ∧ Hid _ ∧ Hid _› with ⟨-, -, -, kb, kB⟩; clear n1 n2 n3 n4 n5; have n1 := kb.out.below hb kb.out.lt; have n2 := kB.out.trans (hb.mono kB.out.size); have n3 := n1.at_ 0 _ rfl; have n4 := n1.at_ 1 _ rfl; have n5 := n1.at_ 2 _ rfl; clear hb kb kB))
  rcases ‹(_ : Prop) ∧ _ ∧ _ ∧ Hid _ ∧ Hid _› with ⟨-, -, q3, -, kB⟩
  clear n1 n2 n3 n4 n5 hB hb s1 s2 s3 s4 hcat H1 H2 H3 w1 w2
  rename_i W1 _
  have kB := kB.out
  go_wp2
  go_loopw [3, 23] (fun sv i wr => ∃ k : Nat, k ≤ xs.length ∧ i = .int .i64 k ∧ sv = .string (mkb (inoBase ⟨nm, sz, xs⟩ ++ (xs.take k).flatMap extT)) ∧ Below w.heap.size w wr) (fun _ i _ => xs.length - (intOf i).toNat)
  case atStart => exact ⟨0, Nat.zero_le _, rfl, by simp, kB⟩
  case round =>
    obtain ⟨k, hk, rfl, rfl, hBr⟩ := hrel
    by_cases hlt : k < xs.length
    · rcases HV.out.below hBr with ⟨_, h0⟩ | ⟨g, cap, cur, hA, hbg, hc⟩
      · rw [h0] at hlt; simp at hlt
      injection hA with hA _ hcap
      subst hA
      subst hcap
      obtain ⟨c1, c2⟩ := ext_cells hbg hc hlt
      have hm := List.getElem_mem hlt
      have hq1 := hsm.2.2 _ hm
      have hq2 : xs[k].2 ≤ 1000000000000 := by have := ahd_succ xs hlt; have := ahd_le xs (k + 1); have := hsm.2.1; omega
      have hcat : mkb (inoBase ⟨nm, sz, xs⟩ ++ (xs.take k).flatMap extT) ++ (mkb (putL xs[k].1 2) ++ mkb (putL xs[k].2 2)) = mkb (inoBase ⟨nm, sz, xs⟩ ++ (xs.take (k + 1)).flatMap extT) := by
        rw [mkb_append, mkb_append, List.take_succ_eq_append_getElem hlt, List.flatMap_append, List.append_assoc]
        simp [extT]
      have hs0 : (mkb (inoBase ⟨nm, sz, xs⟩ ++ (xs.take k).flatMap extT)).size ≤ 5000 := by
        rw [mkb_size, List.length_append, inoBase_length, extT_length, List.length_take]; omega
      have hs1 : (mkb (putL xs[k].1 2)).size = 2 := by rw [mkb_size, putL_length]
      have hs2 : (mkb (putL xs[k].2 2)).size = 2 := by rw [mkb_size, putL_length]
      have hs3 : (mkb (putL xs[k].1 2) ++ mkb (putL xs[k].2 2)).size = 4 := by rw [ByteArray.size_append, hs1, hs2]
      have hs9 : ¬ 9223372036854775807 < (mkb (inoBase ⟨nm, sz, xs⟩ ++ (xs.take k).flatMap extT)).size + 4 := by omega
      have h1 := fun w => hp xs[k].1 w hq1
      have h2 := fun w => hp xs[k].2 w hq2
      have w1 := u64w hq1
      have w2 := u64w hq2
      have HC := Lib.hid hcat
      have H1 := Lib.hid h1
      have H2 := Lib.hid h2
      have hb := Blk.new wr 61 #[.int .i64 (xs[k].1 : Nat), .int .i64 (xs[k].2 : Nat)]
      have hB := hBr.alloc hBr.size (.cells #[.int .i64 (xs[k].1 : Nat), .int .i64 (xs[k].2 : Nat)] 61)
      clear hcat h1 h2 hp hm hbg
      generalize mkb (inoBase ⟨nm, sz, xs⟩ ++ (xs.take k).flatMap extT) = Sk at *
      generalize mkb (putL xs[k].1 2) = P1 at *
      generalize mkb (putL xs[k].2 2) = P2 at *
      generalize xs[k].1 = pp at *
      generalize xs[k].2 = qq at *
      go_wp2
      generalize wr.alloc (.cells #[.int .i64 (pp : Nat), .int .i64 (qq : Nat)] 61) = W2 at *
      have n1 := hb.drew
      have n2 := hB.drew
      have n3 := hb.drew.at_ 0 _ rfl
      have n4 := hb.drew.at_ 1 _ rfl
      go_region_held3 (fun w' => w'.cell? ⟨wr.heap.size, 0, none⟩ = some (.int .i64 (pp : Nat)) ∧ w'.cell? ⟨wr.heap.size, 1, none⟩ = some (.int .i64 (qq : Nat)) ∧ Hid (Blk w' wr.heap.size 61 #[.int .i64 (pp : Nat), .int .i64 (qq : Nat)]) ∧ Hid (Below w.heap.size w w'))
        (first | exact ⟨n3, n4, n1, n2⟩)
        (first
        | (go_at_call 60; with_reducible refine (H1.out _).mono ?_; rintro e v1 ⟨rfl, hb⟩; rcases ‹(_ : Prop) ∧ _ ∧ Hid _ ∧ Hid _› with ⟨-, -, kb, kB⟩; clear n1 n2 n3 n4; have n1 := kb.out.below hb kb.out.lt; have n2 := kB.out.trans (hb.mono kB.out.size); have n3 := n1.at_ 0 _ rfl; have n4 := n1.at_ 1 _ rfl; clear hb kb kB)
        | (go_at_call 60; with_reducible refine (H2.out _).mono ?_; rintro e v1 ⟨rfl, hb⟩; rcases ‹(_ : Prop) ∧ _ ∧ Hid _ ∧ Hid _› with ⟨-, -, kb, kB⟩; clear n1 n2 n3 n4; have n1 := kb.out.below hb kb.out.lt; have n2 := kB.out.trans (hb.mono kB.out.size); have n3 := n1.at_ 0 _ rfl; have n4 := n1.at_ 1 _ rfl; clear hb kb kB))
      all_goals
        rcases ‹(_ : Prop) ∧ _ ∧ Hid _ ∧ Hid _› with ⟨-, -, -, kB⟩
        go_wp2
        go_roundw
      case rel => exact ⟨k + 1, by omega, by go_num, by rw [HC.out], kB.out⟩
      case measure => simp [intOf]; omega
    · obtain rfl : k = xs.length := by omega
      have e : mkb (inoBase ⟨nm, sz, xs⟩ ++ (xs.take xs.length).flatMap extT) = mkb (inoL ⟨nm, sz, xs⟩) := by rw [List.take_length]; rfl
      rw [e]
      clear hp
      go_wp2
      go_ret
      exact ⟨rfl, hBr⟩
end Go.Proofs.YtgkhgjihjbjfnaaDoor
