/- DynamicName: for any three numbers: a name has 24 bytes at most, ends with a byte 0, and that is within the names. -/
import Derived.Test.YtmbglkebgeomcaaDoorDJ
namespace Go.Proofs.YtmbglkebgeomcaaDoor.lawName9
open Go.RowKit Go.ChangeShapes Go.WideShapes Go.Deep
open Go.Proofs.YtmbglkebgeomcaaDoor.l9
set_option linter.unusedVariables false
set_option linter.unusedSimpArgs false

def moreL9 : List UInt8 := [109, 111, 114, 101, 0]
/-- The names' bytes, and a view of them. -/
def nL (n : Nat) : List UInt8 := List.replicate n 110 ++ 0 :: moreL9
def vL (a n : Nat) : List UInt8 := List.replicate a 0 ++ nL n
def dN (x m : Int) : Dyn := ⟨[], fun j => if j = 1 then x else if j = 2 then m else 0⟩
theorem dN_wf {x m : Int} (hx : 0 ≤ x ∧ x ≤ 1000) (hm : 0 ≤ m ∧ m ≤ 1000) : (dN x m).wf := by
  refine ⟨by simp [dN], fun j => WalkArith.wf_i64 ?_⟩
  unfold dN
  simp only
  split
  · omega
  · split <;> omega
theorem nL_len (n : Nat) : (nL n).length = n + 6 := by simp [nL, moreL9]
theorem vL_len (a n : Nat) : (vL a n).length = a + n + 6 := by simp [vL, nL_len]; omega
theorem find_n (n : Nat) (X : List UInt8) : (List.replicate n (110 : UInt8) ++ 0 :: X).findIdx (· == 0) = n := by
  induction n with
  | zero => simp [List.findIdx_cons]
  | succ n ih => rw [List.replicate_succ, List.cons_append, List.findIdx_cons]; simp [ih]
theorem find_all (n : Nat) : (List.replicate n (110 : UInt8)).findIdx (· == 0) = n := by
  induction n with
  | zero => rfl
  | succ n ih => rw [List.replicate_succ, List.findIdx_cons]; simp [ih]
theorem nms_n (a n m : Nat) : nmsS (mkb (vL a n)) (a : Int) (m : Int) = mkb ((nL n).take (min m (n + 6))) ∧ nmsB (mkb (vL a n)) (a : Int) (m : Int) = true := by
  have hsz : (mkb (vL a n)).size = a + n + 6 := by rw [mkb_size, vL_len]
  constructor
  · unfold nmsS
    simp only [Int.toNat_natCast]
    rw [hsz, show a + n + 6 - a = n + 6 by omega, extract_mkb, extract_mkb, mkb_data, mkb_data]
    congr 1
    unfold vL
    rw [List.drop_left' (List.length_replicate ..), List.drop_zero, List.take_take]
    congr 1
    omega
  · unfold nmsB
    rw [hsz, decide_eq_true (by omega), decide_eq_true (by omega), decide_eq_true (by omega)]
    rfl
theorem text_n (n m : Nat) (h : n < m) : zat (mkb ((nL n).take (min m (n + 6)))) 0 = n ∧ n < (mkb ((nL n).take (min m (n + 6)))).size := by
  have ht : (nL n).take (min m (n + 6)) = List.replicate n 110 ++ 0 :: (moreL9.take (min m (n + 6) - n - 1)) := by
    unfold nL
    rw [List.take_append, List.take_of_length_le (by simp; omega), List.length_replicate]
    congr 1
    obtain ⟨j, hj⟩ : ∃ j, min m (n + 6) - n = j + 1 := ⟨min m (n + 6) - n - 1, by omega⟩
    rw [hj, List.take_succ_cons]
    rfl
  rw [ht]
  refine ⟨?_, ?_⟩
  · unfold zat
    rw [mkb_data, List.drop_zero]
    exact find_n n _
  · rw [mkb_size]; simp
theorem text_m (n m : Nat) (h : m ≤ n) : zat (mkb ((nL n).take (min m (n + 6)))) 0 = m ∧ (mkb ((nL n).take (min m (n + 6)))).size = m := by
  have ht : (nL n).take (min m (n + 6)) = List.replicate m 110 := by
    unfold nL
    rw [show min m (n + 6) = m by omega, List.take_append_of_le_length (by simp; omega), List.take_replicate, Nat.min_eq_left h]
  rw [ht]
  refine ⟨?_, by rw [mkb_size, List.length_replicate]⟩
  unfold zat
  rw [mkb_data, List.drop_zero]
  exact find_all m
/-- The name at 0. -/
theorem name_yes {a n m : Nat} (h1 : n ≤ 24) (h2 : n < m) : nameOk (mkb (vL a n)) (dN a m) 0 = true ∧ nameS (mkb (vL a n)) (dN a m) 0 = mkb (List.replicate n 110) := by
  obtain ⟨e1, e2⟩ := nms_n a n m
  obtain ⟨z1, z2⟩ := text_n n m h2
  unfold nameOk nameS
  rw [show (dN a m).f 1 = (a : Int) from rfl, show (dN a m).f 2 = (m : Int) from rfl, e1, e2, if_pos rfl]
  obtain ⟨t1, t2⟩ := text_yes (s := mkb ((nL n).take (min m (n + 6)))) (a := 0) (most := 24) (by rw [z1]; omega) (by rw [z1]; omega)
  rw [show ((0 : Nat) : Int) = 0 from rfl] at t1 t2
  rw [t1, t2, z1]
  refine ⟨rfl, ?_⟩
  rw [extract_mkb, mkb_data]
  congr 1
  unfold nL
  rw [List.drop_zero, List.take_take, Nat.zero_add, Nat.sub_zero, show min n (min m (n + 6)) = n by omega, List.take_left' (List.length_replicate ..)]
theorem name_no {a n m : Nat} (h : ¬ (n ≤ 24 ∧ n < m)) : nameOk (mkb (vL a n)) (dN a m) 0 = false := by
  obtain ⟨e1, e2⟩ := nms_n a n m
  unfold nameOk
  rw [show (dN a m).f 1 = (a : Int) from rfl, show (dN a m).f 2 = (m : Int) from rfl, e1, e2, Bool.true_and]
  refine (text_no ?_).1
  rintro ⟨-, x, y⟩
  rw [show (0 : Int).toNat = 0 from rfl] at x y
  rcases Nat.lt_or_ge n m with h2 | h2
  · obtain ⟨z1, z2⟩ := text_n n m h2
    rw [z1] at x y
    omega
  · obtain ⟨z1, z2⟩ := text_m n m h2
    rw [z1, z2] at x
    omega
theorem name_neg (V : ByteArray) (d : Dyn) : nameOk V d (-1) = false := by
  unfold nameOk
  rw [(text_no (s := nmsS V (d.f 1) (d.f 2)) (a := -1) (most := 24) (by omega)).1, Bool.and_false]
theorem name_beyond (V : ByteArray) (m : Int) : nameOk V (dN ((V.size : Int) + 1) m) 0 = false := by
  unfold nameOk nmsB
  rw [show (dN ((V.size : Int) + 1) m).f 1 = (V.size : Int) + 1 from rfl, decide_eq_false (by omega : ¬ (V.size : Int) + 1 ≤ V.size)]
  simp
theorem tmod_in9 (z : Int) {J : Int} (h0 : 0 < J) : -J < z.tmod J ∧ z.tmod J < J := ⟨Int.lt_tmod_of_pos z h0, Int.tmod_lt_of_pos z h0⟩
/-- A number by its rest, as the law reckons it. -/
theorem rest9 (z J : Int) (h0 : 0 < J) (hJ : J ≤ 100) : ∃ (t : Int) (n : Nat), IntKind.i64.wrap (z.tmod J + J) = t ∧ wrap64 (z.tmod J + J) = t ∧ t.tmod J = (n : Int) ∧ (n : Int) < J := by
  have h1 := tmod_in9 z h0
  have h2 := tmod_in9 (z.tmod J + J) h0
  have h3 : 0 ≤ (z.tmod J + J).tmod J := Int.tmod_nonneg _ (by omega)
  exact ⟨z.tmod J + J, ((z.tmod J + J).tmod J).toNat, IntWalk.i64_in _ (by omega), IntWalk.wrap64_in _ (by omega), by omega, by omega⟩

set_option maxRecDepth 100000 in
set_option maxHeartbeats 3200000 in
theorem walk (lo si ah : Int) (w : World) (w1 : (Lit.int .i64 lo).wf = true) (w2 : (Lit.int .i64 si).wf = true) (w3 : (Lit.int .i64 ah).wf = true) (hT : Dyt w) :
    Calls Tryd.prog 6 #[.int .i64 lo, .int .i64 si, .int .i64 ah] w fun e w' => e = .returned (.bool true) ∧ Below w.heap.size w w' := by
  have HA := Lib.hid (fun v hT => awake9_any v hT)
  obtain ⟨R, hR⟩ : ∃ R, w.heap.size = R := ⟨_, rfl⟩
  obtain ⟨tn, n, n1, n1', n2, n3⟩ := rest9 lo 40 (by decide) (by decide)
  obtain ⟨tm, m, m1, m1', m2, m3⟩ := rest9 si 40 (by decide) (by decide)
  obtain ⟨ta, a, a1, a1', a2, a3⟩ := rest9 ah 30 (by decide) (by decide)
  have l1 := tmod_in9 lo (J := 40) (by decide)
  have l2 := tmod_in9 si (J := 40) (by decide)
  have l3 := tmod_in9 ah (J := 30) (by decide)
  have wn : IntKind.i64.wrap (n : Int) = (n : Int) := IntWalk.i64_in _ (by omega)
  have hT0 := hT
  have hB0 := Below.refl R w
  clear hT
  obtain ⟨rn, hrn⟩ : ∃ rn, lo.tmod 40 = rn := ⟨_, rfl⟩
  obtain ⟨rm, hrm⟩ : ∃ rm, si.tmod 40 = rm := ⟨_, rfl⟩
  obtain ⟨ra, hra⟩ : ∃ ra, ah.tmod 30 = ra := ⟨_, rfl⟩
  rw [hrn] at n1 n1' l1
  rw [hrm] at m1 m1' l2
  rw [hra] at a1 a1' l3
  go_enter Tryd.func6, Tryd.ntmps6
  go_upto_block 0 with (go_at_call 7; refine (HA.out _ hT0).mono ?_; rintro e v1 ⟨rfl, hb⟩; rw [hR] at hb; have hB1 := hB0.trans hb; clear hb hT0 hB0)
  clear HA n1 n1' n2 m1 m1' m2 a1 a1' a2 l1 l2 l3 hrn hrm hra
  have hbd : ∀ (x y : Int) (w : World), (Instr.build 26 #[(1, .int .i64 x), (2, .int .i64 y)]).run Tryd.prog w = .ok (.agg #[.slice none 0 0, .int .i64 x, .int .i64 y, .int .i64 0, .int .i64 0, .int .i64 0, .int .i64 0, .int .i64 0, .int .i64 0]) w := fun x y w => run_build w 26 _ _ (by kernel_rfl)
  go_wp2_with fail
  go_loopw [11, 12] (fun s i wr => ∃ k : Nat, k ≤ n ∧ i = .int .i64 k ∧ s = .string (mkb (List.replicate k 110)) ∧ wr = v1) (fun _ i _ => n - (intOf i).toNat)
  case atStart => exact ⟨0, Nat.zero_le _, rfl, rfl, rfl⟩
  case round =>
    obtain ⟨k, hk, rfl, rfl, rfl⟩ := hrel
    have hsz : (mkb (List.replicate k (110 : UInt8))).size = k := by rw [mkb_size, List.length_replicate]
    by_cases hlt : k < n
    · have hnx : mkb (List.replicate k (110 : UInt8)) ++ ⟨#[110]⟩ = mkb (List.replicate (k + 1) 110) := by
        rw [show (⟨#[110]⟩ : ByteArray) = mkb [110] from rfl, mkb_append, List.replicate_succ']
      obtain ⟨S, hS⟩ : ∃ S, mkb (List.replicate k (110 : UInt8)) = S := ⟨_, rfl⟩
      rw [hS] at hnx hsz ⊢
      have HNX := Lib.hid hnx
      clear hnx hS
      go_wp2_with fail
      go_roundw
      case rel => exact ⟨k + 1, by omega, by go_num, by rw [HNX.out], trivial⟩
      case measure => simp [intOf]; omega
    · obtain rfl : k = n := by omega
      clear hlt hk
      have hfill := fun v => rfill_any ⟨#[]⟩ a v (WalkArith.wf_i64 (by omega)) (by decide) (by omega)
      rw [show fillS ⟨#[]⟩ (a : Int) = mkb (List.replicate a 0) by unfold fillS; rw [if_neg (by omega)]; simp [fillL]] at hfill
      have hcat : mkb (List.replicate a 0) ++ mkb (List.replicate k 110) ++ ⟨#[0]⟩ ++ ⟨#[109, 111, 114, 101, 0]⟩ = mkb (vL a k) := by
        rw [show (⟨#[0]⟩ : ByteArray) = mkb [0] from rfl, show (⟨#[109, 111, 114, 101, 0]⟩ : ByteArray) = mkb moreL9 from rfl, mkb_append, mkb_append, mkb_append]
        unfold vL nL
        simp
      have hvs : (mkb (vL a k)).size = a + k + 6 := by rw [mkb_size, vL_len]
      have hZs : (mkb (List.replicate a (0 : UInt8))).size = a := by rw [mkb_size, List.length_replicate]
      have hyes := fun (h : k ≤ 24 ∧ k < m) => name_yes (a := a) h.1 h.2
      have hno := fun (h : ¬ (k ≤ 24 ∧ k < m)) => name_no (a := a) h
      obtain ⟨S, hS⟩ : ∃ S, mkb (List.replicate k (110 : UInt8)) = S := ⟨_, rfl⟩
      obtain ⟨Z, hZ⟩ : ∃ Z, mkb (List.replicate a (0 : UInt8)) = Z := ⟨_, rfl⟩
      obtain ⟨V, hV⟩ : ∃ V, mkb (vL a k) = V := ⟨_, rfl⟩
      rw [hS] at hcat hsz hyes ⊢
      rw [hZ] at hcat hfill hZs
      rw [hV] at hcat hvs hyes hno
      have hwf := dN_wf (x := a) (m := m) (by omega) (by omega)
      have hwf2 := dN_wf (x := (V.size : Int) + 1) (m := m) (by omega) (by omega)
      have h1 := fun v => name_any V (dN a m) (.slice none 0 0) 0 v hwf (by decide) (by omega)
      have h2 := fun v => name_any V (dN a m) (.slice none 0 0) (-1) v hwf (by decide) (by omega)
      have h3 := fun v => name_any V (dN ((V.size : Int) + 1) m) (.slice none 0 0) 0 v hwf2 (by decide) (by omega)
      rw [name_neg] at h2
      rw [name_beyond] at h3
      rw [show (dN a m).cs (.slice none 0 0) = #[.slice none 0 0, .int .i64 a, .int .i64 m, .int .i64 0, .int .i64 0, .int .i64 0, .int .i64 0, .int .i64 0, .int .i64 0] from rfl] at h1 h2
      rw [show (dN ((V.size : Int) + 1) m).cs (.slice none 0 0) = #[.slice none 0 0, .int .i64 ((V.size : Int) + 1), .int .i64 m, .int .i64 0, .int .i64 0, .int .i64 0, .int .i64 0, .int .i64 0, .int .i64 0] from rfl] at h3
      obtain ⟨ok, hok⟩ : ∃ ok, nameOk V (dN a m) 0 = ok := ⟨_, rfl⟩
      obtain ⟨T1, hT1⟩ : ∃ T, nameS V (dN a m) 0 = T := ⟨_, rfl⟩
      rw [hok] at h1 hyes hno
      rw [hT1] at h1 hyes
      generalize nameS V (dN a m) (-1) = T2 at *
      generalize nameS V (dN ((V.size : Int) + 1) m) 0 = T3 at *
      obtain ⟨vs, hvs2⟩ : ∃ vs, a + k + 6 = vs := ⟨_, rfl⟩
      rw [hvs2] at hvs
      rw [hvs] at h3
      have hv1 : IntKind.i64.wrap ((vs : Int) + 1) = (vs : Int) + 1 := IntWalk.i64_in _ (by omega)
      have hvb : vs ≤ 200 := by omega
      have HFI := Lib.hid hfill
      have HN1 := Lib.hid h1
      have HN2 := Lib.hid h2
      have HN3 := Lib.hid h3
      have HYN := Lib.hid (And.intro hyes hno)
      clear hfill h1 h2 h3 hyes hno hok hT1 hwf hwf2 hS hZ hV hvs2
      go_upto_region 12 with (go_at_call 12; refine (HFI.out _).mono ?_; rintro e v2 ⟨rfl, hb2⟩)
      have HS := Lib.hid (fun (W3 : World) (hW : v2.alloc (.cells #[.slice none 0 0, .int .i64 a, .int .i64 m, .int .i64 0, .int .i64 0, .int .i64 0, .int .i64 0, .int .i64 0, .int .i64 0] 26) = W3) =>
        show Blk W3 v2.heap.size 26 #[.slice none 0 0, .int .i64 a, .int .i64 m, .int .i64 0, .int .i64 0, .int .i64 0, .int .i64 0, .int .i64 0, .int .i64 0] ∧ Below R w W3 from by
        subst hW
        have hB2 := hB1.trans (hb2.mono (by rw [← hR]; exact hB1.size))
        exact ⟨Blk.new _ _ _, hB2.alloc (by rw [← hR]; exact hB2.size) _⟩)
      have hXR : R ≤ v2.heap.size := Nat.le_trans (by rw [← hR]; exact hB1.size) hb2.size
      generalize hW3 : v2.alloc (.cells #[.slice none 0 0, .int .i64 a, .int .i64 m, .int .i64 0, .int .i64 0, .int .i64 0, .int .i64 0, .int .i64 0, .int .i64 0] 26) = W3
      obtain ⟨hK, hB3⟩ := HS.out W3 hW3
      clear hW3 HS hb2 hB1 hcat hsz hZs HFI
      generalize v2.heap.size = X at *
      have HKB := Lib.hid (fun v (hv : Below W3.heap.size W3 v) => show Blk v X 26 #[.slice none 0 0, .int .i64 a, .int .i64 m, .int .i64 0, .int .i64 0, .int .i64 0, .int .i64 0, .int .i64 0, .int .i64 0] ∧ Below R w v from
        ⟨hK.below hv hK.lt, hB3.trans (hv.mono (by rw [← hR]; exact hB3.size))⟩)
      have HCL := Lib.hid (fun v (x : Int) (h : Blk v X 26 #[.slice none 0 0, .int .i64 x, .int .i64 m, .int .i64 0, .int .i64 0, .int .i64 0, .int .i64 0, .int .i64 0, .int .i64 0]) =>
        show v.cell? ⟨X, 0, none⟩ = some (.slice none 0 0) ∧ v.cell? ⟨X, 1, none⟩ = some (.int .i64 x) ∧ v.cell? ⟨X, 2, none⟩ = some (.int .i64 m) ∧ v.cell? ⟨X, 3, none⟩ = some (.int .i64 0) ∧ v.cell? ⟨X, 4, none⟩ = some (.int .i64 0) ∧ v.cell? ⟨X, 5, none⟩ = some (.int .i64 0) ∧ v.cell? ⟨X, 6, none⟩ = some (.int .i64 0) ∧ v.cell? ⟨X, 7, none⟩ = some (.int .i64 0) ∧ v.cell? ⟨X, 8, none⟩ = some (.int .i64 0) from
        ⟨h.cell 0, h.cell 1, h.cell 2, h.cell 3, h.cell 4, h.cell 5, h.cell 6, h.cell 7, h.cell 8⟩)
      obtain ⟨c0, c1, c2, c3, c4, c5, c6, c7, c8⟩ := HCL.out W3 _ hK
      have hv3 := Below.refl W3.heap.size W3
      clear hK hB3
      have h3 : (k ≤ 24 ∧ k < m ∧ ok = true ∧ T1 = S) ∨ (k ≤ 24 ∧ ¬ k < m ∧ ok = false) ∨ (¬ k ≤ 24 ∧ ok = false) := by
        by_cases x1 : k ≤ 24
        · by_cases x2 : k < m
          · exact .inl ⟨x1, x2, (HYN.out.1 ⟨x1, x2⟩).1, (HYN.out.1 ⟨x1, x2⟩).2⟩
          · exact .inr (.inl ⟨x1, x2, HYN.out.2 (fun h => x2 h.2)⟩)
        · exact .inr (.inr ⟨x1, HYN.out.2 (fun h => x1 h.1)⟩)
      clear HYN
      rcases h3 with ⟨x1, x2, rfl, rfl⟩ | ⟨x1, x2, rfl⟩ | ⟨x1, rfl⟩
      all_goals
        go_upto_region 14 with (go_at_call 15; with_reducible refine (HN1.out _).mono ?_; rintro e v4 ⟨rfl, hb4⟩; have hv4 := hv3.trans hb4; clear hb4 hv3 c0 c1 c2 c3 c4 c5 c6 c7 c8; obtain ⟨c0, c1, c2, c3, c4, c5, c6, c7, c8⟩ := HCL.out v4 _ (HKB.out v4 hv4).1)
        go_upto_region 15 with (go_at_call 15; with_reducible refine (HN2.out _).mono ?_; rintro e v5 ⟨rfl, hb5⟩; have hv5 := hv4.trans (hb5.mono hv4.size); clear hb5 hv4 c0 c1 c2 c3 c4 c5 c6 c7 c8)
        obtain ⟨hk5, hB5⟩ := HKB.out v5 hv5
        have c1 := (HCL.out v5 _ hk5).2.1
        have f1 := hk5.frozen 1
        have HS6 := Lib.hid (fun (W6 : World) (hW : v5.setCell ⟨X, 1, none⟩ (.int .i64 ((vs : Int) + 1)) = W6) =>
          show Blk W6 X 26 #[.slice none 0 0, .int .i64 ((vs : Int) + 1), .int .i64 m, .int .i64 0, .int .i64 0, .int .i64 0, .int .i64 0, .int .i64 0, .int .i64 0] ∧ Below R w W6 from by
          subst hW
          refine ⟨?_, hB5.setCell (p := ⟨X, 1, none⟩) hXR _⟩
          have := hk5.set_ 1 (.int .i64 ((vs : Int) + 1))
          simpa using this)
        clear hk5 hB5 hv5
        go_upto_region 16 with fail
        generalize hW6 : v5.setCell ⟨X, 1, none⟩ (.int .i64 ((vs : Int) + 1)) = W6
        obtain ⟨hk6, hB6⟩ := HS6.out W6 hW6
        clear hW6 HS6 c1 f1
        obtain ⟨c0, c1, c2, c3, c4, c5, c6, c7, c8⟩ := HCL.out W6 _ hk6
        have HB6 := Lib.hid hB6
        clear hk6 hB6
        go_wp2_with (go_at_call 15; with_reducible refine (HN3.out _).mono ?_; rintro e v7 ⟨rfl, hb7⟩; clear c0 c1 c2 c3 c4 c5 c6 c7 c8)
        go_ret
        exact ⟨rfl, by rw [hR]; exact HB6.out.trans (hb7.mono (by rw [← hR]; exact HB6.out.size))⟩

set_option maxRecDepth 100000 in
theorem lifted (os : Os) (started : os.Started) (H : Type) (enc : TypeId × Value → H) :
    ReturnsInHanded {} Tryd.checked os 6 .any (fun w args => (Rows.dynamicNameSpec.pre enc Tryd.prog Tryd.f6 Rows.dynamicNameRow.domain false w args ∧ laidMet Tryd.prog Rows.dynamicNameRow.laid w) ∧ sizedMet enc Tryd.prog Tryd.f6 (OpenSpec.ofChange Rows.dynamicNameSpec) false w args) (Rows.dynamicNameSpec.post enc Tryd.prog Tryd.f6 false true false false) := by
  refine returnsInHanded_of_change_and (C := Tryd.checked) (X := fun w _ => laidMet Tryd.prog Rows.dynamicNameRow.laid w) (fun _ _ _ hh h => h.of_heap hh) own started (by kernel_rfl) Tryd.func6
    (ChangeSpec.witness_at (enc := enc) (C := Tryd.checked) (os := os) (X := fun w _ => laidMet Tryd.prog Rows.dynamicNameRow.laid w) false (laidWorld os) #[.int .i64 0, .int .i64 0, .int .i64 0] 8 rfl (by kernel_rfl) (by kernel_rfl) (by kernel_rfl) (by kernel_rfl) (by kernel_rfl) (laid_met os _)) ?_
  intro W base args ds gs before hval0 hW hcnd _ hL _
  have hval : ∀ (j : Nat) t v, Tryd.f6.params[j]? = some t → args[j]? = some v → Value.okWide Tryd.prog W .any base t v := hval0
  have hW' := hW
  obtain ⟨p, q, hA0, hV, rfl, hfz, hnd⟩ := hW
  have hA : DataW.TrodAll enc Tryd.prog W 0 (fun _ => true) true Tryd.f6.params.toList args.toList ds p := hA0
  rw [Tryd.params6] at hA hval
  obtain ⟨v0, vs0, d0, ds0, p0, q0, hargs, rfl, rfl, h0, r0⟩ := trodAll_cons hA
  obtain ⟨v1, vs1, d1, ds1, p1, q1, rfl, rfl, rfl, h1, r1⟩ := trodAll_cons r0
  obtain ⟨v2, vs2, d2, ds2, p2, q2, rfl, rfl, rfl, h2, r2⟩ := trodAll_cons r1
  obtain ⟨rfl, rfl, rfl⟩ := trodAll_nil r2
  obtain rfl : args = #[v0, v1, v2] := by cases args; simp_all
  obtain ⟨rfl, rfl⟩ := trodVars_none hV
  have k0 := h0
  have lt0 : ∀ x ∈ p0, x.block < W.heap.size := by obtain ⟨m, hm⟩ := k0; exact DataW.trod_lt m _ _ _ hm
  obtain ⟨a0, rfl, _, _, w0⟩ := open_int Tryd.underlying3 (hval 0 3 v0 rfl rfl) h0
  have k1 := h1
  have lt1 : ∀ x ∈ p1, x.block < W.heap.size := by obtain ⟨m, hm⟩ := k1; exact DataW.trod_lt m _ _ _ hm
  obtain ⟨a1, rfl, _, _, w1⟩ := open_int Tryd.underlying3 (hval 1 3 v1 rfl rfl) h1
  have k2 := h2
  have lt2 : ∀ x ∈ p2, x.block < W.heap.size := by obtain ⟨m, hm⟩ := k2; exact DataW.trod_lt m _ _ _ hm
  obtain ⟨a2, rfl, _, _, w2⟩ := open_int Tryd.underlying3 (hval 2 3 v2 rfl rfl) h2
  clear hA0 hval0
  refine (walk a0 a1 a2 W w0 w1 w2 (tab_of_laid hL)).mono fun e W' ⟨he, bel⟩ => ?_
  subst he
  exact ⟨_, rfl, _, _, _, [], _, [], hW', trodAll_mk1 (shut_bool Tryd.underlying4 _), (trodAll_cons_mk (Below.trod laidOut (by kernel_rfl) (of_decide_eq_true (by kernel_rfl)) k0 bel lt0) (trodAll_cons_mk (Below.trod laidOut (by kernel_rfl) (of_decide_eq_true (by kernel_rfl)) k1 bel lt1) (trodAll_cons_mk (Below.trod laidOut (by kernel_rfl) (of_decide_eq_true (by kernel_rfl)) k2 bel lt2) trodAll_mk0))), rfl, bel.frame _, fun h => by cases h⟩
theorem over : Rows.dynamicNameRow.holds Tryd.pinned (OpenSpec.ofChange Rows.dynamicNameSpec) :=
  OpenClaim.holds_of_wide 6 Tryd.f6 rfl rfl rfl rfl rfl rfl rfl ⟨rfl, rfl, rfl, rfl, rfl⟩ rfl rfl rfl rfl rfl (by kernel_rfl) Tryd.func6 (by kernel_rfl)
    (of_decide_eq_true (by kernel_rfl)) (by unfold Func.isWrapper; first | (rw [if_pos (by decide +kernel)]; kernel_rfl) | (rw [if_neg (by decide +kernel)]; exact ⟨rfl, rfl⟩))
    (fun os started H enc _ => lifted os started H enc)
set_option maxRecDepth 100000 in
/-- The statement. -/
theorem proved : Rows.DynamicNameCardSaid :=
  Claim7.holds_tied_plain_at .later [] [.data] true _ false over (fun _ h => by cases h) (by kernel_rfl) (fun _ h => by cases h) dynamicName_row_tie rfl ⟨rfl, rfl⟩ (by kernel_rfl) rfl
    (fun f fn hf hfn => by
      obtain rfl : f = 6 := Option.some.inj (hf.symm.trans (by kernel_rfl))
      obtain rfl : fn = Tryd.f6 := Option.some.inj (hfn.symm.trans Tryd.func6)
      refine ⟨by kernel_rfl, fun j t ht => ?_⟩
      rw [Tryd.params6] at ht
      match j, ht with
      | 0, ht =>
        obtain rfl : t = 3 := by simpa using ht.symm
        exact (by kernel_rfl : Tryd.pinned.checked.prog.wantsStandIn 3 = false)
      | 1, ht =>
        obtain rfl : t = 3 := by simpa using ht.symm
        exact (by kernel_rfl : Tryd.pinned.checked.prog.wantsStandIn 3 = false)
      | 2, ht =>
        obtain rfl : t = 3 := by simpa using ht.symm
        exact (by kernel_rfl : Tryd.pinned.checked.prog.wantsStandIn 3 = false)
      | j + 3, ht => simp at ht)
    (by kernel_rfl)
end Go.Proofs.YtmbglkebgeomcaaDoor.lawName9
