/- DynamicOne: for any number: a table that says a thing twice (but what is needed) is none; one that says nothing but its end is empty; more than 64 needed are too many. -/
import Derived.Test.YtmbglkebgeomcaaDoorDJ
namespace Go.Proofs.YtmbglkebgeomcaaDoor.lawOne9
open Go.RowKit Go.ChangeShapes Go.WideShapes Go.Deep
open Go.Proofs.YtmbglkebgeomcaaDoor.l9
set_option linter.unusedVariables false
set_option linter.unusedSimpArgs false

def tagL : List Int := [4, 5, 6, 7, 10, 14, 9, 11]
theorem tag_of {q : Nat} (h : q < 8) : (#[.int .u64 4, .int .u64 5, .int .u64 6, .int .u64 7, .int .u64 10, .int .u64 14, .int .u64 9, .int .u64 11] : Array Value)[q]? = some (.int .u64 (tagL.getD q 0)) ∧ (0 < tagL.getD q 0 ∧ tagL.getD q 0 < 100) ∧ mostI (tagL.getD q 0) = 1 ∧ mayI (tagL.getD q 0) 24 = true := by
  match q, h with
  | 0, _ | 1, _ | 2, _ | 3, _ | 4, _ | 5, _ | 6, _ | 7, _ => exact ⟨rfl, by decide, by decide, by decide⟩
theorem read_run {L : List (Int × Int)} (hf : Fits (L ++ [(0, 0)])) (hok : okL [] L) (X : List UInt8) : readO (mkb (entsL (L ++ [(0, 0)]) ++ X)) = some L := by
  obtain ⟨T, hT, _⟩ := ents_read (L ++ [(0, 0)]) X hf
  unfold readO
  rw [hT, List.append_assoc, rdL_ok L [] _ hok]
  simp [rdL]
theorem read_stop {L : List (Int × Int)} {e : Int × Int} {M : List (Int × Int)} (hf : Fits (L ++ e :: M)) (hok : okL [] L) (h0 : e.1 ≠ 0) (hm : mostI e.1 ≠ 0) (hc : cntI L e.1 = mostI e.1) : readO (mkb (entsL (L ++ e :: M))) = Option.none := by
  obtain ⟨T, hT, _⟩ := ents_read (L ++ e :: M) [] hf
  rw [List.append_nil] at hT
  unfold readO
  rw [hT, List.append_assoc, rdL_ok L [] _ hok, List.nil_append, List.cons_append, rdL, if_neg h0, if_neg hm, if_pos hc]
theorem read_end : readO (mkb (entsL [(0, 0)])) = some [] := by
  have h := read_run (L := []) (fun e he => by rw [List.nil_append] at he; rw [List.mem_singleton.1 he]; decide) trivial []
  simpa using h
theorem one_ok {t : Int} (h0 : 0 < t ∧ t < 100) (hm : mostI t = 1) (hy : mayI t 24 = true) : okL [] [(t, 24)] :=
  ⟨by simp only; omega, by simp only; omega, by simp only [cntI, List.countP_nil]; omega, hy, trivial⟩
theorem fits_all {L : List (Int × Int)} (h : ∀ e ∈ L, (0 ≤ e.1 ∧ e.1 < 100) ∧ 0 ≤ e.2 ∧ e.2 < 100) : Fits L := fun e he => by
  obtain ⟨⟨a, b⟩, c, d⟩ := h e he
  exact ⟨⟨a, by omega⟩, c, by omega⟩
theorem fits_append {A B : List (Int × Int)} (ha : Fits A) (hb : Fits B) : Fits (A ++ B) := fun e he => by
  rcases List.mem_append.1 he with h | h
  · exact ha e h
  · exact hb e h
theorem fits_end : Fits [(0, 0)] := fun e he => by rw [List.mem_singleton.1 he]; decide
theorem fits_t {t : Int} (h0 : 0 < t ∧ t < 100) : Fits [(t, 24)] := fits_all fun e he => by
  rw [List.mem_singleton.1 he]
  simp only
  omega
theorem read_one {t : Int} (h0 : 0 < t ∧ t < 100) (hm : mostI t = 1) (hy : mayI t 24 = true) : readO (mkb (entsL ([(t, 24)] ++ [(0, 0)]))) = some [(t, 24)] := by
  have h := read_run (L := [(t, 24)]) (fits_append (fits_t h0) fits_end) (one_ok h0 hm hy) []
  simpa using h
theorem read_two {t : Int} (h0 : 0 < t ∧ t < 100) (hm : mostI t = 1) (hy : mayI t 24 = true) : readO (mkb (entsL ([(t, 24)] ++ (t, 24) :: [(0, 0)]))) = Option.none :=
  read_stop (fits_append (fits_t h0) (fits_append (fits_t h0) fits_end)) (one_ok h0 hm hy) (by simp only; omega) (by simp only; omega) (by simp only [cntI_cons, hm]; simp [cntI])
/-- So many that are needed. -/
def needN (n : Nat) : List (Int × Int) := ((List.range n).map fun i : Nat => (i : Int)).map fun n : Int => ((1 : Int), max n 0)
theorem needN_len (n : Nat) : (needN n).length = n := by simp [needN]
theorem needN_succ (n : Nat) : needN (n + 1) = needN n ++ [(1, (n : Int))] := by
  unfold needN
  rw [List.range_succ, List.map_append, List.map_append]
  congr 2
  simp
theorem needN_mem {n : Nat} {e : Int × Int} (h : e ∈ needN n) : e.1 = 1 ∧ 0 ≤ e.2 ∧ e.2 < n := by
  obtain ⟨x, hx, rfl⟩ := List.mem_map.1 h
  obtain ⟨i, hi, rfl⟩ := List.mem_map.1 hx
  have := List.mem_range.1 hi
  exact ⟨rfl, by show 0 ≤ max (i : Int) 0; omega, by show max (i : Int) 0 < n; omega⟩
theorem needN_cnt (n : Nat) : cntI (needN n) 1 = n := by
  induction n with
  | zero => rfl
  | succ n ih => rw [needN_succ, cntI_append, ih, cntI_cons]; simp [cntI]
theorem needN_ok {n : Nat} (h : n ≤ 64) : okL [] (needN n) := by
  refine okL_of _ _ (fun e he => ?_) fun e he => ?_
  · obtain ⟨h1, h2, h3⟩ := needN_mem he
    rw [h1]
    refine ⟨by decide, by decide, ?_⟩
    simp [mayI]
    omega
  · obtain ⟨h1, h2, h3⟩ := needN_mem he
    rw [h1, List.nil_append, needN_cnt, show mostI 1 = 64 from rfl]
    omega
theorem needN_fits {n : Nat} (h : n ≤ 70) : Fits (needN n) := fits_all fun e he => by
  obtain ⟨h1, h2, h3⟩ := needN_mem he
  omega
theorem read_few {n : Nat} (h : n ≤ 64) : readO (mkb (entsL (needN n ++ [(0, 0)]))) = some (needN n) := by
  have := read_run (L := needN n) (fits_append (needN_fits (by omega)) fits_end) (needN_ok h) []
  simpa using this
theorem needN_split {n : Nat} (h : 64 < n) : ∃ M, needN n = needN 64 ++ (1, 64) :: M := by
  induction n with
  | zero => omega
  | succ n ih =>
    by_cases h2 : 64 < n
    · obtain ⟨M, hM⟩ := ih h2
      exact ⟨M ++ [(1, (n : Int))], by rw [needN_succ, hM]; simp⟩
    · obtain rfl : n = 64 := by omega
      exact ⟨[], needN_succ 64⟩
theorem read_many {n : Nat} (h : 64 < n) (h2 : n ≤ 70) : readO (mkb (entsL (needN n ++ [(0, 0)]))) = Option.none := by
  obtain ⟨M, hM⟩ := needN_split h
  have hf := fits_append (needN_fits h2) fits_end
  rw [hM, List.append_assoc] at hf ⊢
  exact read_stop hf (needN_ok (by omega)) (by decide) (by decide) (by rw [needN_cnt]; rfl)
theorem needN_told (n : Nat) : (dynL (needN n)).needed.length = n := by
  unfold dynL needN
  rw [say_need]
  simp [Dyn.none]
theorem same_none : sameD Dyn.none Dyn.none = true := by decide
theorem zeros16 : fillS ⟨#[]⟩ 16 = mkb (entsL [(0, 0)]) := by decide +kernel

set_option maxRecDepth 100000 in
set_option maxHeartbeats 3200000 in
theorem walk (what many : Int) (w : World) (w1 : (Lit.int .i64 what).wf = true) (w2 : (Lit.int .i64 many).wf = true) (hT : Dyt w) :
    Calls Tryd.prog 5 #[.int .i64 what, .int .i64 many] w fun e w' => e = .returned (.bool true) ∧ Below w.heap.size w w' := by
  have HA := Lib.hid (fun v hT => awake9_any v hT)
  obtain ⟨R, hR⟩ : ∃ R, w.heap.size = R := ⟨_, rfl⟩
  have HT := Lib.hid (fun v (hv : Below R w v) => hT.on (by rw [hR]; exact hv))
  have hand1 := i64_and3 what
  have hand2 := i64_and3 many
  obtain ⟨q, hq⟩ : ∃ q : Nat, what % 8 = q := ⟨(what % 8).toNat, by omega⟩
  obtain ⟨r, hr⟩ : ∃ r : Nat, many % 8 = r := ⟨(many % 8).toNat, by omega⟩
  rw [hq] at hand1
  rw [hr] at hand2
  have hq8 : q < 8 := by omega
  have hr8 : r < 8 := by omega
  obtain ⟨hcell, ht0, htm, hty⟩ := tag_of hq8
  generalize tagL.getD q 0 = t at *
  have hput := fun (n : Int) v (h : (Lit.int .u64 n).wf = true) => rput_any n 8 v h (by decide)
  rw [show wide 8 = 8 from rfl] at hput
  have wt : (Lit.int .u64 t).wf = true := WalkArith.wf_u64 (by omega)
  obtain ⟨P1, hP1⟩ : ∃ P1, mkb (putL t.toNat 8) = P1 := ⟨_, rfl⟩
  obtain ⟨P2, hP2⟩ : ∃ P2, mkb (putL (24 : Int).toNat 8) = P2 := ⟨_, rfl⟩
  have hp1 := fun v => hput t v wt
  have hp2 := fun v => hput 24 v (by decide)
  rw [hP1] at hp1
  rw [hP2] at hp2
  obtain ⟨O, hO⟩ : ∃ O, mkb (entL t 24) = O := ⟨_, rfl⟩
  have hcat : P1 ++ P2 = O := by rw [← hP1, ← hP2, ← hO, mkb_append]; rfl
  have hs1 : P1.size = 8 := by rw [← hP1, mkb_size, putL_length]
  have hs2 : P2.size = 8 := by rw [← hP2, mkb_size, putL_length]
  have hsO : O.size = 16 := by rw [← hO, mkb_size, entL_length]
  obtain ⟨E, hE⟩ : ∃ E, mkb (entsL [(0, 0)]) = E := ⟨_, rfl⟩
  have hsE : E.size = 16 := by rw [← hE, mkb_size, entsL_length]; rfl
  have hfill := fun v => rfill_any ⟨#[]⟩ 16 v (by decide) (by decide) (by decide)
  rw [zeros16, hE] at hfill
  have hOE : O ++ E = mkb (entsL ([(t, 24)] ++ [(0, 0)])) := by rw [← hO, ← hE, mkb_append]; simp only [entsL_append, entsL_one]
  have hOOE : (O ++ O) ++ E = mkb (entsL ([(t, 24)] ++ (t, 24) :: [(0, 0)])) := by
    rw [← hO, ← hE, mkb_append, mkb_append, show (t, (24 : Int)) :: [(0, 0)] = [(t, 24)] ++ [(0, 0)] from rfl]; simp only [entsL_append, entsL_one, List.append_assoc]
  have hr1 := read_one ht0 htm hty
  have hr2 := read_two ht0 htm hty
  have hr3 := read_end
  rw [← hOE] at hr1
  rw [← hOOE] at hr2
  rw [hE] at hr3
  have hc1 : (O ++ E).size = 32 := by simp only [ByteArray.size_append, hsO, hsE]
  have hc2 : (O ++ O ++ E).size = 48 := by simp only [ByteArray.size_append, hsO, hsE]
  have g1 : readD (O ++ E) = dynL [(t, 24)] ∧ readE (O ++ E) = 0 := by unfold readD readE; rw [hr1]; exact ⟨rfl, rfl⟩
  have g2 : readD (O ++ O ++ E) = Dyn.none ∧ readE (O ++ O ++ E) = 17 := by unfold readD readE; rw [hr2]; exact ⟨rfl, rfl⟩
  have g3 : readD E = Dyn.none ∧ readE E = 0 := by unfold readD readE; rw [hr3]; exact ⟨rfl, rfl⟩
  have hRD := fun (s : ByteArray) (hs : s.size ≤ 16000) v (hv : Below R w v) => (dread_any s v hs).mono (R' := fun e w' => ∃ A c, e = .returned (.tuple #[.agg ((readD s).cs (.slice A (readD s).needed.length c)), .int .i64 (readE s)]) ∧ Below R w w' ∧ Below v.heap.size v w') fun e w' ⟨A, c, h1, _, h2⟩ => ⟨A, c, h1, hv.trans (h2.mono (by rw [← hR]; exact hv.size)), h2⟩
  have h1 := hRD (O ++ E) (by omega)
  have h2 := hRD (O ++ O ++ E) (by omega)
  have h3 := hRD E (by omega)
  rw [g1.1, g1.2] at h1
  rw [g2.1, g2.2] at h2
  rw [g3.1, g3.2] at h3
  generalize dynL [(t, 24)] = D1 at *
  unfold Dyn.cs Dyn.none at h2 h3
  unfold Dyn.cs at h1
  simp only [List.length_nil] at h2 h3
  have HP1 := Lib.hid hp1
  have HP2 := Lib.hid hp2
  have HFI := Lib.hid hfill
  have HR1 := Lib.hid h1
  have HR2 := Lib.hid h2
  have HR3 := Lib.hid h3
  have HRD := Lib.hid hRD
  have HPU := Lib.hid hput
  have HE := Lib.hid hE
  have hB0 := Below.refl R w
  have hT0 := hT
  clear hp1 hp2 hfill h1 h2 h3 hRD hput hr1 hr2 hr3 g1 g2 g3 hOE hOOE hc1 hc2 hO hP1 hP2 ht0 htm hty wt hE hT
  go_enter Tryd.func5, Tryd.ntmps5
  go_upto_region 3 with (go_at_call 7; refine (HA.out _ hT0).mono ?_; rintro e v1 ⟨rfl, hb⟩; rw [hR] at hb; have hB1 := hB0.trans hb; clear hb hT0 hB0)
  have hW1 := Blk.new v1 43 #[.int .u64 4, .int .u64 5, .int .u64 6, .int .u64 7, .int .u64 10, .int .u64 14, .int .u64 9, .int .u64 11]
  have hB2 : Below R w (v1.alloc (.cells #[.int .u64 4, .int .u64 5, .int .u64 6, .int .u64 7, .int .u64 10, .int .u64 14, .int .u64 9, .int .u64 11] 43)) := hB1.alloc (by rw [← hR]; exact hB1.size) _
  generalize v1.alloc (.cells #[.int .u64 4, .int .u64 5, .int .u64 6, .int .u64 7, .int .u64 10, .int .u64 14, .int .u64 9, .int .u64 11] 43) = W1 at *
  generalize v1.heap.size = X6 at *
  have cq : W1.cell? ⟨X6, q, none⟩ = some (.int .u64 t) := (hW1.cell q).trans hcell
  have q0 : (0 : Int) ≤ (q : Int) := by omega
  have q1 : (q : Int) < 8 := by omega
  clear hcell hW1 hB1
  go_upto_region 9 with (first
    | (go_at_call 16; with_reducible refine (HP1.out _).mono ?_; rintro e v2 ⟨rfl, hb⟩; replace hB2 := hB2.trans (hb.mono (by rw [← hR]; exact hB2.size)); clear hb)
    | (go_at_call 16; with_reducible refine (HP2.out _).mono ?_; rintro e v3 ⟨rfl, hb⟩; replace hB2 := hB2.trans (hb.mono (by rw [← hR]; exact hB2.size)); clear hb)
    | (go_at_call 12; with_reducible refine (HFI.out _).mono ?_; rintro e v4 ⟨rfl, hb⟩; replace hB2 := hB2.trans (hb.mono (by rw [← hR]; exact hB2.size)); clear hb)
    | (go_at_call 8; with_reducible refine (HR1.out _ hB2).mono ?_; rintro e v5 ⟨A5, c5, rfl, hb5, -⟩; clear hB2)
    | (go_at_call 8; with_reducible refine (HR2.out _ (hb5.alloc (by rw [← hR]; exact hb5.size) _)).mono ?_; rintro e v6 ⟨A6, c6, rfl, hb6, -⟩; clear hb5)
    | (go_at_call 8; with_reducible refine (HR3.out _ (hb6.alloc (by rw [← hR]; exact hb6.size) _)).mono ?_; rintro e v7 ⟨A7, c7, rfl, hb7, -⟩; clear hb6))
  have HS := Lib.hid (fun (W7 : World) (hW : v7.alloc (.cells #[.slice A7 0 c7, .int .i64 0, .int .i64 0, .int .i64 0, .int .i64 0, .int .i64 0, .int .i64 0, .int .i64 0, .int .i64 0] 26) = W7) =>
    show Blk W7 v7.heap.size 26 #[.slice A7 0 c7, .int .i64 0, .int .i64 0, .int .i64 0, .int .i64 0, .int .i64 0, .int .i64 0, .int .i64 0, .int .i64 0] ∧ Below R w W7 from by
    subst hW
    exact ⟨Blk.new _ _ _, hb7.alloc (by rw [← hR]; exact hb7.size) _⟩)
  generalize hW7 : v7.alloc (.cells #[.slice A7 0 c7, .int .i64 0, .int .i64 0, .int .i64 0, .int .i64 0, .int .i64 0, .int .i64 0, .int .i64 0, .int .i64 0] 26) = W7
  obtain ⟨hK7, hB7⟩ := HS.out W7 hW7
  clear hW7 HS hb7 HR1 HR2 HR3 HP1 HP2 HFI HA cq q0 q1 hcat hs1 hs2 hsO
  generalize v7.heap.size = X7 at *
  obtain ⟨G, hG⟩ : ∃ G, W7.heap.size = G := ⟨_, rfl⟩
  have HKEEP := Lib.hid (fun v (hv : Below G W7 v) => show Blk v X7 26 #[.slice A7 0 c7, .int .i64 0, .int .i64 0, .int .i64 0, .int .i64 0, .int .i64 0, .int .i64 0, .int .i64 0, .int .i64 0] ∧ Below R w v ∧ G ≤ v.heap.size from
    ⟨hK7.below hv (by rw [← hG]; exact hK7.lt), hB7.trans (hv.mono (by rw [← hR, ← hG]; exact hB7.size)), by rw [← hG]; exact hv.size⟩)
  clear hK7 hB7
  obtain ⟨n, hn⟩ : ∃ n : Nat, 60 + r = n := ⟨_, rfl⟩
  have hn1 : IntKind.i64.wrap (60 + (r : Int)) = (n : Int) := by rw [IntWalk.i64_in _ (by omega)]; omega
  have hn2 : n ≤ 67 := by omega
  have hBe : Below G W7 W7 := Below.refl _ _
  go_wp2_with fail
  clear hn1 hand2
  go_loopw [17, 18] (fun s i wr => ∃ k : Nat, k ≤ n ∧ i = .int .i64 k ∧ s = .string (mkb (entsL (needN k))) ∧ Below G W7 wr) (fun _ i _ => n - (intOf i).toNat)
  case atStart => exact ⟨0, Nat.zero_le _, rfl, rfl, hBe⟩
  case round =>
    clear hBe
    obtain ⟨k, hk, rfl, rfl, hbe⟩ := hrel
    have hsz : (mkb (entsL (needN k))).size = 16 * k := by rw [mkb_size, entsL_length, needN_len]
    by_cases hlt : k < n
    · obtain ⟨P3, hP3⟩ : ∃ P3, mkb (putL (1 : Int).toNat 8) = P3 := ⟨_, rfl⟩
      obtain ⟨P4, hP4⟩ : ∃ P4, mkb (putL (k : Int).toNat 8) = P4 := ⟨_, rfl⟩
      have hp3 := fun v => HPU.out 1 v (by decide)
      have hp4 := fun v => HPU.out k v (WalkArith.wf_u64 (by omega))
      rw [hP3] at hp3
      rw [hP4] at hp4
      have hs3 : P3.size = 8 := by rw [← hP3, mkb_size, putL_length]
      have hs4 : P4.size = 8 := by rw [← hP4, mkb_size, putL_length]
      have hnx : mkb (entsL (needN k)) ++ P3 ++ P4 = mkb (entsL (needN (k + 1))) := by
        rw [← hP3, ← hP4, mkb_append, mkb_append, needN_succ, entsL_append, entsL_one, List.append_assoc]
        rfl
      have hkw : IntKind.u64.wrap (k : Int) = (k : Int) := by rw [IntKind.wrap_u64]; omega
      obtain ⟨S, hS⟩ : ∃ S, mkb (entsL (needN k)) = S := ⟨_, rfl⟩
      rw [hS] at hnx hsz ⊢
      obtain ⟨sk, hsk⟩ : ∃ sk, 16 * k = sk := ⟨_, rfl⟩
      rw [hsk] at hsz
      have hskb : sk ≤ 2000 := by omega
      have HP3 := Lib.hid hp3
      have HP4 := Lib.hid hp4
      have HNX := Lib.hid hnx
      clear hp3 hp4 hnx hP3 hP4 hS hsk
      go_wp2_with (first
        | (go_at_call 16; with_reducible refine (HP3.out _).mono ?_; rintro e v2 ⟨rfl, hb⟩; replace hbe := hbe.trans (hb.mono (HKEEP.out _ hbe).2.2); clear hb)
        | (go_at_call 16; with_reducible refine (HP4.out _).mono ?_; rintro e v3 ⟨rfl, hb⟩; replace hbe := hbe.trans (hb.mono (HKEEP.out _ hbe).2.2); clear hb))
      go_roundw
      case rel => exact ⟨k + 1, by omega, by go_num, by rw [HNX.out], hbe⟩
      case measure => simp [intOf]; omega
    · obtain rfl : k = n := by omega
      clear hlt hk
      have hcat : mkb (entsL (needN k)) ++ E = mkb (entsL (needN k ++ [(0, 0)])) := by rw [← HE.out, mkb_append, entsL_append]
      have hcs : (mkb (entsL (needN k)) ++ E).size = 16 * k + 16 := by simp only [ByteArray.size_append, hsz, hsE]
      have hrd := HRD.out (mkb (entsL (needN k)) ++ E) (by omega)
      obtain ⟨S, hS⟩ : ∃ S, mkb (entsL (needN k)) = S := ⟨_, rfl⟩
      obtain ⟨sk, hsk⟩ : ∃ sk, 16 * k = sk := ⟨_, rfl⟩
      rw [hS] at hcat hcs hrd
      rw [hS, hsk] at hsz
      rw [hS]
      have hskb : sk ≤ 2000 := by omega
      have HSN := Lib.hid (fun v (h1 : Dyt v) => show Calls Tryd.prog 11 #[.agg #[.slice A7 0 c7, .int .i64 0, .int .i64 0, .int .i64 0, .int .i64 0, .int .i64 0, .int .i64 0, .int .i64 0, .int .i64 0], .agg #[.slice none 0 0, .int .i64 0, .int .i64 0, .int .i64 0, .int .i64 0, .int .i64 0, .int .i64 0, .int .i64 0, .int .i64 0]] v fun e w' => e = .returned (.bool true) ∧ Below v.heap.size v w' from by
        have := dsame_any Dyn.none Dyn.none A7 none c7 0 v h1 (fun i hi => absurd hi (by simp [Dyn.none])) (fun i hi => absurd hi (by simp [Dyn.none])) (by simp [Dyn.none]) (by simp [Dyn.none])
        rw [same_none] at this
        exact this)
      by_cases h64 : k ≤ 64
      · have hro := read_few h64
        rw [← hcat] at hro
        have hg : readD (S ++ E) = dynL (needN k) ∧ readE (S ++ E) = 0 := by unfold readD readE; rw [hro]; exact ⟨rfl, rfl⟩
        rw [hg.1, hg.2, needN_told] at hrd
        have HR4 := Lib.hid hrd
        have hd1 : decide ((k : Int) ≤ 64) = true := decide_eq_true (by omega)
        clear hro hg hrd hcat hcs hS hsk
        generalize dynL (needN k) = D4 at *
        unfold Dyn.cs at HR4
        go_upto_region 16 with (go_at_call 8; with_reducible refine (HR4.out _ (HKEEP.out _ hbe).2.1).mono ?_; rintro e v8 ⟨A8, c8, rfl, -, hb8⟩)
        have hbe8 := hbe.trans (hb8.mono (HKEEP.out _ hbe).2.2)
        have hz8 := Blk.new v8 26 #[.slice A8 k c8, .int .i64 (D4.f 1), .int .i64 (D4.f 2), .int .i64 (D4.f 3), .int .i64 (D4.f 4), .int .i64 (D4.f 5), .int .i64 (D4.f 6), .int .i64 (D4.f 7), .int .i64 (D4.f 8)]
        have hbe9 := hbe8.alloc (HKEEP.out _ hbe8).2.2 (.cells #[.slice A8 k c8, .int .i64 (D4.f 1), .int .i64 (D4.f 2), .int .i64 (D4.f 3), .int .i64 (D4.f 4), .int .i64 (D4.f 5), .int .i64 (D4.f 6), .int .i64 (D4.f 7), .int .i64 (D4.f 8)] 26)
        generalize v8.alloc (.cells #[.slice A8 k c8, .int .i64 (D4.f 1), .int .i64 (D4.f 2), .int .i64 (D4.f 3), .int .i64 (D4.f 4), .int .i64 (D4.f 5), .int .i64 (D4.f 6), .int .i64 (D4.f 7), .int .i64 (D4.f 8)] 26) = W9 at *
        generalize v8.heap.size = X8 at *
        have h21 := Blk.new W9 26 #[.slice none 0 0, .int .i64 0, .int .i64 0, .int .i64 0, .int .i64 0, .int .i64 0, .int .i64 0, .int .i64 0, .int .i64 0]
        have hz10 := hz8.alloc (.cells #[.slice none 0 0, .int .i64 0, .int .i64 0, .int .i64 0, .int .i64 0, .int .i64 0, .int .i64 0, .int .i64 0, .int .i64 0] 26)
        have hbe10 := hbe9.alloc (HKEEP.out _ hbe9).2.2 (.cells #[.slice none 0 0, .int .i64 0, .int .i64 0, .int .i64 0, .int .i64 0, .int .i64 0, .int .i64 0, .int .i64 0, .int .i64 0] 26)
        clear hz8 hbe hbe8 hbe9 hb8 HR4
        go_upto_region 17 with fail
        generalize W9.alloc (.cells #[.slice none 0 0, .int .i64 0, .int .i64 0, .int .i64 0, .int .i64 0, .int .i64 0, .int .i64 0, .int .i64 0, .int .i64 0] 26) = W10 at *
        generalize W9.heap.size = X9 at *
        obtain ⟨hk7, hb10, -⟩ := HKEEP.out W10 hbe10
        have z0 : W10.cell? ⟨X8, 0, none⟩ = some (.slice A8 k c8) := hz10.cell 0
        obtain ⟨y0, y1, y2, y3, y4, y5, y6, y7, y8⟩ : W10.cell? ⟨X9, 0, none⟩ = some (.slice none 0 0) ∧ W10.cell? ⟨X9, 1, none⟩ = some (.int .i64 0) ∧ W10.cell? ⟨X9, 2, none⟩ = some (.int .i64 0) ∧ W10.cell? ⟨X9, 3, none⟩ = some (.int .i64 0) ∧ W10.cell? ⟨X9, 4, none⟩ = some (.int .i64 0) ∧ W10.cell? ⟨X9, 5, none⟩ = some (.int .i64 0) ∧ W10.cell? ⟨X9, 6, none⟩ = some (.int .i64 0) ∧ W10.cell? ⟨X9, 7, none⟩ = some (.int .i64 0) ∧ W10.cell? ⟨X9, 8, none⟩ = some (.int .i64 0) :=
          ⟨h21.cell 0, h21.cell 1, h21.cell 2, h21.cell 3, h21.cell 4, h21.cell 5, h21.cell 6, h21.cell 7, h21.cell 8⟩
        obtain ⟨x0, x1, x2, x3, x4, x5, x6, x7, x8⟩ : W10.cell? ⟨X7, 0, none⟩ = some (.slice A7 0 c7) ∧ W10.cell? ⟨X7, 1, none⟩ = some (.int .i64 0) ∧ W10.cell? ⟨X7, 2, none⟩ = some (.int .i64 0) ∧ W10.cell? ⟨X7, 3, none⟩ = some (.int .i64 0) ∧ W10.cell? ⟨X7, 4, none⟩ = some (.int .i64 0) ∧ W10.cell? ⟨X7, 5, none⟩ = some (.int .i64 0) ∧ W10.cell? ⟨X7, 6, none⟩ = some (.int .i64 0) ∧ W10.cell? ⟨X7, 7, none⟩ = some (.int .i64 0) ∧ W10.cell? ⟨X7, 8, none⟩ = some (.int .i64 0) :=
          ⟨hk7.cell 0, hk7.cell 1, hk7.cell 2, hk7.cell 3, hk7.cell 4, hk7.cell 5, hk7.cell 6, hk7.cell 7, hk7.cell 8⟩
        have HS10 := Lib.hid (HSN.out W10 (HT.out W10 hb10))
        have HB10 := Lib.hid hb10
        have hX8 : X8 < W10.heap.size := hz10.lt
        clear hk7 hz10 h21 hb10 hbe10 HSN HKEEP HT HRD HPU
        go_wp2_with (go_at_call 11; refine HS10.out.mono ?_; rintro e v11 ⟨rfl, hb11⟩; have z1 : v11.cell? ⟨X8, 0, none⟩ = some (.slice A8 k c8) := (hb11.cell hX8).trans z0)
        go_ret
        exact ⟨rfl, by rw [hR]; exact HB10.out.trans (hb11.mono (by rw [← hR]; exact HB10.out.size))⟩
      · have hro := read_many (n := k) (by omega) (by omega)
        rw [← hcat] at hro
        have hg : readD (S ++ E) = Dyn.none ∧ readE (S ++ E) = 17 := by unfold readD readE; rw [hro]; exact ⟨rfl, rfl⟩
        rw [hg.1, hg.2] at hrd
        have HR4 := Lib.hid hrd
        have hd1 : decide ((k : Int) ≤ 64) = false := decide_eq_false (by omega)
        clear hro hg hrd hcat hcs hS hsk
        unfold Dyn.cs Dyn.none at HR4
        simp only [List.length_nil] at HR4
        go_upto_region 16 with (go_at_call 8; with_reducible refine (HR4.out _ (HKEEP.out _ hbe).2.1).mono ?_; rintro e v8 ⟨A8, c8, rfl, -, hb8⟩)
        have hbe8 := hbe.trans (hb8.mono (HKEEP.out _ hbe).2.2)
        have hbe9 := hbe8.alloc (HKEEP.out _ hbe8).2.2 (.cells #[.slice A8 0 c8, .int .i64 0, .int .i64 0, .int .i64 0, .int .i64 0, .int .i64 0, .int .i64 0, .int .i64 0, .int .i64 0] 26)
        generalize v8.alloc (.cells #[.slice A8 0 c8, .int .i64 0, .int .i64 0, .int .i64 0, .int .i64 0, .int .i64 0, .int .i64 0, .int .i64 0, .int .i64 0] 26) = W9 at *
        generalize v8.heap.size = X8 at *
        have h21 := Blk.new W9 26 #[.slice none 0 0, .int .i64 0, .int .i64 0, .int .i64 0, .int .i64 0, .int .i64 0, .int .i64 0, .int .i64 0, .int .i64 0]
        have hbe10 := hbe9.alloc (HKEEP.out _ hbe9).2.2 (.cells #[.slice none 0 0, .int .i64 0, .int .i64 0, .int .i64 0, .int .i64 0, .int .i64 0, .int .i64 0, .int .i64 0, .int .i64 0] 26)
        clear hbe hbe8 hbe9 hb8 HR4
        go_upto_region 17 with fail
        generalize W9.alloc (.cells #[.slice none 0 0, .int .i64 0, .int .i64 0, .int .i64 0, .int .i64 0, .int .i64 0, .int .i64 0, .int .i64 0, .int .i64 0] 26) = W10 at *
        generalize W9.heap.size = X9 at *
        obtain ⟨hk7, hb10, -⟩ := HKEEP.out W10 hbe10
        obtain ⟨y0, y1, y2, y3, y4, y5, y6, y7, y8⟩ : W10.cell? ⟨X9, 0, none⟩ = some (.slice none 0 0) ∧ W10.cell? ⟨X9, 1, none⟩ = some (.int .i64 0) ∧ W10.cell? ⟨X9, 2, none⟩ = some (.int .i64 0) ∧ W10.cell? ⟨X9, 3, none⟩ = some (.int .i64 0) ∧ W10.cell? ⟨X9, 4, none⟩ = some (.int .i64 0) ∧ W10.cell? ⟨X9, 5, none⟩ = some (.int .i64 0) ∧ W10.cell? ⟨X9, 6, none⟩ = some (.int .i64 0) ∧ W10.cell? ⟨X9, 7, none⟩ = some (.int .i64 0) ∧ W10.cell? ⟨X9, 8, none⟩ = some (.int .i64 0) :=
          ⟨h21.cell 0, h21.cell 1, h21.cell 2, h21.cell 3, h21.cell 4, h21.cell 5, h21.cell 6, h21.cell 7, h21.cell 8⟩
        obtain ⟨x0, x1, x2, x3, x4, x5, x6, x7, x8⟩ : W10.cell? ⟨X7, 0, none⟩ = some (.slice A7 0 c7) ∧ W10.cell? ⟨X7, 1, none⟩ = some (.int .i64 0) ∧ W10.cell? ⟨X7, 2, none⟩ = some (.int .i64 0) ∧ W10.cell? ⟨X7, 3, none⟩ = some (.int .i64 0) ∧ W10.cell? ⟨X7, 4, none⟩ = some (.int .i64 0) ∧ W10.cell? ⟨X7, 5, none⟩ = some (.int .i64 0) ∧ W10.cell? ⟨X7, 6, none⟩ = some (.int .i64 0) ∧ W10.cell? ⟨X7, 7, none⟩ = some (.int .i64 0) ∧ W10.cell? ⟨X7, 8, none⟩ = some (.int .i64 0) :=
          ⟨hk7.cell 0, hk7.cell 1, hk7.cell 2, hk7.cell 3, hk7.cell 4, hk7.cell 5, hk7.cell 6, hk7.cell 7, hk7.cell 8⟩
        have HS10 := Lib.hid (HSN.out W10 (HT.out W10 hb10))
        have HB10 := Lib.hid hb10
        clear hk7 h21 hb10 hbe10 HSN HKEEP HT HRD HPU
        go_wp2_with (go_at_call 11; refine HS10.out.mono ?_; rintro e v11 ⟨rfl, hb11⟩)
        go_ret
        exact ⟨rfl, by rw [hR]; exact HB10.out.trans (hb11.mono (by rw [← hR]; exact HB10.out.size))⟩

set_option maxRecDepth 100000 in
theorem lifted (os : Os) (started : os.Started) (H : Type) (enc : TypeId × Value → H) :
    ReturnsInHanded {} Tryd.checked os 5 .any (fun w args => (Rows.dynamicOneSpec.pre enc Tryd.prog Tryd.f5 Rows.dynamicOneRow.domain false w args ∧ laidMet Tryd.prog Rows.dynamicOneRow.laid w) ∧ sizedMet enc Tryd.prog Tryd.f5 (OpenSpec.ofChange Rows.dynamicOneSpec) false w args) (Rows.dynamicOneSpec.post enc Tryd.prog Tryd.f5 false true false false) := by
  refine returnsInHanded_of_change_and (C := Tryd.checked) (X := fun w _ => laidMet Tryd.prog Rows.dynamicOneRow.laid w) (fun _ _ _ hh h => h.of_heap hh) own started (by kernel_rfl) Tryd.func5
    (ChangeSpec.witness_at (enc := enc) (C := Tryd.checked) (os := os) (X := fun w _ => laidMet Tryd.prog Rows.dynamicOneRow.laid w) false (laidWorld os) #[.int .i64 0, .int .i64 0] 8 rfl (by kernel_rfl) (by kernel_rfl) (by kernel_rfl) (by kernel_rfl) (by kernel_rfl) (laid_met os _)) ?_
  intro W base args ds gs before hval0 hW hcnd _ hL _
  have hval : ∀ (j : Nat) t v, Tryd.f5.params[j]? = some t → args[j]? = some v → Value.okWide Tryd.prog W .any base t v := hval0
  have hW' := hW
  obtain ⟨p, q, hA0, hV, rfl, hfz, hnd⟩ := hW
  have hA : DataW.TrodAll enc Tryd.prog W 0 (fun _ => true) true Tryd.f5.params.toList args.toList ds p := hA0
  rw [Tryd.params5] at hA hval
  obtain ⟨v0, vs0, d0, ds0, p0, q0, hargs, rfl, rfl, h0, r0⟩ := trodAll_cons hA
  obtain ⟨v1, vs1, d1, ds1, p1, q1, rfl, rfl, rfl, h1, r1⟩ := trodAll_cons r0
  obtain ⟨rfl, rfl, rfl⟩ := trodAll_nil r1
  obtain rfl : args = #[v0, v1] := by cases args; simp_all
  obtain ⟨rfl, rfl⟩ := trodVars_none hV
  have k0 := h0
  have lt0 : ∀ x ∈ p0, x.block < W.heap.size := by obtain ⟨m, hm⟩ := k0; exact DataW.trod_lt m _ _ _ hm
  obtain ⟨a0, rfl, _, _, w0⟩ := open_int Tryd.underlying3 (hval 0 3 v0 rfl rfl) h0
  have k1 := h1
  have lt1 : ∀ x ∈ p1, x.block < W.heap.size := by obtain ⟨m, hm⟩ := k1; exact DataW.trod_lt m _ _ _ hm
  obtain ⟨a1, rfl, _, _, w1⟩ := open_int Tryd.underlying3 (hval 1 3 v1 rfl rfl) h1
  clear hA0 hval0
  refine (walk a0 a1 W w0 w1 (tab_of_laid hL)).mono fun e W' ⟨he, bel⟩ => ?_
  subst he
  exact ⟨_, rfl, _, _, _, [], _, [], hW', trodAll_mk1 (shut_bool Tryd.underlying4 _), (trodAll_cons_mk (Below.trod laidOut (by kernel_rfl) (of_decide_eq_true (by kernel_rfl)) k0 bel lt0) (trodAll_cons_mk (Below.trod laidOut (by kernel_rfl) (of_decide_eq_true (by kernel_rfl)) k1 bel lt1) trodAll_mk0)), rfl, bel.frame _, fun h => by cases h⟩
theorem over : Rows.dynamicOneRow.holds Tryd.pinned (OpenSpec.ofChange Rows.dynamicOneSpec) :=
  OpenClaim.holds_of_wide 5 Tryd.f5 rfl rfl rfl rfl rfl rfl rfl ⟨rfl, rfl, rfl, rfl, rfl⟩ rfl rfl rfl rfl rfl (by kernel_rfl) Tryd.func5 (by kernel_rfl)
    (of_decide_eq_true (by kernel_rfl)) (by unfold Func.isWrapper; first | (rw [if_pos (by decide +kernel)]; kernel_rfl) | (rw [if_neg (by decide +kernel)]; exact ⟨rfl, rfl⟩))
    (fun os started H enc _ => lifted os started H enc)
set_option maxRecDepth 100000 in
/-- The statement. -/
theorem proved : Rows.DynamicOneCardSaid :=
  Claim7.holds_tied_plain_at .later [] [.data] true _ false over (fun _ h => by cases h) (by kernel_rfl) (fun _ h => by cases h) dynamicOne_row_tie rfl ⟨rfl, rfl⟩ (by kernel_rfl) rfl
    (fun f fn hf hfn => by
      obtain rfl : f = 5 := Option.some.inj (hf.symm.trans (by kernel_rfl))
      obtain rfl : fn = Tryd.f5 := Option.some.inj (hfn.symm.trans Tryd.func5)
      refine ⟨by kernel_rfl, fun j t ht => ?_⟩
      rw [Tryd.params5] at ht
      match j, ht with
      | 0, ht =>
        obtain rfl : t = 3 := by simpa using ht.symm
        exact (by kernel_rfl : Tryd.pinned.checked.prog.wantsStandIn 3 = false)
      | 1, ht =>
        obtain rfl : t = 3 := by simpa using ht.symm
        exact (by kernel_rfl : Tryd.pinned.checked.prog.wantsStandIn 3 = false)
      | j + 2, ht => simp at ht)
    (by kernel_rfl)
end Go.Proofs.YtmbglkebgeomcaaDoor.lawOne9
