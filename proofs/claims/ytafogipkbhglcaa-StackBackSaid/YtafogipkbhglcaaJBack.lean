/- StackBack: for any words, any pairs of numbers and any top: what was built is read, wherever its top is, with whatever stands below it. -/
import Derived.Test.YtafogipkbhglcaaJJ
import Derived.Test.YtafogipkbhglcaaJK
import Derived.Test.YtafogipkbhglcaaJS
import Derived.Test.YtafogipkbhglcaaJY
import Derived.Maps.AppendAt
import Derived.Deep.RegionLaw
namespace Go.Proofs.Ytafogipkbhglcaa.lawBack17
open Go.ChangeShapes Go.WideShapes Go.ChangeAt Go.RowKit Go.Deep
set_option linter.unusedVariables false
set_option linter.unusedSimpArgs false

/-- Two rows of the law's own, of one cell each, in blocks of their own. -/
structure Tr17 (cur : World) (B : Nat) (e1 e2 : TypeId) (v1 v2 : Value) (X1 X2 : List Value) : Prop where
  a : cur.ownsRow B e1 1 v1 X1.length X1
  b : cur.ownsRow B e2 1 v2 X2.length X2
  ne : ∀ g, v1.ownBlock = some g → v2.ownBlock ≠ some g
section
variable {cur c2 w1 : World} {B : Nat} {e1 e2 : TypeId} {v1 v2 v' : Value} {X1 X2 : List Value} {x : Value}
theorem Tr17.start (w : World) (B : Nat) (e1 e2 : TypeId) : Tr17 w B e1 e2 (.slice none 0 0) (.slice none 0 0) [] [] := ⟨World.ownsRow_nil _ _ _ _, World.ownsRow_nil _ _ _ _, fun g h => by cases h⟩
theorem Tr17.on (r : Tr17 cur B e1 e2 v1 v2 X1 X2) (hb : Below cur.heap.size cur c2) : Tr17 c2 B e1 e2 v1 v2 X1 X2 := ⟨own_below r.a hb, own_below r.b hb, r.ne⟩
theorem Tr17.push1 (r : Tr17 cur B e1 e2 v1 v2 X1 X2) (h2 : Below cur.heap.size cur c2) (ho : w1.ownsRow B e1 1 v' (X1.length + 1) (X1 ++ [x])) (hg : c2.grownBy w1 v1.ownBlock) (hat : v'.ownBlock = v1.ownBlock ∨ v'.ownBlock = some c2.heap.size) :
    Tr17 w1 B e1 e2 v' v2 (X1 ++ [x]) X2 := by
  refine ⟨by simpa using ho, (own_below r.b h2).kept hg ?_, fun g hv he => ?_⟩
  · rcases h : v2.ownBlock with _ | g
    · exact .inl rfl
    · exact .inr fun e => r.ne g e.symm h
  · rcases hat with h | h
    · exact r.ne g (h.symm.trans hv) he
    · have h1 := (r.b.lt g he).2
      have h3 := h2.size
      rw [h] at hv
      injection hv with hv
      omega
theorem Tr17.push2 (r : Tr17 cur B e1 e2 v1 v2 X1 X2) (h2 : Below cur.heap.size cur c2) (ho : w1.ownsRow B e2 1 v' (X2.length + 1) (X2 ++ [x])) (hg : c2.grownBy w1 v2.ownBlock) (hat : v'.ownBlock = v2.ownBlock ∨ v'.ownBlock = some c2.heap.size) :
    Tr17 w1 B e1 e2 v1 v' X1 (X2 ++ [x]) := by
  refine ⟨(own_below r.a h2).kept hg ?_, by simpa using ho, fun g hv he => ?_⟩
  · rcases h : v1.ownBlock with _ | g
    · exact .inl rfl
    · exact .inr fun e => r.ne g h e.symm
  · rcases hat with h | h
    · exact r.ne g hv (h.symm.trans he)
    · have h1 := (r.a.lt g hv).2
      have h3 := h2.size
      rw [h] at he
      injection he with he
      omega
end

theorem P2Row.at_ {w : World} {A : Option Addr} {l : List (Int × Int)} (h : P2Row w A l) {i : Nat} (hi : i < l.length) : ∃ ad, A = some ad ∧ ad.block < w.heap.size ∧ (Lit.int .i64 l[i].1).wf = true ∧ (Lit.int .i64 l[i].2).wf = true ∧
    w.cell? (ad.add (i * 2)) = some (.int .i64 l[i].1) ∧ w.cell? ⟨(ad.add (i * 2)).block, (ad.add (i * 2)).off + 1, none⟩ = some (.int .i64 l[i].2) := by
  obtain ⟨ad, e, hlt, h0, h1, w0, w1⟩ := h i hi
  refine ⟨ad, e, hlt, w0, w1, h0, ?_⟩
  have hs : (⟨(ad.add (i * 2)).block, (ad.add (i * 2)).off + 1, none⟩ : Addr) = ad.add (i * 2 + 1) := by
    rw [← Go.Deep.add_add]
    generalize ad.add (i * 2) = q
    unfold Addr.add
    split <;> simp_all
  rw [hs]
  exact h1
theorem i64_and1J (n : Int) : bits .and .i64 n 1 = n % 2 := i64_and_mask n 1 1 (by omega) (by decide)
theorem i64_and10J (n : Int) : bits .and .i64 n 1023 = n % 1024 := i64_and_mask n 10 1023 (by omega) (by decide)
theorem i64_and15J (n : Int) : bits .and .i64 n 15 = n % 16 := i64_and_mask n 4 15 (by omega) (by decide)
theorem w64natJ (x : Nat) (h : x ≤ 1000000000) : wrap64 (x : Int) = (x : Int) ∧ IntKind.i64.wrap (x : Int) = (x : Int) := ⟨IntWalk.wrap64_in _ (by omega), IntWalk.i64_in _ (by omega)⟩

/-- What is built of such texts and pairs. -/
theorem builtB {T : Nat} {L1 L2 : List ByteArray} {l : List Pa} (h1 : ∀ s ∈ L1, OkT 4 s) (h2 : ∀ s ∈ L2, OkT 4 s) (hl : L1.length + L2.length ≤ 10) (h3 : l.length ≤ 8) (ha : auxB l = true) (hT : 1024 ≤ T) (hT2 : T ≤ 70000) (h16 : T % 16 = 0) :
    ∃ S BS, buildE T L1 L2 l = 0 ∧ buildP T L1 L2 l = (T : Int) - (S : Nat) ∧ buildS T L1 L2 l = BS ∧ BS.size = S ∧ S ≤ 512 ∧ S % 16 = 0 ∧ rawN L1 L2 l ≤ S ∧ sizeN L1 L2 l = S ∧
      ∀ z, Vw (mkb (List.replicate z 0) ++ BS) z (headL (T - (tlen L1 + tlen L2)) L1 L2 l) (S - rawN L1 L2 l) (L1 ++ L2) := by
  have t1 := tlen_okT h1
  have t2 := tlen_okT h2
  have hs := sizeN_le L1 L2 l
  have hr : rawN L1 L2 l = 8 * (L1.length + L2.length + 2 * l.length + 5) + tlen L1 + tlen L2 := rfl
  have hm : mayB T L1 L2 l = true := by
    unfold mayB
    rw [plainB_okT h1, plainB_okT h2, ha, decide_eq_true (by omega), decide_eq_true (by omega), decide_eq_true (by omega)]
    rfl
  obtain ⟨e1, e2, e3⟩ := build_yes (top := (T : Int)) hm (by omega)
  have e4 := buildS_size e1
  rw [Int.toNat_natCast] at e3
  refine ⟨_, _, e1, e2, rfl, e4, by omega, by unfold sizeN; omega, hs.1, rfl, fun z => ?_⟩
  have hv := built_vw z T L1 L2 l
  rw [e3, mkb_append]
  exact hv

set_option maxRecDepth 100000 in
set_option maxHeartbeats 1600000 in
theorem walk (A0 : Option Addr) (ws : List (Int × Int)) (c0 : Nat) (B0 : Option Addr) (qs : List (Int × Int)) (d0 : Nat) (top : Int) (W : World) (hm1 : ws.length ≤ maxLen) (hr1 : P2Row W A0 ws) (hm2 : qs.length ≤ maxLen) (hr2 : P2Row W B0 qs) (wt : (Lit.int .i64 top).wf = true) :
    Calls Try.prog 4 #[.slice A0 ws.length c0, .slice B0 qs.length d0, .int .i64 top] W fun e w' => e = .returned (.bool true) ∧ Below W.heap.size W w' := by
  obtain ⟨R, hR⟩ : ∃ R, W.heap.size = R := ⟨_, rfl⟩
  unfold maxLen at hm1 hm2
  obtain ⟨N1, hN1⟩ : ∃ n, ws.length = n := ⟨_, rfl⟩
  obtain ⟨N2, hN2⟩ : ∃ n, qs.length = n := ⟨_, rfl⟩
  rw [hN1, hN2]
  rw [hN1] at hm1
  rw [hN2] at hm2
  have HW1 := Lib.hid (fun v (hv : Below R W v) => hr1.below hR.symm hv)
  have HW2 := Lib.hid (fun v (hv : Below R W v) => hr2.below hR.symm hv)
  have HN := Lib.hid (And.intro hN1 hN2)
  have HAW := Lib.hid (awake17 W)
  have HRS := Lib.hid (show ∀ u, Below R W u → R ≤ u.heap.size from fun u hu => by rw [← hR]; exact hu.size)
  clear hr1 hr2 hN1 hN2
  obtain ⟨i0, hi, hz0, hz1, hz2⟩ := info_parts infoStr
  go_enter Try.func4, Try.ntmps4
  go_upto_block 0 with (go_at_call 8; refine HAW.out.mono ?_; rintro e w1 ⟨rfl, hbw⟩; have HB1 := Lib.hid (show Below R W w1 from by rw [← hR]; exact hbw); clear hbw)
  clear HAW
  go_cut [8, 9] from 28 to 70 (fun x y wx => ∃ (L1 L2 : List ByteArray) (A1 A2 : Option Addr) (c1 c2 : Nat), x = .slice A1 L1.length c1 ∧ y = .slice A2 L2.length c2 ∧ Hid (L1.length + L2.length ≤ 10) ∧ Hid (∀ s ∈ L1, OkT 4 s) ∧ Hid (∀ s ∈ L2, OkT 4 s) ∧ Hid (StrRow wx A1 L1) ∧ Hid (StrRow wx A2 L2) ∧ Hid (Below R W wx))
  case first =>
    go_wp2_with fail
    go_loopw [8, 9, 11, 12, 13] (fun v8 v9 v11 _ _ wr => ∃ (i : Nat) (L1 L2 : List ByteArray), i ≤ N1 ∧ i ≤ 10 ∧ v11 = .int .i64 i ∧ L1.length + L2.length = i ∧ Hid (∀ s ∈ L1, OkT 4 s) ∧ Hid (∀ s ∈ L2, OkT 4 s) ∧ Hid (Tr17 wr R 9 9 v8 v9 (strs L1) (strs L2)) ∧ Hid (Below R W wr)) (fun _ _ v11 _ _ _ => 10 - (intOf v11).toNat)
    case atStart => exact ⟨0, [], [], Nat.zero_le _, by omega, rfl, rfl, Lib.hid (by simp), Lib.hid (by simp), Lib.hid (Tr17.start _ _ _ _), HB1⟩
    case round =>
      obtain ⟨i, L1, L2, hiN, hi10, rfl, hlen, HK1, HK2, HT, HB⟩ := hrel
      by_cases hlt : i < N1 ∧ i < 10
      · have hil : i < ws.length := by rw [HN.out.1]; exact hlt.1
        have HZI := Lib.hid (show ∀ v, Below R W v → ∃ ad, A0 = some ad ∧ v.cell? (ad.add (i * 2)) = some (.int .i64 ws[i].1) ∧ v.cell? ⟨(ad.add (i * 2)).block, (ad.add (i * 2)).off + 1, none⟩ = some (.int .i64 ws[i].2) from fun v hv => by
          obtain ⟨ad, e1, e2, e3, e4, e5, e6⟩ := P2Row.at_ (HW1.out v hv) hil
          exact ⟨ad, e1, e5, e6⟩)
        generalize ws[i] = z at *
        obtain ⟨z1, z2⟩ := z
        simp only at HZI
        obtain ⟨ad, rfl, x0, x1⟩ := HZI.out _ HB.out
        have f12 := i64_and12 z2
        have f1 := i64_and1J z1
        obtain ⟨K, hK⟩ : ∃ K : Nat, z2 % 4096 = (K : Int) := ⟨(z2 % 4096).toNat, by omega⟩
        obtain ⟨b, hb⟩ : ∃ K : Nat, z1 % 2 = (K : Int) := ⟨(z1 % 2).toNat, by omega⟩
        rw [hK] at f12
        rw [hb] at f1
        have hKb : K < 8 ^ 4 := by omega
        have hbb : b < 2 := by omega
        have j0 : (0 : Int) ≤ (i : Int) := by omega
        have j1 : (i : Int) < (N1 : Int) := by omega
        have j2 : (i : Int) < 10 := by omega
        clear hK hb hlt hil
        go_wp2_with fail
        clear x0 x1 f12
        go_loopw [12, 13] (fun v12 v13 wq => ∃ (k : Nat) (Z : ByteArray), v13 = .int .i64 k ∧ v12 = .string Z ∧ Z.size ≤ 4 ∧ k < 8 ^ (4 - Z.size) ∧ Hid ((0 : UInt8) ∉ Z.data.toList) ∧ Hid (Tr17 wq R 9 9 u8 u9 (strs L1) (strs L2)) ∧ Hid (Below R W wq)) (fun _ v13 _ => (intOf v13).toNat)
        case atStart => exact ⟨K, _, rfl, rfl, by decide, hKb, Lib.hid (by simp), HT, HB⟩
        case round =>
          clear HT HB
          obtain ⟨k, Z, rfl, rfl, hzs, hk8, HZ0, HT, HB⟩ := hrel
          by_cases hk0 : 0 < k
          · have hk0' : (0 : Int) < (k : Int) := by omega
            have hz3 : Z.size ≤ 3 := by
              rcases Nat.lt_or_ge Z.size 4 with h | h
              · omega
              · rw [show 4 - Z.size = 0 by omega] at hk8; omega
            have hkb : k ≤ 4096 := by
              have h9 : 8 ^ (4 - Z.size) ≤ 8 ^ 4 := Nat.pow_le_pow_right (by omega) (by omega)
              omega
            have hk9 : k / 8 < 8 ^ (4 - (Z.size + 1)) := by
              rw [show 4 - Z.size = (4 - (Z.size + 1)) + 1 by omega, Nat.pow_succ] at hk8
              omega
            obtain ⟨q, hq⟩ : ∃ q, 97 + k % 8 = q := ⟨_, rfl⟩
            obtain ⟨r, hr⟩ : ∃ r, k % 8 = r := ⟨_, rfl⟩
            obtain ⟨k', hk'⟩ : ∃ r, k / 8 = r := ⟨_, rfl⟩
            have g1 : (k : Int).tmod 8 = (r : Int) := by rw [Int.tmod_eq_emod_of_nonneg (by omega)]; omega
            have g2 : (k : Int).tdiv 8 = (k' : Int) := by rw [Int.tdiv_eq_ediv_of_nonneg (by omega)]; omega
            have g3 : (97 : Int) + (r : Int) = (q : Int) := by omega
            have hq1 : 97 ≤ q ∧ q < 256 := by omega
            have hk'b : k' ≤ 1000000000 ∧ k' < k := by omega
            rw [hk'] at hk9
            have hrb : r ≤ 1000000000 := by omega
            have hqb9 : q ≤ 1000000000 := by omega
            have hcv := letterJ_run q hq1.2 wr wr.heap.size rfl
            have HL0 := Lib.hid (letterJ_no0 (q := q) hq1.2 (by omega))
            have hC1 := letterJ_size q
            generalize letterJ q = C at *
            obtain ⟨Z2, hZ2⟩ : ∃ Z2, Z ++ C = Z2 := ⟨_, rfl⟩
            have hZ2s : Z2.size = Z.size + 1 := by rw [← hZ2, ByteArray.size_append, hC1]
            have HZ2 := Lib.hid (show (0 : UInt8) ∉ Z2.data.toList from by rw [← hZ2]; exact no0_append HZ0.out HL0.out)
            have hov : ¬ (9223372036854775807 < Z.size + C.size) := by rw [hC1]; omega
            have HT2 := Lib.hid (HT.out.on ((Below.refl _ _).alloc (Nat.le_refl _) (.cells #[.int .u8 (q : Int)] 5)))
            have HB2 := Lib.hid (HB.out.alloc (HRS.out _ HB.out) (.cells #[.int .u8 (q : Int)] 5))
            rw [← hZ2s] at hk9
            clear hq hr hk' hk8 hZ2s
            have hz2b : Z2.size ≤ 4 := by rw [← hZ2, ByteArray.size_append, hC1]; omega
            have g4 : IntKind.u8.wrap (q : Int) = (q : Int) := by rw [IntKind.wrap_u8]; omega
            obtain ⟨g5, g6⟩ := w64natJ k' hk'b.1
            obtain ⟨g7, g8⟩ := w64natJ r hrb
            obtain ⟨g9, g10⟩ := w64natJ q hqb9
            go_wp2_with fail
            clear g4 g5 g6 g7 g8 g9 g10
            go_roundw
            case rel => exact ⟨k', Z2, rfl, rfl, hz2b, hk9, HZ2, HT2, HB2⟩
            case measure => simp [intOf]; omega
          · obtain rfl : k = 0 := by omega
            obtain ⟨ad', he, x0, x1⟩ := HZI.out _ HB.out
            obtain rfl : ad = ad' := Option.some.inj he
            have HT1 := Lib.hid (show OkT 4 Z from ⟨hzs, HZ0.out⟩)
            clear he hk8 hk0
            by_cases hb0 : b = 0
            · subst hb0
              go_wp2_with (at_builtin; refine Hid.out ?_)
              refine Lib.hid ?_
              have h2 : Below wr.heap.size wr (wr.alloc (.cells #[.string Z] 9)) := (Below.refl _ _).alloc (Nat.le_refl _) _
              refine wpList_append_own_at _ rfl _ _ 22 rfl R 9 i0 (.string ⟨#[]⟩) 1 16 Try.underlying22 hi hz0 hz1 hz2 rfl (by decide) u8 (strs L1).length (strs L1) rfl (HT.out.a.alloc _) ⟨wr.heap.size, 0, none⟩ 1 1 [.string Z] rfl rfl (cell_one17 _ _ _) (fun u hu => by simp at hu; subst hu; rfl) (by unfold strs maxLen; rw [List.length_map]; omega) (by unfold strs; rw [List.length_map]; omega) (by have := HRS.out _ HB.out; simp; omega) ?_
              intro v' w2 hown1 hgrow _ hat
              have HT2 := Lib.hid (HT.out.push1 h2 hown1 hgrow hat)
              have HB2 := Lib.hid ((HB.out.alloc (HRS.out _ HB.out) (.cells #[.string Z] 9)).grown hgrow (by have := HRS.out _ HB.out; simp; omega) (fun z e => (HT.out.a.lt _ e).1))
              rw [← strs_snoc17] at HT2
              have HK3 := Lib.hid (okT_snoc HK1.out HT1.out)
              clear hown1 hgrow hat h2 HT HB x0 x1
              go_wp2_with fail
              go_roundw
              case rel => exact ⟨i + 1, L1 ++ [Z], L2, by omega, by omega, by go_num, by rw [List.length_append, List.length_singleton]; omega, HK3, HK2, HT2, HB2⟩
              case measure => simp [intOf]; omega
            · obtain rfl : b = 1 := by omega
              go_wp2_with (at_builtin; refine Hid.out ?_)
              refine Lib.hid ?_
              have h2 : Below wr.heap.size wr (wr.alloc (.cells #[.string Z] 9)) := (Below.refl _ _).alloc (Nat.le_refl _) _
              refine wpList_append_own_at _ rfl _ _ 22 rfl R 9 i0 (.string ⟨#[]⟩) 1 16 Try.underlying22 hi hz0 hz1 hz2 rfl (by decide) u9 (strs L2).length (strs L2) rfl (HT.out.b.alloc _) ⟨wr.heap.size, 0, none⟩ 1 1 [.string Z] rfl rfl (cell_one17 _ _ _) (fun u hu => by simp at hu; subst hu; rfl) (by unfold strs maxLen; rw [List.length_map]; omega) (by unfold strs; rw [List.length_map]; omega) (by have := HRS.out _ HB.out; simp; omega) ?_
              intro v' w2 hown1 hgrow _ hat
              have HT2 := Lib.hid (HT.out.push2 h2 hown1 hgrow hat)
              have HB2 := Lib.hid ((HB.out.alloc (HRS.out _ HB.out) (.cells #[.string Z] 9)).grown hgrow (by have := HRS.out _ HB.out; simp; omega) (fun z e => (HT.out.b.lt _ e).1))
              rw [← strs_snoc17] at HT2
              have HK3 := Lib.hid (okT_snoc HK2.out HT1.out)
              clear hown1 hgrow hat h2 HT HB x0 x1
              go_wp2_with fail
              go_roundw
              case rel => exact ⟨i + 1, L1, L2 ++ [Z], by omega, by omega, by go_num, by rw [List.length_append, List.length_singleton]; omega, HK1, HK3, HT2, HB2⟩
              case measure => simp [intOf]; omega
      · have hor : (i : Int) < (N1 : Int) → ¬ (i : Int) < 10 := by omega
        obtain ⟨-, A1, c1, rfl, hrow1⟩ := strRow_own17 HT.out.a (fun z hz => by have := (HK1.out z hz).1; unfold maxLen; omega)
        obtain ⟨-, A2, c2, rfl, hrow2⟩ := strRow_own17 HT.out.b (fun z hz => by have := (HK2.out z hz).1; unfold maxLen; omega)
        have HR1 := Lib.hid hrow1
        have HR2 := Lib.hid hrow2
        have HLL := Lib.hid (show L1.length + L2.length ≤ 10 by omega)
        clear hrow1 hrow2 HT hlen
        by_cases hq : (i : Int) < (N1 : Int)
        all_goals
          first | (have h9 := hor hq; clear hor hlt) | clear hor hlt
          go_wp2_with fail
          go_meet
          case rel => exact ⟨L1, L2, A1, A2, c1, c2, rfl, rfl, HLL, HK1, HK2, HR1, HR2, HB⟩
  case rest =>
    obtain ⟨L1, L2, A1, A2, c1, c2, rfl, rfl, HLL, HK1, HK2, HR1, HR2, HB⟩ := hcut
    clear HB1 HW1
    obtain ⟨n1, hn1⟩ : ∃ n, L1.length = n := ⟨_, rfl⟩
    obtain ⟨n2, hn2⟩ : ∃ n, L2.length = n := ⟨_, rfl⟩
    rw [hn1, hn2] at HLL ⊢
    have HNN := Lib.hid (And.intro hn1 hn2)
    clear hn1 hn2
    obtain ⟨R2, hR2⟩ : ∃ R, wc.heap.size = R := ⟨_, rfl⟩
    have HRR := Lib.hid (show R ≤ R2 from by rw [← hR2]; exact HRS.out _ HB.out)
    have HBT := Lib.hid (show ∀ v, Below R2 wc v → Below R W v from fun v hv => HB.out.trans (hv.mono HRR.out))
    have HRS2 := Lib.hid (show ∀ u, Below R2 wc u → R2 ≤ u.heap.size from fun u hu => by rw [← hR2]; exact hu.size)
    have HR1v := Lib.hid (show ∀ v, Below R2 wc v → StrRow v A1 L1 from fun v hv => strRow_below17 HR1.out hR2.symm hv)
    have HR2v := Lib.hid (show ∀ v, Below R2 wc v → StrRow v A2 L2 from fun v hv => strRow_below17 HR2.out hR2.symm hv)
    have HB0 := Lib.hid (show Below R2 wc wc from by rw [← hR2]; exact Below.refl _ _)
    have HOW := Lib.hid (ownNil17 wc R2 40 2)
    obtain ⟨ip, hj, hp0, hp1, hp2⟩ := info_parts infoPa
    clear HR1 HR2 hR2 HB
    generalize hWc : wc = Wm at *
    clear hWc
    go_upto_block 4 with fail
    go_cut [10] from 71 to 97 (fun x wx => ∃ (l : List Pa) (X : Option Addr) (c3 : Nat), x = .slice X l.length c3 ∧ Hid (l.length ≤ 8) ∧ Hid (auxB l = true) ∧ Hid (∀ p ∈ l, p.wf) ∧ Hid (PaRow wx X l) ∧ Hid (Below R2 Wm wx))
    case first =>
      go_wp2_with fail
      go_loopw [10, 14] (fun v10 v14 wr => ∃ (j : Nat) (l : List Pa) (X : Option Addr) (c3 : Nat), j ≤ N2 ∧ j ≤ 8 ∧ v14 = .int .i64 j ∧ v10 = .slice X j c3 ∧ Hid (l.length = j) ∧ Hid (auxB l = true) ∧ Hid (∀ p ∈ l, p.wf) ∧ Hid (wr.ownsRow R2 40 2 (.slice X j c3) j (paCells l)) ∧ Hid (Below R2 Wm wr)) (fun _ v14 _ => 8 - (intOf v14).toNat)
      case atStart => exact ⟨0, [], none, 0, Nat.zero_le _, by omega, rfl, rfl, Lib.hid rfl, Lib.hid rfl, Lib.hid (by simp), HOW, HB0⟩
      case round =>
        obtain ⟨j, l, X, c3, hjN, hj8, rfl, rfl, HL, HAB, HWF, HO, HB⟩ := hrel
        by_cases hlt : j < N2 ∧ j < 8
        · have hjl : j < qs.length := by rw [HN.out.2]; exact hlt.1
          obtain ⟨ad, rfl, -, wf0, wf1, x0, x1⟩ := P2Row.at_ (HW2.out _ (HBT.out _ HB.out)) hjl
          generalize qs[j] = z at *
          obtain ⟨z1, z2⟩ := z
          simp only at x0 x1 wf0 wf1
          have f10 := i64_and10J z1
          have f40 := i64_and40 z2
          obtain ⟨y1, hy1⟩ : ∃ y, z1 % 1024 = y := ⟨_, rfl⟩
          obtain ⟨m2, hm2⟩ : ∃ y, z2 % 1099511627776 = y := ⟨_, rfl⟩
          rw [hy1] at f10
          rw [hm2] at f40
          obtain ⟨m1, hm1⟩ : ∃ m, 1 + y1 = m := ⟨_, rfl⟩
          have hb1 : 1 ≤ m1 ∧ m1 ≤ 1024 ∧ 0 ≤ m2 ∧ m2 < 1099511627776 := by omega
          have HAB2 := Lib.hid (show auxB (l ++ [⟨m1, m2⟩]) = true from by
            unfold auxB
            rw [List.all_append]
            have h1 : l.all Pa.may = true := HAB.out
            rw [h1]
            simp [Pa.may]
            omega)
          have HWF2 := Lib.hid (show ∀ p ∈ l ++ [(⟨m1, m2⟩ : Pa)], p.wf from fun p hp => by
            rcases List.mem_append.1 hp with h | h
            · exact HWF.out p h
            · rw [List.mem_singleton.1 h]
              exact ⟨WalkArith.wf_i64 (by show _ ∧ _; simp only; omega), WalkArith.wf_i64 (by show _ ∧ _; simp only; omega)⟩)
          have HL2 := Lib.hid (show (l ++ [(⟨m1, m2⟩ : Pa)]).length = j + 1 from by rw [List.length_append, HL.out]; rfl)
          have HOA := Lib.hid (HO.out.alloc (.cells #[.int .i64 m1, .int .i64 m2] 40))
          have k0 : (0 : Int) ≤ (j : Int) := by omega
          have k1 : (j : Int) < (N2 : Int) := by omega
          have k2 : (j : Int) < 8 := by omega
          have hk4 : j + 1 ≤ 100 := by omega
          have v2 : IntKind.i64.wrap (1 + y1) = m1 := by rw [hm1]; exact IntWalk.i64_in _ (by omega)
          clear hy1 hm1 hm2 hb1 hjl wf0 wf1 hlt
          go_upto_region 19 with fail
          go_region_law (first
            | (refine step_append_lies _ (by rfl) _ _ _ (by rfl) R2 40 ip _ 2 16 Try.underlying23 hj hp0 hp1 hp2 rfl (by decide) (.slice X j c3) j (paCells l) (by rfl) HOA.out ⟨wr.heap.size, 0, none⟩ 1 1 [.int .i64 m1, .int .i64 m2] (by rfl) (by rfl) (World.news_of_block (cs := #[.int .i64 m1, .int .i64 m2]) (t := 40) (fr := (0, 0)) (heap_alloc_new wr (.cells #[.int .i64 m1, .int .i64 m2] 40))) (by simp [Value.oneCell']) (by omega) (by unfold maxLen; omega) (by omega) (by have := HRS2.out _ HB.out; simp; omega) (wr.heap.size + 1) (by simp) ?_
               intro g4 c4 w4 hown4 hgrow4 hat4 hlt4
               have HO4 := Lib.hid (show w4.ownsRow R2 40 2 (.slice (some ⟨g4, 0, none⟩) (j + 1) c4) (j + 1) (paCells (l ++ [⟨m1, m2⟩])) from by rw [paCells_snoc]; exact hown4)
               have HL4 := Lib.hid (show Below R2 Wm w4 from ((HB.out.alloc (HRS2.out _ HB.out) (.cells #[.int .i64 m1, .int .i64 m2] 40)).drew).grown hgrow4 (by have := HRS2.out _ HB.out; simp; omega) (fun g hg => (HO.out.lt g hg).1))
               clear hown4 hgrow4 hat4))
          all_goals
            go_wp2_with fail
            go_roundw
            case rel => exact ⟨j + 1, l ++ [⟨m1, m2⟩], some ⟨g4, 0, none⟩, c4, by omega, by omega, by go_num, rfl, HL2, HAB2, HWF2, HO4, HL4⟩
            case measure => simp [intOf]; omega
        · have hor : (j : Int) < (N2 : Int) → ¬ (j : Int) < 8 := by omega
          obtain ⟨-, X', c', hu, hrow⟩ := PaRow.of_own HO.out HWF.out
          have HRX := Lib.hid (show PaRow wr X l from by injection hu with e1 e2 e3; rw [e1]; exact hrow)
          have HL8 := Lib.hid (show l.length ≤ 8 by rw [HL.out]; exact hj8)
          clear hu hrow HO
          by_cases hq : (j : Int) < (N2 : Int)
          all_goals
            first | (have h9 := hor hq; clear hor hlt) | clear hor hlt
            go_wp2_with fail
            go_meet
            case rel => exact ⟨l, X, c3, by rw [HL.out], HL8, HAB, HWF, HRX, HB⟩
    case rest =>
      obtain ⟨l, X, c3, rfl, HL8, HAB, HWF, HRX, HB⟩ := hcut
      clear HOW HB0 HW2 HRS2
      have f12 := i64_and12 top
      obtain ⟨y, hy⟩ : ∃ y : Nat, top % 4096 = (y : Int) := ⟨(top % 4096).toNat, by omega⟩
      rw [hy] at f12
      obtain ⟨T, hT⟩ : ∃ T : Nat, 1024 + 16 * y = T := ⟨_, rfl⟩
      have hTi : (1024 : Int) + 16 * (y : Int) = (T : Int) := by omega
      have hTb : 1024 ≤ T ∧ T ≤ 70000 ∧ T % 16 = 0 := by omega
      have hsh : top / 2 ^ (12 : Int).toNat = top / 4096 := rfl
      have f15 := i64_and15J (top / 4096)
      obtain ⟨y2, hy2⟩ : ∃ y : Nat, (top / 4096) % 16 = (y : Int) := ⟨((top / 4096) % 16).toNat, by omega⟩
      rw [hy2] at f15
      obtain ⟨z, hz⟩ : ∃ T : Nat, 16 * y2 = T := ⟨_, rfl⟩
      have hzi : (16 : Int) * (y2 : Int) = (z : Int) := by omega
      have hzb : z ≤ 240 := by omega
      obtain ⟨S, BS, e1, e2, e3, e4, e5, e6, e7, e8, hv⟩ := builtB (T := T) (l := l) HK1.out HK2.out (by have := HNN.out; have := HLL.out; omega) HL8.out HAB.out hTb.1 hTb.2.1 hTb.2.2
      obtain ⟨sp, hsp⟩ : ∃ s : Nat, T - S = s := ⟨_, rfl⟩
      obtain ⟨F, hF⟩ : ∃ s : Nat, T - S - z = s := ⟨_, rfl⟩
      have hspi : (T : Int) - (S : Int) = (sp : Int) := by omega
      have hFi : (sp : Int) - (z : Int) = (F : Int) := by omega
      have hTsp : (T : Int) - (sp : Int) = (S : Int) := by omega
      have h16 : (sp : Int).tmod 16 = 0 := by rw [Int.tmod_eq_emod_of_nonneg (by omega)]; omega
      rw [hspi] at e2
      have t1 := tlen_okT HK1.out
      have t2 := tlen_okT HK2.out
      have hn := HNN.out
      have hll := HLL.out
      have HBU := Lib.hid (build_any (T : Int) A1 A2 X L1 L2 l c1 c2 c3 wc (WalkArith.wf_i64 (by omega)) (HR1v.out _ HB.out) (HR2v.out _ HB.out) HRX.out (by omega) (by omega) (by have := HL8.out; omega) (by omega) (by omega))
      rw [e1, e2, e3, hn.1, hn.2] at HBU
      have HSZ := Lib.hid (fun v (hv : Below wc.heap.size wc v) => size_any A1 A2 X L1 L2 l c1 c2 c3 v (strRow_below17 (HR1v.out _ HB.out) rfl hv) (strRow_below17 (HR2v.out _ HB.out) rfl hv) (by omega) (by omega) (by have := HL8.out; omega) (by omega) (by omega))
      rw [e8, hn.1, hn.2] at HSZ
      obtain ⟨ZB, hZB⟩ : ∃ x, mkb (List.replicate z 0) = x := ⟨_, rfl⟩
      have hZs : ZB.size = z := by rw [← hZB, mkb_size, List.length_replicate]
      have HFL := Lib.hid (fun u => rfill_any ⟨#[]⟩ (z : Int) u (WalkArith.wf_i64 (by omega)) (by decide) (by omega))
      have hfz : fillS ⟨#[]⟩ (z : Int) = ZB := by
        rw [← hZB]
        unfold fillS fillL
        rw [if_neg (by omega), Int.toNat_natCast]
        simp
      rw [hfz] at HFL
      obtain ⟨V, hV⟩ : ∃ x, ZB ++ BS = x := ⟨_, rfl⟩
      have hVs : V.size ≤ 10000 := by rw [← hV, ByteArray.size_append, hZs, e4]; omega
      have hvw := hv z
      rw [hZB, hV] at hvw
      obtain ⟨q1, q2, q3, q4⟩ := back17 hvw e7 (by omega) (by omega) (plainB_okT HK1.out) (plainB_okT HK2.out) (fun s hs => by have := (HK1.out s hs).1; omega) (fun s hs => by have := (HK2.out s hs).1; omega) HAB.out
      rw [hF] at q2 q3
      have hspF : sp - F = z := by omega
      have HRD := Lib.hid (fun u => read17 V F sp L1 L2 l u hVs (by omega) (by omega) (by omega) (by omega) (by omega) (by have := HL8.out; omega) (fun s hs => by have := (HK1.out s hs).1; omega) (fun s hs => by have := (HK2.out s hs).1; omega) HWF.out (by rw [hspF]; exact q1) (by rw [hspF]; exact q2) (by rw [hspF]; exact q3) (by rw [hspF]; exact q4))
      unfold ReadT at HRD
      rw [hn.1, hn.2] at HRD
      have HX1 := Lib.hid (fun (A : Option Addr) (c : Nat) v (g1 : StrRow v A L1) (g2 : StrRow v A1 L1) => texts_yes17 L1 A A1 c c1 v g1 g2 (by omega))
      have HX2 := Lib.hid (fun (A : Option Addr) (c : Nat) v (g1 : StrRow v A L2) (g2 : StrRow v A2 L2) => texts_yes17 L2 A A2 c c2 v g1 g2 (by omega))
      have HX3 := Lib.hid (fun (A : Option Addr) (c : Nat) v (g1 : PaRow v A l) (g2 : PaRow v X l) => same_yes17 l A X c c3 v g1 g2 (by have := HL8.out; omega))
      rw [hn.1] at HX1
      rw [hn.2] at HX2
      obtain ⟨n3, hn3⟩ : ∃ n, l.length = n := ⟨_, rfl⟩
      rw [hn3] at HBU HSZ HRD HX3 ⊢
      have hov : ¬ (9223372036854775807 < ZB.size + BS.size) := by omega
      have hyb : y ≤ 4095 ∧ y2 ≤ 15 ∧ T ≤ 70000 ∧ sp ≤ 70000 ∧ z ≤ 240 ∧ S ≤ 512 := by omega
      have HR1w := Lib.hid (show ∀ v, Below wc.heap.size wc v → StrRow v A1 L1 from fun v hv => strRow_below17 (HR1v.out _ HB.out) rfl hv)
      have HR2w := Lib.hid (show ∀ v, Below wc.heap.size wc v → StrRow v A2 L2 from fun v hv => strRow_below17 (HR2v.out _ HB.out) rfl hv)
      have HRXw := Lib.hid (show ∀ v, Below wc.heap.size wc v → PaRow v X l from fun v hv => PaRow.below HRX.out rfl hv)
      have HTH := Lib.hid (show ∀ u v, Below wc.heap.size wc u → Below u.heap.size u v → Below wc.heap.size wc v from fun u v h1 h2 => h1.trans (h2.mono h1.size))
      have HFIN := Lib.hid (show ∀ v, Below wc.heap.size wc v → Below R W v from fun v hv => (HBT.out _ HB.out).trans (hv.mono (HRS.out _ (HBT.out _ HB.out))))
      clear hy hT hTb hy2 hz hzb e1 e2 e3 e5 e6 e7 e8 hv hsp hF t1 t2 hn hll hfz hVs hvw q1 q2 q3 q4 hspF hn3 HR1v HR2v HRX HB HBT HRS HLL HNN HL8 HAB HWF HK1 HK2 hZB HRR
      generalize hWc : wc = Wn at *
      clear hWc
      go_upto_region 22 with (go_at_call 10; (with_reducible refine HBU.out.mono ?_); rintro e w3 ⟨rfl, hb3⟩)
      have HB3 := Lib.hid hb3
      clear hb3 HBU
      go_upto_region 25 with (go_at_call 12; (with_reducible refine (HSZ.out _ HB3.out).mono ?_); rintro e w4 ⟨rfl, rfl⟩)
      clear HSZ
      go_upto_region 26 with (first
        | (go_at_call 15; (with_reducible refine (HFL.out _).mono ?_); rintro e w4 ⟨rfl, hb4⟩; have HB4 := Lib.hid (HTH.out _ _ HB3.out hb4))
        | (go_at_call 14; (with_reducible refine (HRD.out _).mono ?_); rintro e w5 ⟨A, c, D, d, Y, y', rfl, g1, g2, g3, hb5⟩; have HB5 := Lib.hid (HTH.out _ _ HB4.out hb5); have HG := Lib.hid (And.intro g1 (And.intro g2 g3))))
      clear g1 g2 g3 hb4 hb5 HFL HRD
      go_upto_region 27 with (go_at_call 16; (with_reducible refine (HX1.out _ _ _ HG.out.1 (HR1w.out _ HB5.out)).mono ?_); rintro e w6 ⟨rfl, hb6⟩)
      have HB6 := Lib.hid (HTH.out _ _ HB5.out hb6)
      have HG2 := Lib.hid (And.intro (strRow_below17 HG.out.2.1 rfl hb6) (PaRow.below HG.out.2.2 rfl hb6))
      clear hb6 HG HX1 HR1w
      go_upto_region 28 with (go_at_call 16; (with_reducible refine (HX2.out _ _ _ HG2.out.1 (HR2w.out _ HB6.out)).mono ?_); rintro e w7 ⟨rfl, hb7⟩)
      have HB7 := Lib.hid (HTH.out _ _ HB6.out hb7)
      have HG3 := Lib.hid (PaRow.below HG2.out.2 rfl hb7)
      clear hb7 HG2 HX2 HR2w
      go_upto_region 29 with (go_at_call 17; (with_reducible refine (HX3.out _ _ _ HG3.out (HRXw.out _ HB7.out)).mono ?_); rintro e w8 ⟨rfl, hb8⟩)
      have HB8 := Lib.hid (HTH.out _ _ HB7.out hb8)
      clear hb8
      go_wp2_with fail
      go_ret
      exact ⟨by simp, by rw [hR]; exact HFIN.out _ HB8.out⟩

set_option maxRecDepth 100000 in
theorem lifted (os : Os) (started : os.Started) (H : Type) (enc : TypeId × Value → H) :
    ReturnsInHanded {} Try.checked os 4 .any (Rows.stackBackSpec.pre6 enc Try.prog Try.f4 Rows.stackBackRow.domain false) (Rows.stackBackSpec.post enc Try.prog Try.f4 false true false false) := by
  refine returnsInHanded_of_change (C := Try.checked) own started (by kernel_rfl) Try.func4
    (ChangeSpec.witness6 (enc := enc) (C := Try.checked) false ⟨#[], #[.slice none 0 0, .slice none 0 0, .int .i64 0], []⟩ 8 (by kernel_rfl) (by kernel_rfl) (by kernel_rfl) (by kernel_rfl)) ?_
  intro W base args ds gs before hval0 hW hcnd _
  have hval : ∀ (j : Nat) t v, Try.f4.params[j]? = some t → args[j]? = some v → Value.okWide Try.prog W .any base t v := hval0
  have hW' := hW
  obtain ⟨p, q, hA0, hV, rfl, hfz, hnd⟩ := hW
  have hA : DataW.TrodAll enc Try.prog W 0 (fun _ => true) true Try.f4.params.toList args.toList ds p := hA0
  rw [Try.params4] at hA hval
  obtain ⟨v0, vs0, d0, ds0, p0, q0, hargs, rfl, rfl, h0, r0⟩ := trodAll_cons hA
  obtain ⟨v1, vs1, d1, ds1, p1, q1, rfl, rfl, rfl, h1, r1⟩ := trodAll_cons r0
  obtain ⟨v2, vs2, d2, ds2, p2, q2, rfl, rfl, rfl, h2, r2⟩ := trodAll_cons r1
  obtain ⟨rfl, rfl, rfl⟩ := trodAll_nil r2
  obtain rfl : args = #[v0, v1, v2] := by cases args; simp_all
  obtain ⟨rfl, rfl⟩ := trodVars_none hV
  have k0 := h0
  have lt0 : ∀ x ∈ p0, x.block < W.heap.size := by obtain ⟨m, hm⟩ := k0; exact DataW.trod_lt m _ _ _ hm
  obtain ⟨LA0, Ll0, Lc0, rfl, Lm0, Lr0⟩ := openPairs17 (hval 0 36 v0 rfl rfl) h0
  have k1 := h1
  have lt1 : ∀ x ∈ p1, x.block < W.heap.size := by obtain ⟨m, hm⟩ := k1; exact DataW.trod_lt m _ _ _ hm
  obtain ⟨LA1, Ll1, Lc1, rfl, Lm1, Lr1⟩ := openPairs17 (hval 1 36 v1 rfl rfl) h1
  have k2 := h2
  have lt2 : ∀ x ∈ p2, x.block < W.heap.size := by obtain ⟨m, hm⟩ := k2; exact DataW.trod_lt m _ _ _ hm
  obtain ⟨a2, rfl, _, _, w2⟩ := open_int Try.underlying3 (hval 2 3 v2 rfl rfl) h2
  clear hA0 hval0
  refine (walk LA0 Ll0 Lc0 LA1 Ll1 Lc1 a2 W Lm0 Lr0 Lm1 Lr1 w2).mono fun e W' ⟨he, bel⟩ => ?_
  subst he
  exact ⟨_, rfl, _, _, _, [], _, [], hW', trodAll_mk1 (shut_bool Try.underlying4 _), (trodAll_cons_mk (Below.trod laidOut (by kernel_rfl) (of_decide_eq_true (by kernel_rfl)) k0 bel lt0) (trodAll_cons_mk (Below.trod laidOut (by kernel_rfl) (of_decide_eq_true (by kernel_rfl)) k1 bel lt1) (trodAll_cons_mk (Below.trod laidOut (by kernel_rfl) (of_decide_eq_true (by kernel_rfl)) k2 bel lt2) trodAll_mk0))), rfl, bel.frame _, fun h => by cases h⟩
theorem over : Rows.stackBackRow.holds Try.pinned (OpenSpec.ofChange Rows.stackBackSpec) :=
  OpenClaim.holds_of_wide 4 Try.f4 rfl rfl rfl rfl rfl rfl rfl ⟨rfl, rfl, rfl, rfl, rfl⟩ rfl rfl rfl rfl rfl (by kernel_rfl) Try.func4 (by kernel_rfl)
    (of_decide_eq_true (by kernel_rfl)) (by unfold Func.isWrapper; first | (rw [if_pos (by decide +kernel)]; kernel_rfl) | (rw [if_neg (by decide +kernel)]; exact ⟨rfl, rfl⟩))
    (fun os started H enc _ => lifted os started H enc)
/-- The statement. -/
theorem proved : Rows.StackBackSaid := over
end Go.Proofs.Ytafogipkbhglcaa.lawBack17
