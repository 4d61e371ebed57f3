/- CacheOne: a page that is got is the file's page, and who holds it keeps it; a full cache lets one go where one is held by nobody. -/
import Derived.Test.YtmbjflcmbenbdaaDoorKU
import Derived.Test.YtmbjflcmbenbdaaDoorBits
import Derived.Deep.CutRange
import Derived.Deep.CutBlock
import Derived.Deep.RegionHeld3
import Derived.BigQuiet
import Derived.Test.YtmbjflcmbenbdaaDoorTie
import Derived.Test.YtmbjflcmbenbdaaDoorCards
import Derived.LaidMore
import Derived.Lay
import Derived.SevenTiedAt
import Derived.Stop.Joined
namespace Go.Proofs.YtmbjflcmbenbdaaDoor.lawOne14
open Go.ChangeShapes Go.WideShapes Go.ChangeAt Go.RowKit
set_option linter.unusedVariables false
set_option linter.unusedSimpArgs false

theorem _root_.Go.Proofs.YtmbjflcmbenbdaaDoor.St.few {w W : World} {a : Ad} {n i l : Nat} {K : Nat → Prop} {hf : Nat → Nat} (s : St w a n K i hf l W) : ∀ v, v < 8 → hf v ≤ i := by
  obtain ⟨C, o, S, I, _⟩ := s
  intro v hv
  by_cases h : ∃ x ∈ C.R, x.f = kf v ∧ x.q = kq v
  · obtain ⟨x, hx, e1, e2⟩ := h
    rw [I.some v hv x hx e1 e2]
    exact I.few _
  · rw [I.none v hv fun x hx e => h ⟨x, hx, e⟩]
    exact Nat.zero_le _
theorem get2 {w W : World} {a : Ad} {n i v l : Nat} {K : Nat → Prop} {hf : Nat → Nat} (s : St w a n K i hf l W) (hi : i < 1000) (hv : v < 8) :
    Calls Tryd.prog 10 #[.pointer (some ⟨a.pc, 0, none⟩), .agg #[.int .i64 (kf v), .int .i64 (kq v)]] W fun e W' => ∃ z1 er : Int, e = .returned (.tuple #[.int .i64 z1, .int .i64 er]) ∧ But (fun j => ¬ K j) W W' ∧
      ((er = 18 ∧ St w a n K i hf l W') ∨ (er = 0 ∧ ∃ f : Nat, z1 = (f : Int) ∧ Sf w a n K (i + 1) (bump hf v) v f W')) :=
  (one_get s hi hv).mono fun e W' ⟨hb, h⟩ => by
    rcases h with ⟨rfl, hs⟩ | ⟨f, rfl, hs⟩
    · exact ⟨_, _, rfl, hb, .inl ⟨rfl, hs⟩⟩
    · exact ⟨_, _, rfl, hb, .inr ⟨rfl, f, rfl, hs⟩⟩

theorem has2 {w W : World} {a : Ad} {n i v l : Nat} {K : Nat → Prop} {hf : Nat → Nat} (s : St w a n K i hf l W) (hv : v < 8) :
    Calls Tryd.prog 16 #[.pointer (some ⟨a.pc, 0, none⟩), .agg #[.int .i64 (kf v), .int .i64 (kq v)]] W fun e W' => ∃ (z1 : Int) (b0 : Bool), e = .returned (.tuple #[.int .i64 z1, .bool b0]) ∧ Below W.heap.size W W' ∧
      ((b0 = false ∧ hf v = 0) ∨ (b0 = true ∧ ∃ f : Nat, z1 = (f : Int) ∧ Sf w a n K i hf v f W')) :=
  (one_has s hv).mono fun e W' ⟨hb, h⟩ => by
    rcases h with ⟨rfl, hs⟩ | ⟨f, rfl, hs⟩
    · exact ⟨_, _, rfl, hb, .inl ⟨rfl, hs⟩⟩
    · exact ⟨_, _, rfl, hb, .inr ⟨rfl, f, rfl, hs⟩⟩

set_option maxRecDepth 100000 in
set_option maxHeartbeats 8000000 in
theorem walk (n0 : Int) (A : Option Addr) (zs : List Int) (c0 : Nat) (A' : Option Addr) (dl : List Bool) (c1 : Nat) (w : World) (hn0 : (Lit.int .i64 n0).wf = true) (hz : zs.length ≤ maxLen) (hA : IntRow w A zs) (hd : dl.length ≤ maxLen) (hD : BoolRow w A' dl) : Calls Tryd.prog 3 #[.int .i64 n0, .slice A zs.length c0, .slice A' dl.length c1] w fun e w' => e = .returned (.bool true) ∧ Below w.heap.size w w' := by
  obtain ⟨m, hm, hm3⟩ : ∃ m : Nat, bits .and .i64 n0 3 = (m : Int) ∧ m ≤ 3 := ⟨(n0 % 4).toNat, by rw [show (3 : Int) = ((3 : Nat) : Int) from rfl, i64_and_mask n0 2 3 (by omega) (by rfl)]; omega, by omega⟩
  have HA := Lib.hid (fun w => awake14_any w)
  have HM := Lib.hid (fun v => show Calls Tryd.prog 5 #[.int .i64 (3 + (m : Int))] v fun e w' => ∃ a, e = .returned (.tuple #[.pointer (some ⟨a.pc, 0, none⟩), .pointer (some ⟨a.pp, 0, none⟩)]) ∧ St v a (3 + m) (fun _ => False) 0 (fun _ => 0) 0 w' from by
    rw [show (3 : Int) + (m : Int) = ((3 + m : Nat) : Int) by omega]
    exact (ls_made v v (Below.refl _ _) (3 + m) (by omega) (by omega)).mono fun e w' ⟨a, he, hs⟩ => ⟨a, he, St.new hs⟩)
  have HS := Lib.hid (fun v => some_any v)
  have HR := Lib.hid (fun (v : World) g (h : FileRow v (.slice (some ⟨g, 0, none⟩) 3 3) fs3) => rbuild_yes (some ⟨g, 0, none⟩) 3 3 fs3 2 v rfl h (by omega) fs3_small fs3_names (by omega) (by decide))
  have HO := Lib.hid (fun g c v (h : TextRow v (.slice (some ⟨g, 0, none⟩) (builtL fs3 2).length c) (builtL fs3 2)) => ropen_yes g c (builtL fs3 2).length (builtL fs3 2) (builtX fs3 2) v h (built_disk can3 (by omega) ⟨builtL fs3 2, 0, 0, 0⟩ rfl) (by rw [builtX_length (by omega), builtL_length (by omega)]; omega))
  have H0 := Lib.hid (fun v => map0_any v)
  have HRF := Lib.hid (fun (b g c gp : Nat) (v W : World) (val : Value) (vs : List Value) (h : RSo v W g c (builtL fs3 2) (builtL fs3 2).length gp (builtX fs3 2) val vs) (h1 : b ≤ v.heap.size) (h2 : b ≤ g) => Rf.new h h1 h2)
  unfold RBuilt at HR
  unfold ROpened at HO
  generalize builtL fs3 2 = DL at *
  generalize builtX fs3 2 = DX at *
  have HROW := Lib.hid (fun (W : World) (h : Below w.heap.size w W) (i : Nat) (hi : i < zs.length) => show ∃ ad, A = some ad ∧ W.cell? (ad.add i) = some (.int .i64 zs[i]) ∧ (Lit.int .i64 zs[i]).wf = true from by
    obtain ⟨ad, h1, h2, h3, h4⟩ := hA i hi
    exact ⟨ad, h1, (h.cell (p := ad.add i) (by unfold Addr.add; split <;> exact h2)).trans h3, h4⟩)
  have HDR := Lib.hid (fun (W : World) (h : Below w.heap.size w W) (i : Nat) (hi : i < dl.length) => show ∃ ad, A' = some ad ∧ W.cell? (ad.add i) = some (.bool dl[i]) from by
    obtain ⟨ad, h1, h2, h3⟩ := hD i hi
    exact ⟨ad, h1, (h.cell (p := ad.add i) (by unfold Addr.add; split <;> exact h2)).trans h3⟩)
  have hlz : (zs.length : Int) ≤ 9223372036854775807 := by unfold maxLen at hz; omega
  have hld : (dl.length : Int) ≤ 9223372036854775807 := by unfold maxLen at hd; omega
  obtain ⟨nz, hnz⟩ : ∃ n, zs.length = n := ⟨_, rfl⟩
  obtain ⟨nd, hnd⟩ : ∃ n, dl.length = n := ⟨_, rfl⟩
  rw [hnz] at hlz ⊢
  rw [hnd] at hld ⊢
  have HNZ := Lib.hid hnz
  have HND := Lib.hid hnd
  have hmi : (m : Int) ≤ 3 := by omega
  obtain ⟨N, hN⟩ : ∃ N, 3 + m = N := ⟨_, rfl⟩
  rw [hN] at HM
  clear hz hA hd hD hnz hnd hn0 hN
  go_enter Tryd.func3, Tryd.ntmps3
  go_wp2_with (first
    | (go_at_call 4; refine (HA.out _).mono ?_; rintro e v1 ⟨rfl, hb⟩; have HB1 := Lib.hid hb; clear hb)
    | (go_at_call 5; refine (HM.out v1).mono ?_; rintro e v2 ⟨a, rfl, hs⟩; have S0 := Lib.hid hs; clear hs)
    | (go_at_call 7; refine (HS.out v2).mono ?_; rintro e v3 ⟨g1, rfl, hf1, hb1⟩; have HF1 := Lib.hid hf1; have HB3 := Lib.hid hb1; clear hf1 hb1)
    | (go_at_call 6; refine (HR.out v3 g1 HF1.out).mono ?_; rintro e v4 ⟨g2, c2, rfl, hg2, ht2, hb2⟩; have HT2 := Lib.hid ht2; have HB4 := Lib.hid (HB3.out.trans (hb2.mono HB3.out.size)); have HG2 := Lib.hid (Nat.le_trans HB3.out.size hg2); clear ht2 hb2 hg2)
    | (go_at_call 8; refine (HO.out g2 c2 v4 HT2.out).mono ?_; rintro e v5 ⟨gp, val, vs, rfl, ho⟩; have HB5 := Lib.hid (HB4.out.trans (ho.bel.mono HB4.out.size)); have R0 := Lib.hid (HRF.out _ _ _ _ _ _ _ _ ho HB4.out.size HG2.out); clear ho)
    | (go_at_call 9; refine (H0.out v5).mono ?_; rintro e v6 ⟨rfl, rfl⟩))
  obtain ⟨b, hb⟩ : ∃ b, v2.heap.size = b := ⟨_, rfl⟩
  obtain ⟨hvb, hhv⟩ : ∃ hvb, v5.heap.size = hvb := ⟨_, rfl⟩
  rw [hb, hhv] at R0
  have hbh : b ≤ hvb := by have := HB5.out.size; omega
  have R1 := Lib.hid (R0.out.below ((Below.refl _ _).alloc (Nat.le_refl _) (.cells (hvA fun _ => 0) 3)))
  have B1 := Lib.hid (Blk.new v5 3 (hvA fun _ => 0))
  have S1 := Lib.hid (S0.out.grow (K' := fun j => b ≤ j ∧ j < hvb + 1) (HB5.out.alloc HB5.out.size (.cells (hvA fun _ => 0) 3)) (fun j e => .inr ⟨by omega, by simp; omega⟩))
  rw [hhv] at B1 ⊢
  clear HM HS HR HO H0 HRF HA S0 HF1 HB3 HT2 HB4 HG2 HB5 R0 hb hhv
  have HKK := Lib.hid (fun j (h1 : b ≤ j) (h2 : j < hvb + 1) => show b ≤ j ∧ j < hvb + 1 from ⟨h1, h2⟩)
  obtain ⟨K, hK⟩ : ∃ K : Nat → Prop, K = fun j => b ≤ j ∧ j < hvb + 1 := ⟨_, rfl⟩
  rw [← hK] at S1
  have HKI := Lib.hid (show ∀ j, b ≤ j → j < hvb + 1 → K j from fun j h1 h2 => by rw [hK]; exact ⟨h1, h2⟩)
  have HKV := Lib.hid (show K hvb from by rw [hK]; exact ⟨hbh, Nat.lt_succ_self _⟩)
  clear hK HKK
  go_loopw [15] (fun i wr => ∃ (k : Nat) (hf : Nat → Nat) (l : Nat), k ≤ nz ∧ k ≤ 30 ∧ i = .int .i64 k ∧ Hid (St v1 a N K k hf l wr) ∧ Hid (Rf b hvb gp wr) ∧ Hid (Blk wr hvb 3 (hvA hf))) (fun i _ => nz - (intOf i).toNat)
  case atStart => exact ⟨0, _, _, by omega, by omega, rfl, S1, R1, B1⟩
  case round =>
    clear S1 R1 B1
    obtain ⟨k, hf, l, hk, hk30, rfl, S, R, B⟩ := hrel
    have hexit : k < nz ∧ k < 30 ∨ ((¬ k < nz) ∨ (k < nz ∧ ¬ k < 30)) := by omega
    have HB2 := Lib.hid (HB1.out.trans (S.out.bel.mono HB1.out.size))
    have HFK := Lib.hid S.out.few
    rcases hexit with ⟨hlt, hlt2⟩ | hex
    · obtain ⟨ad, rfl, x0, wz⟩ := HROW.out wr HB2.out k (by have := HNZ.out; omega)
      obtain ⟨_, _⟩ := bounds_i64 wz
      generalize zs[k]'(by have := HNZ.out; omega) = z at *
      obtain ⟨y, hy, hy1, hy2⟩ : ∃ y, Int.tmod z 8 = y ∧ -8 < y ∧ y < 8 := ⟨_, rfl, by rw [Int.tmod_eq_emod]; split <;> omega, by rw [Int.tmod_eq_emod]; split <;> omega⟩
      obtain ⟨v, hv8, hv⟩ : ∃ m : Nat, Int.tmod (y + 8) 8 = (m : Int) ∧ m < 8 := ⟨((y + 8) % 8).toNat, by rw [Int.tmod_eq_emod_of_nonneg (by omega)]; omega, by omega⟩
      have hi1 : (k : Int) < (nz : Int) := by omega
      have hi2 : (k : Int) < 30 := by omega
      clear wz
      go_upto_if 78 with fail
      have hX := Blk.new wr 40 #[.int .i64 2, .int .i64 (v : Int)]
      have hBX := (Below.refl wr.heap.size wr).alloc (Nat.le_refl _) (.cells #[.int .i64 2, .int .i64 (v : Int)] 40)
      obtain ⟨kb, hkb⟩ : ∃ kb, wr.heap.size = kb := ⟨_, rfl⟩
      rw [hkb] at hX hBX ⊢
      have HX := Lib.hid hX
      have HBX := Lib.hid hBX
      clear hX hBX x0
      generalize wr.alloc (.cells #[.int .i64 2, .int .i64 (v : Int)] 40) = W1 at *
      go_cut [] from 58 to 200 (fun wx => Hid (Blk wx kb 40 #[.int .i64 (kf v), .int .i64 (kq v)]) ∧ Hid (Below kb wr wx))
      case first =>
        by_cases h5 : 5 ≤ v
        · have hd : decide ((5 : Int) ≤ (v : Int)) = true := decide_eq_true (by omega)
          have hd2 : decide (5 ≤ v) = true := decide_eq_true h5
          have e1 : kf v = 1 := if_neg (by omega)
          have e2 : kq v = (v : Int) - 5 := by unfold kq; rw [if_neg (by omega)]; omega
          have x0 := HX.out.at_ 0 _ rfl
          have x1 := HX.out.at_ 1 _ rfl
          have f0 := HX.out.frozen 0
          have f1 := HX.out.frozen 1
          go_wp2
          go_meet
          rw [e1, e2]
          exact ⟨Lib.hid (by simpa using (HX.out.set_ 0 (.int .i64 1)).set_ 1 (.int .i64 ((v : Int) - 5))), Lib.hid ((HBX.out.setCell (p := ⟨kb, 0, none⟩) (Nat.le_refl _) _).setCell (p := ⟨kb, 1, none⟩) (Nat.le_refl _) _)⟩
        · have hd : decide ((5 : Int) ≤ (v : Int)) = false := decide_eq_false (by omega)
          have hd2 : decide (5 ≤ v) = false := decide_eq_false h5
          have e1 : kf v = 2 := if_pos (by omega)
          have e2 : kq v = (v : Int) := if_pos (by omega)
          go_wp2
          go_meet
          rw [e1, e2]
          exact ⟨HX, HBX⟩
      case rest =>
        obtain ⟨X, BX⟩ := hcut
        clear HX HBX
        have x0 := X.out.at_ 0 _ rfl
        have x1 := X.out.at_ 1 _ rfl
        have BX2 := BX.out
        rw [← hkb] at BX2
        have S2 := Lib.hid (S.out.grow (K' := fun j => K j ∨ j = kb) BX2 (fun j e => e.elim .inl fun e => .inr ⟨by omega, by rw [e]; exact X.out.lt⟩))
        have R2 := Lib.hid (R.out.below BX2)
        have B2 := Lib.hid (B.out.below BX2 B.out.lt)
        obtain ⟨K2, hK2⟩ : ∃ K2 : Nat → Prop, K2 = fun j => K j ∨ j = kb := ⟨_, rfl⟩
        rw [← hK2] at S2
        have HK2 := Lib.hid (show ∀ j, K j → K2 j from fun j h => by rw [hK2]; exact .inl h)
        have HK2X := Lib.hid (show K2 kb from by rw [hK2]; exact .inr rfl)
        clear hK2 BX2 BX S R B
        generalize wc = W2 at *
        go_upto_if 89 with (go_at_call 10; refine (get2 S2.out (by omega) hv).mono ?_; rintro e v7 ⟨z1, er, rfl, hb, hg⟩; have HG := Lib.hid hg; have R3 := Lib.hid (R2.out.but hb fun j h1 h2 h => h (HK2.out j (HKI.out j h1 (by omega)))); have B3 := Lib.hid (B2.out.but hb fun h => h (HK2.out _ HKV.out)); have X3 := Lib.hid (X.out.but hb fun h => h HK2X.out); clear hb hg S2 R2 B2 X x0 x1)
        rcases HG.out with ⟨rfl, hs⟩ | ⟨rfl, f, rfl, hs⟩
        · have S3 := Lib.hid hs
          obtain ⟨hcl, hev⟩ := one_evict S3.out
          have HEV := Lib.hid hev
          clear hs HG hev HDR
          go_wp2_with (first
            | (go_at_call 11; refine (one_len S3.out).mono ?_; rintro e v8 ⟨rfl, rfl⟩)
            | (go_at_call 12; refine HEV.out.mono ?_; rintro e v9 ⟨hb, f', q', rfl, l', hs⟩
               have S4 := Lib.hid (hs.on ((Below.refl _ _).alloc (Nat.le_refl _) (.cells #[.int .i64 f', .int .i64 q'] 40)))
               have R4 := Lib.hid ((R3.out.but hb fun j h1 h2 h => h (HK2.out j (HKI.out j h1 (by omega)))).below ((Below.refl _ _).alloc (Nat.le_refl _) (.cells #[.int .i64 f', .int .i64 q'] 40)))
               have B4 := Lib.hid ((B3.out.but hb fun h => h (HK2.out _ HKV.out)).alloc (.cells #[.int .i64 f', .int .i64 q'] 40))
               clear hb hs S3 R3 B3 X3))
          obtain ⟨bx, hbx⟩ : ∃ bx, v9.heap.size = bx := ⟨_, rfl⟩
          rw [hbx]
          generalize v9.alloc (.cells #[.int .i64 f', .int .i64 q'] 40) = W9 at *
          clear HEV hbx
          go_loopw [23, 24] (fun c i wq => ∃ j : Nat, j ≤ 8 ∧ i = .int .i64 j ∧ c = .int .i64 (cnt hf j) ∧ W9 = wq) (fun _ i _ => 8 - (intOf i).toNat)
          case atStart => exact ⟨0, by omega, rfl, rfl, rfl⟩
          case round =>
            obtain ⟨j, hj, rfl, rfl, rfl⟩ := hrel
            by_cases hj8 : j < 8
            · have c0 := B4.out.at_ j _ (hvA_at hf j hj8)
              have hcj := cnt_le hf j
              have hji : (j : Int) < 8 := by omega
              have hcs : cnt hf (j + 1) = cnt hf j + if 0 < hf j then 1 else 0 := rfl
              have HCS := Lib.hid hcs
              clear hcs
              generalize cnt hf j = cj at *
              by_cases hp : 0 < hf j
              · have hd : decide ((0 : Int) < (hf j : Int)) = true := decide_eq_true (by omega)
                have hd2 : decide (0 < hf j) = true := decide_eq_true hp
                have e := HCS.out
                rw [if_pos hp] at e
                have HE := Lib.hid e
                clear e
                go_wp2
                go_roundw
                case rel => exact ⟨j + 1, by omega, by go_num, by rw [HE.out]; go_num, trivial⟩
                case measure => simp [intOf]; omega
              · have hd : decide ((0 : Int) < (hf j : Int)) = false := decide_eq_false (by omega)
                have hd2 : decide (0 < hf j) = false := decide_eq_false hp
                have e := HCS.out
                rw [if_neg hp] at e
                have HE := Lib.hid e
                clear e
                go_wp2
                go_roundw
                case rel => exact ⟨j + 1, by omega, by go_num, by rw [HE.out]; rfl, trivial⟩
                case measure => simp [intOf]; omega
            · have hj8' : j = 8 := by omega
              have hji : ¬ (j : Int) < 8 := by omega
              have hcc : cnt hf 8 = cnt hf j := by rw [hj8']
              rw [hcc] at hcl ⊢
              have S5 := Lib.hid (show St v1 a N K (k + 1) hf l' W9 from (S4.out.grow (Below.refl _ _) fun j h => .inl (HK2.out j h)).more)
              clear hcc S4 hj8'
              generalize cnt hf j = cj at *
              by_cases hlt : cj < l
              · have hd : decide ((cj : Int) < (l : Int)) = true := decide_eq_true (by omega)
                have hd2 : decide (cj < l) = true := decide_eq_true hlt
                go_wp2
                go_roundw
                case rel => exact ⟨k + 1, hf, l', by omega, by omega, by go_num, S5, R4, B4⟩
                case measure => simp [intOf]; omega
              · have hd : decide ((cj : Int) < (l : Int)) = false := decide_eq_false (by omega)
                have hd2 : decide (cj < l) = false := decide_eq_false hlt
                go_wp2
                go_roundw
                case rel => exact ⟨k + 1, hf, l', by omega, by omega, by go_num, S5, R4, B4⟩
                case measure => simp [intOf]; omega
        · have F3 := Lib.hid hs
          clear hs HG
          have x0 := X3.out.at_ 0 _ rfl
          have x1 := X3.out.at_ 1 _ rfl
          go_upto_region 32 with (first
            | (go_at_call 13; refine (one_page R3.out hv).mono ?_; rintro e v8 ⟨rfl, hb⟩
               have F4 := Lib.hid (F3.out.on hb)
               have R4 := Lib.hid (R3.out.below hb)
               have B4 := Lib.hid (B3.out.below hb B3.out.lt)
               clear hb F3 R3 B3 X3 x0 x1)
            | (go_at_call 14; refine (one_bytes F4.out).mono ?_; rintro e v9 ⟨rfl, hb⟩
               have F5 := Lib.hid (F4.out.on hb)
               have R5 := Lib.hid (R4.out.below hb)
               have B5 := Lib.hid (B4.out.below hb B4.out.lt)
               have d0 := B5.out.at_ v _ (hvA_at hf v hv)
               have f0 := B5.out.frozen v
               have hfk := HFK.out v hv
               have hvi : (v : Int) < 8 := by omega
               generalize dat3 (kf v) (kq v) = D at *
               clear hb F4 R4 B4))
          have hne : ∀ j, b ≤ j → j < hvb → ¬ j = hvb := fun j _ h2 => by omega
          have F6 := Lib.hid (F5.out.aside (W' := v9.setCell ⟨hvb, v, none⟩ (.int .i64 ((hf v : Int) + 1))) (But.setCell (S := K2) (p := ⟨hvb, v, none⟩) (But.refl _ _) (.inl (HK2.out _ HKV.out)) _))
          have R6 := Lib.hid (R5.out.but (S := fun j => j = hvb) (W' := v9.setCell ⟨hvb, v, none⟩ (.int .i64 ((hf v : Int) + 1))) (But.setCell (S := fun j => j = hvb) (p := ⟨hvb, v, none⟩) (But.refl _ _) (.inl rfl) _) hne)
          have B6 := Lib.hid (show Blk (v9.setCell ⟨hvb, v, none⟩ (.int .i64 ((hf v : Int) + 1))) hvb 3 (hvA (bump hf v)) from by
            have h := B5.out.set_ v (.int .i64 ((hf v + 1 : Nat) : Int))
            rw [hvA_set _ _ _ hv] at h
            have e : (fun j => if j = v then hf v + 1 else hf j) = bump hf v := by
              funext j
              unfold bump
              split
              · rename_i e; rw [e]
              · rfl
            rw [e] at h
            exact h)
          have hbv : bump hf v v = hf v + 1 := if_pos rfl
          have HB6 := Lib.hid F6.out.bel
          clear F5 R5 B5 d0 f0
          generalize v9.setCell ⟨hvb, v, none⟩ (.int .i64 ((hf v : Int) + 1)) = W6 at *
          generalize bump hf v = hf2 at *
          go_cut [154] from 58 to 200 (fun c wx => ∃ bo : Bool, c = .bool bo ∧ wx = W6)
          case first =>
            by_cases hkd : k < nd
            · obtain ⟨ad2, rfl, y0⟩ := HDR.out W6 (HB1.out.trans (HB6.out.mono HB1.out.size)) k (by have := HND.out; omega)
              generalize dl[k]'(by have := HND.out; omega) = bo at *
              have hki : (k : Int) < (nd : Int) := by omega
              go_wp2
              go_meet
              exact ⟨bo, rfl, rfl⟩
            · have hki : ¬ (k : Int) < (nd : Int) := by omega
              go_wp2
              go_meet
              exact ⟨false, rfl, rfl⟩
          case rest =>
          obtain ⟨bo, rfl, hwc⟩ := hcut
          rw [hwc]
          clear hwc HDR HROW
          go_upto_if 154 with fail
          go_cut [] from 58 to 200 (fun wx => ∃ (hf' : Nat → Nat) (l' : Nat), Hid (St v1 a N K2 (k + 1) hf' l' wx) ∧ Hid (Rf b hvb gp wx) ∧ Hid (Blk wx hvb 3 (hvA hf')))
          case first =>
            cases bo with
            | false =>
              obtain ⟨l', hs⟩ := F6.out.st
              go_wp2
              go_meet
              exact ⟨hf2, l', Lib.hid hs, R6, B6⟩
            | true =>
              go_wp2_with (go_at_call 15; refine (one_drop1 F6.out hv (by rw [hbv]; omega)).mono ?_; rintro e v10 ⟨rfl, hb, l', hs⟩
                           have S7 := Lib.hid hs
                           have R7 := Lib.hid (R6.out.but hb fun j h1 h2 h => h (HK2.out j (HKI.out j h1 (by omega))))
                           have B7 := Lib.hid (B6.out.but hb fun h => h (HK2.out _ HKV.out))
                           have d0 := B7.out.at_ v _ (hvA_at hf2 v hv)
                           have f0 := B7.out.frozen v
                           rw [hbv] at d0
                           clear hb hs)
              go_meet
              refine ⟨less hf2 v, l', Lib.hid (S7.out.aside (But.setCell (S := K2) (p := ⟨hvb, v, none⟩) (But.refl _ _) (.inl (HK2.out _ HKV.out)) _)), Lib.hid (R7.out.but (S := fun j => j = hvb) (But.setCell (S := fun j => j = hvb) (p := ⟨hvb, v, none⟩) (But.refl _ _) (.inl rfl) _) hne), Lib.hid ?_⟩
              have h := B7.out.set_ v (.int .i64 ((hf v : Nat) : Int))
              rw [hvA_set _ _ _ hv] at h
              have e : (fun j => if j = v then hf v else hf2 j) = less hf2 v := by
                funext j
                unfold less
                split
                · rename_i e; rw [e, hbv]; rfl
                · rfl
              rw [e] at h
              exact h
          case rest =>
            obtain ⟨hf', l', S7, R7, B7⟩ := hcut
            clear F6 R6 B6 HB6 hbv
            generalize wc = W7 at *
            have HFK2 := Lib.hid S7.out.few
            go_wp2
            go_loopw [29] (fun i wq => ∃ j : Nat, j ≤ 8 ∧ i = .int .i64 j ∧ Hid (St v1 a N K2 (k + 1) hf' l' wq) ∧ Hid (Rf b hvb gp wq) ∧ Hid (Blk wq hvb 3 (hvA hf'))) (fun i _ => 8 - (intOf i).toNat)
            case atStart => exact ⟨0, by omega, rfl, S7, R7, B7⟩
            case round =>
              clear S7 R7 B7
              obtain ⟨j, hj, rfl, S7, R7, B7⟩ := hrel
              by_cases hj8 : j < 8
              · have hji : (j : Int) < 8 := by omega
                go_upto_if 171 with fail
                have hX := Blk.new wr 40 #[.int .i64 2, .int .i64 (j : Int)]
                have hBX := (Below.refl wr.heap.size wr).alloc (Nat.le_refl _) (.cells #[.int .i64 2, .int .i64 (j : Int)] 40)
                obtain ⟨jb, hjb⟩ : ∃ jb, wr.heap.size = jb := ⟨_, rfl⟩
                rw [hjb] at hX hBX ⊢
                have HX := Lib.hid hX
                have HBX := Lib.hid hBX
                clear hX hBX
                generalize wr.alloc (.cells #[.int .i64 2, .int .i64 (j : Int)] 40) = W8 at *
                go_cut [] from 164 to 200 (fun wx => Hid (Blk wx jb 40 #[.int .i64 (kf j), .int .i64 (kq j)]) ∧ Hid (Below jb wr wx))
                case first =>
                  by_cases h5 : 5 ≤ j
                  · have hd : decide ((5 : Int) ≤ (j : Int)) = true := decide_eq_true (by omega)
                    have hd2 : decide (5 ≤ j) = true := decide_eq_true h5
                    have e1 : kf j = 1 := if_neg (by omega)
                    have e2 : kq j = (j : Int) - 5 := by unfold kq; rw [if_neg (by omega)]; omega
                    have x0 := HX.out.at_ 0 _ rfl
                    have x1 := HX.out.at_ 1 _ rfl
                    have f0 := HX.out.frozen 0
                    have f1 := HX.out.frozen 1
                    go_wp2
                    go_meet
                    rw [e1, e2]
                    exact ⟨Lib.hid (by simpa using (HX.out.set_ 0 (.int .i64 1)).set_ 1 (.int .i64 ((j : Int) - 5))), Lib.hid ((HBX.out.setCell (p := ⟨jb, 0, none⟩) (Nat.le_refl _) _).setCell (p := ⟨jb, 1, none⟩) (Nat.le_refl _) _)⟩
                  · have hd : decide ((5 : Int) ≤ (j : Int)) = false := decide_eq_false (by omega)
                    have hd2 : decide (5 ≤ j) = false := decide_eq_false h5
                    have e1 : kf j = 2 := if_pos (by omega)
                    have e2 : kq j = (j : Int) := if_pos (by omega)
                    go_wp2
                    go_meet
                    rw [e1, e2]
                    exact ⟨HX, HBX⟩
                case rest =>
                  obtain ⟨X, BX⟩ := hcut
                  clear HX HBX
                  have x0 := X.out.at_ 0 _ rfl
                  have x1 := X.out.at_ 1 _ rfl
                  have BX2 := BX.out
                  rw [← hjb] at BX2
                  have S8 := Lib.hid (S7.out.on BX2)
                  have R8 := Lib.hid (R7.out.below BX2)
                  have B8 := Lib.hid (B7.out.below BX2 B7.out.lt)
                  clear BX2 BX S7 R7 B7
                  generalize wc = W9 at *
                  go_upto_region 42 with (go_at_call 16; refine (has2 S8.out hj8).mono ?_; rintro e v11 ⟨z1, b0, rfl, hb, hg⟩
                                          have HG := Lib.hid hg
                                          have S9 := Lib.hid (S8.out.on hb)
                                          have R9 := Lib.hid (R8.out.below hb)
                                          have B9 := Lib.hid (B8.out.below hb B8.out.lt)
                                          clear hb hg S8 R8 B8 X x0 x1)
                  have c0 := B9.out.at_ j _ (hvA_at hf' j hj8)
                  by_cases hp : 0 < hf' j
                  · have hd : decide ((0 : Int) < (hf' j : Int)) = true := decide_eq_true (by omega)
                    have hd2 : decide (0 < hf' j) = true := decide_eq_true hp
                    rcases HG.out with ⟨_, h0⟩ | ⟨rfl, f2, rfl, hs⟩
                    · omega
                    · have hfk := HFK2.out j hj8
                      have hh := fun n => (one_held (hs.on (Below.drewN2 (Below.refl _ v11) n)) hj8).mono (R' := fun e w' => e = .returned (.int .i64 ((hf' j + 1 : Nat) : Int)) ∧ w' = v11.drewN n) fun _ _ ⟨he, hw⟩ => ⟨he, hw.symm⟩
                      have HH := Lib.hid hh
                      clear hs HG hh
                      obtain ⟨hz, hhz⟩ : ∃ hz, hf' j = hz := ⟨_, rfl⟩
                      rw [hhz] at HH c0 hd hd2 hp hfk
                      have hce : ((hz + 1 : Nat) : Int) = (hz : Int) + 1 := by omega
                      rw [hce] at HH
                      clear hce
                      go_quiet ((go_at_call 17; exact Calls.quiet_of_same (HH.out _)))
                      go_wp2
                      go_roundw
                      case rel => exact ⟨j + 1, by omega, by go_num, Lib.hid (S9.out.on (Below.drewN2 (Below.refl _ v11) _)), Lib.hid (R9.out.below (Below.drewN2 (Below.refl _ v11) _)), Lib.hid (B9.out.below (Below.drewN2 (Below.refl _ v11) _) B9.out.lt)⟩
                      case measure => simp [intOf]; omega
                  · have hp0 : hf' j = 0 := by omega
                    rw [hp0] at c0
                    clear HG
                    go_quiet (fail)
                    go_wp2
                    go_roundw
                    case rel => exact ⟨j + 1, by omega, by go_num, Lib.hid (S9.out.on (Below.drewN2 (Below.refl _ v11) _)), Lib.hid (R9.out.below (Below.drewN2 (Below.refl _ v11) _)), Lib.hid (B9.out.below (Below.drewN2 (Below.refl _ v11) _) B9.out.lt)⟩
                    case measure => simp [intOf]; omega
              · have hji : ¬ (j : Int) < 8 := by omega
                have S8 := Lib.hid (show St v1 a N K (k + 1) hf' l' wr from S7.out.grow (Below.refl _ _) fun j h => .inl (HK2.out j h))
                go_wp2
                go_roundw
                case rel => exact ⟨k + 1, hf', l', by omega, by omega, by go_num, S8, R7, B7⟩
                case measure => simp [intOf]; omega
    · have hcond : (¬ (k : Int) < (nz : Int)) ∨ ((k : Int) < (nz : Int) ∧ ¬ (k : Int) < 30) := by omega
      clear hex HROW HDR
      have HFIN := Lib.hid S.out.bel
      clear S R B
      rcases hcond with h1 | ⟨h1, h2⟩
      all_goals
        go_wp2
        go_ret
        exact ⟨rfl, HB1.out.trans (HFIN.out.mono HB1.out.size)⟩

set_option maxRecDepth 100000 in
theorem lifted (os : Os) (started : os.Started) (H : Type) (enc : TypeId × Value → H) :
    ReturnsInHanded {} Tryd.checked os 3 .any (fun w args => (Rows.cacheOneSpec.pre enc Tryd.prog Tryd.f3 Rows.cacheOneRow.domain false w args ∧ laidMetH Tryd.prog Rows.cacheOneRow.laid w) ∧ sizedMet enc Tryd.prog Tryd.f3 (OpenSpec.ofChange Rows.cacheOneSpec) false w args) (Rows.cacheOneSpec.post enc Tryd.prog Tryd.f3 false true false false) := by
  refine returnsInHanded_of_change_and (C := Tryd.checked) (X := fun w _ => laidMetH Tryd.prog Rows.cacheOneRow.laid w) (fun _ _ _ hh h => h.of_heap hh) own started (by kernel_rfl) Tryd.func3
    (ChangeSpec.witness_shaped (enc := enc) (C := Tryd.checked) (os := os) (X := fun w _ => laidMetH Tryd.prog Rows.cacheOneRow.laid w) false (World.laidAll Tryd.prog os Rows.cacheOneRow.laid) #[.int .i64 0, .slice none 0 0, .slice none 0 0] 8 (World.laidAll_os _ _ _) (World.shaped_of_ZipB (by kernel_rfl) (by kernel_rfl)) (by kernel_rfl) (by kernel_rfl) (by kernel_rfl) (by rw [MakeChecks.laidMetH_plain _ _ _ (by kernel_rfl)]; exact laidMet_laidAll _ (by kernel_rfl) (by kernel_rfl))) ?_
  intro W base args ds gs before hval0 hW hcnd _ hL _
  have hval : ∀ (j : Nat) t v, Tryd.f3.params[j]? = some t → args[j]? = some v → Value.okWide Tryd.prog W .any base t v := hval0
  have hW' := hW
  obtain ⟨p, q, hA0, hV, rfl, hfz, hnd⟩ := hW
  have hA : DataW.TrodAll enc Tryd.prog W 0 (fun _ => true) true Tryd.f3.params.toList args.toList ds p := hA0
  rw [Tryd.params3] at hA hval
  obtain ⟨v0, vs0, d0, ds0, p0, q0, hargs, rfl, rfl, h0, r0⟩ := trodAll_cons hA
  obtain ⟨v1, vs1, d1, ds1, p1, q1, rfl, rfl, rfl, h1, r1⟩ := trodAll_cons r0
  obtain ⟨v2, vs2, d2, ds2, p2, q2, rfl, rfl, rfl, h2, r2⟩ := trodAll_cons r1
  obtain ⟨rfl, rfl, rfl⟩ := trodAll_nil r2
  obtain rfl : args = #[v0, v1, v2] := by cases args; simp_all
  obtain ⟨rfl, rfl⟩ := trodVars_none hV
  have k0 := h0
  have lt0 : ∀ x ∈ p0, x.block < W.heap.size := by obtain ⟨m, hm⟩ := k0; exact DataW.trod_lt m _ _ _ hm
  obtain ⟨a0, rfl, _, _, w0⟩ := open_int Tryd.underlying3 (hval 0 3 v0 rfl rfl) h0
  have k1 := h1
  have lt1 : ∀ x ∈ p1, x.block < W.heap.size := by obtain ⟨m, hm⟩ := k1; exact DataW.trod_lt m _ _ _ hm
  obtain ⟨LA1, Ll1, Lc1, rfl, Lm1, Lr1⟩ := openInts4 (hval 1 22 v1 rfl rfl) h1
  have k2 := h2
  have lt2 : ∀ x ∈ p2, x.block < W.heap.size := by obtain ⟨m, hm⟩ := k2; exact DataW.trod_lt m _ _ _ hm
  obtain ⟨LA2, Ll2, Lc2, rfl, Lm2, Lr2⟩ := openBools14 (hval 2 23 v2 rfl rfl) h2
  clear hA0 hval0
  refine (walk a0 LA1 Ll1 Lc1 LA2 Ll2 Lc2 W w0 Lm1 Lr1 Lm2 Lr2).mono fun e W' ⟨he, bel⟩ => ?_
  subst he
  exact ⟨_, rfl, _, _, _, [], _, [], hW', trodAll_mk1 (shut_bool Tryd.underlying4 _), (trodAll_cons_mk (Below.trod laidOut (by kernel_rfl) (of_decide_eq_true (by kernel_rfl)) k0 bel lt0) (trodAll_cons_mk (Below.trod laidOut (by kernel_rfl) (of_decide_eq_true (by kernel_rfl)) k1 bel lt1) (trodAll_cons_mk (Below.trod laidOut (by kernel_rfl) (of_decide_eq_true (by kernel_rfl)) k2 bel lt2) trodAll_mk0))), rfl, bel.frame _, fun h => by cases h⟩
theorem over : Rows.cacheOneRow.holds Tryd.pinned (OpenSpec.ofChange Rows.cacheOneSpec) :=
  OpenClaim.holds_of_wide 3 Tryd.f3 rfl rfl rfl rfl rfl rfl rfl ⟨rfl, rfl, rfl, rfl, rfl⟩ rfl rfl rfl rfl rfl (by kernel_rfl) Tryd.func3 (by kernel_rfl)
    (of_decide_eq_true (by kernel_rfl)) (by unfold Func.isWrapper; first | (rw [if_pos (by decide +kernel)]; kernel_rfl) | (rw [if_neg (by decide +kernel)]; exact ⟨rfl, rfl⟩))
    (fun os started H enc _ => lifted os started H enc)
set_option maxRecDepth 100000 in
/-- The statement. -/
theorem proved : Rows.CacheOneCardSaid :=
  Claim7.holds_tied_plain_at .later [] [.data, .pinned] true _ false over (fun _ h => by cases h) (by kernel_rfl) (fun _ h => by cases h) cacheOne_row_tie rfl ⟨rfl, rfl⟩ (by kernel_rfl) rfl
    (fun f fn hf hfn => by
      obtain rfl : f = 3 := Option.some.inj (hf.symm.trans (by kernel_rfl))
      obtain rfl : fn = Tryd.f3 := Option.some.inj (hfn.symm.trans Tryd.func3)
      refine ⟨by kernel_rfl, fun j t ht => ?_⟩
      rw [Tryd.params3] at ht
      match j, ht with
      | 0, ht =>
        obtain rfl : t = 3 := by simpa using ht.symm
        exact (by kernel_rfl : Tryd.pinned.checked.prog.wantsStandIn 3 = false)
      | 1, ht =>
        obtain rfl : t = 22 := by simpa using ht.symm
        exact (by kernel_rfl : Tryd.pinned.checked.prog.wantsStandIn 22 = false)
      | 2, ht =>
        obtain rfl : t = 23 := by simpa using ht.symm
        exact (by kernel_rfl : Tryd.pinned.checked.prog.wantsStandIn 23 = false)
      | j + 3, ht => simp at ht)
    (by kernel_rfl)
end Go.Proofs.YtmbjflcmbenbdaaDoor.lawOne14
