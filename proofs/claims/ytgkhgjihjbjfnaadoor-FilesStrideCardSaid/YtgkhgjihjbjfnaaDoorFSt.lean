/- FilesStride: whatever the stride, files have the same bytes; how many sectors are used is the same, too. -/
import Derived.Test.YtgkhgjihjbjfnaaDoorFRn
import Derived.Test.YtgkhgjihjbjfnaaDoorFOt
import Derived.Test.YtgkhgjihjbjfnaaDoorBits
import Derived.Test.YtgkhgjihjbjfnaaDoorLaw
import Derived.Test.YtgkhgjihjbjfnaaDoorTie
import Derived.Test.YtgkhgjihjbjfnaaDoorCards
import Derived.LaidMore
import Derived.Lay
import Derived.SevenTiedAt
import Derived.Stop.Joined
namespace Go.Proofs.YtgkhgjihjbjfnaaDoor.lawFSt
open Go.ChangeShapes Go.WideShapes Go.ChangeAt Go.RowKit
set_option linter.unusedVariables false
set_option linter.unusedSimpArgs false

theorem and7 (n : Int) : bits .and .i64 n 7 = n % 8 := i64_and_mask n 3 7 (by omega) (by decide)

theorem dl_len {FS : List Fl} {s : Nat} (h1 : 1 ≤ s) : (builtL FS s).length = 1 + FS.length + (FS.map Fl.pg).sum := by
  rw [builtL_length h1, dat_len (LaidOk.rows FS h1 4 (by omega))]

set_option maxRecDepth 100000 in
set_option maxHeartbeats 4000000 in
theorem walk (A : Option Addr) (l : List Fl) (c0 : Nat) (B : Option Addr) (zs : List Int) (c1 : Nat) (x y : Int) (w : World) (hl : l.length ≤ maxLen) (hA : FileIn w A l) (hz : zs.length ≤ maxLen) (hB : IntRow w B zs) (hx : (Lit.int .i64 x).wf = true) (hy : (Lit.int .i64 y).wf = true) :
    Calls Tryd.prog 6 #[.slice A l.length c0, .slice B zs.length c1, .agg #[.int .i64 x, .int .i64 y]] w fun e w' => e = .returned (.bool true) ∧ Below w.heap.size w w' := by
  obtain ⟨r, hr⟩ : ∃ r : Nat, x % 8 = r := ⟨(x % 8).toNat, by omega⟩
  obtain ⟨u, hu⟩ : ∃ u : Nat, y % 8 = u := ⟨(y % 8).toNat, by omega⟩
  have hr8 : r < 8 := by omega
  have hu8 : u < 8 := by omega
  have b1 := and7 x
  have b2 := and7 y
  rw [hr] at b1
  rw [hu] at b2
  obtain ⟨s, hs⟩ : ∃ s : Nat, 1 + r = s := ⟨_, rfl⟩
  obtain ⟨s2, hs2⟩ : ∃ s : Nat, 1 + u = s := ⟨_, rfl⟩
  have hs1 : 1 ≤ s := by omega
  have hs21 : 1 ≤ s2 := by omega
  have hsI : (1 + (r : Int)) = (s : Int) := by omega
  have hs2I : (1 + (u : Int)) = (s2 : Int) := by omega
  have hs8 : s ≤ 8 := by omega
  have hs28 : s2 ≤ 8 := by omega
  have hBa := (Below.refl w.heap.size w).alloc (Nat.le_refl _) (.cells #[.int .i64 x, .int .i64 y] 59)
  have hbx := Blk.new w 59 #[.int .i64 x, .int .i64 y]
  have HA := Lib.hid (fun v => awake_true v)
  have HIN := Lib.hid (fun v (h : Below w.heap.size w v) => few_any A B l zs c0 c1 v hl hz
    (fun i hi => by obtain ⟨ad, h1, h2, h3, h4, h5⟩ := hA i hi; exact ⟨ad, h1, Nat.lt_of_lt_of_le h2 h.size, (h.cell (p := ad.add (i * 2)) (by unfold Addr.add; split <;> exact h2)).trans h3, (h.cell (p := ad.add (i * 2 + 1)) (by unfold Addr.add; split <;> exact h2)).trans h4, h5⟩)
    (fun i hi => by obtain ⟨ad, h1, h2, h3, h4⟩ := hB i hi; exact ⟨ad, h1, Nat.lt_of_lt_of_le h2 h.size, (h.cell (p := ad.add i) (by unfold Addr.add; split <;> exact h2)).trans h3, h4⟩))
  unfold FewTold at HIN
  clear hl hA hz hB hx hy hr hu hs hs2
  go_enter Tryd.func6, Tryd.ntmps6
  go_wp2_with (first
    | (go_at_call 9; go_loud (refine (HA.out _).mono ?_; rintro e v0 ⟨rfl, hb0⟩; have HBA := Lib.hid (hBa.trans (hb0.mono hBa.size)); have HBX := Lib.hid (hbx.below hb0 hbx.lt); clear hb0))
    | (go_at_call 10; go_loud (refine (HIN.out _ HBA.out).mono ?_; rintro e v1 ⟨A', c', fs, rfl, hfl, hsm, hown, hbv⟩; have HFLM := Lib.hid hfl; clear hfl)))
  have hlen : fs.length ≤ 8 := by have := HFLM.out; omega
  obtain ⟨n, hn⟩ : ∃ n, fs.length = n := ⟨_, rfl⟩
  obtain ⟨b5, hb5⟩ : ∃ b5, w.heap.size = b5 := ⟨_, rfl⟩
  have hown1 : v1.ownsRow v0.heap.size 32 2 (.slice A' fs.length c') fs.length (fileCells (rn fs 0)) := hown
  rw [hn] at hown1 hlen ⊢
  rw [hb5]
  rw [hb5] at HBX
  have HOWN := Lib.hid hown1
  have HB1 := Lib.hid hbv
  have HN := Lib.hid hn
  have HSM := Lib.hid hsm
  have HB5 := Lib.hid hb5
  clear hown hown1 hbv hbx hBa HFLM hn hsm hb5
  go_loopw [9] (fun i wr => ∃ k : Nat, k ≤ n ∧ i = .int .i64 k ∧ wr.ownsRow v0.heap.size 32 2 (.slice A' n c') n (fileCells (rn fs k)) ∧ Below v0.heap.size v0 wr) (fun i _ => n - (intOf i).toNat)
  case atStart => exact ⟨0, Nat.zero_le _, rfl, HOWN.out, HB1.out⟩
  case round =>
    obtain ⟨k, hk, rfl, hown, hBw⟩ := hrel
    by_cases hlt : k < n
    · have hkf : k < fs.length := by rw [HN.out]; exact hlt
      have hcv := run_name k (by omega)
      rcases hown.2 with ⟨h0, h1⟩ | ⟨g, cap, cur, hv, hgB, hg, hr⟩
      · omega
      · injection hv with h1 h2 h3
        subst h1
        have hgb : Blk wr g 32 cur := hg
        obtain ⟨g', hg', _, d0, _⟩ := (FileRow.of_own hown).at_ k (by rw [rn_length]; exact hkf)
        cases hg'
        have d1 := ((Below.refl wr.heap.size wr).alloc (Nat.le_refl _) (.cells #[.int .u8 102, .int .u8 (48 + (k : Int))] 5)).cell (p := ⟨g, k * 2, none⟩) hgb.lt |>.trans d0
        have d2 := (hgb.alloc (.cells #[.int .u8 102, .int .u8 (48 + (k : Int))] 5)).frozen (k * 2)
        have HOWN2 := Lib.hid hown
        have HBW := Lib.hid hBw
        clear hown hBw hg hgb hr d0 h2 h3
        go_wp2
        go_roundw
        case rel => exact ⟨k + 1, by omega, by go_num, (rn_store HOWN2.out hkf).alloc _, (HBW.out.setCell (p := ⟨g, k * 2, none⟩) hgB _).alloc (HBW.out.setCell (p := ⟨g, k * 2, none⟩) hgB (.string (nmB k))).size _⟩
        case measure => simp [intOf]; omega
    · obtain rfl : k = n := by omega
      generalize wr = W0 at *
      have hc : CanBe (rn fs k) s := by have := rn_can (fs := fs) (by rw [HN.out]; exact hlen) HSM.out s hs1; rwa [HN.out] at this
      have hc2 : CanBe (rn fs k) s2 := by have := rn_can (fs := fs) (by rw [HN.out]; exact hlen) HSM.out s2 hs21; rwa [HN.out] at this
      have hFSl : (rn fs k).length = k := by rw [rn_length]; exact HN.out
      generalize rn fs k = FS at *
      have hfr := FileRow.of_own hown
      have q1 := fun v (hv : FileRow v (.slice A' FS.length c') FS) => build_yes A' c' FS s v hv hc hs1 (WalkArith.wf_i64 (by omega))
      have q2 := fun g v hg => of_built hc hs1 g v hg
      have q3 := fun pd gd v (h : Dk v pd gd ⟨builtL FS s, 0, 0, 0⟩) => st_open hc hs1 pd gd v h
      have q5 := fun B p pd gd v (h : OpenSt FS s v B p pd gd) (k : Nat) (hk : k < FS.length) => st_bytes hc hs1 h k hk
      have q7 := fun B p pd gd v (h : OpenSt FS s v B p pd gd) (k : Nat) (hk : k < FS.length) => st_pages hc hs1 h k hk
      have q9 := fun B p pd gd v (h : OpenSt FS s v B p pd gd) => st_sectors h
      have q11 := fun B p pd gd v (h : OpenSt FS s v B p pd gd) (k : Nat) (hk : k < FS.length) ex hex => st_inode hc hs1 h k hk ex hex
      have p1 := fun v (hv : FileRow v (.slice A' FS.length c') FS) => build_yes A' c' FS s2 v hv hc2 hs21 (WalkArith.wf_i64 (by omega))
      have p2 := fun g v hg => of_built hc2 hs21 g v hg
      have p3 := fun pd gd v (h : Dk v pd gd ⟨builtL FS s2, 0, 0, 0⟩) => st_open hc2 hs21 pd gd v h
      have p5 := fun B p pd gd v (h : OpenSt FS s2 v B p pd gd) (k : Nat) (hk : k < FS.length) => st_bytes hc2 hs21 h k hk
      have hok := LaidOk.rows FS hs1 4 (by omega)
      have hexs : ∀ t (ht : t < FS.length), ∃ ex, (Laid.rows FS s 4).ex[t]? = some ex ∧ SmallE ex ∧ ahd ex ex.length = FS[t].pg := fun t ht => by
        have ht' : t < (Laid.rows FS s 4).ex.length := by rw [hok.len]; exact ht
        obtain ⟨h1, _, h3⟩ := hok.small hc.data hc.room t ht ht'
        exact ⟨_, List.getElem?_eq_getElem ht', h1, h3⟩
      obtain ⟨L, hL⟩ : ∃ L, 1 + FS.length + (FS.map Fl.pg).sum = L := ⟨_, rfl⟩
      have hL1 := dl_len (FS := FS) hs1
      have hL2 := dl_len (FS := FS) hs21
      rw [hL] at hL1 hL2
      have hLb : L ≤ 16384 := by rw [← hL1, builtL_length hs1]; exact hc.room
      unfold Built at q1 p1
      unfold Made at q2 p2
      unfold StTold at q5 p5
      rw [hFSl] at q1 p1
      simp only [hL1] at q1 q2 q9
      simp only [hL2] at p1 p2
      generalize builtL FS s = DL at *
      generalize builtL FS s2 = DM at *
      have Q1 := Lib.hid q1
      have Q2 := Lib.hid q2
      have Q3 := Lib.hid q3
      have Q5 := Lib.hid q5
      have Q7 := Lib.hid q7
      have Q9 := Lib.hid q9
      have Q11 := Lib.hid q11
      have P1 := Lib.hid p1
      have P2 := Lib.hid p2
      have P3 := Lib.hid p3
      have P5 := Lib.hid p5
      have HFR := Lib.hid hfr
      have HFL := Lib.hid hFSl
      have HDZ := Lib.hid hc.data
      have HEX := Lib.hid hexs
      have HLL := Lib.hid hL
      have HB := Lib.hid (HBA.out.trans (hBw.mono HBA.out.size))
      have hxb := HBX.out.below hBw HBX.out.lt
      have HXB := Lib.hid hxb
      have e0 := hxb.at_ 0 _ rfl
      clear q1 q2 q3 q5 q7 q9 q11 p1 p2 p3 p5 hc hc2 hfr hFSl hown hBw HOWN HB1 HA HIN hok hexs hL hL1 hL2 hxb HBX HBA
      go_wp2_with (first
        | (go_at_call 11; (with_reducible refine (Q1.out _ HFR.out).mono ?_); rintro e v1 ⟨g1, rfl, hg, hgl, hb1⟩; have HB1 := Lib.hid hb1; have HFR2 := Lib.hid (HFR.out.below hb1); have e1 := (HXB.out.below hb1 HXB.out.lt).at_ 1 _ rfl)
        | (go_at_call 11; go_loud (refine (P1.out _ HFR2.out).mono ?_; rintro e v2 ⟨g2, rfl, hg2, hgl2, hb2⟩; have HB2 := Lib.hid (HB1.out.trans (hb2.mono HB1.out.size)); have hgx := hg.below hb2 hg.lt))
        | (go_at_call 17; (with_reducible refine (Q2.out _ _ hgx).mono ?_); rintro e v3 ⟨pd1, gd1, rfl, hp3, hg3, hb3, hd3⟩; have HB3 := Lib.hid (HB2.out.trans (hb3.mono HB2.out.size)))
        | (go_at_call 16; (with_reducible refine (Q3.out _ _ _ hd3).mono ?_); rintro e v4 ⟨p1, rfl, hst1, hb4⟩; have HB4 := Lib.hid (HB3.out.trans (hb4.below (B := W0.heap.size) HB3.out.size (fun j e => by have := HB2.out.size; omega))); have hgy := (hg2.below hb3 hg2.lt).but hb4 (by have := hg2.lt; omega))
        | (go_at_call 17; go_loud (refine (P2.out _ _ hgy).mono ?_; rintro e v5 ⟨pd2, gd2, rfl, hp5, hg5, hb5, hd5⟩; have HB5 := Lib.hid (HB4.out.trans (hb5.mono HB4.out.size)); have hst5 := hst1.below hb5))
        | (go_at_call 16; go_loud (refine (P3.out _ _ _ hd5).mono ?_; rintro e v6 ⟨p2, rfl, hst2, hb6⟩; have HB6 := Lib.hid (HB5.out.trans (hb6.below (B := W0.heap.size) HB5.out.size (fun j e => by have := HB4.out.size; omega))))))
      have hne : pd1 ≠ pd2 := by
        have h1 := hb4.size
        have h2 := hd3.head.lt
        omega
      have hpw1 : W0.heap.size ≤ pd1 := by have := HB2.out.size; omega
      have hpw2 : W0.heap.size ≤ pd2 := by have := HB4.out.size; omega
      have hst6 := hst5.other hb6 ⟨_, hd5.head⟩ hne
      have HS1 := Lib.hid hst6
      have HS2 := Lib.hid hst2
      clear hb1 hb2 hb3 hb4 hb5 hb6 hd3 hd5 hg hgx hgy hg2 hgl hgl2 hst1 hst5 hst6 hst2 hp3 hg3 hp5 hg5 e0 e1 HFR2
      go_loopw [18, 19] (fun all i wx => ∃ t S : Nat, t ≤ k ∧ i = .int .i64 t ∧ S = 1 + k + ((FS.map Fl.pg).take t).sum ∧ all = .int .i64 S ∧ OpenSt FS s wx v3.heap.size p1 pd1 gd1 ∧ OpenSt FS s2 wx v5.heap.size p2 pd2 gd2 ∧ Below W0.heap.size W0 wx) (fun _ i _ => k - (intOf i).toNat)
      case atStart => exact ⟨0, 1 + k, Nat.zero_le _, rfl, by simp, by go_num, HS1.out, HS2.out, HB6.out⟩
      case round =>
        obtain ⟨t, S, ht, rfl, hS, rfl, hst1, hst2, hbx⟩ := hrel
        by_cases hlt3 : t < k
        · have htl : t < FS.length := by have := HFL.out; omega
          obtain ⟨g, rfl, hg, d0, d1⟩ := HFR.out.at_ t htl
          obtain ⟨ex, hex, hsm, hah⟩ := HEX.out t htl
          have r5 := fun v (h : OpenSt FS s v v3.heap.size p1 pd1 gd1) => Q5.out _ _ _ _ v h t htl
          have r7 := fun v (h : OpenSt FS s v v3.heap.size p1 pd1 gd1) => Q7.out _ _ _ _ v h t htl
          have r11 := fun v (h : OpenSt FS s v v3.heap.size p1 pd1 gd1) => Q11.out _ _ _ _ v h t htl ex hex
          have o5 := fun v (h : OpenSt FS s2 v v5.heap.size p2 pd2 gd2) => P5.out _ _ _ _ v h t htl
          have hdz := HDZ.out _ (List.getElem_mem htl)
          have hnx := take_sum_succ (FS.map Fl.pg) t
          have hgd : (FS.map Fl.pg).getD t 0 = FS[t].pg := by rw [List.getD, List.getElem?_map, List.getElem?_eq_getElem htl]; rfl
          rw [hgd] at hnx
          have hSL : S + FS[t].pg ≤ L := by
            have h1 := take_sum_le (FS.map Fl.pg) (t + 1)
            have h2 := HLL.out
            have h3 := HFL.out
            omega
          have hpg : pgs FS[t].data.size = FS[t].pg := rfl
          rw [hpg] at r7
          obtain ⟨N, hN⟩ : ∃ N, FS[t].pg = N := ⟨_, rfl⟩
          rw [hN] at r7 hah hnx hSL
          clear hpg hN hgd
          generalize FS[t].name = nt at *
          generalize FS[t].data = dd at *
          have hcx : ∀ v, Below W0.heap.size W0 v → v.cell? ⟨g, t * 2, none⟩ = some (.string nt) ∧ v.cell? ⟨g, t * 2 + 1, none⟩ = some (.string dd) := fun v hv => ⟨(hv.cell (p := ⟨g, t * 2, none⟩) hg).trans d0, (hv.cell (p := ⟨g, t * 2 + 1, none⟩) hg).trans d1⟩
          have R5 := Lib.hid r5
          have R7 := Lib.hid r7
          have R11 := Lib.hid r11
          have O5 := Lib.hid o5
          have HSm := Lib.hid hsm
          have HAh := Lib.hid hah
          have HNx := Lib.hid hnx
          have HS_ := Lib.hid hS
          have HT1 := Lib.hid hst1
          have HT2 := Lib.hid hst2
          have HBX := Lib.hid hbx
          have HCX := Lib.hid hcx
          have hSL2 := hSL
          clear r5 r7 r11 o5 hsm hah hnx hS hst1 hst2 hbx hcx d0 d1 hex
          go_wp2_with (first
            | (go_at_call 21; (with_reducible refine (R5.out _ HT1.out).mono ?_); rintro e v7 ⟨rfl, hst7, hb7⟩; have HB7 := Lib.hid (HBX.out.trans (hb7.below (B := W0.heap.size) HBX.out.size (fun j e => by omega))); have HT3 := Lib.hid hst7; have HT4 := Lib.hid (HT2.out.other hb7 HT1.out.disk (fun e => hne e.symm)); clear hst7 hb7)
            | (go_at_call 21; go_loud (refine (O5.out _ HT4.out).mono ?_; rintro e v8 ⟨rfl, hst8, hb8⟩; have HB8 := Lib.hid (HB7.out.trans (hb8.below (B := W0.heap.size) HB7.out.size (fun j e => by omega))); have HT5 := Lib.hid hst8; have HT6 := Lib.hid (HT3.out.other hb8 HT4.out.disk hne); clear hst8 hb8))
            | (go_at_call 25; go_loud (refine (R11.out _ HT6.out).mono ?_; rintro e v9 ⟨vA, vc, rfl, hx9, hb9⟩; have HX9 := Lib.hid hx9; have HB9 := Lib.hid (HB8.out.trans (hb9.mono HB8.out.size)); have HT7 := Lib.hid (HT5.out.below hb9); have HT8 := Lib.hid (HT6.out.below hb9); clear hx9 hb9)))
          have hI := Blk.new v9 55 #[.string nt, .int .i64 dd.size, .slice vA ex.length vc]
          have hx10 := HX9.out.alloc (.cells #[.string nt, .int .i64 dd.size, .slice vA ex.length vc] 55)
          have hb10 := HB9.out.alloc HB9.out.size (.cells #[.string nt, .int .i64 dd.size, .slice vA ex.length vc] 55)
          have hs10 := HT8.out.alloc (.cells #[.string nt, .int .i64 dd.size, .slice vA ex.length vc] 55)
          have hs11 := HT7.out.alloc (.cells #[.string nt, .int .i64 dd.size, .slice vA ex.length vc] 55)
          obtain ⟨bi, hbi⟩ : ∃ bi, v9.heap.size = bi := ⟨_, rfl⟩
          rw [hbi] at hI ⊢
          generalize v9.alloc (.cells #[.string nt, .int .i64 dd.size, .slice vA ex.length vc] 55) = V10 at *
          have i2 := hI.at_ 2 _ rfl
          have HI := Lib.hid hI
          have HX10 := Lib.hid hx10
          have HB10 := Lib.hid hb10
          have HT10 := Lib.hid hs10
          have HT11 := Lib.hid hs11
          clear hI hx10 hb10 hs10 hs11 hbi HB7 HB8 HB9 HT3 HT4 HT5 HT6 HT7 HT8 HX9
          go_loop [26, 27] (fun us j => ∃ m : Nat, m ≤ ex.length ∧ j = .int .i64 m ∧ us = .int .i64 (ahd ex m : Nat)) (fun _ j => ex.length - (intOf j).toNat)
          case atStart => exact ⟨0, Nat.zero_le _, rfl, by simp [ahd]⟩
          case round =>
            obtain ⟨m, hm, rfl, rfl⟩ := hrel
            obtain ⟨hl1, hl2, _⟩ := HSm.out
            have hle := ahd_le ex m
            by_cases hlt5 : m < ex.length
            · rcases HX10.out with ⟨_, rfl⟩ | ⟨ge, cap, cur, hv, hbk, hcc⟩
              · simp at hlt5
              · injection hv with h1 h2 h3
                subst h1
                obtain ⟨_, k1⟩ := ext_cells hbk hcc hlt5
                have hs_ := ahd_succ ex hlt5
                have hle2 := ahd_le ex (m + 1)
                rw [hs_] at hle2
                have HSS := Lib.hid hs_
                clear hs_ hbk hcc h2 h3
                generalize ex[m].2 = em at *
                generalize ahd ex m = am at *
                go_wp2
                go_round
                case rel => exact ⟨m + 1, by omega, by go_num, by rw [HSS.out]; go_num⟩
                case measure => simp [intOf]; omega
            · obtain rfl : m = ex.length := by omega
              rw [HAh.out]
              clear hle hl1 hl2
              have a0 := (HCX.out _ HB10.out.drew).1
              have a1 := (HCX.out _ HB10.out.drew).2
              have a2 := HI.out.drew.at_ 0 _ rfl
              have a3 := HI.out.drew.at_ 1 _ rfl
              go_wp2
              go_region_held3 (fun w' => w'.cell? ⟨g, t * 2, none⟩ = some (.string nt) ∧ w'.cell? ⟨g, t * 2 + 1, none⟩ = some (.string dd) ∧ w'.cell? ⟨bi, 0, none⟩ = some (.string nt) ∧ w'.cell? ⟨bi, 1, none⟩ = some (.int .i64 dd.size))
                (first | exact ⟨a0, a1, a2, a3⟩)
                (first
                | (go_at_call 22; go_loud (refine (R7.out _ HT10.out.drew).mono ?_; rintro e v11 ⟨rfl, hb11⟩; have HI11 := Lib.hid (HI.out.drew.below hb11 HI.out.lt); have HB11 := Lib.hid (HB10.out.drew.trans (hb11.mono HB10.out.drew.size)); have HT12 := Lib.hid (HT10.out.drew.below hb11); have HT13 := Lib.hid (HT11.out.drew.below hb11); clear a0 a1 a2 a3; have a0 := (HCX.out _ HB11.out).1; have a1 := (HCX.out _ HB11.out).2; have a2 := HI11.out.at_ 0 _ rfl; have a3 := HI11.out.at_ 1 _ rfl; clear hb11)))
              go_wp2
              go_roundw
              case rel => exact ⟨t + 1, S + N, by omega, by go_num, by have h1 := HNx.out; have h2 := HS_.out; omega, by go_num, HT12.out, HT13.out, HB11.out⟩
              case measure => simp [intOf]; omega
        · obtain rfl : t = k := by omega
          have hSL : S = L := by
            rw [hS, List.take_of_length_le (by rw [List.length_map, HFL.out]; exact Nat.le_refl _), ← HLL.out, HFL.out]
          subst hSL
          have r9 := Q9.out _ _ _ _ _ hst1
          have R9 := Lib.hid r9
          have HBX := Lib.hid hbx
          clear r9 hst1 hst2 hbx hS
          go_wp2_with (go_at_call 19; go_loud (refine R9.out.mono ?_; rintro e v6 ⟨rfl, rfl⟩))
          go_ret
          exact ⟨by simp, HB.out.trans (HBX.out.mono HB.out.size)⟩

set_option maxRecDepth 100000 in
theorem lifted (os : Os) (started : os.Started) (H : Type) (enc : TypeId × Value → H) :
    ReturnsInHanded {} Tryd.checked os 6 .any (fun w args => (Rows.filesStrideSpec.pre enc Tryd.prog Tryd.f6 Rows.filesStrideRow.domain false w args ∧ laidMetH Tryd.prog Rows.filesStrideRow.laid w) ∧ sizedMet enc Tryd.prog Tryd.f6 (OpenSpec.ofChange Rows.filesStrideSpec) false w args) (Rows.filesStrideSpec.post enc Tryd.prog Tryd.f6 false true false false) := by
  refine returnsInHanded_of_change_and (C := Tryd.checked) (X := fun w _ => laidMetH Tryd.prog Rows.filesStrideRow.laid w) (fun _ _ _ hh h => h.of_heap hh) own started (by kernel_rfl) Tryd.func6
    (ChangeSpec.witness_shaped (enc := enc) (C := Tryd.checked) (os := os) (X := fun w _ => laidMetH Tryd.prog Rows.filesStrideRow.laid w) false (World.laidAll Tryd.prog os Rows.filesStrideRow.laid) #[.slice none 0 0, .slice none 0 0, .agg #[.int .i64 0, .int .i64 0]] 8 (World.laidAll_os _ _ _) (World.shaped_of_ZipB (by kernel_rfl) (by kernel_rfl)) (by kernel_rfl) (by kernel_rfl) (by kernel_rfl) (by rw [MakeChecks.laidMetH_plain _ _ _ (by kernel_rfl)]; exact laidMet_laidAll _ (by kernel_rfl) (by kernel_rfl))) ?_
  intro W base args ds gs before hval0 hW hcnd _ hL _
  have hval : ∀ (j : Nat) t v, Tryd.f6.params[j]? = some t → args[j]? = some v → Value.okWide Tryd.prog W .any base t v := hval0
  have hW' := hW
  obtain ⟨p, q, hA0, hV, rfl, hfz, hnd⟩ := hW
  have hA : DataW.TrodAll enc Tryd.prog W 0 (fun _ => true) true Tryd.f6.params.toList args.toList ds p := hA0
  rw [Tryd.params6] at hA hval
  obtain ⟨v0, vs0, d0, ds0, p0, q0, hargs, rfl, rfl, h0, r0⟩ := trodAll_cons hA
  obtain ⟨v1, vs1, d1, ds1, p1, q1, rfl, rfl, rfl, h1, r1⟩ := trodAll_cons r0
  obtain ⟨v2, vs2, d2, ds2, p2, q2, rfl, rfl, rfl, h2, r2⟩ := trodAll_cons r1
  obtain ⟨rfl, rfl, rfl⟩ := trodAll_nil r2
  obtain rfl : args = #[v0, v1, v2] := by cases args; simp_all
  obtain ⟨rfl, rfl⟩ := trodVars_none hV
  have k0 := h0
  have lt0 : ∀ x ∈ p0, x.block < W.heap.size := by obtain ⟨m, hm⟩ := k0; exact DataW.trod_lt m _ _ _ hm
  obtain ⟨LA0, Ll0, Lc0, rfl, Lm0, Lr0⟩ := openFiles4 (hval 0 22 v0 rfl rfl) h0
  have k1 := h1
  have lt1 : ∀ x ∈ p1, x.block < W.heap.size := by obtain ⟨m, hm⟩ := k1; exact DataW.trod_lt m _ _ _ hm
  obtain ⟨LA1, Ll1, Lc1, rfl, Lm1, Lr1⟩ := openInts4 (hval 1 23 v1 rfl rfl) h1
  have k2 := h2
  have lt2 : ∀ x ∈ p2, x.block < W.heap.size := by obtain ⟨m, hm⟩ := k2; exact DataW.trod_lt m _ _ _ hm
  obtain ⟨z2, e2, hl2, hw2⟩ := open_ints_array Tryd.underlying59 Tryd.underlying3 (by kernel_rfl) (by kernel_rfl) (hval 2 59 v2 rfl rfl) h2
  obtain ⟨a2_0, a2_1, rfl⟩ : ∃ a2_0 a2_1, z2 = [a2_0, a2_1] := by
    match z2, hl2 with
    | [a2_0, a2_1], _ => exact ⟨_, _, rfl⟩
  obtain rfl : v2 = .agg #[.int .i64 a2_0, .int .i64 a2_1] := e2
  clear hA0 hval0
  refine (walk LA0 Ll0 Lc0 LA1 Ll1 Lc1 a2_0 a2_1 W Lm0 Lr0 Lm1 Lr1 (hw2 a2_0 (by simp)) (hw2 a2_1 (by simp))).mono fun e W' ⟨he, bel⟩ => ?_
  subst he
  exact ⟨_, rfl, _, _, _, [], _, [], hW', trodAll_mk1 (shut_bool Tryd.underlying4 _), (trodAll_cons_mk (Below.trod laidOut (by kernel_rfl) (of_decide_eq_true (by kernel_rfl)) k0 bel lt0) (trodAll_cons_mk (Below.trod laidOut (by kernel_rfl) (of_decide_eq_true (by kernel_rfl)) k1 bel lt1) (trodAll_cons_mk (Below.trod laidOut (by kernel_rfl) (of_decide_eq_true (by kernel_rfl)) k2 bel lt2) trodAll_mk0))), rfl, bel.frame _, fun h => by cases h⟩
theorem over : Rows.filesStrideRow.holds Tryd.pinned (OpenSpec.ofChange Rows.filesStrideSpec) :=
  OpenClaim.holds_of_wide 6 Tryd.f6 rfl rfl rfl rfl rfl rfl rfl ⟨rfl, rfl, rfl, rfl, rfl⟩ rfl rfl rfl rfl rfl (by kernel_rfl) Tryd.func6 (by kernel_rfl)
    (of_decide_eq_true (by kernel_rfl)) (by unfold Func.isWrapper; first | (rw [if_pos (by decide +kernel)]; kernel_rfl) | (rw [if_neg (by decide +kernel)]; exact ⟨rfl, rfl⟩))
    (fun os started H enc _ => lifted os started H enc)
set_option maxRecDepth 100000 in
/-- The statement. -/
theorem proved : Rows.FilesStrideCardSaid :=
  Claim7.holds_tied_plain_at .later [] [.data, .pinned] true _ false over (fun _ h => by cases h) (by kernel_rfl) (fun _ h => by cases h) filesStride_row_tie rfl ⟨rfl, rfl⟩ (by kernel_rfl) rfl
    (fun f fn hf hfn => by
      obtain rfl : f = 6 := Option.some.inj (hf.symm.trans (by kernel_rfl))
      obtain rfl : fn = Tryd.f6 := Option.some.inj (hfn.symm.trans Tryd.func6)
      refine ⟨by kernel_rfl, fun j t ht => ?_⟩
      rw [Tryd.params6] at ht
      match j, ht with
      | 0, ht =>
        obtain rfl : t = 22 := by simpa using ht.symm
        exact (by kernel_rfl : Tryd.pinned.checked.prog.wantsStandIn 22 = false)
      | 1, ht =>
        obtain rfl : t = 23 := by simpa using ht.symm
        exact (by kernel_rfl : Tryd.pinned.checked.prog.wantsStandIn 23 = false)
      | 2, ht =>
        obtain rfl : t = 59 := by simpa using ht.symm
        exact (by kernel_rfl : Tryd.pinned.checked.prog.wantsStandIn 59 = false)
      | j + 3, ht => simp at ht)
    (by kernel_rfl)
end Go.Proofs.YtgkhgjihjbjfnaaDoor.lawFSt
