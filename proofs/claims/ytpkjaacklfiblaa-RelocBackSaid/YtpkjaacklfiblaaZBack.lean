/- RelocBack: for any relocations, made such as may be by their rests (eight at most), and any length of the view: they are read as they were written, one behind the other; one byte short, or with a place beyond the view, they are not. -/
import Derived.Test.YtpkjaacklfiblaaZE
import Derived.Test.YtpkjaacklfiblaaZH
namespace Go.Proofs.Ytpkjaacklfiblaa.lawBackZ
open Go.ChangeShapes Go.WideShapes Go.ChangeAt Go.RowKit Go.Deep
set_option linter.unusedVariables false
set_option linter.unusedSimpArgs false

theorem i64_and2 (n : Int) : bits .and .i64 n 3 = n % 4 := i64_and_mask n 2 3 (by omega) (by decide)
theorem i64_and10 (n : Int) : bits .and .i64 n 1023 = n % 1024 := i64_and_mask n 10 1023 (by omega) (by decide)
theorem i64_and8 (n : Int) : bits .and .i64 n 255 = n % 256 := i64_and_mask n 8 255 (by omega) (by decide)
def kA : Array Value := #[.int .i64 1, .int .i64 6, .int .i64 7, .int .i64 8]
/-- The kinds, and what was there. -/
structure Kb (w : World) (G : Nat) (v : World) : Prop where
  k : Blk v G 43 kA
  b : Below w.heap.size w v
  s : w.heap.size ≤ G
theorem Kb.below {w v v2 : World} {G : Nat} (h : Kb w G v) (hb : Below v.heap.size v v2) : Kb w G v2 := ⟨h.k.below hb h.k.lt, h.b.trans (hb.mono (by have := h.k.lt; have := h.s; omega)), h.s⟩
theorem Kb.grown {w v v2 : World} {G : Nat} {row : Option Nat} (h : Kb w G v) (hg : v.grownBy v2 row) (hr : ∀ k, row = some k → G < k) : Kb w G v2 :=
  ⟨h.k.grown hg (fun e => by have := hr _ e.symm; omega), h.b.grown hg (by have := h.k.lt; have := h.s; omega) (fun k e => by have := hr k e; have := h.s; omega), h.s⟩

/-- What a program says, in a block; the row of one's own. -/
structure Eb (w : World) (B D k : Nat) (v : Value) (xs : List Value) (cs : Array Value) (u : World) : Prop where
  d : Blk u D 37 cs
  o : u.ownsRow B 23 4 v k xs
  b : Below w.heap.size w u
  ne : v.ownBlock ≠ some D
  s : w.heap.size ≤ B
  sd : w.heap.size ≤ D
section
variable {w u u2 : World} {B D k : Nat} {v : Value} {xs : List Value} {cs : Array Value}
theorem Eb.below (h : Eb w B D k v xs cs u) (hb : Below u.heap.size u u2) : Eb w B D k v xs cs u2 := ⟨h.d.below hb h.d.lt, own_below h.o hb, h.b.trans (hb.mono (by have := h.d.lt; have := h.sd; omega)), h.ne, h.s, h.sd⟩
theorem Eb.set6 {y z : Int} (h : Eb w B D k v xs #[.slice none 0 0, .int .i64 0, .int .i64 0, .int .i64 0, .int .i64 0, .int .i64 0, .int .i64 y, .int .i64 0, .int .i64 0] u) :
    Eb w B D k v xs #[.slice none 0 0, .int .i64 0, .int .i64 0, .int .i64 0, .int .i64 0, .int .i64 0, .int .i64 z, .int .i64 0, .int .i64 0] (u.setCell ⟨D, 6, none⟩ (.int .i64 z)) :=
  ⟨by simpa using h.d.set_ 6 (.int .i64 z), own_farZ h.o (p := ⟨D, 6, none⟩) h.ne _, h.b.setCell (p := ⟨D, 6, none⟩) h.sd _, h.ne, h.s, h.sd⟩
theorem Eb.set0 {g cap : Nat} (h : Eb w B D k (.slice (some ⟨g, 0, none⟩) k cap) xs cs u) (hg : w.heap.size ≤ g) (z : Int) : Eb w B D k (.slice (some ⟨g, 0, none⟩) k cap) (xs.set 0 (.int .i64 z)) cs (u.setCell ⟨g, 0, none⟩ (.int .i64 z)) :=
  ⟨h.d.far (p := ⟨g, 0, none⟩) (fun e => h.ne (by simp [Value.ownBlock, e])) _, own_setZ h.o 0 _, h.b.setCell (p := ⟨g, 0, none⟩) hg _, h.ne, h.s, h.sd⟩
theorem Eb.cells {z : Int} (h : Eb w B D k v xs #[.slice none 0 0, .int .i64 0, .int .i64 0, .int .i64 0, .int .i64 0, .int .i64 0, .int .i64 z, .int .i64 0, .int .i64 0] u) :
    u.cell? ⟨D, 0, none⟩ = some (.slice none 0 0) ∧ u.cell? ⟨D, 1, none⟩ = some (.int .i64 0) ∧ u.cell? ⟨D, 2, none⟩ = some (.int .i64 0) ∧ u.cell? ⟨D, 3, none⟩ = some (.int .i64 0) ∧ u.cell? ⟨D, 4, none⟩ = some (.int .i64 0) ∧ u.cell? ⟨D, 5, none⟩ = some (.int .i64 0) ∧ u.cell? ⟨D, 6, none⟩ = some (.int .i64 z) ∧ u.cell? ⟨D, 7, none⟩ = some (.int .i64 0) ∧ u.cell? ⟨D, 8, none⟩ = some (.int .i64 0) := ⟨h.d.cell 0, h.d.cell 1, h.d.cell 2, h.d.cell 3, h.d.cell 4, h.d.cell 5, h.d.cell 6, h.d.cell 7, h.d.cell 8⟩
theorem Eb.drew (h : Eb w B D k v xs cs u) : Eb w B D k v xs cs u.drew := h.below (Below.refl _ _).drew
end

set_option maxRecDepth 100000 in
set_option maxHeartbeats 3200000 in
theorem walk (A : Option Addr) (l : List Rl) (c : Nat) (long : Int) (w : World) (hm : l.length ≤ maxLen) (hr : RlRow w A l) (wl : (Lit.int .i64 long).wf = true) :
    Calls Try.prog 5 #[.slice A l.length c, .int .i64 long] w fun e w' => e = .returned (.bool true) ∧ Below w.heap.size w w' := by
  unfold maxLen at hm
  have HA := Lib.hid (fun v => awakeZ_any v)
  have hlw : ∀ r ∈ l, r.wf := fun r hx => by
    obtain ⟨i, hi, rfl⟩ := List.getElem_of_mem hx
    exact hr.wf i hi
  have HRW := Lib.hid (fun (v : World) (h : Below w.heap.size w v) => show RlRow v A l from hr.below rfl h)
  obtain ⟨q, hq⟩ : ∃ q : Nat, long % 256 = (q : Int) := ⟨(long % 256).toNat, by omega⟩
  have e8 := i64_and8 long
  rw [hq] at e8
  have hq255 : q ≤ 255 := by omega
  obtain ⟨n, hn⟩ : ∃ n : Nat, 300 + q = n := ⟨_, rfl⟩
  have hnb : 300 ≤ n ∧ n ≤ 555 := by omega
  have n1 : IntKind.i64.wrap (300 + (q : Int)) = (n : Int) := by rw [IntWalk.i64_in _ (by omega)]; omega
  have hn0 : (300 : Int) + (q : Int) = (n : Int) := by omega
  obtain ⟨len, hlen⟩ : ∃ n, l.length = n := ⟨_, rfl⟩
  have HN := Lib.hid hlen
  have HLW := Lib.hid hlw
  rw [hlen] at hm ⊢
  clear hlen hlw hr hq hn wl
  go_enter Try.func5, Try.ntmps5
  go_upto_region 5 with (go_at_call 9; refine (HA.out _).mono ?_; rintro e v1 ⟨rfl, hb1⟩)
  have HK1 := Lib.hid (show Kb w v1.heap.size (v1.alloc (.cells kA 43)) from ⟨Blk.new _ _ _, hb1.alloc hb1.size _, hb1.size⟩)
  have hsz : (v1.alloc (.cells kA 43)).heap.size = v1.heap.size + 1 := by simp
  have HSZ := Lib.hid hsz
  unfold kA at HK1 HSZ
  clear hb1 HA hsz e8 n1 hn0
  go_upto_region 6 with fail
  generalize v1.alloc (.cells #[.int .i64 1, .int .i64 6, .int .i64 7, .int .i64 8] 43) = v2 at *
  generalize v1.heap.size = G at *
  have hO0 := Lib.hid (World.ownsRow_nil v2 (G + 1) 23 4)
  obtain ⟨i0, hi, hz0, hz1, hz2⟩ := info_parts infoRel
  go_wp2_with fail
  go_loopw [7, 8, 10] (fun mv acc i wr => ∃ (k : Nat), k ≤ len ∧ k ≤ 8 ∧ i = .int .i64 k ∧ acc = .string (mkb (rlBytes (mLB n l k))) ∧ Hid (Kb w G wr) ∧ Hid (wr.ownsRow (G + 1) 23 4 mv k (rlCells (mLB n l k)))) (fun _ _ i _ => len - (intOf i).toNat)
  case atStart => exact ⟨0, Nat.zero_le _, by omega, rfl, by simp [mLB, rlBytes]; rfl, HK1, hO0⟩
  case round =>
    clear HK1 hO0 HSZ
    obtain ⟨k, hk, hk8, rfl, rfl, HK, HO⟩ := hrel
    by_cases hlt : k < len ∧ k < 8
    · obtain ⟨h1, h2⟩ := hlt
      have hkl : k < l.length := by rw [HN.out]; exact h1
      have hi1 : decide ((k : Int) < (len : Int)) = true := decide_eq_true (by omega)
      have hi2 : decide ((k : Int) < 8) = true := decide_eq_true (by omega)
      obtain ⟨ad, rfl, hblt, hwf, -, -, -, -⟩ := (HRW.out _ HK.out.b).at_ hkl
      obtain ⟨r, hr⟩ : ∃ r, l[k] = r := ⟨_, rfl⟩
      have hms := mLB_succ n l hkl
      rw [hr] at hms hwf
      have hbk : backR n r = ⟨(r.p.tmod ((n : Int) - 7) + (n : Int) - 7).tmod ((n : Int) - 7), kndB (r.k % 4).toNat, if (r.k % 4).toNat = 3 then 0 else 1 + r.s % 1024, r.a⟩ := rfl
      have hbf := backR_fits (n : Int) (by omega) r hwf
      have HBY := Lib.hid (fun u => rbytes_any (backR n r) u hbf.wf)
      obtain ⟨⟨t1, t2⟩, t3, t4⟩ := back_in (n : Int) (by omega) r.p
      have HCL := Lib.hid (fun (v : World) (h : Below w.heap.size w v) => show v.cell? (ad.add (k * 4)) = some (.int .i64 r.p) ∧ v.cell? ⟨(ad.add (k * 4)).block, (ad.add (k * 4)).off + 1, none⟩ = some (.int .i64 r.k) ∧ v.cell? ⟨(ad.add (k * 4)).block, (ad.add (k * 4)).off + 2, none⟩ = some (.int .i64 r.s) ∧ v.cell? ⟨(ad.add (k * 4)).block, (ad.add (k * 4)).off + 3, none⟩ = some (.int .i64 r.a) from by
        obtain ⟨ad', e1, -, -, a0, a1, a2, a3⟩ := (HRW.out v h).at_ hkl
        cases e1
        rw [hr] at a0 a1 a2 a3
        exact ⟨a0, a1, a2, a3⟩)
      obtain ⟨j, hj⟩ : ∃ j, (r.k % 4).toNat = j := ⟨_, rfl⟩
      have hj4 : j < 4 := by omega
      have hjk : bits .and .i64 r.k 3 = (j : Int) := by rw [i64_and2]; omega
      have hkc := kndB_at hj4
      obtain ⟨K, hK⟩ : ∃ K, kndB j = K := ⟨_, rfl⟩
      have hK8 : (K = 8 ∧ j = 3) ∨ ((K == 8) = false ∧ j ≠ 3) := by
        rw [← hK]
        unfold kndB
        match j, hj4 with
        | 0, _ => exact .inr ⟨rfl, by decide⟩
        | 1, _ => exact .inr ⟨rfl, by decide⟩
        | 2, _ => exact .inr ⟨rfl, by decide⟩
        | 3, _ => exact .inl ⟨rfl, rfl⟩
      have hu := i64_and10 r.s
      obtain ⟨u, hub⟩ : ∃ u, r.s % 1024 = u := ⟨_, rfl⟩
      have hu2 : 0 ≤ u ∧ u < 1024 := by omega
      rw [hub] at hu hbk
      rw [hj, hK] at hbk
      rw [hK] at hkc
      obtain ⟨p, kk, y, a⟩ := r
      simp only at hjk hu hbk HCL t1 t2 t3 t4
      obtain ⟨J, hJ⟩ : ∃ J : Int, (n : Int) - 7 = J := ⟨_, rfl⟩
      have hT0 : (n : Int) - 7 = J := hJ
      obtain ⟨T, hT⟩ : ∃ T : Int, p.tmod J = T := ⟨_, rfl⟩
      rw [hJ, hT] at hbk t1 t2 t3 t4
      obtain ⟨PP, hPP⟩ : ∃ P : Int, (T + (n : Int) - 7).tmod J = P := ⟨_, rfl⟩
      obtain ⟨S1, hS1⟩ : ∃ S : Int, T + (n : Int) = S := ⟨_, rfl⟩
      rw [hS1] at hbk t3 t4 hPP
      obtain ⟨S2, hS2⟩ : ∃ S : Int, S1 - 7 = S := ⟨_, rfl⟩
      rw [hS2] at hbk t3 t4 hPP
      rw [hPP] at hbk t3 t4
      have wJ : IntKind.i64.wrap ((n : Int) - 7) = J ∧ wrap64 ((n : Int) - 7) = J := ⟨by rw [IntWalk.i64_in _ (by omega)]; exact hJ, by rw [IntWalk.wrap64_in _ (by omega)]; exact hJ⟩
      have wT : IntKind.i64.wrap T = T ∧ wrap64 T = T := ⟨IntWalk.i64_in _ (by omega), IntWalk.wrap64_in _ (by omega)⟩
      have wS1 : IntKind.i64.wrap (T + (n : Int)) = S1 ∧ wrap64 (T + (n : Int)) = S1 := ⟨by rw [IntWalk.i64_in _ (by omega)]; exact hS1, by rw [IntWalk.wrap64_in _ (by omega)]; exact hS1⟩
      have wS2 : IntKind.i64.wrap (S1 - 7) = S2 ∧ wrap64 (S1 - 7) = S2 := ⟨by rw [IntWalk.i64_in _ (by omega)]; exact hS2, by rw [IntWalk.wrap64_in _ (by omega)]; exact hS2⟩
      have wP : IntKind.i64.wrap PP = PP ∧ wrap64 PP = PP := ⟨IntWalk.i64_in _ (by omega), IntWalk.wrap64_in _ (by omega)⟩
      obtain ⟨U, hU⟩ : ∃ U : Int, 1 + u = U := ⟨_, rfl⟩
      have wU : IntKind.i64.wrap (1 + u) = U ∧ wrap64 (1 + u) = U := ⟨by rw [IntWalk.i64_in _ (by omega)]; exact hU, by rw [IntWalk.wrap64_in _ (by omega)]; exact hU⟩
      rw [hU] at hbk
      obtain ⟨wJ1, wJ2⟩ := wJ
      obtain ⟨wT1, wT2⟩ := wT
      obtain ⟨wS11, wS12⟩ := wS1
      obtain ⟨wS21, wS22⟩ := wS2
      obtain ⟨wP1, wP2⟩ := wP
      obtain ⟨wU1, wU2⟩ := wU
      have hJ0 : (J == 0) = false := by simp only [beq_eq_false_iff_ne, ne_eq]; omega
      have hJn : ¬ J = 0 := by omega
      have hj0 : (0 : Int) ≤ (j : Int) := by omega
      have hj5 : (j : Int) < 4 := by omega
      have HBK := Lib.hid (And.intro hbk (And.intro hms hbf))
      have HS := Lib.hid (fun (v : World) (hb : Below wr.heap.size wr v) => show v.cell? (ad.add (k * 4)) = some (.int .i64 p) ∧ v.cell? ⟨(ad.add (k * 4)).block, (ad.add (k * 4)).off + 1, none⟩ = some (.int .i64 kk) ∧ v.cell? ⟨(ad.add (k * 4)).block, (ad.add (k * 4)).off + 2, none⟩ = some (.int .i64 y) ∧ v.cell? ⟨(ad.add (k * 4)).block, (ad.add (k * 4)).off + 3, none⟩ = some (.int .i64 a) ∧ v.cell? ⟨G, j, none⟩ = some (.int .i64 K) from by
        have h := HK.out.below hb
        obtain ⟨a0, a1, a2, a3⟩ := HCL.out v h.b
        exact ⟨a0, a1, a2, a3, (h.k.cell j).trans hkc⟩)
      clear hbk hms hbf hr hwf hkl hblt hub hj hK hkc hS1 hS2 hJ hT0 hU t1 t2 t3 t4 hj4 HCL
      go_upto_region 9 with fail
      have hd0 : Below wr.heap.size wr wr.drew := (Below.refl _ _).drew
      obtain ⟨c0, c1, c2, c3, g0⟩ := HS.out _ hd0
      go_region_held3 (fun w' => w'.cell? (ad.add (k * 4)) = some (.int .i64 p) ∧ w'.cell? ⟨(ad.add (k * 4)).block, (ad.add (k * 4)).off + 1, none⟩ = some (.int .i64 kk) ∧ w'.cell? ⟨(ad.add (k * 4)).block, (ad.add (k * 4)).off + 2, none⟩ = some (.int .i64 y) ∧ w'.cell? ⟨(ad.add (k * 4)).block, (ad.add (k * 4)).off + 3, none⟩ = some (.int .i64 a) ∧ w'.cell? ⟨G, j, none⟩ = some (.int .i64 K))
        (first | exact ⟨c0, c1, c2, c3, g0⟩ | exact HS.out _ (hd0.alloc (Nat.le_refl _) _) | exact HS.out _ ((hd0.alloc (Nat.le_refl _) _).setCell (Nat.le_refl _) _) | exact HS.out _ (((((hd0.alloc (Nat.le_refl _) _).setCell (Nat.le_refl _) _).setCell (Nat.le_refl _) _).setCell (Nat.le_refl _) _).setCell (Nat.le_refl _) _))
        (fail)
      obtain ⟨H, hH⟩ : ∃ H, wr.heap.size = H := ⟨_, rfl⟩
      obtain ⟨Y2, hY2⟩ : ∃ Y2 : Int, (if j = 3 then 0 else U) = Y2 := ⟨_, rfl⟩
      obtain ⟨R', hR'⟩ : ∃ R', backR (n : Int) ⟨p, kk, y, a⟩ = R' := ⟨_, rfl⟩
      obtain ⟨hbk, hms, hbf⟩ := HBK.out
      rw [hR', hY2] at hbk
      rw [hR'] at hms hbf HBY
      have HX := Lib.hid (fun (X : World) (hX : (wr.alloc (.cells #[.int .i64 PP, .int .i64 K, .int .i64 U, .int .i64 a] 23)).drew = X) => show Blk X H 23 #[.int .i64 PP, .int .i64 K, .int .i64 U, .int .i64 a] ∧ Below H wr X from by
        subst hX
        rw [← hH]
        exact ⟨(Blk.new _ _ _).drew, ((Below.refl _ _).alloc (Nat.le_refl _) _).drew⟩)
      have HMS := Lib.hid (And.intro hms hbf)
      have HH := Lib.hid hH
      rw [hH]
      generalize hX : (wr.alloc (.cells #[.int .i64 PP, .int .i64 K, .int .i64 U, .int .i64 a] 23)).drew = X
      have HX2 := Lib.hid (HX.out X hX)
      have HBR := Lib.hid hbk
      clear hX HX hd0 hH hR' hms hbf hbk HBK c0 c1 c2 c3 g0 HS wJ1 wJ2 wT1 wT2 wS11 wS12 wS21 wS22 wP1 wP2 wU1 wU2 hjk hu hT hPP hJ0 hJn hj0 hj5 hu2 hi1 hi2
      have hx1 : X.cell? ⟨H, 1, none⟩ = some (.int .i64 K) := HX2.out.1.at_ 1 _ rfl
      go_upto_if 72 with fail
      go_cut [] from 73 to 73 (fun wx => Hid (Blk wx H 23 #[.int .i64 PP, .int .i64 K, .int .i64 Y2, .int .i64 a]) ∧ Hid (Below H wr wx))
      case first =>
        rcases hK8 with ⟨rfl, hj3⟩ | ⟨hk8', hj3⟩
        · have hy0 : Y2 = 0 := by rw [← hY2, if_pos hj3]
          have hf2 := HX2.out.1.frozen 2
          have hx2 : X.cell? ⟨H, 2, none⟩ = some (.int .i64 U) := HX2.out.1.at_ 2 _ rfl
          have HST := Lib.hid (show Blk (X.setCell ⟨H, 2, none⟩ (.int .i64 0)) H 23 #[.int .i64 PP, .int .i64 8, .int .i64 Y2, .int .i64 a] ∧ Below H wr (X.setCell ⟨H, 2, none⟩ (.int .i64 0)) from by
            rw [hy0]
            exact ⟨by simpa using HX2.out.1.set_ 2 (.int .i64 0), HX2.out.2.setCell (p := ⟨H, 2, none⟩) (Nat.le_refl _) _⟩)
          clear hY2 hy0 hj3
          go_wp2_with fail
          go_meet
          exact ⟨Lib.hid HST.out.1, Lib.hid HST.out.2⟩
        · have hy0 : Y2 = U := by rw [← hY2, if_neg hj3]
          have HST := Lib.hid (show Blk X H 23 #[.int .i64 PP, .int .i64 K, .int .i64 Y2, .int .i64 a] ∧ Below H wr X from by
            rw [hy0]
            exact HX2.out)
          clear hY2 hy0 hj3
          go_wp2_with fail
          go_meet
          exact ⟨Lib.hid HST.out.1, Lib.hid HST.out.2⟩
      case rest =>
        obtain ⟨HB1, HB2⟩ := hcut
        clear HX2 hx1 hK8 hY2
        have HKc := Lib.hid (HK.out.below (by rw [HH.out]; exact HB2.out))
        have HOc := Lib.hid (own_below HO.out (by rw [HH.out]; exact HB2.out))
        have HHn := Lib.hid (fun j (e : u7.ownBlock = some j) => show G + 1 ≤ j ∧ j < H from by rw [← HH.out]; exact HO.out.lt j e)
        have hms := HMS.out.1
        have hby := HBY.out
        have hbz : (mkb R'.bytes).size = 24 := by rw [mkb_size, Rl.bytes_length]
        have hac : mkb (rlBytes (mLB n l k)) ++ mkb R'.bytes = mkb (rlBytes (mLB n l (k + 1))) := by rw [mkb_append, hms, rlBytes_snoc]
        have haz : (mkb (rlBytes (mLB n l k))).size ≤ 300 := by rw [mkb_size, rlBytes_length, mLB_length _ _ (by rw [HN.out]; exact hk)]; omega
        have hrc : rlCells (mLB n l (k + 1)) = rlCells (mLB n l k) ++ [.int .i64 PP, .int .i64 K, .int .i64 Y2, .int .i64 a] := by
          rw [hms, rlCells_snoc, HBR.out]
        obtain ⟨TB, hTB⟩ : ∃ T, mkb R'.bytes = T := ⟨_, rfl⟩
        rw [hTB] at hby hbz hac
        rw [show R'.cs = #[.int .i64 PP, .int .i64 K, .int .i64 Y2, .int .i64 a] by rw [HBR.out]; rfl] at hby
        obtain ⟨AC, hAC⟩ : ∃ T, mkb (rlBytes (mLB n l k)) = T := ⟨_, rfl⟩
        rw [hAC] at hac haz ⊢
        obtain ⟨cz, hcz⟩ : ∃ cz, rlCells (mLB n l k) = cz := ⟨_, rfl⟩
        rw [hcz] at hrc HOc
        have HBY2 := Lib.hid hby
        have HAC := Lib.hid hac
        have HRC := Lib.hid hrc
        have hTz : TB.size ≤ 300 := by omega
        have x0 : wc.cell? ⟨H, 0, none⟩ = some (.int .i64 PP) := HB1.out.at_ 0 _ rfl
        have x1 : wc.cell? ⟨H, 1, none⟩ = some (.int .i64 K) := HB1.out.at_ 1 _ rfl
        have x2 : wc.cell? ⟨H, 2, none⟩ = some (.int .i64 Y2) := HB1.out.at_ 2 _ rfl
        have x3 : wc.cell? ⟨H, 3, none⟩ = some (.int .i64 a) := HB1.out.at_ 3 _ rfl
        have HZ3 := Lib.hid (HOc.out.alloc (.cells #[.int .i64 PP, .int .i64 K, .int .i64 Y2, .int .i64 a] 23))
        have hsz1 : G + 1 ≤ wc.heap.size := HKc.out.k.lt
        clear hms hby hbz hac hrc hTB hAC hcz HK HO HBY HMS HBR HB2
        go_upto_region 13 with (refine wpList_append_lies _ (by rfl) (.tmp 74) (.tmp 76) _ (by rfl) (G + 1) 23 i0 _ 4 32 Try.underlying32 hi hz0 hz1 hz2 rfl (by omega) u7 k cz (by rfl) HZ3.out ⟨wc.heap.size, 0, none⟩ 1 1 [.int .i64 PP, .int .i64 K, .int .i64 Y2, .int .i64 a] (by rfl) (by rfl) (World.news_of_block (cs := #[.int .i64 PP, .int .i64 K, .int .i64 Y2, .int .i64 a]) (t := 23) (fr := (0, 0)) (heap_alloc_new wc _)) (by simp [Value.oneCell']) (by omega) (by unfold maxLen; omega) (by omega) (by simp; omega) (wc.heap.size + 1) (by simp) ?_; intro gg cap w3 hown3 hgrow hat hlt3)
        have HK3 := Lib.hid ((HKc.out.below ((Below.refl _ _).alloc (Nat.le_refl _) (.cells #[.int .i64 PP, .int .i64 K, .int .i64 Y2, .int .i64 a] 23))).grown hgrow (fun j e => by have := (HHn.out j e).1; omega))
        have HB3 := Lib.hid ((HB1.out.alloc (.cells #[.int .i64 PP, .int .i64 K, .int .i64 Y2, .int .i64 a] 23)).grown hgrow (fun e => by have := (HHn.out H e.symm).2; omega))
        rw [← HRC.out] at hown3
        have HO3 := Lib.hid hown3
        have y0 : w3.cell? ⟨H, 0, none⟩ = some (.int .i64 PP) := HB3.out.at_ 0 _ rfl
        have y1 : w3.cell? ⟨H, 1, none⟩ = some (.int .i64 K) := HB3.out.at_ 1 _ rfl
        have y2 : w3.cell? ⟨H, 2, none⟩ = some (.int .i64 Y2) := HB3.out.at_ 2 _ rfl
        have y3 : w3.cell? ⟨H, 3, none⟩ = some (.int .i64 a) := HB3.out.at_ 3 _ rfl
        clear hown3 hgrow hat hlt3 x0 x1 x2 x3 HZ3 HOc HKc HB1 HHn HRC
        go_wp2_with (go_at_call 12; with_reducible refine (HBY2.out _).mono ?_; rintro e w4 ⟨rfl, hb⟩; have HK4 := Lib.hid (HK3.out.below hb); have HO4 := Lib.hid (own_below HO3.out hb); clear hb)
        go_roundw
        case rel => exact ⟨k + 1, by omega, by omega, by go_num, by rw [HAC.out], HK4, HO4⟩
        case measure => simp [intOf]; omega
    · have hl2 : (k < len ∧ ¬ k < 8) ∨ ¬ k < len := by omega
      obtain ⟨ms, hms⟩ : ∃ ms, mLB n l k = ms := ⟨_, rfl⟩
      have hml : ms.length = k := by rw [← hms]; exact mLB_length _ _ (by rw [HN.out]; exact hk)
      have hmf : ∀ r ∈ ms, r.fits ∧ r.may n = true := by rw [← hms]; exact mLB_fits (n : Int) (by omega) l HLW.out k
      rw [hms] at HO ⊢
      have hrd := back_read n ms (by omega) hmf
      have hvz := viewB_size n ms (by omega)
      obtain ⟨AC, hAC⟩ : ∃ AC, mkb (rlBytes ms) = AC := ⟨_, rfl⟩
      rw [hAC]
      have haz : (AC.size : Int) = 24 * (k : Int) := by rw [← hAC, mkb_size, rlBytes_length, hml]; omega
      have HF := Lib.hid (fun u => rfill_any (mkb (rlBytes ms)) (n : Int) u (WalkArith.wf_i64 (by omega)) (by rw [hAC]; omega) (by omega))
      rw [fillB n ms (by omega), hAC] at HF
      have HRD := Lib.hid (fun u => read_anyZ (viewB n ms) (dR 0 (AC.size : Int)) (.slice none 0 0) u (dR_wf (by decide) (WalkArith.wf_i64 (by omega))) (by rw [hvz]; omega))
      rw [dR_cs, show (dR 0 (AC.size : Int)).f 5 = 0 from rfl, show (dR 0 (AC.size : Int)).f 6 = (AC.size : Int) from rfl] at HRD
      rw [haz, ← hml, hrd.1, hrd.2, hml, ← haz] at HRD
      have hsh := fun h => back_short (viewB n ms) k h
      rw [← haz] at hsh
      have HRD2 := Lib.hid (fun u => read_anyZ (viewB n ms) (dR 0 ((AC.size : Int) - 1)) (.slice none 0 0) u (dR_wf (by decide) (WalkArith.wf_i64 (by omega))) (by rw [hvz]; omega))
      rw [dR_cs, show (dR 0 ((AC.size : Int) - 1)).f 5 = 0 from rfl, show (dR 0 ((AC.size : Int) - 1)).f 6 = (AC.size : Int) - 1 from rfl] at HRD2
      unfold RelET at HRD HRD2
      rw [hml] at HRD
      have HSA := Lib.hid (fun A1 A2 c1 c2 u (h1 : RlRow u A1 ms) (h2 : RlRow u A2 ms) => same_yes ms ms rfl A1 A2 c1 c2 u h1 h2 (by unfold maxLen; omega))
      rw [hml] at HSA
      have haz2 : AC.size ≤ 300 := by omega
      obtain ⟨D, hD⟩ : ∃ D, wr.heap.size = D := ⟨_, rfl⟩
      have hGD : G < D := by rw [← hD]; exact HK.out.k.lt
      have hbd : ∀ (w : World), (Instr.build 37 #[(5, .int .i64 0), (6, .int .i64 (AC.size : Int))]).run Try.prog w = .ok (.agg #[.slice none 0 0, .int .i64 0, .int .i64 0, .int .i64 0, .int .i64 0, .int .i64 0, .int .i64 (↑AC.size), .int .i64 0, .int .i64 0]) w := fun w => run_build w 37 _ _ (by kernel_rfl)
      have HEB := Lib.hid (fun (W1 : World) (hW : wr.alloc (.cells #[.slice none 0 0, .int .i64 0, .int .i64 0, .int .i64 0, .int .i64 0, .int .i64 0, .int .i64 (↑AC.size), .int .i64 0, .int .i64 0] 37) = W1) => show Eb w (G + 1) D k u7 (rlCells ms) #[.slice none 0 0, .int .i64 0, .int .i64 0, .int .i64 0, .int .i64 0, .int .i64 0, .int .i64 (↑AC.size), .int .i64 0, .int .i64 0] W1 from by
        subst hW
        refine ⟨by rw [← hD]; exact Blk.new _ _ _, HO.out.alloc _, HK.out.b.alloc (by have := HK.out.s; omega) _, fun e => ?_, by have := HK.out.s; omega, by have := HK.out.s; omega⟩
        have := (HO.out.lt D e).2
        omega)
      have HWF := Lib.hid (fun r (hr : r ∈ ms) => (hmf r hr).1.wf)
      have HD := Lib.hid hD
      by_cases hk0 : k = 0
      · obtain ⟨hkl, A2, c2, hv, -, -⟩ := RlRow.of_own HO.out HWF.out
        rw [hml] at hv
        subst hv
        have HRO := Lib.hid (fun (u : World) (h : u.ownsRow (G + 1) 23 4 (.slice A2 k c2) k (rlCells ms)) => show RlRow u A2 ms from by
          obtain ⟨-, A3, c3, e, h3, -⟩ := RlRow.of_own h HWF.out
          injection e with e1 e2 e3
          subst e1
          exact h3)
        have hkk : ((k : Int) == 0) = true := by simpa using hk0
        have HK0 := Lib.hid hk0
        clear hk0 hsh hrd hvz hAC haz hD hmf hms hml hkl HRD2
        rcases hl2 with ⟨h1, h2⟩ | h1
        all_goals
          go_upto_region 15 with fail
          rw [HD.out]
          generalize hW : wr.alloc (.cells #[.slice none 0 0, .int .i64 0, .int .i64 0, .int .i64 0, .int .i64 0, .int .i64 0, .int .i64 (↑AC.size), .int .i64 0, .int .i64 0] 37) = W1
          have nE := Lib.hid (HEB.out W1 hW).drew
          clear hW
          obtain ⟨n0, n1, n2, n3, n4, n5, n6, n7, n8⟩ := nE.out.cells
          go_region_held3 (fun w' => w'.cell? ⟨D, 0, none⟩ = some (.slice none 0 0) ∧ w'.cell? ⟨D, 1, none⟩ = some (.int .i64 0) ∧ w'.cell? ⟨D, 2, none⟩ = some (.int .i64 0) ∧ w'.cell? ⟨D, 3, none⟩ = some (.int .i64 0) ∧ w'.cell? ⟨D, 4, none⟩ = some (.int .i64 0) ∧ w'.cell? ⟨D, 5, none⟩ = some (.int .i64 0) ∧ w'.cell? ⟨D, 6, none⟩ = some (.int .i64 (↑AC.size)) ∧ w'.cell? ⟨D, 7, none⟩ = some (.int .i64 0) ∧ w'.cell? ⟨D, 8, none⟩ = some (.int .i64 0) ∧ Hid (Eb w (G + 1) D k (.slice A2 k c2) (rlCells ms) #[.slice none 0 0, .int .i64 0, .int .i64 0, .int .i64 0, .int .i64 0, .int .i64 0, .int .i64 (↑AC.size), .int .i64 0, .int .i64 0] w'))
            (first | exact ⟨n0, n1, n2, n3, n4, n5, n6, n7, n8, nE⟩)
            (first
            | (go_at_call 17; with_reducible refine (HF.out _).mono ?_; rintro e x ⟨rfl, hb⟩; rcases ‹(_ : Prop) ∧ _ ∧ _ ∧ _ ∧ _ ∧ _ ∧ _ ∧ _ ∧ _ ∧ Hid _› with ⟨-, -, -, -, -, -, -, -, -, kb⟩; clear n0 n1 n2 n3 n4 n5 n6 n7 n8 nE; have nE := Lib.hid (kb.out.below hb); obtain ⟨n0, n1, n2, n3, n4, n5, n6, n7, n8⟩ := nE.out.cells; clear hb kb)
            | (go_at_call 18; with_reducible refine (HRD.out _).mono ?_; rintro e x ⟨A1, c1, rfl, hr1, hb⟩; rcases ‹(_ : Prop) ∧ _ ∧ _ ∧ _ ∧ _ ∧ _ ∧ _ ∧ _ ∧ _ ∧ Hid _› with ⟨-, -, -, -, -, -, -, -, -, kb⟩; clear n0 n1 n2 n3 n4 n5 n6 n7 n8 nE; have nE := Lib.hid (kb.out.below hb); obtain ⟨n0, n1, n2, n3, n4, n5, n6, n7, n8⟩ := nE.out.cells; clear hb kb))
          rcases ‹(_ : Prop) ∧ _ ∧ _ ∧ _ ∧ _ ∧ _ ∧ _ ∧ _ ∧ _ ∧ Hid _› with ⟨-, -, -, -, -, -, -, -, -, kb⟩
          clear nE n0 n1 n2 n3 n4 n5 n6 n7 n8
          have nE := kb
          clear kb
          go_wp2_with (go_at_call 20; with_reducible refine (HSA.out _ _ _ _ _ hr1 (HRO.out _ nE.out.o)).mono ?_; rintro e x4 ⟨rfl, hb⟩; have nF := Lib.hid (nE.out.below hb); clear hb)
          go_ret
          exact ⟨by simp, nF.out.b⟩
      · obtain ⟨s0, rs, hcons⟩ : ∃ s0 rs, ms = s0 :: rs := by
          match ms, hml with
          | [], h => exact absurd h.symm hk0
          | s0 :: rs, _ => exact ⟨s0, rs, rfl⟩
        have hsf := (hmf s0 (by rw [hcons]; exact List.mem_cons_self)).1
        obtain ⟨g, cap, hv, hBg, hgl, -, hkc, hcm, -, -⟩ := own_thereZ (s := s0) (l := rs) (by rw [← hcons]; exact HO.out)
        subst hv
        have HRO := Lib.hid (fun (u : World) (h : u.ownsRow (G + 1) 23 4 (.slice (some ⟨g, 0, none⟩) k cap) k (rlCells ms)) => show RlRow u (some ⟨g, 0, none⟩) ms from by
          obtain ⟨-, A3, c3, e, h3, -⟩ := RlRow.of_own h HWF.out
          injection e with e1 e2 e3
          subst e1
          exact h3)
        have hkk : ((k : Int) == 0) = false := by simpa using hk0
        have hk1 : (0 : Int) < (k : Int) := by omega
        have HK1 := Lib.hid hk1
        have hE2 := hsh (by omega)
        obtain ⟨p0, k0, y0, a0⟩ := s0
        have hrc : (rlCells ms).set 0 (.int .i64 ((n : Int) - 7)) = rlCells (⟨(n : Int) - 7, k0, y0, a0⟩ :: rs) := by rw [hcons]; exact rlCells_p _ _ _
        have hfit : (⟨(n : Int) - 7, k0, y0, a0⟩ : Rl).fits := ⟨show (0 : Int) ≤ (n : Int) - 7 by omega, show (n : Int) - 7 ≤ 9223372036854775807 by omega, hsf.k0, hsf.k1, hsf.s0, hsf.s1, hsf.a⟩
        have hE3 := back_far n hnb ⟨(n : Int) - 7, k0, y0, a0⟩ hfit rfl
        have HBY := Lib.hid (fun u => rbytes_any ⟨(n : Int) - 7, k0, y0, a0⟩ u hfit.wf)
        have HF3 := Lib.hid (fun u => rfill_any (mkb (rlBytes [⟨(n : Int) - 7, k0, y0, a0⟩])) (n : Int) u (WalkArith.wf_i64 (by omega)) (by rw [mkb_size, rlBytes_length]; simp) (by omega))
        rw [fillB n [⟨(n : Int) - 7, k0, y0, a0⟩] (by simp; omega), show rlBytes [⟨(n : Int) - 7, k0, y0, a0⟩] = (⟨(n : Int) - 7, k0, y0, a0⟩ : Rl).bytes by simp [rlBytes]] at HF3
        have hvz3 := viewB_size n [⟨(n : Int) - 7, k0, y0, a0⟩] (by simp; omega)
        have HRD3 := Lib.hid (fun u => read_anyZ (viewB n [⟨(n : Int) - 7, k0, y0, a0⟩]) (dR 0 24) (.slice none 0 0) u (dR_wf (by decide) (by decide)) (by rw [hvz3]; omega))
        rw [dR_cs, show (dR 0 24).f 5 = 0 from rfl, show (dR 0 24).f 6 = 24 from rfl, hE3] at HRD3
        rw [hE2] at HRD2
        unfold RelET at HRD3
        unfold Rl.cs at HBY
        simp only at HBY
        have HGC := Lib.hid (fun (u : World) (q0 : Int) (h : u.ownsRow (G + 1) 23 4 (.slice (some ⟨g, 0, none⟩) k cap) k (rlCells (⟨q0, k0, y0, a0⟩ :: rs))) =>
          show (u.cell? ⟨g, 0, none⟩ = some (.int .i64 q0) ∧ u.cell? ⟨g, 1, none⟩ = some (.int .i64 k0) ∧ u.cell? ⟨g, 2, none⟩ = some (.int .i64 y0) ∧ u.cell? ⟨g, 3, none⟩ = some (.int .i64 a0)) ∧ u.frozen? ⟨g, 0, none⟩ = false from by
          obtain ⟨g2, cap2, e, -, -, -, -, -, h1, h2⟩ := own_thereZ h
          injection e with e1 e2 e3
          injection e1 with e1
          injection e1 with e1
          subst e1
          exact ⟨⟨h1 0 (by omega), h1 1 (by omega), h1 2 (by omega), h1 3 (by omega)⟩, h2 0⟩)
        have HCN := Lib.hid hcons
        have HRC := Lib.hid hrc
        have HGH := Lib.hid (show w.heap.size ≤ g from by have := HK.out.s; omega)
        have HRO := HRO
        generalize relL (viewB n ms) 0 ((AC.size : Int) - 1) = L2 at *
        generalize L2.length = NL2 at *
        generalize relL (viewB n [⟨(n : Int) - 7, k0, y0, a0⟩]) 0 24 = L3 at *
        generalize L3.length = NL3 at *
        generalize viewB n ms = V at *
        generalize viewB n [⟨(n : Int) - 7, k0, y0, a0⟩] = V3 at *
        generalize mkb (⟨(n : Int) - 7, k0, y0, a0⟩ : Rl).bytes = TB at *
        clear hk0 hsh hrd hvz hAC haz hD hmf hms hml hcons hrc hfit hsf hE2 hE3 hvz3
        rcases hl2 with ⟨h1, h2⟩ | h1
        all_goals
          go_upto_region 15 with fail
          rw [HD.out]
          generalize hW : wr.alloc (.cells #[.slice none 0 0, .int .i64 0, .int .i64 0, .int .i64 0, .int .i64 0, .int .i64 0, .int .i64 (↑AC.size), .int .i64 0, .int .i64 0] 37) = W1
          have nE := Lib.hid (HEB.out W1 hW).drew
          clear hW
          obtain ⟨n0, n1, n2, n3, n4, n5, n6, n7, n8⟩ := nE.out.cells
          go_region_held3 (fun w' => w'.cell? ⟨D, 0, none⟩ = some (.slice none 0 0) ∧ w'.cell? ⟨D, 1, none⟩ = some (.int .i64 0) ∧ w'.cell? ⟨D, 2, none⟩ = some (.int .i64 0) ∧ w'.cell? ⟨D, 3, none⟩ = some (.int .i64 0) ∧ w'.cell? ⟨D, 4, none⟩ = some (.int .i64 0) ∧ w'.cell? ⟨D, 5, none⟩ = some (.int .i64 0) ∧ w'.cell? ⟨D, 6, none⟩ = some (.int .i64 (↑AC.size)) ∧ w'.cell? ⟨D, 7, none⟩ = some (.int .i64 0) ∧ w'.cell? ⟨D, 8, none⟩ = some (.int .i64 0) ∧ Hid (Eb w (G + 1) D k (.slice (some ⟨g, 0, none⟩) k cap) (rlCells ms) #[.slice none 0 0, .int .i64 0, .int .i64 0, .int .i64 0, .int .i64 0, .int .i64 0, .int .i64 (↑AC.size), .int .i64 0, .int .i64 0] w'))
            (first | exact ⟨n0, n1, n2, n3, n4, n5, n6, n7, n8, nE⟩)
            (first
            | (go_at_call 17; with_reducible refine (HF.out _).mono ?_; rintro e x ⟨rfl, hb⟩; rcases ‹(_ : Prop) ∧ _ ∧ _ ∧ _ ∧ _ ∧ _ ∧ _ ∧ _ ∧ _ ∧ Hid _› with ⟨-, -, -, -, -, -, -, -, -, kb⟩; clear n0 n1 n2 n3 n4 n5 n6 n7 n8 nE; have nE := Lib.hid (kb.out.below hb); obtain ⟨n0, n1, n2, n3, n4, n5, n6, n7, n8⟩ := nE.out.cells; clear hb kb)
            | (go_at_call 18; with_reducible refine (HRD.out _).mono ?_; rintro e x ⟨A1, c1, rfl, hr1, hb⟩; rcases ‹(_ : Prop) ∧ _ ∧ _ ∧ _ ∧ _ ∧ _ ∧ _ ∧ _ ∧ _ ∧ Hid _› with ⟨-, -, -, -, -, -, -, -, -, kb⟩; clear n0 n1 n2 n3 n4 n5 n6 n7 n8 nE; have nE := Lib.hid (kb.out.below hb); obtain ⟨n0, n1, n2, n3, n4, n5, n6, n7, n8⟩ := nE.out.cells; clear hb kb))
          rcases ‹(_ : Prop) ∧ _ ∧ _ ∧ _ ∧ _ ∧ _ ∧ _ ∧ _ ∧ _ ∧ Hid _› with ⟨-, -, -, -, -, -, -, -, -, kb⟩
          clear nE n0 n1 n2 n3 n4 n5 n6 n7 n8
          have nE := kb
          clear kb
          go_upto_region 19 with (go_at_call 20; with_reducible refine (HSA.out _ _ _ _ _ hr1 (HRO.out _ nE.out.o)).mono ?_; rintro e x4 ⟨rfl, hb⟩; have nF := Lib.hid (nE.out.below hb); clear hb)
          clear nE HSA HRO hr1 HEB
          obtain ⟨n0, n1, n2, n3, n4, n5, n6, n7, n8⟩ := nF.out.cells
          have f6 := nF.out.d.frozen 6
          have nG := Lib.hid (nF.out.set6 (z := (AC.size : Int) - 1))
          go_upto_region 20 with fail
          generalize x4.setCell ⟨D, 6, none⟩ (.int .i64 ((AC.size : Int) - 1)) = x5 at *
          clear nF f6 n0 n1 n2 n3 n4 n5 n6 n7 n8
          have nE := Lib.hid nG.out.drew
          obtain ⟨n0, n1, n2, n3, n4, n5, n6, n7, n8⟩ := nE.out.cells
          clear nG
          go_region_held3 (fun w' => w'.cell? ⟨D, 0, none⟩ = some (.slice none 0 0) ∧ w'.cell? ⟨D, 1, none⟩ = some (.int .i64 0) ∧ w'.cell? ⟨D, 2, none⟩ = some (.int .i64 0) ∧ w'.cell? ⟨D, 3, none⟩ = some (.int .i64 0) ∧ w'.cell? ⟨D, 4, none⟩ = some (.int .i64 0) ∧ w'.cell? ⟨D, 5, none⟩ = some (.int .i64 0) ∧ w'.cell? ⟨D, 6, none⟩ = some (.int .i64 ((AC.size : Int) - 1)) ∧ w'.cell? ⟨D, 7, none⟩ = some (.int .i64 0) ∧ w'.cell? ⟨D, 8, none⟩ = some (.int .i64 0) ∧ Hid (Eb w (G + 1) D k (.slice (some ⟨g, 0, none⟩) k cap) (rlCells ms) #[.slice none 0 0, .int .i64 0, .int .i64 0, .int .i64 0, .int .i64 0, .int .i64 0, .int .i64 ((AC.size : Int) - 1), .int .i64 0, .int .i64 0] w'))
            (first | exact ⟨n0, n1, n2, n3, n4, n5, n6, n7, n8, nE⟩)
            (first
            | (go_at_call 17; with_reducible refine (HF.out _).mono ?_; rintro e x ⟨rfl, hb⟩; rcases ‹(_ : Prop) ∧ _ ∧ _ ∧ _ ∧ _ ∧ _ ∧ _ ∧ _ ∧ _ ∧ Hid _› with ⟨-, -, -, -, -, -, -, -, -, kb⟩; clear n0 n1 n2 n3 n4 n5 n6 n7 n8 nE; have nE := Lib.hid (kb.out.below hb); obtain ⟨n0, n1, n2, n3, n4, n5, n6, n7, n8⟩ := nE.out.cells; clear hb kb)
            | (go_at_call 18; with_reducible refine (HRD2.out _).mono ?_; rintro e x ⟨A2, c2, rfl, hr2, hb⟩; rcases ‹(_ : Prop) ∧ _ ∧ _ ∧ _ ∧ _ ∧ _ ∧ _ ∧ _ ∧ _ ∧ Hid _› with ⟨-, -, -, -, -, -, -, -, -, kb⟩; clear n0 n1 n2 n3 n4 n5 n6 n7 n8 nE; have nE := Lib.hid (kb.out.below hb); obtain ⟨n0, n1, n2, n3, n4, n5, n6, n7, n8⟩ := nE.out.cells; clear hb kb))
          rcases ‹(_ : Prop) ∧ _ ∧ _ ∧ _ ∧ _ ∧ _ ∧ _ ∧ _ ∧ _ ∧ Hid _› with ⟨-, -, -, -, -, -, -, -, -, kb⟩
          clear nE n0 n1 n2 n3 n4 n5 n6 n7 n8
          have nE := kb
          clear kb
          obtain ⟨⟨m0, m1, m2, m3⟩, fm⟩ := HGC.out _ p0 (by rw [← HCN.out]; exact nE.out.o)
          have nH := Lib.hid (nE.out.set0 HGH.out ((n : Int) - 7))
          rw [HRC.out] at nH
          go_upto_region 22 with fail
          generalize World.setCell _ ⟨g, 0, none⟩ (.int .i64 ((n : Int) - 7)) = x6 at *
          clear nE m0 m1 m2 m3 fm
          obtain ⟨n0, n1, n2, n3, n4, n5, n6, n7, n8⟩ := nH.out.cells
          have f6 := nH.out.d.frozen 6
          have nI := Lib.hid (nH.out.set6 (z := 24))
          go_upto_region 23 with fail
          generalize x6.setCell ⟨D, 6, none⟩ (.int .i64 24) = x7 at *
          clear nH f6 n0 n1 n2 n3 n4 n5 n6 n7 n8
          have nE := Lib.hid nI.out.drew
          obtain ⟨n0, n1, n2, n3, n4, n5, n6, n7, n8⟩ := nE.out.cells
          obtain ⟨⟨m0, m1, m2, m3⟩, -⟩ := HGC.out _ _ nE.out.o
          clear nI
          try clear hk1
          have hk1 : (0 : Int) < (k : Int) := HK1.out
          have hk2 : 0 < k := by omega
          go_region_held3 (fun w' => w'.cell? ⟨D, 0, none⟩ = some (.slice none 0 0) ∧ w'.cell? ⟨D, 1, none⟩ = some (.int .i64 0) ∧ w'.cell? ⟨D, 2, none⟩ = some (.int .i64 0) ∧ w'.cell? ⟨D, 3, none⟩ = some (.int .i64 0) ∧ w'.cell? ⟨D, 4, none⟩ = some (.int .i64 0) ∧ w'.cell? ⟨D, 5, none⟩ = some (.int .i64 0) ∧ w'.cell? ⟨D, 6, none⟩ = some (.int .i64 (24)) ∧ w'.cell? ⟨D, 7, none⟩ = some (.int .i64 0) ∧ w'.cell? ⟨D, 8, none⟩ = some (.int .i64 0) ∧ w'.cell? ⟨g, 0, none⟩ = some (.int .i64 ((n : Int) - 7)) ∧ w'.cell? ⟨g, 1, none⟩ = some (.int .i64 k0) ∧ w'.cell? ⟨g, 2, none⟩ = some (.int .i64 y0) ∧ w'.cell? ⟨g, 3, none⟩ = some (.int .i64 a0) ∧ Hid (Eb w (G + 1) D k (.slice (some ⟨g, 0, none⟩) k cap) (rlCells (⟨(n : Int) - 7, k0, y0, a0⟩ :: rs)) #[.slice none 0 0, .int .i64 0, .int .i64 0, .int .i64 0, .int .i64 0, .int .i64 0, .int .i64 (24), .int .i64 0, .int .i64 0] w'))
            (first | exact ⟨n0, n1, n2, n3, n4, n5, n6, n7, n8, m0, m1, m2, m3, nE⟩)
            (first
            | (go_at_call 12; with_reducible refine (HBY.out _).mono ?_; rintro e x ⟨rfl, hb⟩; rcases ‹(_ : Prop) ∧ _ ∧ _ ∧ _ ∧ _ ∧ _ ∧ _ ∧ _ ∧ _ ∧ _ ∧ _ ∧ _ ∧ _ ∧ Hid _› with ⟨-, -, -, -, -, -, -, -, -, -, -, -, -, kb⟩; clear n0 n1 n2 n3 n4 n5 n6 n7 n8 m0 m1 m2 m3 nE; have nE := Lib.hid (kb.out.below hb); obtain ⟨n0, n1, n2, n3, n4, n5, n6, n7, n8⟩ := nE.out.cells; obtain ⟨⟨m0, m1, m2, m3⟩, -⟩ := HGC.out _ _ nE.out.o; clear hb kb)
            | (go_at_call 17; with_reducible refine (HF3.out _).mono ?_; rintro e x ⟨rfl, hb⟩; rcases ‹(_ : Prop) ∧ _ ∧ _ ∧ _ ∧ _ ∧ _ ∧ _ ∧ _ ∧ _ ∧ _ ∧ _ ∧ _ ∧ _ ∧ Hid _› with ⟨-, -, -, -, -, -, -, -, -, -, -, -, -, kb⟩; clear n0 n1 n2 n3 n4 n5 n6 n7 n8 m0 m1 m2 m3 nE; have nE := Lib.hid (kb.out.below hb); obtain ⟨n0, n1, n2, n3, n4, n5, n6, n7, n8⟩ := nE.out.cells; obtain ⟨⟨m0, m1, m2, m3⟩, -⟩ := HGC.out _ _ nE.out.o; clear hb kb)
            | (go_at_call 18; with_reducible refine (HRD3.out _).mono ?_; rintro e x ⟨A3, c3, rfl, -, hb⟩; rcases ‹(_ : Prop) ∧ _ ∧ _ ∧ _ ∧ _ ∧ _ ∧ _ ∧ _ ∧ _ ∧ _ ∧ _ ∧ _ ∧ _ ∧ Hid _› with ⟨-, -, -, -, -, -, -, -, -, -, -, -, -, kb⟩; clear n0 n1 n2 n3 n4 n5 n6 n7 n8 m0 m1 m2 m3 nE; have nE := Lib.hid (kb.out.below hb); obtain ⟨n0, n1, n2, n3, n4, n5, n6, n7, n8⟩ := nE.out.cells; obtain ⟨⟨m0, m1, m2, m3⟩, -⟩ := HGC.out _ _ nE.out.o; clear hb kb))
          rcases ‹(_ : Prop) ∧ _ ∧ _ ∧ _ ∧ _ ∧ _ ∧ _ ∧ _ ∧ _ ∧ _ ∧ _ ∧ _ ∧ _ ∧ Hid _› with ⟨-, -, -, -, -, -, -, -, -, -, -, -, -, kb⟩
          go_wp2
          go_ret
          exact ⟨by simp, kb.out.b⟩

set_option maxRecDepth 100000 in
theorem lifted (os : Os) (started : os.Started) (H : Type) (enc : TypeId × Value → H) :
    ReturnsInHanded {} Try.checked os 5 .any (Rows.relocBackSpec.pre6 enc Try.prog Try.f5 Rows.relocBackRow.domain false) (Rows.relocBackSpec.post enc Try.prog Try.f5 false true false false) := by
  refine returnsInHanded_of_change (C := Try.checked) own started (by kernel_rfl) Try.func5
    (ChangeSpec.witness6 (enc := enc) (C := Try.checked) false ⟨#[], #[.slice none 0 0, .int .i64 0], []⟩ 8 (by kernel_rfl) (by kernel_rfl) (by kernel_rfl) (by kernel_rfl)) ?_
  intro W base args ds gs before hval0 hW hcnd _
  have hval : ∀ (j : Nat) t v, Try.f5.params[j]? = some t → args[j]? = some v → Value.okWide Try.prog W .any base t v := hval0
  have hW' := hW
  obtain ⟨p, q, hA0, hV, rfl, hfz, hnd⟩ := hW
  have hA : DataW.TrodAll enc Try.prog W 0 (fun _ => true) true Try.f5.params.toList args.toList ds p := hA0
  rw [Try.params5] at hA hval
  obtain ⟨v0, vs0, d0, ds0, p0, q0, hargs, rfl, rfl, h0, r0⟩ := trodAll_cons hA
  obtain ⟨v1, vs1, d1, ds1, p1, q1, rfl, rfl, rfl, h1, r1⟩ := trodAll_cons r0
  obtain ⟨rfl, rfl, rfl⟩ := trodAll_nil r1
  obtain rfl : args = #[v0, v1] := by cases args; simp_all
  obtain ⟨rfl, rfl⟩ := trodVars_none hV
  have k0 := h0
  have lt0 : ∀ x ∈ p0, x.block < W.heap.size := by obtain ⟨m, hm⟩ := k0; exact DataW.trod_lt m _ _ _ hm
  obtain ⟨LA0, Ll0, Lc0, rfl, Lm0, Lr0⟩ := open_relsZ (hval 0 32 v0 rfl rfl) h0
  have k1 := h1
  have lt1 : ∀ x ∈ p1, x.block < W.heap.size := by obtain ⟨m, hm⟩ := k1; exact DataW.trod_lt m _ _ _ hm
  obtain ⟨a1, rfl, _, _, w1⟩ := open_int Try.underlying3 (hval 1 3 v1 rfl rfl) h1
  clear hA0 hval0
  refine (walk LA0 Ll0 Lc0 a1 W Lm0 Lr0 w1).mono fun e W' ⟨he, bel⟩ => ?_
  subst he
  exact ⟨_, rfl, _, _, _, [], _, [], hW', trodAll_mk1 (shut_bool Try.underlying4 _), (trodAll_cons_mk (Below.trod laidOut (by kernel_rfl) (of_decide_eq_true (by kernel_rfl)) k0 bel lt0) (trodAll_cons_mk (Below.trod laidOut (by kernel_rfl) (of_decide_eq_true (by kernel_rfl)) k1 bel lt1) trodAll_mk0)), rfl, bel.frame _, fun h => by cases h⟩
theorem over : Rows.relocBackRow.holds Try.pinned (OpenSpec.ofChange Rows.relocBackSpec) :=
  OpenClaim.holds_of_wide 5 Try.f5 rfl rfl rfl rfl rfl rfl rfl ⟨rfl, rfl, rfl, rfl, rfl⟩ rfl rfl rfl rfl rfl (by kernel_rfl) Try.func5 (by kernel_rfl)
    (of_decide_eq_true (by kernel_rfl)) (by unfold Func.isWrapper; first | (rw [if_pos (by decide +kernel)]; kernel_rfl) | (rw [if_neg (by decide +kernel)]; exact ⟨rfl, rfl⟩))
    (fun os started H enc _ => lifted os started H enc)
/-- The statement. -/
theorem proved : Rows.RelocBackSaid := over
end Go.Proofs.Ytpkjaacklfiblaa.lawBackZ
