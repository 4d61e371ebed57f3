/- RegionOnce: a region of 1 to 16 pages, of a file or of zeros, put together of single pages in whatever order is the row of the whole. -/
import Derived.Test.YtkfkaafddfedjadUT
import Derived.SizedLaws
namespace Go.Proofs.Ytkfkaafddfedjad.lawOnce
open Go.ChangeShapes Go.WideShapes Go.ChangeAt Go.RowKit Go.Deep
set_option linter.unusedVariables false
set_option linter.unusedSimpArgs false

theorem openInts15 {H : Type} {enc : TypeId × Value → H} {w : World} {base : Nat} {spare : Nat → Bool} {held : Bool} {r : Reach} {b0 : Nat} {v : Value} {d : DataW H} {ps : List MemPlace} (hv : Value.okWide Try.prog w r b0 23 v) (h : DataW.Trod enc Try.prog w base spare held 23 v d ps) : ∃ A zs c, v = .slice A (List.length zs) c ∧ zs.length ≤ maxLen ∧ IntRow w A zs :=
  open_int_row Try.underlying23 Try.underlying3 (by kernel_rfl) hv h
theorem bytes_int : Try.prog.bytesOf 3 = 8 := by kernel_rfl
/-- A slice of numbers that comes in is within the form's own reach. -/
theorem short15 {H : Type} {enc : TypeId × Value → H} {w : World} {base : Nat} {spare : Nat → Bool} {held : Bool} {A : Option Addr} {n c : Nat} {d : DataW H} {ps : List MemPlace} {ts : List TypeId} {ds : List (DataW H)} {j : Nat} (h : DataW.Trod enc Try.prog w base spare held 23 (.slice A n c) d ps) (hs : (DataW.weightsEach Try.prog ts ds).all (· ≤ reachBytes) = true) (ht : ts[j]? = some 23) (hd : ds[j]? = some d) : n ≤ 17592186044416 := by
  obtain ⟨fuel, hf⟩ := h
  rcases open_slice Try.underlying23 hf with ⟨h1, _⟩ | ⟨a, len, cap, m, f, D, Pl, h1, hb, hl, hm, hmm, hx, hi⟩
  · have h2 : Value.slice A n c = .slice none 0 0 := by simpa [Value.cells] using h1
    injection h2 with e1 e2 e3
    omega
  · have h2 : Value.slice A n c = .slice (some a) len cap := by simpa [Value.cells] using h1
    injection h2 with e1 e2 e3
    subst e2
    have hx1 : d = .slice ((List.range n).map D) ((List.range (m - n)).map fun j => D (n + j)) := congrArg Prod.fst hx
    rw [hx1] at hd
    have h3 := sized_slice hs ht hd Try.underlying23
    rw [bytes_int] at h3
    have h4 := reachBytes_lt
    simp only [List.length_map, List.length_range] at h3
    omega
theorem i64_and1 (n : Int) : bits .and .i64 n 1 = n % 2 := i64_and_mask n 1 1 (by omega) (by decide)
theorem i64_and15 (n : Int) : bits .and .i64 n 15 = n % 16 := i64_and_mask n 4 15 (by omega) (by decide)
theorem i64_and255 (n : Int) : bits .and .i64 n 255 = n % 256 := i64_and_mask n 8 255 (by omega) (by decide)

set_option maxRecDepth 100000 in
set_option maxHeartbeats 12800000 in
theorem walk (q0 q1 q2 q3 : Int) (A : Option Addr) (zs : List Int) (c : Nat) (w : World) (w0 : (Lit.int .i64 q0).wf = true) (w1 : (Lit.int .i64 q1).wf = true) (w2 : (Lit.int .i64 q2).wf = true) (w3 : (Lit.int .i64 q3).wf = true) (hmax : zs.length ≤ maxLen) (hrow : IntRow w A zs) (hreach : zs.length ≤ 17592186044416) :
    Calls Try.prog 3 #[.agg #[.int .i64 q0, .int .i64 q1, .int .i64 q2, .int .i64 q3], .slice A zs.length c] w fun e w' => e = .returned (.bool true) ∧ Below w.heap.size w w' := by
  have HAW := Lib.hid (fun v => awake_anyU v)
  have e0 := i64_and63U q0
  have e1 := i64_and15 q1
  have e2 := i64_and7U q2
  have e3 := i64_and1 q3
  have e4 := i64_and255
  obtain ⟨F, hF⟩ : ∃ F, q0 % 64 = F := ⟨_, rfl⟩
  obtain ⟨N, hN⟩ : ∃ N : Nat, 1 + q1 % 16 = (N : Int) := ⟨(1 + q1 % 16).toNat, by omega⟩
  obtain ⟨P, hP⟩ : ∃ P, q2 % 8 = P := ⟨_, rfl⟩
  obtain ⟨Z, hZ⟩ : ∃ Z, q3 % 2 = Z := ⟨_, rfl⟩
  have hF2 : 0 ≤ F ∧ F ≤ 63 := by omega
  have hN2 : 1 ≤ N ∧ N ≤ 16 := by omega
  have hP2 : 0 ≤ P ∧ P ≤ 7 := by omega
  have hZ2 : Z = 0 ∨ Z = 1 := by omega
  rw [hF] at e0
  rw [hP] at e2
  rw [hZ] at e3
  have v1 : wrap64 (1 + q1 % 16) = (N : Int) := by rw [IntWalk.wrap64_in _ (by omega)]; exact hN
  have v2 : IntKind.i64.wrap (1 + q1 % 16) = (N : Int) := by rw [IntWalk.i64_in _ (by omega)]; exact hN
  have v3 : wrap64 (F + (N : Int)) = F + N := IntWalk.wrap64_in _ (by omega)
  have v4 : IntKind.i64.wrap (F + (N : Int)) = F + N := IntWalk.i64_in _ (by omega)
  obtain ⟨len, hlen⟩ : ∃ n, zs.length = n := ⟨_, rfl⟩
  have HLEN := Lib.hid hlen
  rw [hlen] at hreach ⊢
  have HIR := Lib.hid hrow
  obtain ⟨W, hW⟩ : ∃ W, w.alloc (.cells #[.int .i64 q0, .int .i64 q1, .int .i64 q2, .int .i64 q3] 22) = W := ⟨_, rfl⟩
  have b0 : Blk W w.heap.size 22 #[.int .i64 q0, .int .i64 q1, .int .i64 q2, .int .i64 q3] := by rw [← hW]; exact Blk.new _ _ _
  have hbw : Below w.heap.size w W := by rw [← hW]; exact (Below.refl _ _).alloc (Nat.le_refl _) _
  have HQ := Lib.hid (fun (x : World) (hx : Below W.heap.size W x) => show x.cell? ⟨w.heap.size, 0, none⟩ = some (.int .i64 q0) ∧ x.cell? ⟨w.heap.size, 1, none⟩ = some (.int .i64 q1) ∧ x.cell? ⟨w.heap.size, 2, none⟩ = some (.int .i64 q2) ∧ x.cell? ⟨w.heap.size, 3, none⟩ = some (.int .i64 q3) ∧ Hid (Below w.heap.size w x) from
    ⟨(b0.below hx b0.lt).at_ 0 _ rfl, (b0.below hx b0.lt).at_ 1 _ rfl, (b0.below hx b0.lt).at_ 2 _ rfl, (b0.below hx b0.lt).at_ 3 _ rfl, Lib.hid (hbw.trans (hx.mono hbw.size))⟩)
  have HW := Lib.hid hW
  have HV1 := Lib.hid (And.intro v1 (And.intro v2 (And.intro v3 v4)))
  clear hW b0 hbw hmax hrow hlen hF hP hN hZ w0 w1 w2 w3 v1 v2 v3 v4
  rcases hZ2 with rfl | rfl
  · have hmay : (⟨F, F + N, P, 2, -1, 0⟩ : Rg).May := ⟨by show 0 ≤ F; omega, by show F < F + N; omega, by show F + N ≤ 4096; omega, hP2.1, hP2.2, .inr ⟨.inl rfl, rfl, rfl⟩⟩
    have HMAY := Lib.hid hmay
    have HAD0 := Lib.hid (fun v => show Calls Try.prog 5 #[.slice none 0 0, .agg #[.int .i64 F, .int .i64 (F + N), .int .i64 P, .int .i64 2, .int .i64 (-1), .int .i64 0]] v (fun e w' => ∃ A, e = .returned (.tuple #[.slice A 1 1, .int .i64 0]) ∧ Hid (RS w' A 1 1 [⟨F, F + N, P, 2, -1, 0⟩] ∧ Below v.heap.size v w')) from by
      refine (add_none ⟨F, F + N, P, 2, -1, 0⟩ v hmay.wf).mono ?_
      rintro e w' ⟨hb, ⟨h1, _⟩ | ⟨_, A, e1, h1⟩⟩
      · exact absurd hmay h1
      · exact ⟨A, e1, Lib.hid ⟨h1, hb⟩⟩)
    have HADD := Lib.hid (fun (L : List Rg) (D : List Bool) (kk : Nat) (A : Option Addr) (m c : Nat) (v : World) (h : RS v A m c L) (hI : OnceI ⟨F, F + N, P, 2, -1, 0⟩ L D) (hk : kk < N) (hd : D[kk]? = some false) => show Calls Try.prog 5 #[.slice A m c, .agg #[.int .i64 (F + kk), .int .i64 (F + kk + 1), .int .i64 P, .int .i64 2, .int .i64 (-1), .int .i64 0]] v (fun e w' => ∃ (m' : Nat) (B : Option Addr), e = .returned (.tuple #[.slice B m' m', .int .i64 0]) ∧ Hid ((∃ L', OnceI ⟨F, F + N, P, 2, -1, 0⟩ L' (D.set kk true) ∧ RS w' B m' m' L') ∧ Below v.heap.size v w')) from by
      have hkk : (⟨F, F + N, P, 2, -1, 0⟩ : Rg).f + kk < (⟨F, F + N, P, 2, -1, 0⟩ : Rg).t := by show F + kk < F + N; omega
      have hy := add_yes L (pageR ⟨F, F + N, P, 2, -1, 0⟩ kk) A m c v h hI.row.asc (pageR_may hmay hkk) (hI.free hkk hd)
      have e9 : (pageR ⟨F, F + N, P, 2, -1, 0⟩ kk).cs = #[.int .i64 (F + kk), .int .i64 (F + kk + 1), .int .i64 P, .int .i64 2, .int .i64 (-1), .int .i64 0] := by
        rfl
      rw [e9] at hy
      refine hy.mono fun e w' h => ?_
      obtain ⟨j, hj, B, e1, h1, h2⟩ := h
      exact ⟨_, B, e1, Lib.hid ⟨⟨_, hI.step hmay hkk hd hj, h1⟩, h2⟩⟩)
    have HCK := Lib.hid (fun (m : Nat) (B : Option Addr) (v : World) (h : ∃ (L : List Rg) (D : List Bool), OnceI ⟨F, F + N, P, 2, -1, 0⟩ L D ∧ RS v B m m L) => show Calls Try.prog 6 #[.slice B m m] v (fun e w' => e = .returned (.int .i64 0) ∧ Below v.heap.size v w') from by
      obtain ⟨L, D, h1, h2⟩ := h
      exact check_any L B m m v h2 h1.row)
    clear hmay
    obtain ⟨v1, v2, v3, v4⟩ := HV1.out
    go_enter Try.func3, Try.ntmps3
    go_upto_region 1 with fail
    rw [HW.out]
    go_upto_region 2 with (go_at_call 4; refine (HAW.out _).mono ?_; rintro e x1 ⟨rfl, hb1⟩)
    obtain ⟨y0, y1, y2, y3, HB1⟩ := HQ.out x1 hb1
    have HX1 := Lib.hid hb1
    clear hb1
    go_upto_region 4 with fail
    have hB := Lib.hid (HX1.out.alloc HX1.out.size (.cells #[.int .i64 F, .int .i64 (F + N), .int .i64 P, .int .i64 2, .int .i64 (-1), .int .i64 0] 26))
    have hK := Blk.new x1 26 #[.int .i64 F, .int .i64 (F + N), .int .i64 P, .int .i64 2, .int .i64 (-1), .int .i64 0]
    have hG := HX1.out.size
    go_upto_region 5 with fail
    generalize x1.alloc _ = Y at *
    generalize x1.heap.size = G at *
    clear y0 y1 y2 y3
    obtain ⟨y0, y1, y2, y3, HB2⟩ := HQ.out Y hB.out
    have hK2 : Blk Y G 26 #[.int .i64 F, .int .i64 (F + N), .int .i64 P, .int .i64 2, .int .i64 (-1), .int .i64 0] := hK
    have hBB := hB
    clear hK hB
    go_upto_region 9 with fail
    clear y0 y1 y2 y3
    clear e0 e1 e2 e3 e4 v1 v2 v3 v4 HV1
    obtain ⟨s0, s1, s2, s3, s4, s5⟩ := hK2.six (r := ⟨F, F + N, P, 2, -1, 0⟩)
    simp only at s0 s1 s2 s3 s4 s5
    go_upto_region 10 with (go_at_call 5; refine (HAD0.out _).mono ?_; rintro e v0 ⟨A0, rfl, h0⟩)
    clear s0 s1 s2 s3 s4 s5
    have hINI : Blk (v0.alloc (.cells #[.bool false, .bool false, .bool false, .bool false, .bool false, .bool false, .bool false, .bool false, .bool false, .bool false, .bool false, .bool false, .bool false, .bool false, .bool false, .bool false] 32)) v0.heap.size 32 (boolCs (List.replicate 16 false)) ∧ Blk (v0.alloc (.cells #[.bool false, .bool false, .bool false, .bool false, .bool false, .bool false, .bool false, .bool false, .bool false, .bool false, .bool false, .bool false, .bool false, .bool false, .bool false, .bool false] 32)) G 26 #[.int .i64 F, .int .i64 (F + N), .int .i64 P, .int .i64 2, .int .i64 (-1), .int .i64 0] ∧ RS (v0.alloc (.cells #[.bool false, .bool false, .bool false, .bool false, .bool false, .bool false, .bool false, .bool false, .bool false, .bool false, .bool false, .bool false, .bool false, .bool false, .bool false, .bool false] 32)) A0 1 1 [⟨F, F + N, P, 2, -1, 0⟩] ∧ Below W.heap.size W (v0.alloc (.cells #[.bool false, .bool false, .bool false, .bool false, .bool false, .bool false, .bool false, .bool false, .bool false, .bool false, .bool false, .bool false, .bool false, .bool false, .bool false, .bool false] 32)) ∧ G ≠ v0.heap.size ∧ W.heap.size ≤ v0.heap.size := by
      have h1 := hK2.below h0.out.2 hK2.lt
      have h2 := hBB.out.trans (h0.out.2.mono hBB.out.size)
      have h3 := hK2.lt
      have h4 := h0.out.2.size
      exact ⟨Blk.new _ _ _, h1.alloc _, h0.out.1.below ((Below.refl _ _).alloc (Nat.le_refl _) _), h2.alloc h2.size _, by omega, h2.size⟩
    have HINI := Lib.hid hINI
    clear hINI hK2 hBB h0 hG
    go_wp2
    generalize v0.alloc _ = U0 at *
    generalize v0.heap.size = dn at *
    obtain ⟨S, hS⟩ : ∃ S : Nat, len + N = S := ⟨_, rfl⟩
    have v5 : wrap64 ((len : Int) + (N : Int)) = (S : Int) := by rw [IntWalk.wrap64_in _ (by omega)]; omega
    have v6 : IntKind.i64.wrap ((len : Int) + (N : Int)) = (S : Int) := by rw [IntWalk.i64_in _ (by omega)]; omega
    have HS := Lib.hid hS
    have HV5 := Lib.hid (And.intro v5 v6)
    clear v5 v6
    have hS2 : len ≤ S ∧ S ≤ len + 16 := by omega
    clear hS
    go_loopw [11, 13] (fun lv iv wr => ∃ (i : Nat) (A' : Option Addr) (m c' : Nat), i ≤ S ∧ iv = .int .i64 i ∧ lv = .slice A' m c' ∧ Hid (∃ L D, RS wr A' m c' L ∧ OnceI ⟨F, F + N, P, 2, -1, 0⟩ L D ∧ Blk wr dn 32 (boolCs D) ∧ Blk wr G 26 #[.int .i64 F, .int .i64 (F + N), .int .i64 P, .int .i64 2, .int .i64 (-1), .int .i64 0] ∧ RS wr A0 1 1 [⟨F, F + N, P, 2, -1, 0⟩] ∧ Below W.heap.size W wr ∧ ∀ k : Nat, len + k < i → k < N → D[k]? = some true)) (fun _ iv _ => S - (intOf iv).toNat)
    case atStart => exact ⟨0, none, 0, 0, Nat.zero_le _, rfl, rfl, Lib.hid ⟨[], List.replicate 16 false, RS.nil _, OnceI.start _, HINI.out.1, HINI.out.2.1, HINI.out.2.2.1, HINI.out.2.2.2.1, fun k h _ => absurd h (by omega)⟩⟩
    case round =>
      have HGD := Lib.hid (And.intro HINI.out.2.2.2.2.1 HINI.out.2.2.2.2.2)
      clear HINI
      obtain ⟨i, A', m, c', hi, rfl, rfl, HI⟩ := hrel
      by_cases hlt : i < S
      · obtain ⟨L, D, hrs, hoi, hdn, hbg, hr0, hbw, hdone⟩ := HI.out
        have i0 : (0 : Int) ≤ (i : Int) := by omega
        have i1 : (i : Int) < (S : Int) := by omega
        have v7 : wrap64 ((i : Int) - (len : Int)) = (i : Int) - (len : Int) := IntWalk.wrap64_in _ (by omega)
        have v8 : IntKind.i64.wrap ((i : Int) - (len : Int)) = (i : Int) - (len : Int) := IntWalk.i64_in _ (by omega)
        have HV7 := Lib.hid (And.intro v7 v8)
        clear v7 v8
        by_cases hil : i < len
        · have hzl : i < zs.length := by rw [HLEN.out]; exact hil
          obtain ⟨ad, rfl, hadb, hz, hzw⟩ := HIR.out i hzl
          have hzb := wf64_bd hzw
          obtain ⟨z, hzz⟩ : ∃ z, zs[i] = z := ⟨_, rfl⟩
          rw [hzz] at hz hzb
          have j1 : (i : Int) < (len : Int) := by omega
          have hcell : wr.cell? (ad.add i) = some (.int .i64 z) := by
            have e9 : (ad.add i).block = ad.block := by unfold Addr.add; split <;> rfl
            obtain ⟨-, -, -, -, hb9⟩ := HQ.out wr hbw
            exact (hb9.out.cell (by rw [e9]; exact hadb)).trans hz
          have hN0 : ((N : Int) == 0) = false := by simp only [beq_eq_false_iff_ne, ne_eq]; omega
          have hNn : ¬ (N : Int) = 0 := by omega
          have hT1 : -(N : Int) < z.tmod N := Int.lt_tmod_of_pos z (by omega)
          have hT2 : z.tmod N < N := Int.tmod_lt_of_pos z (by omega)
          obtain ⟨T, hT⟩ : ∃ T, z.tmod (N : Int) = T := ⟨_, rfl⟩
          rw [hT] at hT1 hT2
          obtain ⟨S1, hS1⟩ : ∃ S1, T + (N : Int) = S1 := ⟨_, rfl⟩
          have hP1 : 0 ≤ S1.tmod N := Int.tmod_nonneg _ (by omega)
          have hP3 : S1.tmod N < N := Int.tmod_lt_of_pos _ (by omega)
          obtain ⟨kk, hkk⟩ : ∃ kk : Nat, S1.tmod (N : Int) = (kk : Int) := ⟨(S1.tmod N).toNat, by omega⟩
          rw [hkk] at hP1 hP3
          have hkN : kk < N := by omega
          have hbb : -9223372036854775808 ≤ T ∧ T ≤ 9223372036854775807 ∧ -9223372036854775808 ≤ T + (N : Int) ∧ T + (N : Int) ≤ 9223372036854775807 ∧ -9223372036854775808 ≤ (kk : Int) ∧ (kk : Int) ≤ 9223372036854775807 := by omega
          obtain ⟨hb1, hb2, hb3, hb4, hb5, hb6⟩ := hbb
          have a1 : wrap64 T = T := IntWalk.wrap64_in _ ⟨hb1, hb2⟩
          have a2 : IntKind.i64.wrap T = T := IntWalk.i64_in _ ⟨hb1, hb2⟩
          have a3 : wrap64 (T + (N : Int)) = S1 := by rw [IntWalk.wrap64_in _ ⟨hb3, hb4⟩]; exact hS1
          have a4 : IntKind.i64.wrap (T + (N : Int)) = S1 := by rw [IntWalk.i64_in _ ⟨hb3, hb4⟩]; exact hS1
          have a5 : wrap64 (kk : Int) = (kk : Int) := IntWalk.wrap64_in _ ⟨hb5, hb6⟩
          have a6 : IntKind.i64.wrap (kk : Int) = (kk : Int) := IntWalk.i64_in _ ⟨hb5, hb6⟩
          have HKL := Lib.hid (show ∀ k : Nat, len + k < i + 1 → k < N → D[k]? = some true from fun k h _ => absurd h (by omega))
          have HV9 := Lib.hid (And.intro a1 (And.intro a2 (And.intro a3 (And.intro a4 (And.intro a5 a6)))))
          clear hb1 hb2 hb3 hb4 hb5 hb6 hS1 hT1 hT2 hP1 hP3 hzb hzz hzw hzl a1 a2 a3 a4 a5 a6
          have hl16 := hoi.len
          obtain ⟨bv, hbv⟩ : ∃ b, D[kk]? = some b := ⟨D[kk]'(by omega), List.getElem?_eq_getElem (by omega)⟩
          have d0 : wr.cell? ⟨dn, kk, none⟩ = some (.bool bv) := by rw [hdn.cell, boolCs_at, hbv]; rfl
          have g0 := hdn.frozen kk
          have k0 : (0 : Int) ≤ (kk : Int) := by omega
          have k1 : (kk : Int) < 16 := by omega
          have hf1 : (-9223372036854775808 ≤ F + (kk : Int) ∧ F + (kk : Int) ≤ 9223372036854775807) ∧ (-9223372036854775808 ≤ F + (kk : Int) + 1 ∧ F + (kk : Int) + 1 ≤ 9223372036854775807)  := by omega
          have HFW := Lib.hid (show wrap64 (F + (kk : Int)) = F + kk ∧ wrap64 (F + (kk : Int) + 1) = F + kk + 1 ∧ IntKind.i64.wrap (F + (kk : Int)) = F + kk ∧ IntKind.i64.wrap (F + (kk : Int) + 1) = F + kk + 1 ∧ True ∧ True from ⟨IntWalk.wrap64_in _ hf1.1, IntWalk.wrap64_in _ hf1.2, IntWalk.i64_in _ hf1.1, IntWalk.i64_in _ hf1.2, trivial, trivial⟩)
          have HST := Lib.hid (And.intro hrs (And.intro hoi (And.intro hdn (And.intro hbg (And.intro hr0 hbw)))))
          have HDN := Lib.hid hdone
          clear hf1 hdone hbg hr0 hrs hoi hl16 hdn hbw
          cases bv with
          | true =>
            obtain ⟨v5, v6⟩ := HV5.out
            obtain ⟨v7, v8⟩ := HV7.out
            obtain ⟨a1, a2, a3, a4, a5, a6⟩ := HV9.out
            go_wp2
            clear v5 v6 v7 v8 a1 a2 a3 a4 a5 a6
            go_roundw
            case rel =>
              obtain ⟨hrs, hoi, hdn, hbg, hr0, hbw⟩ := HST.out
              exact ⟨i + 1, A', m, c', by omega, by go_num, rfl, Lib.hid ⟨L, D, hrs, hoi, hdn, hbg, hr0, hbw, HKL.out⟩⟩
            case measure => simp [intOf]; omega
          | false =>
            obtain ⟨v5, v6⟩ := HV5.out
            obtain ⟨v7, v8⟩ := HV7.out
            obtain ⟨a1, a2, a3, a4, a5, a6⟩ := HV9.out
            have HU1 := Lib.hid (show ∀ X, X = wr.setCell ⟨dn, kk, none⟩ (.bool true) → RS X A' m c' L ∧ Blk X dn 32 (boolCs (D.set kk true)) ∧ Blk X G 26 #[.int .i64 F, .int .i64 (F + N), .int .i64 P, .int .i64 2, .int .i64 (-1), .int .i64 0] ∧ RS X A0 1 1 [⟨F, F + N, P, 2, -1, 0⟩] ∧ Below W.heap.size W X ∧ X.heap.size = wr.heap.size from fun X hX => by
              subst hX
              obtain ⟨hrs, hoi, hdn, hbg, hr0, hbw⟩ := HST.out
              have hd := hdn.set_ kk (.bool true)
              rw [boolCs_set] at hd
              exact ⟨hrs.store_bool hdn _ _, hd, hbg.far (p := ⟨dn, kk, none⟩) HGD.out.1 _, hr0.store_bool hdn _ _, hbw.setCell (p := ⟨dn, kk, none⟩) HGD.out.2 _, by simp⟩)
            go_upto_region 20 with fail
            generalize hX1 : World.setCell _ _ _ = U1
            obtain ⟨hrs, hdn, hbg, hr0, hbw, hsz⟩ := HU1.out U1 hX1.symm
            clear hX1 HU1 d0 g0
            obtain ⟨s0, s1, s2, s3, s4, s5⟩ := hbg.six (r := ⟨F, F + N, P, 2, -1, 0⟩)
            simp only at s0 s1 s2 s3 s4 s5
            obtain ⟨f1, f2, f3, f4, f5, f6⟩ := HFW.out
            go_upto_region 23 with fail
            have hV := (Below.refl U1.heap.size U1).alloc (Nat.le_refl _) (.cells #[.int .i64 (F + kk), .int .i64 (F + kk + 1), .int .i64 P, .int .i64 2, .int .i64 (-1), .int .i64 0] 26)
            have hgx := Blk.new U1 26 #[.int .i64 (F + kk), .int .i64 (F + kk + 1), .int .i64 P, .int .i64 2, .int .i64 (-1), .int .i64 0]
            rw [hsz] at hgx
            generalize U1.alloc _ = V2 at *
            clear s0 s1 s2 s3 s4 s5
            have hbg2 := hbg.below hV hbg.lt
            have k3 := hbg2.at_ 3 _ rfl
            have hV2 := hV
            have hrs2 := hrs.below hV2
            have hdn2 := hdn.below hV2 hdn.lt
            have hbg3 := hbg.below hV2 hbg.lt
            have hr02 := hr0.below hV2
            have hbw2 := hbw.trans (hV2.mono hbw.size)
            have HST2 := Lib.hid (And.intro hdn2 (And.intro hbg3 (And.intro hr02 hbw2)))
            have HRS2 := Lib.hid hrs2
            clear hV2 hrs hdn hbg hr0 hbw hsz hrs2 hdn2 hbg3 hr02 hbw2 hV hbg2
            obtain ⟨s0, s1, s2, s3, s4, s5⟩ := hgx.six (r := ⟨F + kk, F + kk + 1, P, 2, -1, 0⟩)
            simp only at s0 s1 s2 s3 s4 s5
            clear hgx
            go_upto_region 26 with (go_at_call 5; refine (HADD.out L D kk A' m c' _ HRS2.out HST.out.2.1 hkN hbv).mono ?_; rintro e U4 ⟨m', B, rfl, hA⟩)
            clear s0 s1 s2 s3 s4 s5 k3
            obtain ⟨⟨L', hoi', hrs'⟩, hb4⟩ := hA.out
            have HCH := Lib.hid (HCK.out m' B U4 ⟨L', D.set kk true, hoi', hrs'⟩)
            have HNW := Lib.hid (And.intro hoi' (And.intro hrs' hb4))
            clear hoi' hrs' hb4 hA
            go_upto_region 28 with (go_at_call 6; refine HCH.out.mono ?_; rintro e U5 ⟨rfl, hb5⟩)
            have HB5 := Lib.hid hb5
            clear hb5
            go_wp2
            clear v5 v6 v7 v8 a1 a2 a3 a4 a5 a6 f1 f2 f3 f4 f5 f6
            go_roundw
            case rel =>
              obtain ⟨hoi', hrs', hb4⟩ := HNW.out
              obtain ⟨hdn2, hbg2, hr02, hbw2⟩ := HST2.out
              have hb6 := hb4.trans (HB5.out.mono hb4.size)
              exact ⟨i + 1, B, m', m', by omega, by go_num, rfl, Lib.hid ⟨L', D.set kk true, hrs'.below HB5.out, hoi', hdn2.below hb6 hdn2.lt, hbg2.below hb6 hbg2.lt, hr02.below hb6, hbw2.trans (hb6.mono hbw2.size), fun k h hk => by exact absurd h (by omega)⟩⟩
            case measure => simp [intOf]; omega
        · have j1 : ¬ (i : Int) < (len : Int) := by omega
          obtain ⟨kk, hkk⟩ : ∃ kk : Nat, (i : Int) - (len : Int) = (kk : Int) := ⟨i - len, by omega⟩
          have hkN : kk < N := by have := HS.out; omega
          have HV9 := Lib.hid (And.intro (HV7.out.1.trans hkk) (HV7.out.2.trans hkk))
          have HKL := Lib.hid (show D[kk]? = some true → ∀ k : Nat, len + k < i + 1 → k < N → D[k]? = some true from fun hd k h hk => by
            by_cases e : k = kk
            · rw [e]; exact hd
            · exact hdone k (by omega) hk)
          have HKL2 := Lib.hid (show ∀ k : Nat, len + k < i + 1 → k < N → (D.set kk true)[k]? = some true from fun k h hk => by
            have hl := hoi.len
            by_cases e : k = kk
            · rw [e, List.getElem?_set_self (by omega)]
            · rw [List.getElem?_set_ne (fun h => e h.symm)]; exact hdone k (by omega) hk)
          clear hkk
          have hl16 := hoi.len
          obtain ⟨bv, hbv⟩ : ∃ b, D[kk]? = some b := ⟨D[kk]'(by omega), List.getElem?_eq_getElem (by omega)⟩
          have d0 : wr.cell? ⟨dn, kk, none⟩ = some (.bool bv) := by rw [hdn.cell, boolCs_at, hbv]; rfl
          have g0 := hdn.frozen kk
          have k0 : (0 : Int) ≤ (kk : Int) := by omega
          have k1 : (kk : Int) < 16 := by omega
          have hf1 : (-9223372036854775808 ≤ F + (kk : Int) ∧ F + (kk : Int) ≤ 9223372036854775807) ∧ (-9223372036854775808 ≤ F + (kk : Int) + 1 ∧ F + (kk : Int) + 1 ≤ 9223372036854775807)  := by omega
          have HFW := Lib.hid (show wrap64 (F + (kk : Int)) = F + kk ∧ wrap64 (F + (kk : Int) + 1) = F + kk + 1 ∧ IntKind.i64.wrap (F + (kk : Int)) = F + kk ∧ IntKind.i64.wrap (F + (kk : Int) + 1) = F + kk + 1 ∧ True ∧ True from ⟨IntWalk.wrap64_in _ hf1.1, IntWalk.wrap64_in _ hf1.2, IntWalk.i64_in _ hf1.1, IntWalk.i64_in _ hf1.2, trivial, trivial⟩)
          have HST := Lib.hid (And.intro hrs (And.intro hoi (And.intro hdn (And.intro hbg (And.intro hr0 hbw)))))
          have HDN := Lib.hid hdone
          clear hf1 hdone hbg hr0 hrs hoi hl16 hdn hbw
          cases bv with
          | true =>
            obtain ⟨v5, v6⟩ := HV5.out
            obtain ⟨v7, v8⟩ := HV9.out
            go_wp2
            clear v5 v6 v7 v8
            go_roundw
            case rel =>
              obtain ⟨hrs, hoi, hdn, hbg, hr0, hbw⟩ := HST.out
              exact ⟨i + 1, A', m, c', by omega, by go_num, rfl, Lib.hid ⟨L, D, hrs, hoi, hdn, hbg, hr0, hbw, HKL.out hbv⟩⟩
            case measure => simp [intOf]; omega
          | false =>
            obtain ⟨v5, v6⟩ := HV5.out
            obtain ⟨v7, v8⟩ := HV9.out
            have HU1 := Lib.hid (show ∀ X, X = wr.setCell ⟨dn, kk, none⟩ (.bool true) → RS X A' m c' L ∧ Blk X dn 32 (boolCs (D.set kk true)) ∧ Blk X G 26 #[.int .i64 F, .int .i64 (F + N), .int .i64 P, .int .i64 2, .int .i64 (-1), .int .i64 0] ∧ RS X A0 1 1 [⟨F, F + N, P, 2, -1, 0⟩] ∧ Below W.heap.size W X ∧ X.heap.size = wr.heap.size from fun X hX => by
              subst hX
              obtain ⟨hrs, hoi, hdn, hbg, hr0, hbw⟩ := HST.out
              have hd := hdn.set_ kk (.bool true)
              rw [boolCs_set] at hd
              exact ⟨hrs.store_bool hdn _ _, hd, hbg.far (p := ⟨dn, kk, none⟩) HGD.out.1 _, hr0.store_bool hdn _ _, hbw.setCell (p := ⟨dn, kk, none⟩) HGD.out.2 _, by simp⟩)
            go_upto_region 20 with fail
            generalize hX1 : World.setCell _ _ _ = U1
            obtain ⟨hrs, hdn, hbg, hr0, hbw, hsz⟩ := HU1.out U1 hX1.symm
            clear hX1 HU1 d0 g0
            obtain ⟨s0, s1, s2, s3, s4, s5⟩ := hbg.six (r := ⟨F, F + N, P, 2, -1, 0⟩)
            simp only at s0 s1 s2 s3 s4 s5
            obtain ⟨f1, f2, f3, f4, f5, f6⟩ := HFW.out
            go_upto_region 23 with fail
            have hV := (Below.refl U1.heap.size U1).alloc (Nat.le_refl _) (.cells #[.int .i64 (F + kk), .int .i64 (F + kk + 1), .int .i64 P, .int .i64 2, .int .i64 (-1), .int .i64 0] 26)
            have hgx := Blk.new U1 26 #[.int .i64 (F + kk), .int .i64 (F + kk + 1), .int .i64 P, .int .i64 2, .int .i64 (-1), .int .i64 0]
            rw [hsz] at hgx
            generalize U1.alloc _ = V2 at *
            clear s0 s1 s2 s3 s4 s5
            have hbg2 := hbg.below hV hbg.lt
            have k3 := hbg2.at_ 3 _ rfl
            have hV2 := hV
            have hrs2 := hrs.below hV2
            have hdn2 := hdn.below hV2 hdn.lt
            have hbg3 := hbg.below hV2 hbg.lt
            have hr02 := hr0.below hV2
            have hbw2 := hbw.trans (hV2.mono hbw.size)
            have HST2 := Lib.hid (And.intro hdn2 (And.intro hbg3 (And.intro hr02 hbw2)))
            have HRS2 := Lib.hid hrs2
            clear hV2 hrs hdn hbg hr0 hbw hsz hrs2 hdn2 hbg3 hr02 hbw2 hV hbg2
            obtain ⟨s0, s1, s2, s3, s4, s5⟩ := hgx.six (r := ⟨F + kk, F + kk + 1, P, 2, -1, 0⟩)
            simp only at s0 s1 s2 s3 s4 s5
            clear hgx
            go_upto_region 26 with (go_at_call 5; refine (HADD.out L D kk A' m c' _ HRS2.out HST.out.2.1 hkN hbv).mono ?_; rintro e U4 ⟨m', B, rfl, hA⟩)
            clear s0 s1 s2 s3 s4 s5 k3
            obtain ⟨⟨L', hoi', hrs'⟩, hb4⟩ := hA.out
            have HCH := Lib.hid (HCK.out m' B U4 ⟨L', D.set kk true, hoi', hrs'⟩)
            have HNW := Lib.hid (And.intro hoi' (And.intro hrs' hb4))
            clear hoi' hrs' hb4 hA
            go_upto_region 28 with (go_at_call 6; refine HCH.out.mono ?_; rintro e U5 ⟨rfl, hb5⟩)
            have HB5 := Lib.hid hb5
            clear hb5
            go_wp2
            clear v5 v6 v7 v8 f1 f2 f3 f4 f5 f6
            go_roundw
            case rel =>
              obtain ⟨hoi', hrs', hb4⟩ := HNW.out
              obtain ⟨hdn2, hbg2, hr02, hbw2⟩ := HST2.out
              have hb6 := hb4.trans (HB5.out.mono hb4.size)
              exact ⟨i + 1, B, m', m', by omega, by go_num, rfl, Lib.hid ⟨L', D.set kk true, hrs'.below HB5.out, hoi', hdn2.below hb6 hdn2.lt, hbg2.below hb6 hbg2.lt, hr02.below hb6, hbw2.trans (hb6.mono hbw2.size), HKL2.out⟩⟩
            case measure => simp [intOf]; omega
      · obtain rfl : i = S := by omega
        obtain ⟨L, D, hrs, hoi, hdn, hbg, hr0, hbw, hdone⟩ := HI.out
        have hS9 := HS.out
        have hL : L = [⟨F, F + N, P, 2, -1, 0⟩] := hoi.done HMAY.out fun k hk => by
          have hk : F + (k : Int) < F + N := hk
          exact hdone k (by omega) (by omega)
        subst hL
        have hm1 := hrs.len
        have hm2 : m = 1 := by rw [← hm1]; rfl
        subst hm2
        have HSA := Lib.hid (same_yesU [⟨F, F + N, P, 2, -1, 0⟩] [⟨F, F + N, P, 2, -1, 0⟩] rfl A' A0 1 c' 1 wr hrs hr0)
        have HBW := Lib.hid hbw
        obtain ⟨-, -, -, -, hb9⟩ := HQ.out wr hbw
        have H9 := Lib.hid hb9.out
        clear hrs hoi hdn hbg hr0 hbw hdone hS9 hm1 hb9
        obtain ⟨v5, v6⟩ := HV5.out
        go_wp2_with (go_at_call 7; refine HSA.out.mono ?_; rintro e U6 ⟨rfl, hb6⟩)
        go_ret
        exact ⟨rfl, H9.out.trans (hb6.mono H9.out.size)⟩
  · obtain ⟨pg, hpg⟩ : ∃ p, q3 / 2 % 256 = p := ⟨_, rfl⟩
    have hpg2 : 0 ≤ pg ∧ pg ≤ 255 := by omega
    have HPG := Lib.hid hpg
    clear hpg
    have hmay : (⟨F, F + N, P, 1, 3, pg⟩ : Rg).May := ⟨by show 0 ≤ F; omega, by show F < F + N; omega, by show F + N ≤ 4096; omega, hP2.1, hP2.2, .inl ⟨rfl, by show (0 : Int) ≤ 3; omega, by show (3 : Int) ≤ _; omega, hpg2.1, by show pg + (F + N - F) ≤ _; omega⟩⟩
    have HMAY := Lib.hid hmay
    have HAD0 := Lib.hid (fun v => show Calls Try.prog 5 #[.slice none 0 0, .agg #[.int .i64 F, .int .i64 (F + N), .int .i64 P, .int .i64 1, .int .i64 3, .int .i64 pg]] v (fun e w' => ∃ A, e = .returned (.tuple #[.slice A 1 1, .int .i64 0]) ∧ Hid (RS w' A 1 1 [⟨F, F + N, P, 1, 3, pg⟩] ∧ Below v.heap.size v w')) from by
      refine (add_none ⟨F, F + N, P, 1, 3, pg⟩ v hmay.wf).mono ?_
      rintro e w' ⟨hb, ⟨h1, _⟩ | ⟨_, A, e1, h1⟩⟩
      · exact absurd hmay h1
      · exact ⟨A, e1, Lib.hid ⟨h1, hb⟩⟩)
    have HADD := Lib.hid (fun (L : List Rg) (D : List Bool) (kk : Nat) (A : Option Addr) (m c : Nat) (v : World) (h : RS v A m c L) (hI : OnceI ⟨F, F + N, P, 1, 3, pg⟩ L D) (hk : kk < N) (hd : D[kk]? = some false) => show Calls Try.prog 5 #[.slice A m c, .agg #[.int .i64 (F + kk), .int .i64 (F + kk + 1), .int .i64 P, .int .i64 1, .int .i64 3, .int .i64 (pg + kk)]] v (fun e w' => ∃ (m' : Nat) (B : Option Addr), e = .returned (.tuple #[.slice B m' m', .int .i64 0]) ∧ Hid ((∃ L', OnceI ⟨F, F + N, P, 1, 3, pg⟩ L' (D.set kk true) ∧ RS w' B m' m' L') ∧ Below v.heap.size v w')) from by
      have hkk : (⟨F, F + N, P, 1, 3, pg⟩ : Rg).f + kk < (⟨F, F + N, P, 1, 3, pg⟩ : Rg).t := by show F + kk < F + N; omega
      have hy := add_yes L (pageR ⟨F, F + N, P, 1, 3, pg⟩ kk) A m c v h hI.row.asc (pageR_may hmay hkk) (hI.free hkk hd)
      have e9 : (pageR ⟨F, F + N, P, 1, 3, pg⟩ kk).cs = #[.int .i64 (F + kk), .int .i64 (F + kk + 1), .int .i64 P, .int .i64 1, .int .i64 3, .int .i64 (pg + kk)] := by
        have e8 : (pageR ⟨F, F + N, P, 1, 3, pg⟩ kk).cs = #[.int .i64 (F + kk), .int .i64 (F + kk + 1), .int .i64 P, .int .i64 1, .int .i64 3, .int .i64 (pg + (F + kk - F))] := rfl
        rw [e8, show pg + (F + (kk : Int) - F) = pg + kk by omega]
      rw [e9] at hy
      refine hy.mono fun e w' h => ?_
      obtain ⟨j, hj, B, e1, h1, h2⟩ := h
      exact ⟨_, B, e1, Lib.hid ⟨⟨_, hI.step hmay hkk hd hj, h1⟩, h2⟩⟩)
    have HCK := Lib.hid (fun (m : Nat) (B : Option Addr) (v : World) (h : ∃ (L : List Rg) (D : List Bool), OnceI ⟨F, F + N, P, 1, 3, pg⟩ L D ∧ RS v B m m L) => show Calls Try.prog 6 #[.slice B m m] v (fun e w' => e = .returned (.int .i64 0) ∧ Below v.heap.size v w') from by
      obtain ⟨L, D, h1, h2⟩ := h
      exact check_any L B m m v h2 h1.row)
    clear hmay
    obtain ⟨v1, v2, v3, v4⟩ := HV1.out
    go_enter Try.func3, Try.ntmps3
    go_upto_region 1 with fail
    rw [HW.out]
    go_upto_region 2 with (go_at_call 4; refine (HAW.out _).mono ?_; rintro e x1 ⟨rfl, hb1⟩)
    obtain ⟨y0, y1, y2, y3, HB1⟩ := HQ.out x1 hb1
    have HX1 := Lib.hid hb1
    clear hb1
    go_upto_region 4 with fail
    have hB := Lib.hid (HX1.out.alloc HX1.out.size (.cells #[.int .i64 F, .int .i64 (F + N), .int .i64 P, .int .i64 2, .int .i64 (-1), .int .i64 0] 26))
    have hK := Blk.new x1 26 #[.int .i64 F, .int .i64 (F + N), .int .i64 P, .int .i64 2, .int .i64 (-1), .int .i64 0]
    have hG := HX1.out.size
    go_upto_region 5 with fail
    generalize x1.alloc _ = Y at *
    generalize x1.heap.size = G at *
    clear y0 y1 y2 y3
    obtain ⟨y0, y1, y2, y3, HB2⟩ := HQ.out Y hB.out
    have f3 := hK.frozen 3
    have f4 := hK.frozen 4
    have f5 := hK.frozen 5
    have k3 := hK.at_ 3 _ rfl
    have k4 := hK.at_ 4 _ rfl
    have k5 := hK.at_ 5 _ rfl
    have y3' := (HQ.out ((Y.setCell ⟨G, 3, none⟩ (.int .i64 1)).setCell ⟨G, 4, none⟩ (.int .i64 3)) ((hB.out.setCell (p := ⟨G, 3, none⟩) hG _).setCell (p := ⟨G, 4, none⟩) hG _)).2.2.2.1
    have hKK := Lib.hid (((hK.set_ 3 (.int .i64 1)).set_ 4 (.int .i64 3)).set_ 5 (.int .i64 (q3 / 2 % 256)))
    have hBB := Lib.hid (((hB.out.setCell (p := ⟨G, 3, none⟩) hG (.int .i64 1)).setCell (p := ⟨G, 4, none⟩) hG (.int .i64 3)).setCell (p := ⟨G, 5, none⟩) hG (.int .i64 (q3 / 2 % 256)))
    go_upto_region 9 with fail
    rw [HPG.out] at hKK hBB ⊢
    clear y3' f3 f4 f5 k3 k4 k5
    have hK2 : Blk (((Y.setCell ⟨G, 3, none⟩ (.int .i64 1)).setCell ⟨G, 4, none⟩ (.int .i64 3)).setCell ⟨G, 5, none⟩ (.int .i64 pg)) G 26 #[.int .i64 F, .int .i64 (F + N), .int .i64 P, .int .i64 1, .int .i64 3, .int .i64 pg] := by simpa using hKK.out
    clear hKK hK hB y0 y1 y2 y3
    generalize World.setCell _ _ _ = YY at *
    clear e0 e1 e2 e3 e4 v1 v2 v3 v4 HV1
    obtain ⟨s0, s1, s2, s3, s4, s5⟩ := hK2.six (r := ⟨F, F + N, P, 1, 3, pg⟩)
    simp only at s0 s1 s2 s3 s4 s5
    go_upto_region 10 with (go_at_call 5; refine (HAD0.out _).mono ?_; rintro e v0 ⟨A0, rfl, h0⟩)
    clear s0 s1 s2 s3 s4 s5
    have hINI : Blk (v0.alloc (.cells #[.bool false, .bool false, .bool false, .bool false, .bool false, .bool false, .bool false, .bool false, .bool false, .bool false, .bool false, .bool false, .bool false, .bool false, .bool false, .bool false] 32)) v0.heap.size 32 (boolCs (List.replicate 16 false)) ∧ Blk (v0.alloc (.cells #[.bool false, .bool false, .bool false, .bool false, .bool false, .bool false, .bool false, .bool false, .bool false, .bool false, .bool false, .bool false, .bool false, .bool false, .bool false, .bool false] 32)) G 26 #[.int .i64 F, .int .i64 (F + N), .int .i64 P, .int .i64 1, .int .i64 3, .int .i64 pg] ∧ RS (v0.alloc (.cells #[.bool false, .bool false, .bool false, .bool false, .bool false, .bool false, .bool false, .bool false, .bool false, .bool false, .bool false, .bool false, .bool false, .bool false, .bool false, .bool false] 32)) A0 1 1 [⟨F, F + N, P, 1, 3, pg⟩] ∧ Below W.heap.size W (v0.alloc (.cells #[.bool false, .bool false, .bool false, .bool false, .bool false, .bool false, .bool false, .bool false, .bool false, .bool false, .bool false, .bool false, .bool false, .bool false, .bool false, .bool false] 32)) ∧ G ≠ v0.heap.size ∧ W.heap.size ≤ v0.heap.size := by
      have h1 := hK2.below h0.out.2 hK2.lt
      have h2 := hBB.out.trans (h0.out.2.mono hBB.out.size)
      have h3 := hK2.lt
      have h4 := h0.out.2.size
      exact ⟨Blk.new _ _ _, h1.alloc _, h0.out.1.below ((Below.refl _ _).alloc (Nat.le_refl _) _), h2.alloc h2.size _, by omega, h2.size⟩
    have HINI := Lib.hid hINI
    clear hINI hK2 hBB h0 hG
    go_wp2
    generalize v0.alloc _ = U0 at *
    generalize v0.heap.size = dn at *
    obtain ⟨S, hS⟩ : ∃ S : Nat, len + N = S := ⟨_, rfl⟩
    have v5 : wrap64 ((len : Int) + (N : Int)) = (S : Int) := by rw [IntWalk.wrap64_in _ (by omega)]; omega
    have v6 : IntKind.i64.wrap ((len : Int) + (N : Int)) = (S : Int) := by rw [IntWalk.i64_in _ (by omega)]; omega
    have HS := Lib.hid hS
    have HV5 := Lib.hid (And.intro v5 v6)
    clear v5 v6
    have hS2 : len ≤ S ∧ S ≤ len + 16 := by omega
    clear hS
    go_loopw [11, 13] (fun lv iv wr => ∃ (i : Nat) (A' : Option Addr) (m c' : Nat), i ≤ S ∧ iv = .int .i64 i ∧ lv = .slice A' m c' ∧ Hid (∃ L D, RS wr A' m c' L ∧ OnceI ⟨F, F + N, P, 1, 3, pg⟩ L D ∧ Blk wr dn 32 (boolCs D) ∧ Blk wr G 26 #[.int .i64 F, .int .i64 (F + N), .int .i64 P, .int .i64 1, .int .i64 3, .int .i64 pg] ∧ RS wr A0 1 1 [⟨F, F + N, P, 1, 3, pg⟩] ∧ Below W.heap.size W wr ∧ ∀ k : Nat, len + k < i → k < N → D[k]? = some true)) (fun _ iv _ => S - (intOf iv).toNat)
    case atStart => exact ⟨0, none, 0, 0, Nat.zero_le _, rfl, rfl, Lib.hid ⟨[], List.replicate 16 false, RS.nil _, OnceI.start _, HINI.out.1, HINI.out.2.1, HINI.out.2.2.1, HINI.out.2.2.2.1, fun k h _ => absurd h (by omega)⟩⟩
    case round =>
      have HGD := Lib.hid (And.intro HINI.out.2.2.2.2.1 HINI.out.2.2.2.2.2)
      clear HINI
      obtain ⟨i, A', m, c', hi, rfl, rfl, HI⟩ := hrel
      by_cases hlt : i < S
      · obtain ⟨L, D, hrs, hoi, hdn, hbg, hr0, hbw, hdone⟩ := HI.out
        have i0 : (0 : Int) ≤ (i : Int) := by omega
        have i1 : (i : Int) < (S : Int) := by omega
        have v7 : wrap64 ((i : Int) - (len : Int)) = (i : Int) - (len : Int) := IntWalk.wrap64_in _ (by omega)
        have v8 : IntKind.i64.wrap ((i : Int) - (len : Int)) = (i : Int) - (len : Int) := IntWalk.i64_in _ (by omega)
        have HV7 := Lib.hid (And.intro v7 v8)
        clear v7 v8
        by_cases hil : i < len
        · have hzl : i < zs.length := by rw [HLEN.out]; exact hil
          obtain ⟨ad, rfl, hadb, hz, hzw⟩ := HIR.out i hzl
          have hzb := wf64_bd hzw
          obtain ⟨z, hzz⟩ : ∃ z, zs[i] = z := ⟨_, rfl⟩
          rw [hzz] at hz hzb
          have j1 : (i : Int) < (len : Int) := by omega
          have hcell : wr.cell? (ad.add i) = some (.int .i64 z) := by
            have e9 : (ad.add i).block = ad.block := by unfold Addr.add; split <;> rfl
            obtain ⟨-, -, -, -, hb9⟩ := HQ.out wr hbw
            exact (hb9.out.cell (by rw [e9]; exact hadb)).trans hz
          have hN0 : ((N : Int) == 0) = false := by simp only [beq_eq_false_iff_ne, ne_eq]; omega
          have hNn : ¬ (N : Int) = 0 := by omega
          have hT1 : -(N : Int) < z.tmod N := Int.lt_tmod_of_pos z (by omega)
          have hT2 : z.tmod N < N := Int.tmod_lt_of_pos z (by omega)
          obtain ⟨T, hT⟩ : ∃ T, z.tmod (N : Int) = T := ⟨_, rfl⟩
          rw [hT] at hT1 hT2
          obtain ⟨S1, hS1⟩ : ∃ S1, T + (N : Int) = S1 := ⟨_, rfl⟩
          have hP1 : 0 ≤ S1.tmod N := Int.tmod_nonneg _ (by omega)
          have hP3 : S1.tmod N < N := Int.tmod_lt_of_pos _ (by omega)
          obtain ⟨kk, hkk⟩ : ∃ kk : Nat, S1.tmod (N : Int) = (kk : Int) := ⟨(S1.tmod N).toNat, by omega⟩
          rw [hkk] at hP1 hP3
          have hkN : kk < N := by omega
          have hbb : -9223372036854775808 ≤ T ∧ T ≤ 9223372036854775807 ∧ -9223372036854775808 ≤ T + (N : Int) ∧ T + (N : Int) ≤ 9223372036854775807 ∧ -9223372036854775808 ≤ (kk : Int) ∧ (kk : Int) ≤ 9223372036854775807 := by omega
          obtain ⟨hb1, hb2, hb3, hb4, hb5, hb6⟩ := hbb
          have a1 : wrap64 T = T := IntWalk.wrap64_in _ ⟨hb1, hb2⟩
          have a2 : IntKind.i64.wrap T = T := IntWalk.i64_in _ ⟨hb1, hb2⟩
          have a3 : wrap64 (T + (N : Int)) = S1 := by rw [IntWalk.wrap64_in _ ⟨hb3, hb4⟩]; exact hS1
          have a4 : IntKind.i64.wrap (T + (N : Int)) = S1 := by rw [IntWalk.i64_in _ ⟨hb3, hb4⟩]; exact hS1
          have a5 : wrap64 (kk : Int) = (kk : Int) := IntWalk.wrap64_in _ ⟨hb5, hb6⟩
          have a6 : IntKind.i64.wrap (kk : Int) = (kk : Int) := IntWalk.i64_in _ ⟨hb5, hb6⟩
          have HKL := Lib.hid (show ∀ k : Nat, len + k < i + 1 → k < N → D[k]? = some true from fun k h _ => absurd h (by omega))
          have HV9 := Lib.hid (And.intro a1 (And.intro a2 (And.intro a3 (And.intro a4 (And.intro a5 a6)))))
          clear hb1 hb2 hb3 hb4 hb5 hb6 hS1 hT1 hT2 hP1 hP3 hzb hzz hzw hzl a1 a2 a3 a4 a5 a6
          have hl16 := hoi.len
          obtain ⟨bv, hbv⟩ : ∃ b, D[kk]? = some b := ⟨D[kk]'(by omega), List.getElem?_eq_getElem (by omega)⟩
          have d0 : wr.cell? ⟨dn, kk, none⟩ = some (.bool bv) := by rw [hdn.cell, boolCs_at, hbv]; rfl
          have g0 := hdn.frozen kk
          have k0 : (0 : Int) ≤ (kk : Int) := by omega
          have k1 : (kk : Int) < 16 := by omega
          have hf1 : (-9223372036854775808 ≤ F + (kk : Int) ∧ F + (kk : Int) ≤ 9223372036854775807) ∧ (-9223372036854775808 ≤ F + (kk : Int) + 1 ∧ F + (kk : Int) + 1 ≤ 9223372036854775807) ∧ (-9223372036854775808 ≤ pg + (kk : Int) ∧ pg + (kk : Int) ≤ 9223372036854775807) := by omega
          have HFW := Lib.hid (show wrap64 (F + (kk : Int)) = F + kk ∧ wrap64 (F + (kk : Int) + 1) = F + kk + 1 ∧ IntKind.i64.wrap (F + (kk : Int)) = F + kk ∧ IntKind.i64.wrap (F + (kk : Int) + 1) = F + kk + 1 ∧ wrap64 (pg + (kk : Int)) = pg + kk ∧ IntKind.i64.wrap (pg + (kk : Int)) = pg + kk from ⟨IntWalk.wrap64_in _ hf1.1, IntWalk.wrap64_in _ hf1.2.1, IntWalk.i64_in _ hf1.1, IntWalk.i64_in _ hf1.2.1, IntWalk.wrap64_in _ hf1.2.2, IntWalk.i64_in _ hf1.2.2⟩)
          have HST := Lib.hid (And.intro hrs (And.intro hoi (And.intro hdn (And.intro hbg (And.intro hr0 hbw)))))
          have HDN := Lib.hid hdone
          clear hf1 hdone hbg hr0 hrs hoi hl16 hdn hbw
          cases bv with
          | true =>
            obtain ⟨v5, v6⟩ := HV5.out
            obtain ⟨v7, v8⟩ := HV7.out
            obtain ⟨a1, a2, a3, a4, a5, a6⟩ := HV9.out
            go_wp2
            clear v5 v6 v7 v8 a1 a2 a3 a4 a5 a6
            go_roundw
            case rel =>
              obtain ⟨hrs, hoi, hdn, hbg, hr0, hbw⟩ := HST.out
              exact ⟨i + 1, A', m, c', by omega, by go_num, rfl, Lib.hid ⟨L, D, hrs, hoi, hdn, hbg, hr0, hbw, HKL.out⟩⟩
            case measure => simp [intOf]; omega
          | false =>
            obtain ⟨v5, v6⟩ := HV5.out
            obtain ⟨v7, v8⟩ := HV7.out
            obtain ⟨a1, a2, a3, a4, a5, a6⟩ := HV9.out
            have HU1 := Lib.hid (show ∀ X, X = wr.setCell ⟨dn, kk, none⟩ (.bool true) → RS X A' m c' L ∧ Blk X dn 32 (boolCs (D.set kk true)) ∧ Blk X G 26 #[.int .i64 F, .int .i64 (F + N), .int .i64 P, .int .i64 1, .int .i64 3, .int .i64 pg] ∧ RS X A0 1 1 [⟨F, F + N, P, 1, 3, pg⟩] ∧ Below W.heap.size W X ∧ X.heap.size = wr.heap.size from fun X hX => by
              subst hX
              obtain ⟨hrs, hoi, hdn, hbg, hr0, hbw⟩ := HST.out
              have hd := hdn.set_ kk (.bool true)
              rw [boolCs_set] at hd
              exact ⟨hrs.store_bool hdn _ _, hd, hbg.far (p := ⟨dn, kk, none⟩) HGD.out.1 _, hr0.store_bool hdn _ _, hbw.setCell (p := ⟨dn, kk, none⟩) HGD.out.2 _, by simp⟩)
            go_upto_region 20 with fail
            generalize hX1 : World.setCell _ _ _ = U1
            obtain ⟨hrs, hdn, hbg, hr0, hbw, hsz⟩ := HU1.out U1 hX1.symm
            clear hX1 HU1 d0 g0
            obtain ⟨s0, s1, s2, s3, s4, s5⟩ := hbg.six (r := ⟨F, F + N, P, 1, 3, pg⟩)
            simp only at s0 s1 s2 s3 s4 s5
            obtain ⟨f1, f2, f3, f4, f5, f6⟩ := HFW.out
            go_upto_region 23 with fail
            have hV := (Below.refl U1.heap.size U1).alloc (Nat.le_refl _) (.cells #[.int .i64 (F + kk), .int .i64 (F + kk + 1), .int .i64 P, .int .i64 1, .int .i64 3, .int .i64 pg] 26)
            have hgx := Blk.new U1 26 #[.int .i64 (F + kk), .int .i64 (F + kk + 1), .int .i64 P, .int .i64 1, .int .i64 3, .int .i64 pg]
            rw [hsz] at hgx
            generalize U1.alloc _ = V2 at *
            clear s0 s1 s2 s3 s4 s5
            have hbg2 := hbg.below hV hbg.lt
            have k3 := hbg2.at_ 3 _ rfl
            have p5 := hgx.at_ 5 _ rfl
            have q5 := hbg2.at_ 5 _ rfl
            have g5 := hgx.frozen 5
            have hV2 := Lib.hid (hV.setCell (p := ⟨wr.heap.size, 5, none⟩) (by show U1.heap.size ≤ wr.heap.size; omega) (.int .i64 (pg + (kk : Int))))
            have hgy := hgx.set_ 5 (.int .i64 (pg + (kk : Int)))
            simp only [List.setIfInBounds_toArray, List.set_cons_succ, List.set_cons_zero] at hgy
            go_upto_region 25 with fail
            clear p5 q5 g5 hgx k3
            have k3 := hgy.at_ 3 _ rfl
            generalize World.setCell _ _ _ = U2 at *
            have hgx := hgy
            clear hgy
            have hV2 := hV2.out
            have hrs2 := hrs.below hV2
            have hdn2 := hdn.below hV2 hdn.lt
            have hbg3 := hbg.below hV2 hbg.lt
            have hr02 := hr0.below hV2
            have hbw2 := hbw.trans (hV2.mono hbw.size)
            have HST2 := Lib.hid (And.intro hdn2 (And.intro hbg3 (And.intro hr02 hbw2)))
            have HRS2 := Lib.hid hrs2
            clear hV2 hrs hdn hbg hr0 hbw hsz hrs2 hdn2 hbg3 hr02 hbw2 hV hbg2
            obtain ⟨s0, s1, s2, s3, s4, s5⟩ := hgx.six (r := ⟨F + kk, F + kk + 1, P, 1, 3, pg + kk⟩)
            simp only at s0 s1 s2 s3 s4 s5
            clear hgx
            go_upto_region 26 with (go_at_call 5; refine (HADD.out L D kk A' m c' _ HRS2.out HST.out.2.1 hkN hbv).mono ?_; rintro e U4 ⟨m', B, rfl, hA⟩)
            clear s0 s1 s2 s3 s4 s5 k3
            obtain ⟨⟨L', hoi', hrs'⟩, hb4⟩ := hA.out
            have HCH := Lib.hid (HCK.out m' B U4 ⟨L', D.set kk true, hoi', hrs'⟩)
            have HNW := Lib.hid (And.intro hoi' (And.intro hrs' hb4))
            clear hoi' hrs' hb4 hA
            go_upto_region 28 with (go_at_call 6; refine HCH.out.mono ?_; rintro e U5 ⟨rfl, hb5⟩)
            have HB5 := Lib.hid hb5
            clear hb5
            go_wp2
            clear v5 v6 v7 v8 a1 a2 a3 a4 a5 a6 f1 f2 f3 f4 f5 f6
            go_roundw
            case rel =>
              obtain ⟨hoi', hrs', hb4⟩ := HNW.out
              obtain ⟨hdn2, hbg2, hr02, hbw2⟩ := HST2.out
              have hb6 := hb4.trans (HB5.out.mono hb4.size)
              exact ⟨i + 1, B, m', m', by omega, by go_num, rfl, Lib.hid ⟨L', D.set kk true, hrs'.below HB5.out, hoi', hdn2.below hb6 hdn2.lt, hbg2.below hb6 hbg2.lt, hr02.below hb6, hbw2.trans (hb6.mono hbw2.size), fun k h hk => by exact absurd h (by omega)⟩⟩
            case measure => simp [intOf]; omega
        · have j1 : ¬ (i : Int) < (len : Int) := by omega
          obtain ⟨kk, hkk⟩ : ∃ kk : Nat, (i : Int) - (len : Int) = (kk : Int) := ⟨i - len, by omega⟩
          have hkN : kk < N := by have := HS.out; omega
          have HV9 := Lib.hid (And.intro (HV7.out.1.trans hkk) (HV7.out.2.trans hkk))
          have HKL := Lib.hid (show D[kk]? = some true → ∀ k : Nat, len + k < i + 1 → k < N → D[k]? = some true from fun hd k h hk => by
            by_cases e : k = kk
            · rw [e]; exact hd
            · exact hdone k (by omega) hk)
          have HKL2 := Lib.hid (show ∀ k : Nat, len + k < i + 1 → k < N → (D.set kk true)[k]? = some true from fun k h hk => by
            have hl := hoi.len
            by_cases e : k = kk
            · rw [e, List.getElem?_set_self (by omega)]
            · rw [List.getElem?_set_ne (fun h => e h.symm)]; exact hdone k (by omega) hk)
          clear hkk
          have hl16 := hoi.len
          obtain ⟨bv, hbv⟩ : ∃ b, D[kk]? = some b := ⟨D[kk]'(by omega), List.getElem?_eq_getElem (by omega)⟩
          have d0 : wr.cell? ⟨dn, kk, none⟩ = some (.bool bv) := by rw [hdn.cell, boolCs_at, hbv]; rfl
          have g0 := hdn.frozen kk
          have k0 : (0 : Int) ≤ (kk : Int) := by omega
          have k1 : (kk : Int) < 16 := by omega
          have hf1 : (-9223372036854775808 ≤ F + (kk : Int) ∧ F + (kk : Int) ≤ 9223372036854775807) ∧ (-9223372036854775808 ≤ F + (kk : Int) + 1 ∧ F + (kk : Int) + 1 ≤ 9223372036854775807) ∧ (-9223372036854775808 ≤ pg + (kk : Int) ∧ pg + (kk : Int) ≤ 9223372036854775807) := by omega
          have HFW := Lib.hid (show wrap64 (F + (kk : Int)) = F + kk ∧ wrap64 (F + (kk : Int) + 1) = F + kk + 1 ∧ IntKind.i64.wrap (F + (kk : Int)) = F + kk ∧ IntKind.i64.wrap (F + (kk : Int) + 1) = F + kk + 1 ∧ wrap64 (pg + (kk : Int)) = pg + kk ∧ IntKind.i64.wrap (pg + (kk : Int)) = pg + kk from ⟨IntWalk.wrap64_in _ hf1.1, IntWalk.wrap64_in _ hf1.2.1, IntWalk.i64_in _ hf1.1, IntWalk.i64_in _ hf1.2.1, IntWalk.wrap64_in _ hf1.2.2, IntWalk.i64_in _ hf1.2.2⟩)
          have HST := Lib.hid (And.intro hrs (And.intro hoi (And.intro hdn (And.intro hbg (And.intro hr0 hbw)))))
          have HDN := Lib.hid hdone
          clear hf1 hdone hbg hr0 hrs hoi hl16 hdn hbw
          cases bv with
          | true =>
            obtain ⟨v5, v6⟩ := HV5.out
            obtain ⟨v7, v8⟩ := HV9.out
            go_wp2
            clear v5 v6 v7 v8
            go_roundw
            case rel =>
              obtain ⟨hrs, hoi, hdn, hbg, hr0, hbw⟩ := HST.out
              exact ⟨i + 1, A', m, c', by omega, by go_num, rfl, Lib.hid ⟨L, D, hrs, hoi, hdn, hbg, hr0, hbw, HKL.out hbv⟩⟩
            case measure => simp [intOf]; omega
          | false =>
            obtain ⟨v5, v6⟩ := HV5.out
            obtain ⟨v7, v8⟩ := HV9.out
            have HU1 := Lib.hid (show ∀ X, X = wr.setCell ⟨dn, kk, none⟩ (.bool true) → RS X A' m c' L ∧ Blk X dn 32 (boolCs (D.set kk true)) ∧ Blk X G 26 #[.int .i64 F, .int .i64 (F + N), .int .i64 P, .int .i64 1, .int .i64 3, .int .i64 pg] ∧ RS X A0 1 1 [⟨F, F + N, P, 1, 3, pg⟩] ∧ Below W.heap.size W X ∧ X.heap.size = wr.heap.size from fun X hX => by
              subst hX
              obtain ⟨hrs, hoi, hdn, hbg, hr0, hbw⟩ := HST.out
              have hd := hdn.set_ kk (.bool true)
              rw [boolCs_set] at hd
              exact ⟨hrs.store_bool hdn _ _, hd, hbg.far (p := ⟨dn, kk, none⟩) HGD.out.1 _, hr0.store_bool hdn _ _, hbw.setCell (p := ⟨dn, kk, none⟩) HGD.out.2 _, by simp⟩)
            go_upto_region 20 with fail
            generalize hX1 : World.setCell _ _ _ = U1
            obtain ⟨hrs, hdn, hbg, hr0, hbw, hsz⟩ := HU1.out U1 hX1.symm
            clear hX1 HU1 d0 g0
            obtain ⟨s0, s1, s2, s3, s4, s5⟩ := hbg.six (r := ⟨F, F + N, P, 1, 3, pg⟩)
            simp only at s0 s1 s2 s3 s4 s5
            obtain ⟨f1, f2, f3, f4, f5, f6⟩ := HFW.out
            go_upto_region 23 with fail
            have hV := (Below.refl U1.heap.size U1).alloc (Nat.le_refl _) (.cells #[.int .i64 (F + kk), .int .i64 (F + kk + 1), .int .i64 P, .int .i64 1, .int .i64 3, .int .i64 pg] 26)
            have hgx := Blk.new U1 26 #[.int .i64 (F + kk), .int .i64 (F + kk + 1), .int .i64 P, .int .i64 1, .int .i64 3, .int .i64 pg]
            rw [hsz] at hgx
            generalize U1.alloc _ = V2 at *
            clear s0 s1 s2 s3 s4 s5
            have hbg2 := hbg.below hV hbg.lt
            have k3 := hbg2.at_ 3 _ rfl
            have p5 := hgx.at_ 5 _ rfl
            have q5 := hbg2.at_ 5 _ rfl
            have g5 := hgx.frozen 5
            have hV2 := Lib.hid (hV.setCell (p := ⟨wr.heap.size, 5, none⟩) (by show U1.heap.size ≤ wr.heap.size; omega) (.int .i64 (pg + (kk : Int))))
            have hgy := hgx.set_ 5 (.int .i64 (pg + (kk : Int)))
            simp only [List.setIfInBounds_toArray, List.set_cons_succ, List.set_cons_zero] at hgy
            go_upto_region 25 with fail
            clear p5 q5 g5 hgx k3
            have k3 := hgy.at_ 3 _ rfl
            generalize World.setCell _ _ _ = U2 at *
            have hgx := hgy
            clear hgy
            have hV2 := hV2.out
            have hrs2 := hrs.below hV2
            have hdn2 := hdn.below hV2 hdn.lt
            have hbg3 := hbg.below hV2 hbg.lt
            have hr02 := hr0.below hV2
            have hbw2 := hbw.trans (hV2.mono hbw.size)
            have HST2 := Lib.hid (And.intro hdn2 (And.intro hbg3 (And.intro hr02 hbw2)))
            have HRS2 := Lib.hid hrs2
            clear hV2 hrs hdn hbg hr0 hbw hsz hrs2 hdn2 hbg3 hr02 hbw2 hV hbg2
            obtain ⟨s0, s1, s2, s3, s4, s5⟩ := hgx.six (r := ⟨F + kk, F + kk + 1, P, 1, 3, pg + kk⟩)
            simp only at s0 s1 s2 s3 s4 s5
            clear hgx
            go_upto_region 26 with (go_at_call 5; refine (HADD.out L D kk A' m c' _ HRS2.out HST.out.2.1 hkN hbv).mono ?_; rintro e U4 ⟨m', B, rfl, hA⟩)
            clear s0 s1 s2 s3 s4 s5 k3
            obtain ⟨⟨L', hoi', hrs'⟩, hb4⟩ := hA.out
            have HCH := Lib.hid (HCK.out m' B U4 ⟨L', D.set kk true, hoi', hrs'⟩)
            have HNW := Lib.hid (And.intro hoi' (And.intro hrs' hb4))
            clear hoi' hrs' hb4 hA
            go_upto_region 28 with (go_at_call 6; refine HCH.out.mono ?_; rintro e U5 ⟨rfl, hb5⟩)
            have HB5 := Lib.hid hb5
            clear hb5
            go_wp2
            clear v5 v6 v7 v8 f1 f2 f3 f4 f5 f6
            go_roundw
            case rel =>
              obtain ⟨hoi', hrs', hb4⟩ := HNW.out
              obtain ⟨hdn2, hbg2, hr02, hbw2⟩ := HST2.out
              have hb6 := hb4.trans (HB5.out.mono hb4.size)
              exact ⟨i + 1, B, m', m', by omega, by go_num, rfl, Lib.hid ⟨L', D.set kk true, hrs'.below HB5.out, hoi', hdn2.below hb6 hdn2.lt, hbg2.below hb6 hbg2.lt, hr02.below hb6, hbw2.trans (hb6.mono hbw2.size), HKL2.out⟩⟩
            case measure => simp [intOf]; omega
      · obtain rfl : i = S := by omega
        obtain ⟨L, D, hrs, hoi, hdn, hbg, hr0, hbw, hdone⟩ := HI.out
        have hS9 := HS.out
        have hL : L = [⟨F, F + N, P, 1, 3, pg⟩] := hoi.done HMAY.out fun k hk => by
          have hk : F + (k : Int) < F + N := hk
          exact hdone k (by omega) (by omega)
        subst hL
        have hm1 := hrs.len
        have hm2 : m = 1 := by rw [← hm1]; rfl
        subst hm2
        have HSA := Lib.hid (same_yesU [⟨F, F + N, P, 1, 3, pg⟩] [⟨F, F + N, P, 1, 3, pg⟩] rfl A' A0 1 c' 1 wr hrs hr0)
        have HBW := Lib.hid hbw
        obtain ⟨-, -, -, -, hb9⟩ := HQ.out wr hbw
        have H9 := Lib.hid hb9.out
        clear hrs hoi hdn hbg hr0 hbw hdone hS9 hm1 hb9
        obtain ⟨v5, v6⟩ := HV5.out
        go_wp2_with (go_at_call 7; refine HSA.out.mono ?_; rintro e U6 ⟨rfl, hb6⟩)
        go_ret
        exact ⟨rfl, H9.out.trans (hb6.mono H9.out.size)⟩

set_option maxRecDepth 100000 in
theorem lifted (os : Os) (started : os.Started) (H : Type) (enc : TypeId × Value → H) :
    ReturnsInHanded {} Try.checked os 3 .any (Rows.regionOnceSpec.pre6 enc Try.prog Try.f3 Rows.regionOnceRow.domain false) (Rows.regionOnceSpec.post enc Try.prog Try.f3 false true false false) := by
  refine returnsInHanded_of_change_sized (C := Try.checked) own started (by kernel_rfl) Try.func3
    (ChangeSpec.witness6 (enc := enc) (C := Try.checked) false ⟨#[], #[.agg #[.int .i64 0, .int .i64 0, .int .i64 0, .int .i64 0], .slice none 0 0], []⟩ 8 (by kernel_rfl) (by kernel_rfl) (by kernel_rfl) (by kernel_rfl)) ?_
  intro W base args ds gs before hval0 hW hcnd hsz0 _
  have hval : ∀ (j : Nat) t v, Try.f3.params[j]? = some t → args[j]? = some v → Value.okWide Try.prog W .any base t v := hval0
  have hW' := hW
  obtain ⟨p, q, hA0, hV, rfl, hfz, hnd⟩ := hW
  have hA : DataW.TrodAll enc Try.prog W 0 (fun _ => true) true Try.f3.params.toList args.toList ds p := hA0
  rw [Try.params3] at hA hval
  obtain ⟨v0, vs0, d0, ds0, p0, q0, hargs, rfl, rfl, h0, r0⟩ := trodAll_cons hA
  obtain ⟨v1, vs1, d1, ds1, p1, q1, rfl, rfl, rfl, h1, r1⟩ := trodAll_cons r0
  obtain ⟨rfl, rfl, rfl⟩ := trodAll_nil r1
  obtain rfl : args = #[v0, v1] := by cases args; simp_all
  obtain ⟨rfl, rfl⟩ := trodVars_none hV
  have k0 := h0
  have lt0 : ∀ x ∈ p0, x.block < W.heap.size := by obtain ⟨m, hm⟩ := k0; exact DataW.trod_lt m _ _ _ hm
  obtain ⟨z0, e0, hl0, hw0⟩ := open_ints_array Try.underlying22 Try.underlying3 (by kernel_rfl) (by kernel_rfl) (hval 0 22 v0 rfl rfl) h0
  obtain ⟨a0_0, a0_1, a0_2, a0_3, rfl⟩ : ∃ a0_0 a0_1 a0_2 a0_3, z0 = [a0_0, a0_1, a0_2, a0_3] := by
    match z0, hl0 with
    | [a0_0, a0_1, a0_2, a0_3], _ => exact ⟨_, _, _, _, rfl⟩
  obtain rfl : v0 = .agg #[.int .i64 a0_0, .int .i64 a0_1, .int .i64 a0_2, .int .i64 a0_3] := e0
  have k1 := h1
  have lt1 : ∀ x ∈ p1, x.block < W.heap.size := by obtain ⟨m, hm⟩ := k1; exact DataW.trod_lt m _ _ _ hm
  obtain ⟨LA1, Ll1, Lc1, rfl, Lm1, Lr1⟩ := openInts15 (hval 1 23 v1 rfl rfl) h1
  clear hA0 hval0
  refine (walk a0_0 a0_1 a0_2 a0_3 LA1 Ll1 Lc1 W (hw0 a0_0 (by simp)) (hw0 a0_1 (by simp)) (hw0 a0_2 (by simp)) (hw0 a0_3 (by simp)) Lm1 Lr1 (short15 h1 hsz0 (j := 1) rfl rfl)).mono fun e W' ⟨he, bel⟩ => ?_
  subst he
  exact ⟨_, rfl, _, _, _, [], _, [], hW', trodAll_mk1 (shut_bool Try.underlying4 _), (trodAll_cons_mk (Below.trod laidOut (by kernel_rfl) (of_decide_eq_true (by kernel_rfl)) k0 bel lt0) (trodAll_cons_mk (Below.trod laidOut (by kernel_rfl) (of_decide_eq_true (by kernel_rfl)) k1 bel lt1) trodAll_mk0)), rfl, bel.frame _, fun h => by cases h⟩
theorem over : Rows.regionOnceRow.holds Try.pinned (OpenSpec.ofChange Rows.regionOnceSpec) :=
  OpenClaim.holds_of_wide 3 Try.f3 rfl rfl rfl rfl rfl rfl rfl ⟨rfl, rfl, rfl, rfl, rfl⟩ rfl rfl rfl rfl rfl (by kernel_rfl) Try.func3 (by kernel_rfl)
    (of_decide_eq_true (by kernel_rfl)) (by unfold Func.isWrapper; first | (rw [if_pos (by decide +kernel)]; kernel_rfl) | (rw [if_neg (by decide +kernel)]; exact ⟨rfl, rfl⟩))
    (fun os started H enc _ => lifted os started H enc)
/-- The statement. -/
theorem proved : Rows.RegionOnceSaid := over
end Go.Proofs.Ytkfkaafddfedjad.lawOnce
