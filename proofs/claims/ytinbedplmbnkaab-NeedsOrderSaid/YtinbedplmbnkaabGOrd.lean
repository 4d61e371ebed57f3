/- NeedsOrder: for any Spec and any number: of its list, and the library that the number picks, an order has each once, behind one that needs it, the root first, and none of less depth behind; if there is none, some are missing. -/
import Derived.Test.YtinbedplmbnkaabGu
namespace Go.Proofs.Ytinbedplmbnkaab.lawOrder
open Go.ChangeShapes Go.WideShapes Go.ChangeAt Go.RowKit
set_option linter.unusedVariables false
set_option linter.unusedSimpArgs false

theorem in_below {s : SpecIn} {w w' : World} (h : s.In w) {n : Nat} (hn : n = w.heap.size) (hb : Below n w w') : s.In w' := ⟨h.len, h.row.below hn hb, h.wf⟩
theorem dep_mono {L : List Lb} {r : ByteArray} {i : Nat} (hi : i + 1 < (cloW L r).N.length) : depW L r ((cloW L r).N[i]'(by omega)) ≤ depW L r (cloW L r).N[i + 1] := by
  have hI := clo_inv L r
  have key : ∀ j (hj : j < (cloW L r).N.length), depW L r (cloW L r).N[j] = (((cloW L r).D[j]'(by rw [hI.len]; exact hj) : Nat) : Int) := fun j hj => by
    unfold depW
    have hm := List.getElem_mem hj
    rw [if_pos hm]
    have e : (cloW L r).N.idxOf (cloW L r).N[j] = j := (List.getElem_inj (h₀ := idx_lt hm) (h₁ := hj) hI.nd).1 (idx_at hm)
    rw [e, List.getD_eq_getElem?_getD, List.getElem?_eq_getElem (by rw [hI.len]; exact hj)]
    rfl
  rw [key i (by omega), key (i + 1) hi]
  have := hI.mono i (i + 1) _ _ (by omega) (List.getElem?_eq_getElem (by rw [hI.len]; omega)) (List.getElem?_eq_getElem (by rw [hI.len]; exact hi))
  omega
/-- Is one behind a name that needs it? -/
def bhB (L : List Lb) (N : List ByteArray) (x : ByteArray) (k : Nat) : Bool := (N.take k).any fun y => (needOf L y).any fun z => decide (z = x)
theorem bhB_succ {L : List Lb} {N : List ByteArray} {x : ByteArray} {k : Nat} (h : k < N.length) : bhB L N x (k + 1) = (bhB L N x k || (needOf L N[k]).any fun z => decide (z = x)) := by
  unfold bhB
  rw [List.take_succ_eq_append_getElem h, List.any_append]
  simp
theorem bhB_yes {L : List Lb} {r : ByteArray} {i : Nat} (hi : i + 1 < (cloW L r).N.length) : bhB L (cloW L r).N (cloW L r).N[i + 1] (i + 1) = true := by
  obtain ⟨k, y, hk, hy, hn⟩ := (clo_inv L r).beh i _ (List.getElem?_eq_getElem hi)
  unfold bhB
  rw [List.any_eq_true]
  refine ⟨y, ?_, ?_⟩
  · obtain ⟨hk2, he⟩ := List.getElem?_eq_some_iff.1 hy
    rw [List.mem_iff_getElem?]
    exact ⟨k, by rw [List.getElem?_take, if_pos (by omega)]; exact hy⟩
  · rw [List.any_eq_true]
    exact ⟨_, hn, by simp⟩
theorem addz (a : Addr) : a.add 0 = a := by
  unfold Addr.add
  split <;> simp_all
theorem bhB_at {L : List Lb} {r : ByteArray} (i : Nat) (x : ByteArray) (h : (cloW L r).N[i + 1]? = some x) : bhB L (cloW L r).N x (i + 1) = true := by
  obtain ⟨hi, rfl⟩ := List.getElem?_eq_some_iff.1 h
  exact bhB_yes hi
theorem dep_at {L : List Lb} {r : ByteArray} (i : Nat) (x y : ByteArray) (h : (cloW L r).N[i]? = some x) (k : (cloW L r).N[i + 1]? = some y) : depW L r x ≤ depW L r y := by
  obtain ⟨hi, rfl⟩ := List.getElem?_eq_some_iff.1 h
  obtain ⟨hj, rfl⟩ := List.getElem?_eq_some_iff.1 k
  exact dep_mono hj
set_option maxRecDepth 100000 in
set_option maxHeartbeats 6400000 in
theorem walk (s : SpecIn) (root : Int) (w : World) (hs : s.In w) (wn : (Lit.int .i64 root).wf = true) :
    Calls Try.prog 3 #[.agg s.cs, .int .i64 root] w fun e w' => e = .returned (.bool true) ∧ Below w.heap.size w w' := by
  have HA := Lib.hid (fun v => awake_any v)
  obtain ⟨R, hR⟩ : ∃ R, w.heap.size = R := ⟨_, rfl⟩
  have HLS := Lib.hid (fun v (hv : Below R w v) => list_any s v (in_below hs hR.symm hv))
  have HR := Lib.hid hR
  obtain ⟨m, hm⟩ : ∃ m, cntS s.many = m := ⟨_, rfl⟩
  rw [hm] at HLS
  have hm1 : 0 < m ∧ m ≤ 16 := by rw [← hm]; unfold cntS; omega
  obtain ⟨L, hL⟩ : ∃ L, specL s.nd m = L := ⟨_, rfl⟩
  rw [hL] at HLS
  obtain ⟨t0, t1, p1, p2, p3, p4, p5, p6, p7, p8⟩ := pickG_eq hm1.1 hm1.2 root
  obtain ⟨q, hq⟩ : ∃ q, pickG m root = q := ⟨_, rfl⟩
  rw [hq] at p4 p5 p8
  have hqw : IntKind.i64.wrap (q : Int) = (q : Int) := IntWalk.i64_in _ (by omega)
  obtain ⟨d1, d2, d3, d4⟩ := spec_ord (nd := s.nd) hm1.2 p5
  obtain ⟨g1, g2, g3⟩ := spec_there (nd := s.nd) hm1.2 p5
  have hth := fun i (h : i < m) => spec_there (nd := s.nd) hm1.2 h
  rw [hL] at d1 d2 d3 d4 g1 hth
  have hat : ∀ i (h : i < L.length), L[i].need = needOf L (nameN i) := fun i h => by
    have h' := h
    rw [← hL, specL_len] at h'
    rw [(hth i h').2.2]
    subst hL
    rw [specL_at]
  have hlen : L.length = m := by rw [← hL, specL_len]
  have HT := Lib.hid (And.intro d1 (And.intro d4 (And.intro g1 (And.intro hat hlen))))
  have HNM := Lib.hid (show ∀ v, Calls Try.prog 7 #[.int .i64 q] v fun e w' => e = .returned (.string (nameN q)) ∧ Below v.heap.size v w' from fun v => by
    have h := name_any (q : Int) v
    rw [nameB_nat (by omega)] at h
    exact h)
  have hmne : ((m : Int) == 0) = false := by simp; omega
  have hrs : (nameN q).size ≤ maxLen := by rw [nameN_size]; decide
  unfold SpecIn.cs at HLS ⊢
  obtain ⟨l0, hl0⟩ : ∃ l0, s.nd.length = l0 := ⟨_, rfl⟩
  rw [hl0] at HLS ⊢
  have hK0 := Blk.new w 24 #[.slice s.A l0 s.c, .int .i64 s.many]
  have hB0 : Below R w (w.alloc (.cells #[.slice s.A l0 s.c, .int .i64 s.many] 24)) := by rw [← hR]; exact (Below.refl _ _).alloc (Nat.le_refl _) _
  rw [hR] at hK0
  obtain ⟨W0, hW0⟩ : ∃ W0, w.alloc (.cells #[.slice s.A l0 s.c, .int .i64 s.many] 24) = W0 := ⟨_, rfl⟩
  rw [hW0] at hK0 hB0
  have HW := Lib.hid (And.intro hK0 (And.intro hB0 hW0))
  clear hs hm hL hq d1 d4 g1 g2 g3 hth hat hK0 hB0 hW0 hl0 wn p2
  go_enter Try.func3, Try.ntmps3
  go_upto_region 1 with fail
  rw [HW.out.2.2]
  clear hR
  go_upto_region 4 with (first
    | (go_at_call 4; refine (HA.out _).mono ?_; rintro e v1 ⟨rfl, hb1⟩; have HB1 := Lib.hid (HW.out.2.1.trans (hb1.mono (by have := HW.out.1.lt; omega))); have hbk := HW.out.1.below hb1 HW.out.1.lt; have x0 := hbk.cell 0; have x1 := hbk.cell 1; clear hb1 hbk)
    | (go_at_call 5; refine (HLS.out _ HB1.out).mono ?_; rintro e v2 ⟨A5, c5, rfl, hrow, hb2⟩; have HB2 := Lib.hid (HB1.out.trans (hb2.mono (by have := HB1.out.size; have := HR.out; omega))); have HROW := Lib.hid hrow; clear hb2 hrow x0 x1))
  have hlen := HT.out.2.2.2.2
  have hOR := fun v (hv : Below v2.heap.size v2 v) => order_any L (nameN q) A5 c5 v (HROW.out.below rfl hv) (by omega) hrs
  have hMI := fun v (hv : Below v2.heap.size v2 v) => missing_any L (nameN q) A5 c5 v (HROW.out.below rfl hv) (by omega) hrs
  have hDE := fun x (hx : x.size ≤ maxLen) v (hv : Below v2.heap.size v2 v) => depth_any L (nameN q) x A5 c5 v (HROW.out.below rfl hv) (by omega) hrs hx
  rw [hlen] at hOR hMI hDE
  have HOR := Lib.hid hOR
  have HMI := Lib.hid hMI
  have HDE := Lib.hid hDE
  have HLW := Lib.hid (show Below w.heap.size w v2 from by rw [HR.out]; exact HB2.out)
  clear hlen hOR hMI hDE HB1 HB2 HLS HW
  rcases HT.out.1 with hE | ⟨hE, hM⟩
  · have hNe : ordN L (nameN q) = (cloW L (nameN q)).N := by unfold ordN; rw [if_pos hE]
    have hI := clo_inv L (nameN q)
    have hbh := fun i x => bhB_at (L := L) (r := nameN q) i x
    have hdp := fun i x y => dep_at (L := L) (r := nameN q) i x y
    have hroot := (hI.root HT.out.2.2.1).1
    have hnd := hI.nd
    have hnms := HT.out.2.1
    obtain ⟨N, hN⟩ : ∃ N, (cloW L (nameN q)).N = N := ⟨_, rfl⟩
    simp only [hN] at hNe hbh hdp hroot hnd hnms d2 d3
    obtain ⟨n, hn⟩ : ∃ n, N.length = n := ⟨_, rfl⟩
    rw [hn] at d2 d3
    have HE := Lib.hid (And.intro hE (And.intro hNe hn))
    have HBH := Lib.hid hbh
    have HDP := Lib.hid hdp
    have HND := Lib.hid (And.intro hnd (And.intro hroot hnms))
    clear hE hNe hI hbh hdp hroot hnd hnms hN hn
    go_upto_region 7 with (first
      | (go_at_call 7; with_reducible refine (HNM.out _).mono ?_; rintro e v3 ⟨rfl, hb3⟩; have HB3 := Lib.hid hb3; clear hb3)
      | (go_at_call 6; (with_reducible refine (HOR.out _ HB3.out).mono ?_); rintro e v4 ⟨A6, c6, he, hr6, hb4⟩; rw [HE.out.1, HE.out.2.1, HE.out.2.2] at he; subst he; rw [HE.out.2.1] at hr6; have HR6 := Lib.hid hr6; have HB4 := Lib.hid (HB3.out.trans (hb4.mono HB3.out.size)); clear hb4 hr6))
    have hn0 : ((n : Int) == 0) = false := by simp; omega
    obtain ⟨ao, rfl, hblo, o0, -⟩ := HR6.out 0 (by rw [HE.out.2.2]; exact d2)
    have hN0 : N[0]'(by rw [HE.out.2.2]; exact d2) = nameN q := (List.getElem?_eq_some_iff.1 HND.out.2.1).2
    rw [hN0, addz] at o0
    have hnp : (0 : Int) < (n : Int) := by omega
    have HOC := Lib.hid (fun v (hv : Below v4.heap.size v4 v) => show StrRow v (some ao) N from strRow_belowG HR6.out rfl hv)
    clear hN0 HMI HOR
    go_cut [60] from 50 to 59 (fun b wx => b = .bool false ∧ Hid (Below v4.heap.size v4 wx))
    case first =>
      go_region_law (first
        | (go_simp; go_at_call 7; refine (HNM.out _).mono ?_; rintro e v5 ⟨rfl, hb5⟩
           have o1 := (hb5.cell (p := ao) hblo).trans o0
           have HB5 := Lib.hid (((Below.refl v4.heap.size v4).drew).trans hb5)
           clear hb5))
      all_goals
        go_wp2_with fail
        go_meet
        exact ⟨by simp, HB5⟩
    case rest =>
      obtain ⟨b, hb60, HB5⟩ : ∃ b, b = Value.bool false ∧ Hid (Below v4.heap.size v4 wc) := ⟨_, rfl, hcut.2⟩
      obtain ⟨hcut, -⟩ := hcut
      subst hcut
      clear o0 hb60
      have HB6 := Lib.hid (HB4.out.trans (HB5.out.mono HB4.out.size))
      have HO6 := Lib.hid (fun v (hv : Below wc.heap.size wc v) => HOC.out v (HB5.out.trans (hv.mono HB5.out.size)))
      clear HB5 HOC
      obtain ⟨v5, hv5⟩ : ∃ v5, wc = v5 := ⟨_, rfl⟩
      rw [hv5] at HB6 HO6 ⊢
      clear hv5
      go_wp2_with fail
      go_loopw [10] (fun z wr => ∃ i : Nat, 1 ≤ i ∧ i ≤ n ∧ z = .int .i64 i ∧ Hid (Below v5.heap.size v5 wr)) (fun z _ => n - (intOf z).toNat)
      case atStart => exact ⟨1, Nat.le_refl _, by omega, rfl, Lib.hid (Below.refl _ _)⟩
      case round =>
        obtain ⟨i, hi1, hin, rfl, HB7⟩ := hrel
        by_cases hlt : i < n
        · obtain ⟨p, hp⟩ : ∃ p, p + 1 = i := ⟨i - 1, by omega⟩
          have hNl : N.length = n := HE.out.2.2
          obtain ⟨x, hx⟩ : ∃ x, N[i]'(by omega) = x := ⟨_, rfl⟩
          have hxo : N[p + 1]? = some x := by rw [hp, List.getElem?_eq_getElem (by omega), hx]
          obtain ⟨y0, hy0⟩ : ∃ y, N[p]'(by omega) = y := ⟨_, rfl⟩
          have hyo : N[p]? = some y0 := by rw [List.getElem?_eq_getElem (by omega), hy0]
          have HFA := Lib.hid (And.intro (HBH.out p x hxo) (HDP.out p y0 x hyo hxo))
          have hsz : ∀ z ∈ N, z.size ≤ maxLen := fun z hz => by
            obtain ⟨a, _, rfl⟩ := HND.out.2.2 z hz
            rw [nameN_size]; decide
          have hd1 := fun v hv => HDE.out x (hsz x (List.mem_of_getElem? hxo)) v hv
          have hd2 := fun v hv => HDE.out y0 (hsz y0 (List.mem_of_getElem? hyo)) v hv
          have HCE := Lib.hid (fun v (hv : Below v5.heap.size v5 v) (j : Nat) (z : ByteArray) (hz : N[j]? = some z) => show v.cell? (ao.add j) = some (.string z) from by
            obtain ⟨hj, rfl⟩ := List.getElem?_eq_some_iff.1 hz
            obtain ⟨ad, e1, _, e2, _⟩ := HO6.out v hv j hj
            injection e1 with e1
            subst e1
            exact e2)
          have hne : ∀ (k : Nat) (z : ByteArray), k < i → N[k]? = some z → z ≠ x := fun k z hk hz e => by
            obtain ⟨hk2, rfl⟩ := List.getElem?_eq_some_iff.1 hz
            rw [← hx] at e
            have := (List.getElem_inj (h₀ := hk2) (h₁ := by omega) HND.out.1).1 e
            omega
          have hxi : N[i]? = some x := by rw [← hp]; exact hxo
          have HD1 := Lib.hid hd1
          have HD2 := Lib.hid hd2
          have HNE := Lib.hid hne
          have HP := Lib.hid hp
          have HPX := Lib.hid (And.intro hxi hyo)
          clear hxi
          clear hNl hx hxo hy0 hyo hsz hd1 hd2 hne hp
          go_wp2_with fail
          go_loopw [11, 12] (fun b z wr => ∃ k : Nat, k ≤ i ∧ z = .int .i64 k ∧ b = .bool (bhB L N x k) ∧ Hid (Below v5.heap.size v5 wr)) (fun _ z _ => i - (intOf z).toNat)
          case atStart => exact ⟨0, Nat.zero_le _, rfl, rfl, HB7⟩
          case round =>
            obtain ⟨k, hki, rfl, rfl, HB8⟩ := hrel
            have hci := HCE.out _ HB8.out i x HPX.out.1
            by_cases hlk : k < i
            · have hk2 : k < N.length := by rw [HE.out.2.2]; omega
              have hck := HCE.out _ HB8.out k _ (List.getElem?_eq_getElem hk2)
              obtain ⟨a, ham, hya⟩ := HND.out.2.2 _ (List.getElem_mem hk2)
              have hnx := HNE.out k _ hlk (List.getElem?_eq_getElem hk2)
              rw [hya] at hck hnx
              have hsb : ((nameN a).toList == x.toList) = false := beq_eq_false_iff_ne.2 (fun e => hnx (by
                rw [← mkb_of (nameN a), ← mkb_of x]
                rw [Lib.toList_data, Lib.toList_data] at e
                rw [e]))
              have hsc := bhB_succ (L := L) (N := N) (x := x) hk2
              rw [hya] at hsc
              have hix := fun v => nameN_at (i := a) (by omega) v
              have hal : a < L.length := by rw [HT.out.2.2.2.2]; exact ham
              obtain ⟨al, An, cn, rfl, hblt, hlb⟩ := HROW.out a hal
              have hne2 := HT.out.2.2.2.1 a hal
              have HLB := Lib.hid (fun v (hv : Below v5.heap.size v5 v) => show StrRow v An (needOf L (nameN a)) from by
                have := (hlb.below hblt rfl (HB6.out.trans (hv.mono HB6.out.size))).row
                rw [hne2] at this
                exact this)
              have c1 := (hlb.below hblt rfl (HB6.out.trans (HB8.out.mono HB6.out.size))).c1
              rw [hne2] at c1
              obtain ⟨nd, hnd⟩ : ∃ nd, needOf L (nameN a) = nd := ⟨_, rfl⟩
              have hnl : nd.length ≤ 100000 := by rw [← hnd, ← hne2]; exact hlb.len
              rw [hnd] at c1 HLB hsc
              obtain ⟨nl, hnl2⟩ : ∃ nl, nd.length = nl := ⟨_, rfl⟩
              rw [hnl2] at c1 hnl
              have HNL := Lib.hid hnl2
              obtain ⟨bb, hbb⟩ : ∃ bb, bhB L N x k = bb := ⟨_, rfl⟩
              rw [hbb] at hsc ⊢
              have HSC := Lib.hid hsc
              have ha97 : IntKind.u8.wrap (((97 + a : Nat) : Int) - 97) = (a : Int) := by
                have e : IntKind.u8.wrap (((97 + a : Nat) : Int) - 97) = (((97 + a : Nat) : Int) - 97) % 256 := rfl
                rw [e]; omega
              have ha64 : IntKind.i64.wrap (a : Int) = (a : Int) := IntWalk.i64_in _ (by omega)
              have hk0 : (0 : Int) ≤ (k : Int) := by omega
              have hkn : (k : Int) < (n : Int) := by omega
              have hi0 : (0 : Int) ≤ (i : Int) := by omega
              have hiN : (i : Int) < (n : Int) := by omega
              have hki' : (k : Int) < (i : Int) := by omega
              have ha0 : (0 : Int) ≤ (a : Int) := by omega
              have hamI : (a : Int) < (m : Int) := by omega
              generalize hK97 : ((97 + a : Nat) : Int) = K97 at *
              have HB9 := Lib.hid (Go.Proofs.Ytinbedplmbnkaab.Below.drewN HB8.out 1)
              clear hya hnx hk2 hal hblt hlb hne2 hnd hnl2 hsc hbb hK97
              go_wp2_with fail
              go_region
              all_goals
                generalize hW1 : wr.drew = W1
                have c3 : W1.cell? (ao.add k) = some (.string (nameN a)) := by rw [← hW1]; exact hck
                clear hci hck hsb
                rw [show wr.drewN 1 = wr.drew from rfl, hW1] at HB9
                have c2 : W1.cell? ⟨(al.add (a * 2)).block, (al.add (a * 2)).off + 1, none⟩ = some (.slice An nl cn) := by rw [← hW1]; exact c1
                clear c1 hW1
                go_wp2_with fail
                clear c3
                go_loopw [11, 14] (fun b z wr => ∃ j : Nat, j ≤ nl ∧ z = .int .i64 j ∧ b = .bool (bb || (nd.take j).any fun z => decide (z = x)) ∧ Hid (Below v5.heap.size v5 wr)) (fun _ z _ => nl - (intOf z).toNat)
              case atStart => exact ⟨0, Nat.zero_le _, rfl, by simp, HB9⟩
              case round =>
                obtain ⟨j, hj, rfl, rfl, HB10⟩ := hrel
                have hci := HCE.out _ HB10.out i x HPX.out.1
                by_cases hlj : j < nl
                · have hj2 : j < nd.length := by rw [HNL.out]; exact hlj
                  obtain ⟨an, rfl, -, hcn, -⟩ := HLB.out _ HB10.out j hj2
                  have hsn : (nd.take (j + 1)).any (fun z => decide (z = x)) = ((nd.take j).any (fun z => decide (z = x)) || decide (nd[j] = x)) := by
                    rw [List.take_succ_eq_append_getElem hj2, List.any_append]
                    simp
                  have hj0 : (0 : Int) ≤ (j : Int) := by omega
                  have hjn : (j : Int) < (nl : Int) := by omega
                  obtain ⟨tb, htb⟩ : ∃ tb, (nd.take j).any (fun z => decide (z = x)) = tb := ⟨_, rfl⟩
                  rw [htb] at hsn ⊢
                  generalize nd[j] = u at *
                  have HB11 := Lib.hid (Go.Proofs.Ytinbedplmbnkaab.Below.drewN HB10.out 1)
                  by_cases hor : (bb || tb) = true
                  · have HSN := Lib.hid (show (bb || (nd.take (j + 1)).any (fun z => decide (z = x))) = true from by rw [hsn, ← Bool.or_assoc, hor]; rfl)
                    rw [hor]
                    clear hsn htb hor hj2
                    go_wp2_with fail
                    go_region
                    all_goals
                      go_wp2_with fail
                      go_roundw
                    case rel => exact ⟨j + 1, by omega, by go_num, by rw [HSN.out], HB11⟩
                    case measure => simp [intOf]; omega
                  · have hor' : (bb || tb) = false := by simpa using hor
                    rw [hor']
                    by_cases hux : u = x
                    · have HSN := Lib.hid (show (bb || (nd.take (j + 1)).any (fun z => decide (z = x))) = true from by rw [hsn, decide_eq_true hux]; simp)
                      subst hux
                      clear hsn htb hor hor' hj2
                      go_wp2_with fail
                      go_region
                      all_goals
                        go_wp2_with fail
                        go_roundw
                      case rel => exact ⟨j + 1, by omega, by go_num, by rw [HSN.out], HB11⟩
                      case measure => simp [intOf]; omega
                    · have HSN := Lib.hid (show (bb || (nd.take (j + 1)).any (fun z => decide (z = x))) = false from by rw [hsn, decide_eq_false hux, ← Bool.or_assoc, hor']; rfl)
                      have hsb : (u.toList == x.toList) = false := beq_eq_false_iff_ne.2 (fun e => hux (by
                        rw [← mkb_of u, ← mkb_of x]
                        rw [Lib.toList_data, Lib.toList_data] at e
                        rw [e]))
                      clear hsn htb hor hor' hj2 hux
                      go_wp2_with fail
                      go_region
                      all_goals
                        go_wp2_with fail
                        go_roundw
                      case rel => exact ⟨j + 1, by omega, by go_num, by rw [HSN.out], HB11⟩
                      case measure => simp [intOf]; omega
                · obtain rfl : j = nl := by omega
                  have HF := Lib.hid (show (bb || (nd.take j).any (fun z => decide (z = x))) = bhB L N x (k + 1) from by rw [HSC.out, List.take_of_length_le (by rw [HNL.out]; exact Nat.le_refl _)])
                  rw [HF.out]
                  clear hci
                  go_wp2_with fail
                  go_roundw
                  case rel => exact ⟨k + 1, by omega, by go_num, rfl, HB10⟩
                  case measure => simp [intOf]; omega
            · obtain rfl : k = i := by omega
              have hbt : bhB L N x k = true := by
                have := HFA.out.1
                rw [HP.out] at this
                exact this
              rw [hbt]
              clear hbt
              have hcp := HCE.out _ HB8.out p y0 HPX.out.2
              have hc0 := HCE.out _ HB8.out 0 _ HND.out.2.1
              rw [addz] at hc0
              have hle : ¬ (depW L (nameN q) x < depW L (nameN q) y0) := by have := HFA.out.2; omega
              generalize depW L (nameN q) x = dx at *
              generalize depW L (nameN q) y0 = dy at *
              have hpw : IntKind.i64.wrap ((k : Int) - 1) = (p : Int) := by rw [show (k : Int) - 1 = (p : Int) by have := HP.out; omega]; exact IntWalk.i64_in _ (by have := HP.out; omega)
              have hk0 : (0 : Int) ≤ (k : Int) := by omega
              have hkn : (k : Int) < (n : Int) := by omega
              have hp0 : (0 : Int) ≤ (p : Int) := by omega
              have hpn : (p : Int) < (n : Int) := by have := HP.out; omega
              have n0 : wr.drew.cell? ao = some (.string (nameN q)) := hc0
              have n1 : wr.drew.cell? (ao.add k) = some (.string x) := hci
              have n2 : wr.drew.cell? (ao.add p) = some (.string y0) := hcp
              have nB := Lib.hid (show Below v5.heap.size v5 wr.drew from Go.Proofs.Ytinbedplmbnkaab.Below.drewN HB8.out 1)
              go_wp2_with fail
              go_region_held3 (fun w' => w'.cell? ao = some (.string (nameN q)) ∧ w'.cell? (ao.add k) = some (.string x) ∧ w'.cell? (ao.add p) = some (.string y0) ∧ Hid (Below v5.heap.size v5 w'))
                (first | exact ⟨n0, n1, n2, nB⟩)
                (first
                | (go_at_call 9; (with_reducible refine (HD1.out _ (HB6.out.trans (nB.out.mono HB6.out.size))).mono ?_); rintro e v8 ⟨rfl, hb8⟩; rcases ‹(_ : Prop) ∧ _ ∧ _ ∧ Hid _› with ⟨j0, j1, j2, j3⟩; have hbb := nB.out.trans (hb8.mono nB.out.size); clear n0 n1 n2 nB j0 j1 j2 j3; have n0 : v8.cell? ao = some (.string (nameN q)) := (by have h := HCE.out _ hbb 0 _ HND.out.2.1; rw [addz] at h; exact h); have n1 := HCE.out _ hbb k x HPX.out.1; have n2 := HCE.out _ hbb p y0 HPX.out.2; have nB := Lib.hid hbb; clear hb8 hbb)
                | (go_at_call 9; (with_reducible refine (HD2.out _ (HB6.out.trans (nB.out.mono HB6.out.size))).mono ?_); rintro e v8 ⟨rfl, hb8⟩; rcases ‹(_ : Prop) ∧ _ ∧ _ ∧ Hid _› with ⟨j0, j1, j2, j3⟩; have hbb := nB.out.trans (hb8.mono nB.out.size); clear n0 n1 n2 nB j0 j1 j2 j3; have n0 : v8.cell? ao = some (.string (nameN q)) := (by have h := HCE.out _ hbb 0 _ HND.out.2.1; rw [addz] at h; exact h); have n1 := HCE.out _ hbb k x HPX.out.1; have n2 := HCE.out _ hbb p y0 HPX.out.2; have nB := Lib.hid hbb; clear hb8 hbb))
              all_goals
                rcases ‹(_ : Prop) ∧ _ ∧ _ ∧ Hid _› with ⟨j0, j1, j2, j3⟩
                go_wp2_with fail
                go_roundw
              case rel => exact ⟨k + 1, by omega, by omega, by go_num, j3⟩
              case measure => simp [intOf]; omega
        · obtain rfl : i = n := by omega
          go_wp2
          go_ret
          exact ⟨rfl, HLW.out.trans ((HB6.out.trans (HB7.out.mono HB6.out.size)).mono HLW.out.size)⟩
  · have hNe : ordN L (nameN q) = [] := by unfold ordN; rw [if_neg (by rw [hE]; decide)]
    have HE := Lib.hid (And.intro hE hNe)
    obtain ⟨ml, hml⟩ : ∃ ml, (cloW L (nameN q)).M.length = ml := ⟨_, rfl⟩
    rw [hml] at hM
    have HML := Lib.hid hml
    have hM' : (0 : Int) < (ml : Int) := by omega
    clear hE hNe hml
    go_wp2_with (first
      | (go_at_call 7; with_reducible refine (HNM.out _).mono ?_; rintro e v3 ⟨rfl, hb3⟩; first | (have HB5 := Lib.hid (HB4.out.trans (hb3.mono HB4.out.size)); clear hb3) | (have HB3 := Lib.hid hb3; clear hb3))
      | (go_at_call 6; (with_reducible refine (HOR.out _ HB3.out).mono ?_); rintro e v4 ⟨A6, c6, he, hr6, hb4⟩; rw [HE.out.1, HE.out.2] at he; subst he; have HB4 := Lib.hid (HB3.out.trans (hb4.mono HB3.out.size)); clear hb4 hr6)
      | (go_at_call 8; (with_reducible refine (HMI.out _ HB5.out).mono ?_); rintro e v6 ⟨u, rfl, A7, c7, hu, hr7, hb6⟩; rw [HML.out] at hu; subst hu; have HB6 := Lib.hid (HB5.out.trans (hb6.mono HB5.out.size)); clear hb6 hr7))
    go_ret
    exact ⟨by simp, HLW.out.trans (HB6.out.mono HLW.out.size)⟩

set_option maxRecDepth 100000 in
theorem lifted (os : Os) (started : os.Started) (H : Type) (enc : TypeId × Value → H) :
    ReturnsInHanded {} Try.checked os 3 .any (Rows.needsOrderSpec.pre6 enc Try.prog Try.f3 Rows.needsOrderRow.domain false) (Rows.needsOrderSpec.post enc Try.prog Try.f3 false true false false) := by
  refine returnsInHanded_of_change (C := Try.checked) own started (by kernel_rfl) Try.func3
    (ChangeSpec.witness6 (enc := enc) (C := Try.checked) false ⟨#[], #[zspecV, .int .i64 0], []⟩ 8 (by kernel_rfl) (by kernel_rfl) (by kernel_rfl) (by kernel_rfl)) ?_
  intro W base args ds gs before hval0 hW hcnd _
  have hval : ∀ (j : Nat) t v, Try.f3.params[j]? = some t → args[j]? = some v → Value.okWide Try.prog W .any base t v := hval0
  have hW' := hW
  obtain ⟨p, q, hA0, hV, rfl, hfz, hnd⟩ := hW
  have hA : DataW.TrodAll enc Try.prog W 0 (fun _ => true) true Try.f3.params.toList args.toList ds p := hA0
  rw [Try.params3] at hA hval
  obtain ⟨v0, vs0, d0, ds0, p0, q0, hargs, rfl, rfl, h0, r0⟩ := trodAll_cons hA
  obtain ⟨v1, vs1, d1, ds1, p1, q1, rfl, rfl, rfl, h1, r1⟩ := trodAll_cons r0
  obtain ⟨rfl, rfl, rfl⟩ := trodAll_nil r1
  obtain rfl : args = #[v0, v1] := by cases args; simp_all
  obtain ⟨rfl, rfl⟩ := trodVars_none hV
  have k0 := h0
  have lt0 : ∀ x ∈ p0, x.block < W.heap.size := by obtain ⟨m, hm⟩ := k0; exact DataW.trod_lt m _ _ _ hm
  obtain ⟨a0, rfl, w0⟩ := open_specG (hval 0 24 v0 rfl rfl) h0
  have k1 := h1
  have lt1 : ∀ x ∈ p1, x.block < W.heap.size := by obtain ⟨m, hm⟩ := k1; exact DataW.trod_lt m _ _ _ hm
  obtain ⟨a1, rfl, _, _, w1⟩ := open_int Try.underlying3 (hval 1 3 v1 rfl rfl) h1
  clear hA0 hval0
  refine (walk a0 a1 W w0 w1).mono fun e W' ⟨he, bel⟩ => ?_
  subst he
  exact ⟨_, rfl, _, _, _, [], _, [], hW', trodAll_mk1 (shut_bool Try.underlying4 _), (trodAll_cons_mk (Below.trod laidOut (by kernel_rfl) (of_decide_eq_true (by kernel_rfl)) k0 bel lt0) (trodAll_cons_mk (Below.trod laidOut (by kernel_rfl) (of_decide_eq_true (by kernel_rfl)) k1 bel lt1) trodAll_mk0)), rfl, bel.frame _, fun h => by cases h⟩
theorem over : Rows.needsOrderRow.holds Try.pinned (OpenSpec.ofChange Rows.needsOrderSpec) :=
  OpenClaim.holds_of_wide 3 Try.f3 rfl rfl rfl rfl rfl rfl rfl ⟨rfl, rfl, rfl, rfl, rfl⟩ rfl rfl rfl rfl rfl (by kernel_rfl) Try.func3 (by kernel_rfl)
    (of_decide_eq_true (by kernel_rfl)) (by unfold Func.isWrapper; first | (rw [if_pos (by decide +kernel)]; kernel_rfl) | (rw [if_neg (by decide +kernel)]; exact ⟨rfl, rfl⟩))
    (fun os started H enc _ => lifted os started H enc)
/-- The statement. -/
theorem proved : Rows.NeedsOrderSaid := over
end Go.Proofs.Ytinbedplmbnkaab.lawOrder
