/- BlockOf: for any row of texts (ten at most, cut to 100 bytes): a disk of sectors has these, filled or cut. -/
import Derived.Test.YtialbdpfgkefjaaBH
namespace Go.Proofs.Ytialbdpfgkefjaa.lawOf
open Go.ChangeShapes Go.WideShapes Go.ChangeAt Go.RowKit
set_option linter.unusedVariables false

/-- A text of at most so many bytes. -/
def cutS (s : ByteArray) (n : Nat) : ByteArray := if n < s.size then s.extract 0 n else s
theorem cutS_size (s : ByteArray) (n : Nat) : (cutS s n).size ≤ n := by
  unfold cutS
  split
  · rw [extract_mkb, mkb_size, List.length_take]; omega
  · omega
set_option maxHeartbeats 400000 in
theorem short_any (s : ByteArray) (n : Nat) (w : World) (hs : s.size ≤ maxLen) (hn : n ≤ 1000) :
    Calls Try.prog 22 #[.string s, .int .i64 n] w fun e w' => e = .returned (.string (cutS s n)) ∧ w = w' := by
  unfold maxLen at hs
  by_cases h : n < s.size
  · have e : cutS s n = s.extract 0 n := by unfold cutS; simp [h]
    rw [e]; clear e
    go_enter Try.func22, Try.ntmps22
    go_wp2
    go_ret
    exact ⟨rfl, rfl⟩
  · have e : cutS s n = s := by unfold cutS; simp [h]
    rw [e]; clear e
    go_enter Try.func22, Try.ntmps22
    go_wp2
    go_ret
    exact ⟨rfl, rfl⟩

/-- What was put together in k rounds. -/
def mL (ss : List ByteArray) (k : Nat) : List ByteArray := (ss.take k).map (cutS · 100)
theorem mL_succ (ss : List ByteArray) {k : Nat} (h : k < ss.length) : strs (mL ss (k + 1)) = strs (mL ss k) ++ [.string (cutS ss[k] 100)] := by
  unfold mL strs
  rw [List.take_succ_eq_append_getElem h, List.map_append, List.map_append]
  rfl
theorem mL_length (ss : List ByteArray) {k : Nat} (h : k ≤ ss.length) : (mL ss k).length = k := by simp [mL]; omega
theorem mL_size (ss : List ByteArray) (k : Nat) : ∀ s ∈ mL ss k, s.size ≤ 281474976710656 := by
  intro s hs
  obtain ⟨t, _, rfl⟩ := List.mem_map.1 hs
  have := cutS_size t 100
  omega
theorem own_slice {w : World} {B e n : Nat} {v : Value} {xs : List Value} (h : w.ownsRow B e 1 v n xs) : ∃ A c, v = .slice A n c := by
  rcases h.2 with ⟨rfl, h0⟩ | ⟨g, cap, cur, hv, _⟩
  · subst h0
    exact ⟨none, 0, rfl⟩
  · exact ⟨_, _, hv⟩

set_option maxRecDepth 100000 in
set_option maxHeartbeats 3200000 in
theorem walk (A : Option Addr) (ss : List ByteArray) (c : Nat) (w : World) (hm : ss.length ≤ maxLen) (hz : StrRow w A ss) :
    Calls Try.prog 4 #[.slice A ss.length c] w fun e w' => e = .returned (.bool true) ∧ Below w.heap.size w w' := by
  unfold maxLen at hm
  obtain ⟨i0, hi, hz0, hz1, hz2⟩ := info_parts infoStr
  have HA := Lib.hid (fun w => awake3_any w)
  have HZ := Lib.hid hz
  clear hz
  have hB := Below.refl w.heap.size w
  go_enter Try.func4, Try.ntmps4
  go_wp2_with (go_at_call 9; refine (HA.out _).mono ?_; rintro e v1 ⟨rfl, hb⟩; replace hB := hB.trans (hb.mono hB.size); clear hb)
  go_loopw [4, 5] (fun m i wr => ∃ (k : Nat), k ≤ ss.length ∧ k ≤ 10 ∧ i = .int .i64 k ∧ Below w.heap.size w wr ∧ wr.ownsRow w.heap.size 9 1 m k (strs (mL ss k))) (fun _ i _ => ss.length - (intOf i).toNat)
  case atStart => exact ⟨0, Nat.zero_le _, by omega, rfl, hB, World.ownsRow_nil _ _ _ _⟩
  case round =>
    obtain ⟨k, hk, hk10, rfl, hB, hown⟩ := hrel
    by_cases hlt : k < ss.length ∧ k < 10
    · obtain ⟨h1, h2⟩ := hlt
      obtain ⟨ad, rfl, hab, hc, hsz⟩ := HZ.out k h1
      have hblk : (ad.add k).block < w.heap.size := by rw [show (ad.add k).block = ad.block by unfold Addr.add; split <;> rfl]; exact hab
      have hc1 : wr.cell? (ad.add k) = some (.string ss[k]) := (hB.cell (p := ad.add k) hblk).trans hc
      have HM := Lib.hid (mL_succ ss h1)
      have HF := Lib.hid (fun w => short_any ss[k] 100 w hsz (by omega))
      have HO := Lib.hid hown
      have HB := Lib.hid hB
      clear hc hsz hown hB
      generalize cutS ss[k] 100 = F at *
      generalize ss[k] = s at *
      go_wp2_with (first
        | (go_at_call 22; refine (HF.out _).mono ?_; rintro e v3 ⟨rfl, rfl⟩)
        | (refine wpList_append_lies _ (by rfl) (.tmp 22) (.tmp 28) _ (by rfl) w.heap.size 9 i0 _ 1 16 Try.underlying37 hi hz0 hz1 hz2 rfl (by omega) _ k (strs (mL ss k)) (by rfl) (HO.out.alloc _)
             ⟨wr.heap.size, 0, none⟩ 1 1 [.string F] (by rfl) (by rfl) (World.news_of_block (cs := #[.string F]) (t := 9) (fr := (0, 0)) (heap_alloc_new wr _)) (by simp [Value.oneCell'])
             (by omega) (by unfold maxLen; omega) (by omega) (by have := HB.out.size; simp; omega) (wr.heap.size + 1) (by simp) ?_; intro gg cap w1 hown1 hgrow hat hlt1
           have HO1 := Lib.hid hown1
           have HG1 := Lib.hid hgrow
           clear hown1 hgrow hat))
      go_roundw
      case rel => exact ⟨k + 1, by omega, by omega, by go_num, (HB.out.alloc HB.out.size (.cells #[.string F] 9)).grown HG1.out (by have := HB.out.size; simp; omega) (fun j e => (HO.out.lt j e).1), by rw [HM.out]; exact HO1.out⟩
      case measure => simp [intOf]; omega
    · have hl2 : (k < ss.length ∧ ¬ k < 10) ∨ ¬ k < ss.length := by omega
      have hlen := mL_length ss hk
      have hsz := mL_size ss k
      clear hlt HZ
      generalize mL ss k = l at *
      by_cases hk0 : k = 0
      · subst hk0
        obtain ⟨B, cc, rfl⟩ := own_slice hown
        have H1 := Lib.hid (fun w => of_no B 0 cc w (by omega) (by omega))
        have H2 := Lib.hid (fun w => rof_no B 0 cc w (by omega) (by omega))
        have HB := Lib.hid hB
        clear hown hlen hsz hB
        rcases hl2 with ⟨h1, h2⟩ | h1
        · exact absurd h2 (by omega)
        · go_wp2_with (first
            | (go_at_call 23; refine (H1.out _).mono ?_; rintro e v3 ⟨rfl, rfl⟩)
            | (go_at_call 24; refine (H2.out _).mono ?_; rintro e v4 ⟨rfl, rfl⟩))
          go_ret
          exact ⟨rfl, HB.out⟩
      · obtain ⟨gm, cm, rfl, hg1, hg2⟩ := hown.form (by omega)
        have hcells : ∀ v, Below wr.heap.size wr v → ∀ i (hi : i < l.length), v.cell? ((⟨gm, 0, none⟩ : Addr).add i) = some (.string l[i]) := fun v hb i hi => by
          have hx := hown.cells (g := gm) rfl i (.string l[i]) (by simp [strs, hi])
          rw [hb.cell (by rw [show ((⟨gm, 0, none⟩ : Addr).add i).block = gm by unfold Addr.add; split <;> rfl]; exact hg2)]
          exact hx
        have h1 := of_made ⟨gm, 0, none⟩ l cm wr (by omega) (by omega) hg2 (hcells wr (Below.refl _ _))
        have h2 := fun v (hb : Below wr.heap.size wr v) => rof_yes ⟨gm, 0, none⟩ l cm v (by omega) (by omega) (Nat.lt_of_lt_of_le hg2 hb.size) (hcells v hb) hsz
        rw [hlen] at h1 h2
        have H1 := Lib.hid h1
        have H2 := Lib.hid h2
        have HB := Lib.hid hB
        have hk1 : Hid (1 ≤ k) := Lib.hid (by omega)
        have HN := Lib.hid hlen
        clear hown hlen hsz hB h1 h2 hcells hk0 hg1 hg2
        rcases hl2 with ⟨h1, h2⟩ | h1
        all_goals
          go_wp2_with (first
            | (go_at_call 23; refine H1.out.mono ?_; rintro e v3 ⟨p, g, rfl, hp, hg, hb3, hd⟩; have HB3 := Lib.hid hb3; clear hb3)
            | (go_at_call 24; refine (H2.out _ HB3.out).mono ?_; rintro e v4 ⟨q, hh, cap, rfl, hb4, hr⟩; have HB4 := Lib.hid hb4; clear hb4))
          have k1 := HB.out.trans (HB3.out.mono HB.out.size)
          have k2 := Lib.hid (k1.trans (HB4.out.mono k1.size))
          have hd4 := hd.below HB4.out hd.head.lt hd.row.lt
          have hpq : p ≠ q := by have := hd.head.lt; have := hr.base; omega
          have hph : p ≠ hh := by have := hd.head.lt; have := hr.low.1; omega
          have hpw : w.heap.size ≤ p := Nat.le_trans HB.out.size hp
          have HD := Lib.hid hd4
          have HR := Lib.hid hr
          clear hd hd4 hr k1
          go_loopw [8] (fun i wx => ∃ (t : Nat) (E : Dsk), t ≤ k ∧ i = .int .i64 t ∧ E.S = l.map fill64 ∧ Below w.heap.size w wx ∧ Dk wx p g E ∧ Rk wx v3.heap.size q hh cap ⟨l.map fill64, 0, 0, 0⟩) (fun i _ => k - (intOf i).toNat)
          case atStart => exact ⟨0, _, by omega, rfl, rfl, k2.out, HD.out, HR.out⟩
          case round =>
            clear HD HR
            obtain ⟨t, E, ht, rfl, hES, hBx, hdx, hrx⟩ := hrel
            by_cases htk : t < k
            · have hl := HN.out
              have hh1 : E.has t = true := has_of (by omega) (by rw [hES, List.length_map]; omega)
              have hlt : t < (l.map fill64).length := by rw [List.length_map]; omega
              have e1 : E.rdS t = (l.map fill64)[t] := by
                unfold Dsk.rdS
                rw [if_pos hh1, hES, Int.toNat_natCast, List.getD, List.getElem?_eq_getElem hlt]
                rfl
              have e2 : E.rdE t = 0 := by unfold Dsk.rdE; rw [if_pos hh1]
              have hR := fun w' (h : Dk w' p g E) => read_any h t
              rw [e1, e2] at hR
              have hcell := fun w' (h : Rk w' v3.heap.size q hh cap ⟨l.map fill64, 0, 0, 0⟩) => h.own.cellAt t (by show t < (l.map fill64).length * 1; omega)
              have hsv : (strs (l.map fill64))[t]? = some (.string (l.map fill64)[t]) := by
                unfold strs
                rw [List.getElem?_map, List.getElem?_eq_getElem hlt]
                rfl
              have hhd : ∀ w', Rk w' v3.heap.size q hh cap ⟨l.map fill64, 0, 0, 0⟩ → w'.cell? ⟨q, 0, none⟩ = some (.slice (some ⟨hh, 0, none⟩) k cap) := fun w' h => by
                have hx := h.head.at_ 0 _ rfl
                rw [hx]
                show some (Value.slice _ (l.map fill64).length cap) = _
                rw [List.length_map, HN.out]
              have HRD := Lib.hid hR
              have HC := Lib.hid hcell
              have HV := Lib.hid hsv
              have HH := Lib.hid hhd
              have HE := Lib.hid ((rdD_S E t).trans hES)
              have HBX := Lib.hid hBx
              clear hR hcell hsv hhd e1 e2 hh1 hl hES hBx
              generalize (l.map fill64)[t] = F at *
              go_wp2_with (go_at_call 12; refine (HRD.out _ hdx).mono ?_; rintro e v5 ⟨rfl, hb5, hd5⟩; have hr5 := hrx.but hb5 (fun e => hpq e.symm) (fun e => hph e.symm); have c0 := HH.out _ hr5; have c1 := (HC.out _ hr5).trans HV.out; have HR5 := Lib.hid hr5; have HB5 := Lib.hid hb5; clear hr5 hb5)
              go_roundw
              case rel => exact ⟨t + 1, _, by omega, by go_num, HE.out, HBX.out.trans (HB5.out.below HBX.out.size (fun j e => by omega)), hd5, HR5.out⟩
              case measure => simp [intOf]; omega
            · obtain rfl : t = k := by omega
              have hs := sectors_any hdx
              rw [hES, List.length_map, HN.out] at hs
              have HS := Lib.hid hs
              have HBX := Lib.hid hBx
              clear hs hES hBx
              go_wp2_with (go_at_call 19; refine HS.out.mono ?_; rintro e v5 ⟨rfl, rfl⟩)
              go_ret
              exact ⟨rfl, HBX.out⟩

set_option maxRecDepth 100000 in
theorem lifted (os : Os) (started : os.Started) (H : Type) (enc : TypeId × Value → H) :
    ReturnsInHanded {} Try.checked os 4 .any (Rows.blockOfSpec.pre6 enc Try.prog Try.f4 Rows.blockOfRow.domain false) (Rows.blockOfSpec.post enc Try.prog Try.f4 false true false false) := by
  refine returnsInHanded_of_change (C := Try.checked) own started (by kernel_rfl) Try.func4
    (ChangeSpec.witness6 (enc := enc) (C := Try.checked) false ⟨#[], #[.slice none 0 0], []⟩ 8 (by kernel_rfl) (by kernel_rfl) (by kernel_rfl) (by kernel_rfl)) ?_
  intro W base args ds gs before hval0 hW hcnd _
  have hval : ∀ (j : Nat) t v, Try.f4.params[j]? = some t → args[j]? = some v → Value.okWide Try.prog W .any base t v := hval0
  have hW' := hW
  obtain ⟨p, q, hA0, hV, rfl, hfz, hnd⟩ := hW
  have hA : DataW.TrodAll enc Try.prog W 0 (fun _ => true) true Try.f4.params.toList args.toList ds p := hA0
  rw [Try.params4] at hA hval
  obtain ⟨v0, vs0, d0, ds0, p0, q0, hargs, rfl, rfl, h0, r0⟩ := trodAll_cons hA
  obtain ⟨rfl, rfl, rfl⟩ := trodAll_nil r0
  obtain rfl : args = #[v0] := by cases args; simp_all
  obtain ⟨rfl, rfl⟩ := trodVars_none hV
  have k0 := h0
  have lt0 : ∀ x ∈ p0, x.block < W.heap.size := by obtain ⟨m, hm⟩ := k0; exact DataW.trod_lt m _ _ _ hm
  obtain ⟨LA0, Ll0, Lc0, rfl, Lm0, Lr0⟩ := openStrs (hval 0 37 v0 rfl rfl) h0
  clear hA0 hval0
  refine (walk LA0 Ll0 Lc0 W Lm0 Lr0).mono fun e W' ⟨he, bel⟩ => ?_
  subst he
  exact ⟨_, rfl, _, _, _, [], _, [], hW', trodAll_mk1 (shut_bool Try.underlying4 _), (trodAll_cons_mk (Below.trod laidOut (by kernel_rfl) (of_decide_eq_true (by kernel_rfl)) k0 bel lt0) trodAll_mk0), rfl, bel.frame _, fun h => by cases h⟩
theorem over : Rows.blockOfRow.holds Try.pinned (OpenSpec.ofChange Rows.blockOfSpec) :=
  OpenClaim.holds_of_wide 4 Try.f4 rfl rfl rfl rfl rfl rfl rfl ⟨rfl, rfl, rfl, rfl, rfl⟩ rfl rfl rfl rfl rfl (by kernel_rfl) Try.func4 (by kernel_rfl)
    (of_decide_eq_true (by kernel_rfl)) (by unfold Func.isWrapper; first | (rw [if_pos (by decide +kernel)]; kernel_rfl) | (rw [if_neg (by decide +kernel)]; exact ⟨rfl, rfl⟩))
    (fun os started H enc _ => lifted os started H enc)
/-- The statement. -/
theorem proved : Rows.BlockOfSaid := over
end Go.Proofs.Ytialbdpfgkefjaa.lawOf
