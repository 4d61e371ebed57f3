/- SymbolBytes: for any name (cut to 60 bytes), any symbol, any row of names (twelve at most, cut to 8 bytes): hashes, symbols and tables are as the document says. -/
import Derived.Test.YtkembimfkoganaaYI
namespace Go.Proofs.Ytkembimfkoganaa.lawBytesY
open Go.ChangeShapes Go.WideShapes Go.ChangeAt Go.RowKit Go.Deep
open Go.ChangeMaps (open_string)
set_option linter.unusedVariables false
set_option linter.unusedSimpArgs false

set_option maxRecDepth 100000 in
set_option maxHeartbeats 3200000 in
theorem walk (s : ByteArray) (y : Sy) (A : Option Addr) (ss : List ByteArray) (c : Nat) (w : World) (ws : s.size ≤ maxLen) (wy : y.wf) (hm : ss.length ≤ maxLen) (hz : StrRow w A ss) :
    Calls Try.prog 3 #[.string s, .agg y.cs, .slice A ss.length c] w fun e w' => e = .returned (.bool true) ∧ Below w.heap.size w w' := by
  unfold maxLen at hm
  obtain ⟨i0, hi, hz0, hz1, hz2⟩ := info_parts infoStr
  have HA := Lib.hid (fun w => awakeY_any w)
  have HSH := Lib.hid (fun v => shortY_any s 60 v ws (by omega))
  have hss := shortSY_size s 60
  generalize shortSY s 60 = S at *
  have HH1 := Lib.hid (fun v => hash_any S v (by omega))
  have HH2 := Lib.hid (fun v => rhash_any S v (by omega))
  have HB1 := Lib.hid (fun v => sbytes_any y v wy)
  have HB2 := Lib.hid (fun v => rsbytes_any y v wy)
  generalize hashL S.data.toList = H at *
  generalize mkb y.bytes = BS at *
  obtain ⟨n, d, v⟩ := y
  unfold Sy.cs at *
  simp only at *
  obtain ⟨R, hR⟩ : ∃ R, w.heap.size = R := ⟨_, rfl⟩
  have HZ := Lib.hid hz
  have hB0 := (Below.refl R w).alloc (by omega) (.cells #[.int .i64 n, .bool d, .int .i64 v] 23)
  have hK0 := Blk.new w 23 #[.int .i64 n, .bool d, .int .i64 v]
  rw [hR] at hK0
  clear hz
  obtain ⟨m, hml⟩ : ∃ m, ss.length = m := ⟨_, rfl⟩
  rw [hml] at hm ⊢
  have HML := Lib.hid hml
  clear hml
  go_enter Try.func3, Try.ntmps3
  go_upto_region 1 with fail
  generalize w.alloc (.cells #[.int .i64 n, .bool d, .int .i64 v] 23) = W0 at *
  go_upto_region 4 with (first
    | (go_at_call 7; refine (HA.out _).mono ?_; rintro e v1 ⟨rfl, hb⟩; have hB1 := hB0.trans (hb.mono (by rw [← hR]; exact hB0.size)); have hK1 := hK0.below hb hK0.lt; clear hb hK0 hB0)
    | (go_at_call 8; refine (HSH.out _).mono ?_; rintro e v2 ⟨rfl, rfl⟩))
  have HK1 := Lib.hid (fun u (h : Below v1.heap.size v1 u) => show Blk u R 23 #[.int .i64 n, .bool d, .int .i64 v] from hK1.below h hK1.lt)
  have HRV := Lib.hid (show R ≤ v1.heap.size from by rw [← hR]; exact hB1.size)
  have HBV := Lib.hid hB1
  obtain ⟨G, hG⟩ : ∃ G, v1.heap.size = G := ⟨_, rfl⟩
  rw [hG] at HK1 HRV
  have HG := Lib.hid hG
  have hv0 := Below.refl G v1
  clear hK1 hB1 hG
  go_wp2_with fail
  go_loopw [8, 9] (fun mv i wr => ∃ (k : Nat), k ≤ m ∧ k ≤ 12 ∧ i = .int .i64 k ∧ Hid (Below G v1 wr) ∧ Hid (wr.ownsRow G 9 1 mv k (strs (mYL ss k)))) (fun _ i _ => m - (intOf i).toNat)
  case atStart => exact ⟨0, Nat.zero_le _, by omega, rfl, Lib.hid hv0, Lib.hid (World.ownsRow_nil _ _ _ _)⟩
  case round =>
    clear hv0
    obtain ⟨k, hk, hk12, rfl, HB, HO⟩ := hrel
    by_cases hlt : k < m ∧ k < 12
    · obtain ⟨h1, h2⟩ := hlt
      have hkl : k < ss.length := by rw [HML.out]; exact h1
      obtain ⟨ad, rfl, hab, hc, hsz⟩ := HZ.out k hkl
      have hblk : (ad.add k).block < R := by rw [show (ad.add k).block = ad.block by unfold Addr.add; split <;> rfl, ← hR]; exact hab
      have hc1 : wr.cell? (ad.add k) = some (.string ss[k]) := ((HBV.out.trans (HB.out.mono HRV.out)).cell (p := ad.add k) hblk).trans hc
      have HM := Lib.hid (mYL_succ ss hkl)
      have HF := Lib.hid (fun w => shortY_any ss[k] 8 w hsz (by omega))
      clear hc hsz
      generalize shortSY ss[k] 8 = F at *
      generalize ss[k] = s at *
      go_wp2_with (first
        | (go_at_call 8; refine (HF.out _).mono ?_; rintro e v3 ⟨rfl, rfl⟩)
        | (refine wpList_append_lies _ (by rfl) (.tmp 27) (.tmp 33) _ (by rfl) G 9 i0 _ 1 16 Try.underlying24 hi hz0 hz1 hz2 rfl (by omega) _ k (strs (mYL ss k)) (by rfl) (HO.out.alloc _)
             ⟨wr.heap.size, 0, none⟩ 1 1 [.string F] (by rfl) (by rfl) (World.news_of_block (cs := #[.string F]) (t := 9) (fr := (0, 0)) (heap_alloc_new wr _)) (by simp [Value.oneCell'])
             (by omega) (by unfold maxLen; omega) (by omega) (by have := HB.out.size; have := HG.out; simp; omega) (wr.heap.size + 1) (by simp) ?_; intro gg cap w1 hown1 hgrow hat hlt1
           have HO1 := Lib.hid hown1
           have HG1 := Lib.hid hgrow
           clear hown1 hgrow hat))
      go_roundw
      case rel => exact ⟨k + 1, by omega, by omega, by go_num, Lib.hid ((HB.out.alloc (by have := HB.out.size; have := HG.out; omega) (.cells #[.string F] 9)).grown HG1.out (by have := HB.out.size; have := HG.out; simp; omega) (fun j e => (HO.out.lt j e).1)), by rw [HM.out]; exact HO1⟩
      case measure => simp [intOf]; omega
    · have hl2 : (k < m ∧ ¬ k < 12) ∨ ¬ k < m := by omega
      have hlen := mYL_length ss (k := k) (by rw [HML.out]; exact hk)
      have hsz := mYL_size ss k
      obtain ⟨he, A2, c2, rfl, hrow⟩ := strRow_ownY HO.out (fun z hzz => by have := hsz z hzz; unfold maxLen; omega)
      rw [hlen] at he
      have h1 := fun u hu => table_any A2 (mYL ss k) c2 u hu (by omega) hsz
      have h2 := fun u hu => rtable_any A2 (mYL ss k) c2 u hu (by omega) hsz
      rw [hlen] at h1 h2
      have hrw := fun u (hu : Below wr.heap.size wr u) => strRow_belowY hrow rfl hu
      have hbr := HB.out
      generalize mkb (tabY (mYL ss k)) = TB at *
      generalize mYL ss k = ml at *
      have H1 := Lib.hid h1
      have H2 := Lib.hid h2
      have HRW := Lib.hid hrw
      have hg2 : G ≤ wr.heap.size := by rw [← HG.out]; exact hbr.size
      have HK := Lib.hid (fun u (hu : Below wr.heap.size wr u) => show Blk u R 23 #[.int .i64 n, .bool d, .int .i64 v] ∧ Below R w u from
        ⟨HK1.out u (hbr.trans (hu.mono hg2)), HBV.out.trans ((hbr.trans (hu.mono hg2)).mono HRV.out)⟩)
      have hv3 := Below.refl wr.heap.size wr
      have hs3 : StrRow wr A2 ml := hrow
      rw [hlen]
      clear h1 h2 hrw hbr hrow he hlen hsz HK1 HBV HRV HB HO HZ HML hg2 HG hlt hz0 hz1 hz2 hi HA HSH
      rcases hl2 with ⟨g1, g2⟩ | g1
      all_goals
        go_upto_region 10 with (first
          | (go_at_call 9; with_reducible refine (H1.out _ hs3).mono ?_; rintro e v4 ⟨rfl, hb4⟩; have hv4 := hv3.trans (hb4.mono (Nat.le_refl _)); have hs4 := HRW.out _ hv4)
          | (go_at_call 10; with_reducible refine (H2.out _ hs4).mono ?_; rintro e v5 ⟨rfl, hb5⟩; have hv5 := hv4.trans (hb5.mono hv4.size)))
        obtain ⟨hk5, hb5⟩ := HK.out v5 hv5
        have n1 := hk5.drew
        have n2 := hb5.drew
        have n3 : v5.drew.cell? ⟨R, 0, none⟩ = some (.int .i64 n) := n1.at_ 0 _ rfl
        have n4 : v5.drew.cell? ⟨R, 1, none⟩ = some (.bool d) := n1.at_ 1 _ rfl
        have n5 : v5.drew.cell? ⟨R, 2, none⟩ = some (.int .i64 v) := n1.at_ 2 _ rfl
        clear hk5 hb5 hv3 hv4 hv5 hs3 hs4 HK HRW H1 H2 hb4
        go_region_held3 (fun w' => w'.cell? ⟨R, 0, none⟩ = some (.int .i64 n) ∧ w'.cell? ⟨R, 1, none⟩ = some (.bool d) ∧ w'.cell? ⟨R, 2, none⟩ = some (.int .i64 v) ∧ Hid (Blk w' R 23 #[.int .i64 n, .bool d, .int .i64 v]) ∧ Hid (Below R w w'))
          (first | exact ⟨n3, n4, n5, n1, n2⟩)
          (first
          | (go_at_call 11; with_reducible refine (HH1.out _).mono ?_; rintro e u1 ⟨rfl, hb⟩; rcases ‹(_ : Prop) ∧ _ ∧ _ ∧ Hid _ ∧ Hid _› with ⟨-, -, -, kb, kB⟩; clear n1 n2 n3 n4 n5; have n1 := kb.out.below hb kb.out.lt; have n2 := kB.out.trans (hb.mono (by rw [← hR]; exact kB.out.size)); have n3 := n1.at_ 0 _ rfl; have n4 := n1.at_ 1 _ rfl; have n5 := n1.at_ 2 _ rfl; clear hb kb kB)
          | (go_at_call 12; with_reducible refine (HH2.out _).mono ?_; rintro e u1 ⟨rfl, rfl⟩)
          | (go_at_call 13; with_reducible refine (HB1.out _).mono ?_; rintro e u1 ⟨rfl, hb⟩; rcases ‹(_ : Prop) ∧ _ ∧ _ ∧ Hid _ ∧ Hid _› with ⟨-, -, -, kb, kB⟩; clear n1 n2 n3 n4 n5; have n1 := kb.out.below hb kb.out.lt; have n2 := kB.out.trans (hb.mono (by rw [← hR]; exact kB.out.size)); have n3 := n1.at_ 0 _ rfl; have n4 := n1.at_ 1 _ rfl; have n5 := n1.at_ 2 _ rfl; clear hb kb kB)
          | (go_at_call 14; with_reducible refine (HB2.out _).mono ?_; rintro e u1 ⟨rfl, hb⟩; rcases ‹(_ : Prop) ∧ _ ∧ _ ∧ Hid _ ∧ Hid _› with ⟨-, -, -, kb, kB⟩; clear n1 n2 n3 n4 n5; have n1 := kb.out.below hb kb.out.lt; have n2 := kB.out.trans (hb.mono (by rw [← hR]; exact kB.out.size)); have n3 := n1.at_ 0 _ rfl; have n4 := n1.at_ 1 _ rfl; have n5 := n1.at_ 2 _ rfl; clear hb kb kB))
        all_goals
          rcases ‹(_ : Prop) ∧ _ ∧ _ ∧ Hid _ ∧ Hid _› with ⟨-, -, -, kb, kB⟩
          go_wp2
          go_ret
          exact ⟨by simp, by rw [hR]; exact kB.out⟩

set_option maxRecDepth 100000 in
theorem lifted (os : Os) (started : os.Started) (H : Type) (enc : TypeId × Value → H) :
    ReturnsInHanded {} Try.checked os 3 .any (Rows.symbolBytesSpec.pre6 enc Try.prog Try.f3 Rows.symbolBytesRow.domain false) (Rows.symbolBytesSpec.post enc Try.prog Try.f3 false true false false) := by
  refine returnsInHanded_of_change (C := Try.checked) own started (by kernel_rfl) Try.func3
    (ChangeSpec.witness6 (enc := enc) (C := Try.checked) false ⟨#[], #[.string ⟨#[]⟩, zsymV, .slice none 0 0], []⟩ 8 (by kernel_rfl) (by kernel_rfl) (by kernel_rfl) (by kernel_rfl)) ?_
  intro W base args ds gs before hval0 hW hcnd _
  have hval : ∀ (j : Nat) t v, Try.f3.params[j]? = some t → args[j]? = some v → Value.okWide Try.prog W .any base t v := hval0
  have hW' := hW
  obtain ⟨p, q, hA0, hV, rfl, hfz, hnd⟩ := hW
  have hA : DataW.TrodAll enc Try.prog W 0 (fun _ => true) true Try.f3.params.toList args.toList ds p := hA0
  rw [Try.params3] at hA hval
  obtain ⟨v0, vs0, d0, ds0, p0, q0, hargs, rfl, rfl, h0, r0⟩ := trodAll_cons hA
  obtain ⟨v1, vs1, d1, ds1, p1, q1, rfl, rfl, rfl, h1, r1⟩ := trodAll_cons r0
  obtain ⟨v2, vs2, d2, ds2, p2, q2, rfl, rfl, rfl, h2, r2⟩ := trodAll_cons r1
  obtain ⟨rfl, rfl, rfl⟩ := trodAll_nil r2
  obtain rfl : args = #[v0, v1, v2] := by cases args; simp_all
  obtain ⟨rfl, rfl⟩ := trodVars_none hV
  have k0 := h0
  have lt0 : ∀ x ∈ p0, x.block < W.heap.size := by obtain ⟨m, hm⟩ := k0; exact DataW.trod_lt m _ _ _ hm
  obtain ⟨a0, rfl, _, _, w0⟩ := open_string Try.underlying9 (hval 0 9 v0 rfl rfl) h0
  have k1 := h1
  have lt1 : ∀ x ∈ p1, x.block < W.heap.size := by obtain ⟨m, hm⟩ := k1; exact DataW.trod_lt m _ _ _ hm
  obtain ⟨a1, rfl, w1⟩ := open_symY (hval 1 23 v1 rfl rfl) h1
  have k2 := h2
  have lt2 : ∀ x ∈ p2, x.block < W.heap.size := by obtain ⟨m, hm⟩ := k2; exact DataW.trod_lt m _ _ _ hm
  obtain ⟨LA2, Ll2, Lc2, rfl, Lm2, Lr2⟩ := openStrsY (hval 2 24 v2 rfl rfl) h2
  clear hA0 hval0
  refine (walk a0 a1 LA2 Ll2 Lc2 W w0 w1 Lm2 Lr2).mono fun e W' ⟨he, bel⟩ => ?_
  subst he
  exact ⟨_, rfl, _, _, _, [], _, [], hW', trodAll_mk1 (shut_bool Try.underlying4 _), (trodAll_cons_mk (Below.trod laidOut (by kernel_rfl) (of_decide_eq_true (by kernel_rfl)) k0 bel lt0) (trodAll_cons_mk (Below.trod laidOut (by kernel_rfl) (of_decide_eq_true (by kernel_rfl)) k1 bel lt1) (trodAll_cons_mk (Below.trod laidOut (by kernel_rfl) (of_decide_eq_true (by kernel_rfl)) k2 bel lt2) trodAll_mk0))), rfl, bel.frame _, fun h => by cases h⟩
theorem over : Rows.symbolBytesRow.holds Try.pinned (OpenSpec.ofChange Rows.symbolBytesSpec) :=
  OpenClaim.holds_of_wide 3 Try.f3 rfl rfl rfl rfl rfl rfl rfl ⟨rfl, rfl, rfl, rfl, rfl⟩ rfl rfl rfl rfl rfl (by kernel_rfl) Try.func3 (by kernel_rfl)
    (of_decide_eq_true (by kernel_rfl)) (by unfold Func.isWrapper; first | (rw [if_pos (by decide +kernel)]; kernel_rfl) | (rw [if_neg (by decide +kernel)]; exact ⟨rfl, rfl⟩))
    (fun os started H enc _ => lifted os started H enc)
/-- The statement. -/
theorem proved : Rows.SymbolBytesSaid := over
end Go.Proofs.Ytkembimfkoganaa.lawBytesY
