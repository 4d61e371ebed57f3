/- Package stack: Build. -/
import Derived.Test.YtafogipkbhglcaaJB
import Derived.Test.YtafogipkbhglcaaJC
import Derived.Test.YtafogipkbhglcaaJF
import Derived.Test.YtafogipkbhglcaaOctB
import Derived.Laws.EntriesVeiled
namespace Go.Proofs.Ytafogipkbhglcaa
open Go.RowKit
set_option linter.unusedVariables false
set_option linter.unusedSimpArgs false

/-- While a stack is built: what was written, where the next text is. -/
structure Bs (w : World) (a : Nat) (L : List UInt8) (p : Nat) (W : World) : Prop where
  bd : Bd a (a + 1) L W
  f : Blk W (a + 2) 68 #[putV (a + 1)]
  p : Blk W a 3 #[.int .i64 (p : Int)]
  bel : Below a w W
theorem Bs.start (v : World) (p : Nat) {a : Nat} (ha : v.heap.size = a) : Bs v a [] p (((v.alloc (.cells #[.int .i64 (p : Int)] 3)).alloc (.cells #[.pointer none, .slice none 0 0] 62)).alloc (.cells #[putV (a + 1)] 68)) := by
  subst ha
  have h1 := Bd.new (v.alloc (.cells #[.int .i64 (p : Int)] 3))
  have hs : (v.alloc (.cells #[.int .i64 (p : Int)] 3)).heap.size = v.heap.size + 1 := by simp
  rw [hs] at h1
  have hs2 : ((v.alloc (.cells #[.int .i64 (p : Int)] 3)).alloc (.cells #[.pointer none, .slice none 0 0] 62)).heap.size = v.heap.size + 2 := by simp
  refine ⟨(h1.below ((Below.refl _ _).alloc (Nat.le_refl _) _)).weaken (by omega), ?_, ((Blk.new v _ _).alloc _).alloc _, (((Below.refl _ _).alloc (Nat.le_refl _) _).alloc (by omega) _).alloc (by omega) _⟩
  have h2 := Blk.new ((v.alloc (.cells #[.int .i64 (p : Int)] 3)).alloc (.cells #[.pointer none, .slice none 0 0] 62)) 68 #[putV (v.heap.size + 1)]
  rw [hs2] at h2
  exact h2
section
variable {w W : World} {a p : Nat} {L : List UInt8}
theorem Bs.le (h : Bs w a L p W) : a ≤ W.heap.size := h.bd.le
theorem Bs.below (h : Bs w a L p W) {W' : World} (hb : Below W.heap.size W W') : Bs w a L p W' :=
  ⟨h.bd.below hb, h.f.below hb h.f.lt, h.p.below hb h.p.lt, h.bel.trans (hb.mono h.le)⟩
theorem Bs.alloc (h : Bs w a L p W) (o : Obj) : Bs w a L p (W.alloc o) := h.below ((Below.refl _ _).alloc (Nat.le_refl _) o)
theorem Bs.put (h : Bs w a L p W) (Z : List Nat) (X n : Nat) (hn : Z.length = n) (hx : Blk W X 3 (icn Z)) (hl : L.length ≤ 100000) (hz : n ≤ 1000) (hzl : ∀ x ∈ Z, x ≤ 1099511627776) :
    Calls Try.prog 24 #[.slice (some ⟨X, 0, none⟩) n n, .pointer (some ⟨a + 1, 0, none⟩)] W fun e W' => e = .returned (.tuple #[]) ∧ Bs w a (L ++ nums Z) p W' :=
  (sput_any a (a + 1) L X Z n n hn W h.bd hx hl hz hzl).mono fun e W' ⟨he, hd, hb, hk⟩ =>
    ⟨he, hd, hk.row _ _ _ (by decide) (by decide) h.f, hk.row _ _ _ (by decide) (by decide) h.p, h.bel.trans hb⟩
theorem Bs.put1 (h : Bs w a L p W) (n : Nat) (hl : L.length ≤ 100000) (hn : n ≤ 1099511627776) :
    Calls Try.prog 24 #[.slice (some ⟨W.heap.size, 0, none⟩) 1 1, .pointer (some ⟨a + 1, 0, none⟩)] (W.alloc (.cells #[.int .i64 (n : Int)] 3)) fun e W' => e = .returned (.tuple #[]) ∧ Bs w a (L ++ nums [n]) p W' :=
  (h.alloc (.cells #[.int .i64 (n : Int)] 3)).put [n] W.heap.size 1 rfl (Blk.new W 3 (icn [n])) hl (by omega) (by intro x hx; simp at hx; omega)
theorem Bs.put2 (h : Bs w a L p W) (m n : Nat) (X : Nat) (hx : W.heap.size = X) (hl : L.length ≤ 100000) (hm : m ≤ 1099511627776) (hn : n ≤ 1099511627776) :
    Calls Try.prog 24 #[.slice (some ⟨X, 0, none⟩) 2 2, .pointer (some ⟨a + 1, 0, none⟩)] (W.alloc (.cells #[.int .i64 (m : Int), .int .i64 (n : Int)] 3)) fun e W' => e = .returned (.tuple #[]) ∧ Bs w a (L ++ nums [m, n]) p W' := by
  subst hx
  exact (h.alloc (.cells #[.int .i64 (m : Int), .int .i64 (n : Int)] 3)).put [m, n] W.heap.size 2 rfl (Blk.new W 3 (icn [m, n])) hl (by omega) (by intro x hx; simp at hx; omega)
theorem Bs.places (h : Bs w a L p W) (A : Option Addr) (ss : List ByteArray) (n c : Nat) (hn : ss.length = n) (hr : ∀ v, Below a w v → StrRow v A ss) (hl : L.length ≤ 50000) (hz : n ≤ 1000) (hp : p + tlen ss ≤ 1099511627776) :
    Calls Try.prog 27 #[.slice A n c, .pointer (some ⟨a + 1 + 1, 0, none⟩), .pointer (some ⟨a, 0, none⟩)] W fun e W' => e = .returned (.tuple #[]) ∧ Bs w a (L ++ nums (placesL p ss ++ [0])) (p + tlen ss) W' :=
  (splaces_any a (a + 1) (a + 2) a L A ss n c p hn W h.bd h.f h.p (Nat.le_refl _) (fun v hv => hr v (h.bel.trans hv)) hl hz hp).mono fun e W' ⟨he, hd, hf, hp, hb⟩ =>
    ⟨he, hd, hf, hp, h.bel.trans hb⟩
end

theorem pa_may_wf {p : Pa} (h : p.may = true) : p.t = (p.t.toNat : Nat) ∧ p.v = (p.v.toNat : Nat) ∧ p.t.toNat ≤ 1099511627776 ∧ p.v.toNat ≤ 1099511627776 := by
  obtain ⟨h1, h2, h3, h4⟩ := Pa.may_iff.1 h
  omega
theorem auxB_at {l : List Pa} (h : auxB l = true) {k : Nat} (hk : k < l.length) : l[k].may = true := by
  unfold auxB at h
  rw [List.all_eq_true] at h
  exact h _ (List.getElem_mem hk)

set_option maxRecDepth 100000 in
set_option maxHeartbeats 3200000 in
theorem build_any (top : Int) (A D X : Option Addr) (args env : List ByteArray) (aux : List Pa) (c d x : Nat) (w : World) (ht : (Lit.int .i64 top).wf = true) (h1 : StrRow w A args) (h2 : StrRow w D env) (h3 : PaRow w X aux)
    (hl1 : args.length ≤ 1000) (hl2 : env.length ≤ 1000) (hl3 : aux.length ≤ 1000) (ht1 : tlen args ≤ 1000000) (ht2 : tlen env ≤ 1000000) :
    Calls Try.prog 10 #[.int .i64 top, .slice A args.length c, .slice D env.length d, .slice X aux.length x] w fun e w' =>
      e = .returned (.tuple #[.int .i64 (buildP top args env aux), .string (buildS top args env aux), .int .i64 (buildE top args env aux)]) ∧ Below w.heap.size w w' := by
  obtain ⟨tl, tu⟩ := bounds_i64 ht
  have HT1 := Lib.hid (are_texts A args c w h1 (by omega))
  have HT2 := Lib.hid (are_texts D env d w h2 (by omega))
  have HX := Lib.hid (are_aux X aux x w h3 (by omega))
  have HNO := Lib.hid (fun (h : mayB top args env aux = false) => build_no h)
  have HM : Hid (mayB top args env aux = (decide (0 ≤ top) && decide (top ≤ 262144) && decide (top % 16 = 0) && plainB args && plainB env && auxB aux)) := Lib.hid rfl
  obtain ⟨R0, hR0⟩ : ∃ R, w.heap.size = R := ⟨_, rfl⟩
  rw [hR0]
  by_cases g0 : top < 0
  · have g9 : ¬ 0 ≤ top := by omega
    obtain ⟨e1, e2, e3⟩ := HNO.out (by rw [HM.out]; simp [g9])
    rw [e1, e2, e3]
    clear e1 e2 e3 HNO HM h1 h2 h3
    generalize args.length = n1 at *
    generalize env.length = n2 at *
    generalize aux.length = n3 at *
    go_enter Try.func10, Try.ntmps10
    go_wp2
    go_ret3
    exact ⟨rfl, by rw [← hR0]; exact Below.refl _ _⟩
  by_cases g1 : 262144 < top
  · have g9 : ¬ top ≤ 262144 := by omega
    obtain ⟨e1, e2, e3⟩ := HNO.out (by rw [HM.out]; simp [g9])
    rw [e1, e2, e3]
    clear e1 e2 e3 HNO HM h1 h2 h3
    generalize args.length = n1 at *
    generalize env.length = n2 at *
    generalize aux.length = n3 at *
    go_enter Try.func10, Try.ntmps10
    go_wp2
    go_ret3
    exact ⟨rfl, by rw [← hR0]; exact Below.refl _ _⟩
  have hr1 : top.tmod 16 = top % 16 := Int.tmod_eq_emod_of_nonneg (by omega)
  obtain ⟨r, hr⟩ : ∃ r, top % 16 = r := ⟨_, rfl⟩
  rw [hr] at hr1 HM
  by_cases g2 : r ≠ 0
  · have g9 : (r != 0) = true := by simpa using g2
    obtain ⟨e1, e2, e3⟩ := HNO.out (by rw [HM.out]; simp [g2])
    rw [e1, e2, e3]
    clear e1 e2 e3 HNO HM h1 h2 h3
    generalize args.length = n1 at *
    generalize env.length = n2 at *
    generalize aux.length = n3 at *
    go_enter Try.func10, Try.ntmps10
    go_wp2
    go_ret3
    exact ⟨rfl, by rw [← hR0]; exact Below.refl _ _⟩
  obtain rfl : r = 0 := by omega
  have hp1 : ∃ b, plainB args = b := ⟨_, rfl⟩
  obtain ⟨b1, hb1⟩ := hp1
  obtain ⟨b2, hb2⟩ : ∃ b, plainB env = b := ⟨_, rfl⟩
  obtain ⟨b3, hb3⟩ : ∃ b, auxB aux = b := ⟨_, rfl⟩
  rw [hb1, hb2, hb3] at HM
  rw [hb1] at HT1
  rw [hb2] at HT2
  rw [hb3] at HX
  have HA3 := Lib.hid hb3
  clear hb1 hb2 hb3
  cases b1
  · clear hr
    obtain ⟨e1, e2, e3⟩ := HNO.out (by rw [HM.out]; simp)
    rw [e1, e2, e3]
    clear e1 e2 e3 HNO HM h1 h2 h3
    generalize args.length = n1 at *
    generalize env.length = n2 at *
    generalize aux.length = n3 at *
    go_enter Try.func10, Try.ntmps10
    go_wp2_with (go_at_call 21; with_reducible refine HT1.out.mono ?_; rintro e v1 ⟨rfl, rfl⟩)
    go_ret3
    exact ⟨rfl, by rw [← hR0]; exact Below.refl _ _⟩
  cases b2
  · clear hr
    obtain ⟨e1, e2, e3⟩ := HNO.out (by rw [HM.out]; simp)
    rw [e1, e2, e3]
    clear e1 e2 e3 HNO HM h1 h2 h3
    generalize args.length = n1 at *
    generalize env.length = n2 at *
    generalize aux.length = n3 at *
    go_enter Try.func10, Try.ntmps10
    go_wp2_with (first | (go_at_call 21; with_reducible refine HT1.out.mono ?_; rintro e v1 ⟨rfl, rfl⟩) | (go_at_call 21; with_reducible refine HT2.out.mono ?_; rintro e v1 ⟨rfl, rfl⟩))
    go_ret3
    exact ⟨rfl, by rw [← hR0]; exact Below.refl _ _⟩
  cases b3
  · clear hr
    obtain ⟨e1, e2, e3⟩ := HNO.out (by rw [HM.out]; simp)
    rw [e1, e2, e3]
    clear e1 e2 e3 HNO HM h1 h2 h3
    generalize args.length = n1 at *
    generalize env.length = n2 at *
    generalize aux.length = n3 at *
    go_enter Try.func10, Try.ntmps10
    go_wp2_with (first | (go_at_call 21; with_reducible refine HT1.out.mono ?_; rintro e v1 ⟨rfl, rfl⟩) | (go_at_call 21; with_reducible refine HT2.out.mono ?_; rintro e v1 ⟨rfl, rfl⟩) | (go_at_call 22; with_reducible refine HX.out.mono ?_; rintro e v1 ⟨rfl, hb1⟩))
    go_ret3
    exact ⟨rfl, by rw [← hR0]; exact hb1⟩
  have hmay : mayB top args env aux = true := by rw [HM.out]; simp; omega
  have HR1 := Lib.hid (fun v (hv : Below R0 w v) => strRow_below17 h1 hR0.symm hv)
  have HR2 := Lib.hid (fun v (hv : Below R0 w v) => strRow_below17 h2 hR0.symm hv)
  have HR3 := Lib.hid (fun v (hv : Below R0 w v) => h3.below hR0.symm hv)
  obtain ⟨n1, hn1⟩ : ∃ n, args.length = n := ⟨_, rfl⟩
  obtain ⟨n2, hn2⟩ : ∃ n, env.length = n := ⟨_, rfl⟩
  obtain ⟨n3, hn3⟩ : ∃ n, aux.length = n := ⟨_, rfl⟩
  have HSZ := Lib.hid (fun v (hv : Below R0 w v) => size_any A D X args env aux c d x v (HR1.out v hv) (HR2.out v hv) (by omega) (by omega) (by omega) (by omega) (by omega))
  have HE1 := Lib.hid (fun v (hv : Below R0 w v) => ended_any A args c v (HR1.out v hv) (by omega) (by omega))
  have HE2 := Lib.hid (fun v (hv : Below R0 w v) => ended_any D env d v (HR2.out v hv) (by omega) (by omega))
  have hsl := sizeN_le args env aux
  have hrn : rawN args env aux = 8 * (n1 + n2 + 2 * n3 + 5) + tlen args + tlen env := by unfold rawN; rw [hn1, hn2, hn3]
  rw [hn1, hn2, hn3] at HSZ
  rw [hn1] at HT1 HE1
  rw [hn2] at HT2 HE2
  rw [hn3] at HX
  rw [hn1] at hl1
  rw [hn2] at hl2
  rw [hn3] at hl3
  rw [hn1, hn2, hn3]
  have HN := Lib.hid (And.intro hn1 (And.intro hn2 hn3))
  clear hn1 hn2 hn3 h1 h2 h3 hr HNO HM
  obtain ⟨T, hT⟩ : ∃ T : Nat, top = T := ⟨top.toNat, by omega⟩
  subst hT
  have HB1 := Lib.hid (fun hs => build_far (top := T) (args := args) (env := env) (aux := aux) hmay hs)
  have HB2 := Lib.hid (fun hs => build_yes (top := T) (args := args) (env := env) (aux := aux) hmay hs)
  clear hmay
  obtain ⟨S, hS⟩ : ∃ S, sizeN args env aux = S := ⟨_, rfl⟩
  rw [hS] at HSZ HB1 HB2 hsl
  have HBL : Hid (builtL T args env aux = fillL (nums (headL (T - (tlen args + tlen env)) args env aux)) (S - (tlen args + tlen env)) ++ textL args env) := Lib.hid (by rw [← hS]; rfl)
  by_cases hs : S ≤ 1024 ∧ (S : Int) ≤ (T : Int)
  · obtain ⟨e1, e2, e3⟩ := HB2.out hs
    rw [e1, e2, e3]
    clear e1 e2 e3 HB1 HB2
    have hmn : ∃ m, min (1024 : Int) (T : Int) = m := ⟨_, rfl⟩
    obtain ⟨m, hm⟩ := hmn
    have hm2 : min (T : Int) 1024 = m := by omega
    have hms : ¬ m < (S : Int) := by omega
    obtain ⟨t1, hx1⟩ : ∃ t, tlen args = t := ⟨_, rfl⟩
    obtain ⟨t2, hx2⟩ : ∃ t, tlen env = t := ⟨_, rfl⟩
    obtain ⟨X1, hX1⟩ : ∃ t, mkb (endL args) = t := ⟨_, rfl⟩
    obtain ⟨X2, hX2⟩ : ∃ t, mkb (endL env) = t := ⟨_, rfl⟩
    have hz1 : X1.size = t1 := by rw [← hX1, mkb_size]; exact hx1
    have hz2 : X2.size = t2 := by rw [← hX2, mkb_size]; exact hx2
    rw [hx1, hx2] at hrn HBL
    rw [hx1] at ht1
    rw [hx2] at ht2
    rw [Int.toNat_natCast]
    have hTX : X1 ++ X2 = mkb (textL args env) := by rw [← hX1, ← hX2, mkb_append]; rfl
    obtain ⟨TX, hTX2⟩ : ∃ t, X1 ++ X2 = t := ⟨_, rfl⟩
    have hzT : TX.size = t1 + t2 := by rw [← hTX2, ByteArray.size_append, hz1, hz2]
    rw [hTX2] at hTX
    rw [hX1] at HE1
    rw [hX2] at HE2
    obtain ⟨P, hP⟩ : ∃ P : Nat, T - (t1 + t2) = P := ⟨_, rfl⟩
    have hPi : (T : Int) - ((t1 : Int) + (t2 : Int)) = (P : Int) := by omega
    rw [hP] at HBL
    have HTX := Lib.hid (And.intro hTX (And.intro hx1 hx2))
    have hrw := hsl.1
    have hb9 : S = 8 * (n1 + n2 + 2 * n3 + 5) + t1 + t2 ∨ 8 * (n1 + n2 + 2 * n3 + 5) + t1 + t2 ≤ S := by omega
    have hcat : ¬ (9223372036854775807 < X1.size + X2.size) := by omega
    clear hX1 hX2 hTX hx1 hx2
    go_enter Try.func10, Try.ntmps10
    go_upto_region 4 with (first
      | (go_at_call 21; with_reducible refine HT1.out.mono ?_; rintro e v1 ⟨rfl, rfl⟩)
      | (go_at_call 21; with_reducible refine HT2.out.mono ?_; rintro e v1 ⟨rfl, rfl⟩)
      | (go_at_call 22; with_reducible refine HX.out.mono ?_; rintro e v1 ⟨rfl, hb1⟩)
      | (go_at_call 12; with_reducible refine (HSZ.out v1 (by rw [← hR0]; exact hb1)).mono ?_; rintro e v2 ⟨rfl, rfl⟩))
    have HTHR := Lib.hid (show ∀ u v, Below R0 w u → Below u.heap.size u v → Below R0 w v from fun u v h1 h2 => h1.trans (h2.mono (by rw [← hR0]; exact h1.size)))
    have HB1 := Lib.hid (show Below R0 w v1 from by rw [← hR0]; exact hb1)
    clear hb1
    go_upto_region 7 with (first
      | (go_at_call 23; with_reducible refine (HE1.out v1 HB1.out).mono ?_; rintro e v2 ⟨rfl, hb2⟩; have HB2 := Lib.hid (HTHR.out _ _ HB1.out hb2); clear hb2)
      | (go_at_call 23; with_reducible refine (HE2.out v2 HB2.out).mono ?_; rintro e v3 ⟨rfl, hb3⟩; have HB3 := Lib.hid (HTHR.out _ _ HB2.out hb3); clear hb3))
    obtain ⟨a, ha⟩ : ∃ a, v3.heap.size = a := ⟨_, rfl⟩
    have HST := Lib.hid (Bs.start v3 P ha)
    have HRA := Lib.hid (show R0 ≤ a from by rw [← ha, ← hR0]; exact HB3.out.size)
    have hmf : ∀ (fn : Fn) (first cap : Array Value) (w : World), (Instr.makeFunc fn first cap).run Try.prog w = .ok (.func fn first cap) w := fun _ _ _ _ => rfl
    clear HB1 HB2 HE1 HE2 HT1 HT2 HX HSZ hb9 hcat hm hm2 hms hr1 tl tu ht
    unfold putV at HST
    go_upto_region 11 with fail
    generalize ((v3.alloc (.cells #[.int .i64 (P : Int)] 3)).alloc (.cells #[.pointer none, .slice none 0 0] 62)).alloc (.cells #[.func (.func 24) #[] #[.pointer (some ⟨a + 1, 0, none⟩)]] 68) = W0 at *
    have HV3 := Lib.hid (show ∀ v, Below a v3 v → Below R0 w v from fun v hv => HTHR.out v3 v HB3.out (by rw [ha]; exact hv))
    have HRV1 := Lib.hid (fun v (hv : Below a v3 v) => HR1.out v (HV3.out v hv))
    have HRV2 := Lib.hid (fun v (hv : Below a v3 v) => HR2.out v (HV3.out v hv))
    have HRV3 := Lib.hid (fun v (hv : Below a v3 v) => HR3.out v (HV3.out v hv))
    clear HR1 HR2 HR3 HTHR ha
    have hFi : ∃ Fn : Nat, Fn = S - (t1 + t2) := ⟨_, rfl⟩
    obtain ⟨Fn, hFn⟩ := hFi
    have hFi : (S : Int) - ((t1 : Int) + (t2 : Int)) = (Fn : Int) := by omega
    have hFb : Fn ≤ 1024 := by omega
    have hPb : P + t1 + t2 ≤ 262144 := by omega
    have hn1 : n1 ≤ 128 := by omega
    have hn2 : n2 ≤ 128 := by omega
    have hn3 : n3 ≤ 64 := by omega
    rw [← hFn] at HBL
    have HFN := Lib.hid hFn
    clear hFn hrn hsl hrw hP hl1 hl2 hl3 ht1 ht2
    have cF : W0.cell? ⟨a + 1 + 1, 0, none⟩ = some (.func (.func 24) #[] #[.pointer (some ⟨a + 1, 0, none⟩)]) := HST.out.f.at_ 0 _ rfl
    have H1 := Lib.hid (HST.out.put1 n1 (by simp) (by omega))
    go_upto_region 12 with (go_at_call 24; with_reducible refine H1.out.mono ?_; rintro e v4 ⟨rfl, hs4⟩)
    have HS4 := Lib.hid hs4
    clear hs4 cF H1 HST
    have H2 := Lib.hid (HS4.out.places A args n1 c HN.out.1 HRV1.out (by simp [nums_length]) (by omega) (by have := HTX.out.2.1; omega))
    go_upto_region 13 with (go_at_call 27; with_reducible refine H2.out.mono ?_; rintro e v5 ⟨rfl, hs5⟩)
    have HS5 := Lib.hid hs5
    clear hs5 H2 HS4
    have H3 := Lib.hid (HS5.out.places D env n2 d HN.out.2.1 HRV2.out (by simp [nums_length, placesL_length]; have := HN.out.1; omega) (by omega) (by have := HTX.out.2; omega))
    go_upto_region 14 with (go_at_call 27; with_reducible refine H3.out.mono ?_; rintro e v6 ⟨rfl, hs6⟩)
    obtain ⟨L3, hL3⟩ : ∃ L, [] ++ nums [n1] ++ nums (placesL P args ++ [0]) ++ nums (placesL (P + tlen args) env ++ [0]) = L := ⟨_, rfl⟩
    obtain ⟨P3, hP3⟩ : ∃ q, P + tlen args + tlen env = q := ⟨_, rfl⟩
    have hL3l : L3.length ≤ 5000 := by rw [← hL3]; simp [nums_length, placesL_length]; have := HN.out; omega
    have hHD : nums (headL P args env aux) = L3 ++ nums (auxL aux) ++ nums [0, 0] := by
      rw [← hL3]
      unfold headL
      rw [HN.out.1]
      simp only [nums_append, List.nil_append, List.append_assoc]
    rw [hL3, hP3] at hs6
    have HS6 := Lib.hid hs6
    have HHD := Lib.hid hHD
    clear hs6 H3 HS5 hL3 hP3 hHD HRV1 HRV2
    go_wp2_with fail
    go_loopw [18, 78] (fun _ i wr => ∃ k : Nat, k ≤ n3 ∧ i = .int .i64 k ∧ Hid (Bs v3 a (L3 ++ nums (auxL (aux.take k))) P3 wr)) (fun _ i _ => n3 - (intOf i).toNat)
    case atStart => exact ⟨0, Nat.zero_le _, rfl, Lib.hid (by simpa [nums, auxL] using HS6.out)⟩
    case round =>
      obtain ⟨k, hk, rfl, HB⟩ := hrel
      have hlz : (nums (auxL (aux.take k))).length ≤ 16 * n3 := by rw [nums_length, auxL_length, List.length_take]; omega
      by_cases hlt : k < n3
      · have hkl : k < aux.length := by rw [HN.out.2.2]; exact hlt
        obtain ⟨ad, rfl, hblt, hwf, d0, d1⟩ := (HRV3.out wr HB.out.bel).at_ hkl
        obtain ⟨e1, e2, e3, e4⟩ := pa_may_wf (auxB_at HA3.out hkl)
        have htk := auxL_take hkl
        obtain ⟨tn, htn⟩ : ∃ t, aux[k].t.toNat = t := ⟨_, rfl⟩
        obtain ⟨vn, hvn⟩ : ∃ t, aux[k].v.toNat = t := ⟨_, rfl⟩
        rw [htn] at e1 e3 htk
        rw [hvn] at e2 e4 htk
        rw [e1] at d0
        rw [e2] at d1
        clear e1 e2 htn hvn hwf
        have HTK := Lib.hid htk
        have hB1 := HB.out.alloc (.cells #[.int .i64 (tn : Int), .int .i64 (vn : Int)] 40)
        have cF : (wr.alloc (.cells #[.int .i64 (tn : Int), .int .i64 (vn : Int)] 40)).cell? ⟨a + 1 + 1, 0, none⟩ = some (.func (.func 24) #[] #[.pointer (some ⟨a + 1, 0, none⟩)]) := hB1.f.at_ 0 _ rfl
        have HC := Lib.hid (hB1.put2 tn vn (wr.heap.size + 1) (by simp) (by rw [List.length_append]; omega) e3 e4)
        have k0 : (0 : Int) ≤ (k : Int) := by omega
        have k1 : (k : Int) < (n3 : Int) := by omega
        clear hB1 htk hkl
        go_wp2_with (go_at_call 24; with_reducible refine HC.out.mono ?_; rintro e v7 ⟨rfl, hs7⟩)
        go_roundw
        case rel => exact ⟨k + 1, by omega, by go_num, Lib.hid (by rw [HTK.out, nums_append, ← List.append_assoc]; exact hs7)⟩
        case measure => simp [intOf]; omega
      · obtain rfl : k = n3 := by omega
        have hf := HB.out
        rw [← HN.out.2.2, List.take_length] at hf
        have HC : Hid (Calls Try.prog 24 #[.slice (some ⟨wr.heap.size, 0, none⟩) 2 2, .pointer (some ⟨a + 1, 0, none⟩)] (wr.alloc (.cells #[.int .i64 0, .int .i64 0] 3)) fun e W' => e = .returned (.tuple #[]) ∧ Bs v3 a (nums (headL P args env aux)) P3 W') := Lib.hid (by
          rw [HHD.out]
          exact hf.put2 0 0 wr.heap.size rfl (by rw [List.length_append, nums_length, auxL_length, HN.out.2.2]; omega) (by omega) (by omega))
        have cF : wr.cell? ⟨a + 1 + 1, 0, none⟩ = some (.func (.func 24) #[] #[.pointer (some ⟨a + 1, 0, none⟩)]) := hf.f.at_ 0 _ rfl
        have hHn : nums (headL P args env aux) ≠ [] := by
          intro e
          have h9 := congrArg List.length e
          rw [nums_length, headL_length] at h9
          simp at h9
        have hLl : (nums (headL P args env aux)).length ≤ 100000 := by rw [nums_length, headL_length]; have := HN.out; omega
        have HSTR := Lib.hid (fun u (hu : Bs v3 a (nums (headL P args env aux)) P3 u) => bd_string a (a + 1) (nums (headL P args env aux)) u hu.bd hHn)
        have HFL := Lib.hid (fun u => fill_any (mkb (nums (headL P args env aux))) (Fn : Int) u (WalkArith.wf_i64 (by omega)) (by rw [mkb_size]; omega) (by omega))
        obtain ⟨NS, hNS⟩ : ∃ s, mkb (nums (headL P args env aux)) = s := ⟨_, rfl⟩
        have hfs : fillS NS (Fn : Int) = mkb (fillL (nums (headL P args env aux)) Fn) := by
          rw [← hNS]
          unfold fillS
          rw [if_neg (by omega), mkb_data, Int.toNat_natCast]
        rw [hNS] at HSTR HFL
        rw [hfs] at HFL
        have hfin : mkb (fillL (nums (headL P args env aux)) Fn) ++ TX = mkb (builtL T args env aux) := by rw [HBL.out, HTX.out.1, mkb_append]
        have hsz : (mkb (fillL (nums (headL P args env aux)) Fn)).size = Fn := by rw [mkb_size, fillL_length]
        generalize mkb (fillL (nums (headL P args env aux)) Fn) = FS at *
        obtain ⟨BS, hBS⟩ : ∃ s, mkb (builtL T args env aux) = s := ⟨_, rfl⟩
        rw [hBS] at hfin
        have HBS := Lib.hid hBS
        clear hBS
        generalize nums (headL P args env aux) = NL at *
        clear hf hHn hLl hfs hNS hlz HHD HBL
        go_wp2_with (first
          | (go_at_call 24; with_reducible refine HC.out.mono ?_; rintro e v7 ⟨rfl, hs7⟩)
          | (go_at_call 29; with_reducible refine (HSTR.out _ hs7).mono ?_; rintro e v8 ⟨rfl, hb8⟩)
          | (go_at_call 28; with_reducible refine (HFL.out _).mono ?_; rintro e v9 ⟨rfl, hb9⟩))
        go_ret3
        have hx := hs7.bel.trans hb8
        exact ⟨by rw [HBS.out]; rfl, HV3.out _ (hx.trans (hb9.mono (Nat.le_trans hs7.le hb8.size)))⟩
  · obtain ⟨e1, e2, e3⟩ := HB1.out hs
    rw [e1, e2, e3]
    clear e1 e2 e3 HB1 HB2
    have hmn : ∃ m, min (1024 : Int) (T : Int) = m := ⟨_, rfl⟩
    obtain ⟨m, hm⟩ := hmn
    have hm2 : min (T : Int) 1024 = m := by omega
    have hms : m < (S : Int) := by omega
    clear hs hsl hrn
    go_enter Try.func10, Try.ntmps10
    go_wp2_with (first
      | (go_at_call 21; with_reducible refine HT1.out.mono ?_; rintro e v1 ⟨rfl, rfl⟩)
      | (go_at_call 21; with_reducible refine HT2.out.mono ?_; rintro e v1 ⟨rfl, rfl⟩)
      | (go_at_call 22; with_reducible refine HX.out.mono ?_; rintro e v1 ⟨rfl, hb1⟩)
      | (go_at_call 12; with_reducible refine (HSZ.out v1 (by rw [← hR0]; exact hb1)).mono ?_; rintro e v2 ⟨rfl, rfl⟩))
    go_ret3
    exact ⟨rfl, by rw [← hR0]; exact hb1⟩
end Go.Proofs.Ytafogipkbhglcaa
