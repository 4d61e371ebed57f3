/- Package stack: Read of what is a stack. -/
import Derived.Test.YtafogipkbhglcaaJX
import Derived.Laws.EntriesVeiled
namespace Go.Proofs.Ytafogipkbhglcaa
open Go.RowKit Go.Deep
set_option linter.unusedVariables false
set_option linter.unusedSimpArgs false

/-- The deferred call of Read, where nothing panicked. -/
theorem catch_idle17 (p0 p1 p2 p3 : Addr) (w : World) :
    CallsD Try.prog 34 #[.pointer (some p0), .pointer (some p1), .pointer (some p2), .pointer (some p3)] .returning w fun e u' w' => e = .returned (.tuple #[]) ∧ u' = .returning ∧ w' = w := by
  refine callsD_of_wpS Try.func34 rfl fun c₀ cs hu => ?_
  apply wpS_seq
  apply wpS_region
  simp [wpOpsS, go_sem, recoverD, hu, Try.ntmps34, Exit.thenS]
  refine wpS_cond (t := false) (by simp [Act.eval, Array.replicate]) ?_
  simp only [Bool.false_eq_true, if_false]
  refine wpS_of_wp (wp_skip ?_)
  cases c₀
  simp_all [bodyPostS, results, Try.results34]

/-- Read's results and its reader, where they lie. -/
structure Rv (w : World) (R : Nat) (u0 u1 u2 u3 : Value) (V : ByteArray) (F a : Nat) (v : World) : Prop where
  b0 : Blk v R 22 #[u0]
  b1 : Blk v (R + 1) 22 #[u1]
  b2 : Blk v (R + 1 + 1) 23 #[u2]
  b3 : Blk v (R + 1 + 1 + 1) 4 #[u3]
  rr : Rr v (R + 1 + 1 + 1 + 1) V F a
  bel : Below R w v
section
variable {w v v' : World} {R : Nat} {u0 u1 u2 u3 : Value} {V : ByteArray} {F a a' : Nat}
theorem Rv.start (w : World) {R : Nat} (hR : w.heap.size = R) (V : ByteArray) (F a : Nat) : Rv w R (.slice none 0 0) (.slice none 0 0) (.slice none 0 0) (.bool false) V F a (((((w.alloc (.cells #[.slice none 0 0] 22)).alloc (.cells #[.slice none 0 0] 22)).alloc (.cells #[.slice none 0 0] 23)).alloc (.cells #[.bool false] 4)).alloc (.cells #[.string V, .int .i64 (F : Int), .int .i64 (a : Int)] 76)) := by
  subst hR
  have e1 : ∀ (u : World) o, (u.alloc o).heap.size = u.heap.size + 1 := fun u o => by simp
  refine ⟨((((Blk.new w _ _).alloc _).alloc _).alloc _).alloc _, ?_, ?_, ?_, ?_, ?_⟩
  · have := (((Blk.new (w.alloc (.cells #[.slice none 0 0] 22)) 22 #[.slice none 0 0]).alloc (.cells #[.slice none 0 0] 23)).alloc (.cells #[.bool false] 4)).alloc (.cells #[.string V, .int .i64 (F : Int), .int .i64 (a : Int)] 76)
    rw [e1] at this
    exact this
  · have := ((Blk.new ((w.alloc (.cells #[.slice none 0 0] 22)).alloc (.cells #[.slice none 0 0] 22)) 23 #[.slice none 0 0]).alloc (.cells #[.bool false] 4)).alloc (.cells #[.string V, .int .i64 (F : Int), .int .i64 (a : Int)] 76)
    rw [e1, e1] at this
    exact this
  · have := (Blk.new (((w.alloc (.cells #[.slice none 0 0] 22)).alloc (.cells #[.slice none 0 0] 22)).alloc (.cells #[.slice none 0 0] 23)) 4 #[.bool false]).alloc (.cells #[.string V, .int .i64 (F : Int), .int .i64 (a : Int)] 76)
    rw [e1, e1, e1] at this
    exact this
  · have := Blk.new ((((w.alloc (.cells #[.slice none 0 0] 22)).alloc (.cells #[.slice none 0 0] 22)).alloc (.cells #[.slice none 0 0] 23)).alloc (.cells #[.bool false] 4)) 76 #[.string V, .int .i64 (F : Int), .int .i64 (a : Int)]
    rw [e1, e1, e1, e1] at this
    exact this
  · exact (((((Below.refl _ _).alloc (Nat.le_refl _) _).alloc (by simp) _).alloc (by simp; omega) _).alloc (by simp; omega) _).alloc (by simp; omega) _
theorem Rv.but (h : Rv w R u0 u1 u2 u3 V F a v) (hb : But (· = R + 1 + 1 + 1 + 1) v v') (hr : Rr v' (R + 1 + 1 + 1 + 1) V F a') : Rv w R u0 u1 u2 u3 V F a' v' :=
  ⟨h.b0.but hb (by show ¬ R = R + 1 + 1 + 1 + 1; omega), h.b1.but hb (by show ¬ R + 1 = R + 1 + 1 + 1 + 1; omega), h.b2.but hb (by show ¬ R + 1 + 1 = R + 1 + 1 + 1 + 1; omega), h.b3.but hb (by show ¬ R + 1 + 1 + 1 = R + 1 + 1 + 1 + 1; omega), hr,
    h.bel.trans (hb.below (Nat.le_of_lt h.b0.lt) (fun k e => by subst e; omega))⟩
theorem Rv.s0 (h : Rv w R u0 u1 u2 u3 V F a v) (u : Value) : Rv w R u u1 u2 u3 V F a (v.setCell ⟨R, 0, none⟩ u) :=
  ⟨by simpa using h.b0.set_ 0 u, h.b1.far (p := ⟨R, 0, none⟩) (by show R + 1 ≠ R; omega) u, h.b2.far (p := ⟨R, 0, none⟩) (by show R + 1 + 1 ≠ R; omega) u, h.b3.far (p := ⟨R, 0, none⟩) (by show R + 1 + 1 + 1 ≠ R; omega) u, Blk.far h.rr (p := ⟨R, 0, none⟩) (by show R + 1 + 1 + 1 + 1 ≠ R; omega) u, h.bel.setCell (p := ⟨R, 0, none⟩) (Nat.le_refl _) u⟩
theorem Rv.s1 (h : Rv w R u0 u1 u2 u3 V F a v) (u : Value) : Rv w R u0 u u2 u3 V F a (v.setCell ⟨R + 1, 0, none⟩ u) :=
  ⟨h.b0.far (p := ⟨R + 1, 0, none⟩) (by show R ≠ R + 1; omega) u, by simpa using h.b1.set_ 0 u, h.b2.far (p := ⟨R + 1, 0, none⟩) (by show R + 1 + 1 ≠ R + 1; omega) u, h.b3.far (p := ⟨R + 1, 0, none⟩) (by show R + 1 + 1 + 1 ≠ R + 1; omega) u, Blk.far h.rr (p := ⟨R + 1, 0, none⟩) (by show R + 1 + 1 + 1 + 1 ≠ R + 1; omega) u, h.bel.setCell (p := ⟨R + 1, 0, none⟩) (by show R ≤ R + 1; omega) u⟩
theorem Rv.s2 (h : Rv w R u0 u1 u2 u3 V F a v) (u : Value) : Rv w R u0 u1 u u3 V F a (v.setCell ⟨R + 1 + 1, 0, none⟩ u) :=
  ⟨h.b0.far (p := ⟨R + 1 + 1, 0, none⟩) (by show R ≠ R + 1 + 1; omega) u, h.b1.far (p := ⟨R + 1 + 1, 0, none⟩) (by show R + 1 ≠ R + 1 + 1; omega) u, by simpa using h.b2.set_ 0 u, h.b3.far (p := ⟨R + 1 + 1, 0, none⟩) (by show R + 1 + 1 + 1 ≠ R + 1 + 1; omega) u, Blk.far h.rr (p := ⟨R + 1 + 1, 0, none⟩) (by show R + 1 + 1 + 1 + 1 ≠ R + 1 + 1; omega) u, h.bel.setCell (p := ⟨R + 1 + 1, 0, none⟩) (by show R ≤ R + 1 + 1; omega) u⟩
theorem Rv.s3 (h : Rv w R u0 u1 u2 u3 V F a v) (u : Value) : Rv w R u0 u1 u2 u V F a (v.setCell ⟨R + 1 + 1 + 1, 0, none⟩ u) :=
  ⟨h.b0.far (p := ⟨R + 1 + 1 + 1, 0, none⟩) (by show R ≠ R + 1 + 1 + 1; omega) u, h.b1.far (p := ⟨R + 1 + 1 + 1, 0, none⟩) (by show R + 1 ≠ R + 1 + 1 + 1; omega) u, h.b2.far (p := ⟨R + 1 + 1 + 1, 0, none⟩) (by show R + 1 + 1 ≠ R + 1 + 1 + 1; omega) u, by simpa using h.b3.set_ 0 u, Blk.far h.rr (p := ⟨R + 1 + 1 + 1, 0, none⟩) (by show R + 1 + 1 + 1 + 1 ≠ R + 1 + 1 + 1; omega) u, h.bel.setCell (p := ⟨R + 1 + 1 + 1, 0, none⟩) (by show R ≤ R + 1 + 1 + 1; omega) u⟩
theorem Rv.cells (h : Rv w R u0 u1 u2 u3 V F a v) : v.cell? ⟨R, 0, none⟩ = some u0 ∧ v.cell? ⟨R + 1, 0, none⟩ = some u1 ∧ v.cell? ⟨R + 1 + 1, 0, none⟩ = some u2 ∧ v.cell? ⟨R + 1 + 1 + 1, 0, none⟩ = some u3 ∧ v.frozen? ⟨R, 0, none⟩ = false ∧ v.frozen? ⟨R + 1, 0, none⟩ = false ∧ v.frozen? ⟨R + 1 + 1, 0, none⟩ = false ∧ v.frozen? ⟨R + 1 + 1 + 1, 0, none⟩ = false :=
  ⟨h.b0.at_ 0 _ rfl, h.b1.at_ 0 _ rfl, h.b2.at_ 0 _ rfl, h.b3.at_ 0 _ rfl, h.b0.frozen 0, h.b1.frozen 0, h.b2.frozen 0, h.b3.frozen 0⟩
end
/-- The same without the reader. -/
structure Rw (w : World) (R : Nat) (u0 u1 u2 u3 : Value) (v : World) : Prop where
  b0 : Blk v R 22 #[u0]
  b1 : Blk v (R + 1) 22 #[u1]
  b2 : Blk v (R + 1 + 1) 23 #[u2]
  b3 : Blk v (R + 1 + 1 + 1) 4 #[u3]
  bel : Below R w v
section
variable {w v v' : World} {R : Nat} {u0 u1 u2 u3 : Value} {V : ByteArray} {F a a' : Nat}
theorem Rv.but4 (h : Rv w R u0 u1 u2 u3 V F a v) (hb : But (· = R + 1 + 1 + 1 + 1) v v') : Rw w R u0 u1 u2 u3 v' :=
  ⟨h.b0.but hb (by show ¬ R = R + 1 + 1 + 1 + 1; omega), h.b1.but hb (by show ¬ R + 1 = R + 1 + 1 + 1 + 1; omega), h.b2.but hb (by show ¬ R + 1 + 1 = R + 1 + 1 + 1 + 1; omega), h.b3.but hb (by show ¬ R + 1 + 1 + 1 = R + 1 + 1 + 1 + 1; omega),
    h.bel.trans (hb.below (Nat.le_of_lt h.b0.lt) (fun k e => by subst e; omega))⟩
theorem Rw.s0 (h : Rw w R u0 u1 u2 u3 v) (u : Value) : Rw w R u u1 u2 u3 (v.setCell ⟨R, 0, none⟩ u) :=
  ⟨by simpa using h.b0.set_ 0 u, h.b1.far (p := ⟨R, 0, none⟩) (by show R + 1 ≠ R; omega) u, h.b2.far (p := ⟨R, 0, none⟩) (by show R + 1 + 1 ≠ R; omega) u, h.b3.far (p := ⟨R, 0, none⟩) (by show R + 1 + 1 + 1 ≠ R; omega) u, h.bel.setCell (p := ⟨R, 0, none⟩) (Nat.le_refl _) u⟩
theorem Rw.s1 (h : Rw w R u0 u1 u2 u3 v) (u : Value) : Rw w R u0 u u2 u3 (v.setCell ⟨R + 1, 0, none⟩ u) :=
  ⟨h.b0.far (p := ⟨R + 1, 0, none⟩) (by show R ≠ R + 1; omega) u, by simpa using h.b1.set_ 0 u, h.b2.far (p := ⟨R + 1, 0, none⟩) (by show R + 1 + 1 ≠ R + 1; omega) u, h.b3.far (p := ⟨R + 1, 0, none⟩) (by show R + 1 + 1 + 1 ≠ R + 1; omega) u, h.bel.setCell (p := ⟨R + 1, 0, none⟩) (by show R ≤ R + 1; omega) u⟩
theorem Rw.s2 (h : Rw w R u0 u1 u2 u3 v) (u : Value) : Rw w R u0 u1 u u3 (v.setCell ⟨R + 1 + 1, 0, none⟩ u) :=
  ⟨h.b0.far (p := ⟨R + 1 + 1, 0, none⟩) (by show R ≠ R + 1 + 1; omega) u, h.b1.far (p := ⟨R + 1 + 1, 0, none⟩) (by show R + 1 ≠ R + 1 + 1; omega) u, by simpa using h.b2.set_ 0 u, h.b3.far (p := ⟨R + 1 + 1, 0, none⟩) (by show R + 1 + 1 + 1 ≠ R + 1 + 1; omega) u, h.bel.setCell (p := ⟨R + 1 + 1, 0, none⟩) (by show R ≤ R + 1 + 1; omega) u⟩
theorem Rw.s3 (h : Rw w R u0 u1 u2 u3 v) (u : Value) : Rw w R u0 u1 u2 u (v.setCell ⟨R + 1 + 1 + 1, 0, none⟩ u) :=
  ⟨h.b0.far (p := ⟨R + 1 + 1 + 1, 0, none⟩) (by show R ≠ R + 1 + 1 + 1; omega) u, h.b1.far (p := ⟨R + 1 + 1 + 1, 0, none⟩) (by show R + 1 ≠ R + 1 + 1 + 1; omega) u, h.b2.far (p := ⟨R + 1 + 1 + 1, 0, none⟩) (by show R + 1 + 1 ≠ R + 1 + 1 + 1; omega) u, by simpa using h.b3.set_ 0 u, h.bel.setCell (p := ⟨R + 1 + 1 + 1, 0, none⟩) (by show R ≤ R + 1 + 1 + 1; omega) u⟩
theorem Rw.cells (h : Rw w R u0 u1 u2 u3 v) : v.cell? ⟨R, 0, none⟩ = some u0 ∧ v.cell? ⟨R + 1, 0, none⟩ = some u1 ∧ v.cell? ⟨R + 1 + 1, 0, none⟩ = some u2 ∧ v.cell? ⟨R + 1 + 1 + 1, 0, none⟩ = some u3 ∧ v.frozen? ⟨R, 0, none⟩ = false ∧ v.frozen? ⟨R + 1, 0, none⟩ = false ∧ v.frozen? ⟨R + 1 + 1, 0, none⟩ = false ∧ v.frozen? ⟨R + 1 + 1 + 1, 0, none⟩ = false :=
  ⟨h.b0.at_ 0 _ rfl, h.b1.at_ 0 _ rfl, h.b2.at_ 0 _ rfl, h.b3.at_ 0 _ rfl, h.b0.frozen 0, h.b1.frozen 0, h.b2.frozen 0, h.b3.frozen 0⟩
end
theorem strRow_far17y {w : World} {A : Option Addr} {L : List ByteArray} (h : StrRow w A L) {p : Addr} (hne : ∀ ad, A = some ad → ad.block ≠ p.block) (u : Value) : StrRow (w.setCell p u) A L := fun i hi => by
  obtain ⟨ad, h1, h2, h3, h4⟩ := h i hi
  have hb : (ad.add i).block = ad.block := by unfold Addr.add; split <;> rfl
  exact ⟨ad, h1, by simpa [World.setCell] using h2, (World.cell?_setCell_other _ _ _ _ (fun e => hne ad h1 (by rw [← hb, e]))).trans h3, h4⟩
theorem paRow_far17 {w : World} {A : Option Addr} {L : List Pa} (h : PaRow w A L) {p : Addr} (hne : ∀ ad, A = some ad → ad.block ≠ p.block) (u : Value) : PaRow (w.setCell p u) A L := fun i hi => by
  obtain ⟨ad, h1, h2, h3, h4⟩ := h i hi
  have hb : ∀ j, (ad.add j).block = ad.block := fun j => by unfold Addr.add; split <;> rfl
  exact ⟨ad, h1, by simpa [World.setCell] using h2, fun j hj => (World.cell?_setCell_other _ _ _ _ (fun e => hne ad h1 (by rw [← hb (i * 2 + j), e]))).trans (h3 j hj), h4⟩

/-- All that Read told. -/
def ReadT (w : World) (args env : List ByteArray) (aux : List Pa) (e : Ending) (w' : World) : Prop :=
  ∃ A c D d X x, e = .returned (.tuple #[.slice A args.length c, .slice D env.length d, .slice X aux.length x, .bool true]) ∧ StrRow w' A args ∧ StrRow w' D env ∧ PaRow w' X aux ∧ Below w.heap.size w w'

set_option maxRecDepth 100000 in
set_option maxHeartbeats 3200000 in
theorem read17 (V : ByteArray) (F sp : Nat) (args env : List ByteArray) (aux : List Pa) (w : World) (hs : V.size ≤ 10000) (hF : F ≤ sp) (hsp : sp ≤ 1099511627776) (hd : sp - F ≤ 10000)
    (hl1 : args.length ≤ 128) (hl2 : env.length ≤ 128) (hl3 : aux.length ≤ 128) (hz1 : ∀ s ∈ args, s.size ≤ 100000) (hz2 : ∀ s ∈ env, s.size ≤ 100000) (hwf : ∀ p ∈ aux, p.wf)
    (hc : getN V ((sp - F : Nat) : Int) 8 = ((args.length : Nat) : Int) ∧ hol V.size ((sp - F : Nat) : Int) 8 = true) (h1 : TxA V F (sp - F + 8) args) (h2 : TxA V F (sp - F + 8 + 8 * (args.length + 1)) env) (h3 : PrA V (sp - F + 8 + 8 * (args.length + 1) + 8 * (env.length + 1)) aux) :
    Calls Try.prog 14 #[.string V, .int .i64 (F : Int), .int .i64 (sp : Int)] w (ReadT w args env aux) := by
  obtain ⟨R, hR⟩ : ∃ R, w.heap.size = R := ⟨_, rfl⟩
  obtain ⟨a, ha⟩ : ∃ a, sp - F = a := ⟨_, rfl⟩
  rw [ha] at hc h1 h2 h3
  have hai : (sp : Int) - (F : Int) = (a : Int) := by omega
  obtain ⟨n1, hn1⟩ : ∃ n, args.length = n := ⟨_, rfl⟩
  obtain ⟨n2, hn2⟩ : ∃ n, env.length = n := ⟨_, rfl⟩
  obtain ⟨n3, hn3⟩ : ∃ n, aux.length = n := ⟨_, rfl⟩
  have HNM := Lib.hid (fun v (hv : Rr v (R + 1 + 1 + 1 + 1) V F a) => number17 _ F a args.length V v hv (by omega) (by omega) hc.1 hc.2)
  have HT1 := Lib.hid (fun v (hv : Rr v (R + 1 + 1 + 1 + 1) V F (a + 8)) => texts17 _ F (a + 8) V args v hv (by omega) (by omega) (by omega) hl1 hz1 h1)
  have HT2 := Lib.hid (fun v (hv : Rr v (R + 1 + 1 + 1 + 1) V F (a + 8 + 8 * (args.length + 1))) => texts17 _ F _ V env v hv (by omega) (by omega) (by omega) hl2 hz2 h2)
  have HP := Lib.hid (fun v (hv : Rr v (R + 1 + 1 + 1 + 1) V F (a + 8 + 8 * (args.length + 1) + 8 * (env.length + 1))) => pairs17 _ F _ V aux v hv (by omega) (by omega) hl3 hwf h3)
  unfold TxT at HT1 HT2
  unfold PrT at HP
  have HEND := Lib.hid (show ∀ e w' A c D d X x, e = .returned (.tuple #[.slice A n1 c, .slice D n2 d, .slice X n3 x, .bool true]) → StrRow w' A args → StrRow w' D env → PaRow w' X aux → Below R w w' → ReadT w args env aux e w' from fun e w' A c D d X x q1 q2 q3 q4 q5 => ⟨A, c, D, d, X, x, by rw [hn1, hn2, hn3]; exact q1, q2, q3, q4, by rw [hR]; exact q5⟩)
  generalize ReadT w args env aux = QQ at *
  rw [hn1] at HNM HT1 HT2 HP
  rw [hn2] at HT2 HP
  rw [hn3] at HP
  rw [hn1] at hl1
  have HS0 := Lib.hid (Rv.start w hR V F a)
  have HM := Lib.hid must17
  have hmf : ∀ (fn : Fn) (first cap : Array Value) (w : World), (Instr.makeFunc fn first cap).run Try.prog w = .ok (.func fn first cap) w := fun _ _ _ _ => rfl
  have hF0 : ¬ ((F : Int) < 0) := by omega
  have hFs : ¬ ((sp : Int) < (F : Int)) := by omega
  have hsp1 : ¬ ((1099511627776 : Int) < (sp : Int)) := by omega
  have hu : IntKind.u64.wrap (n1 : Int) = (n1 : Int) := by rw [IntKind.wrap_u64]; omega
  clear hc h1 h2 h3 hwf hz1 hz2 ha hn1 hn2 hn3 hl2 hl3 hd hF hsp
  go_enter_defers Try.func14, Try.ntmps14
  go_upto_region 5 with fail
  generalize ((((w.alloc (.cells #[.slice none 0 0] 22)).alloc (.cells #[.slice none 0 0] 22)).alloc (.cells #[.slice none 0 0] 23)).alloc (.cells #[.bool false] 4)).alloc (.cells #[.string V, .int .i64 (F : Int), .int .i64 (a : Int)] 76) = W0 at *
  go_upto_region 6 with (go_at_call 35; (with_reducible refine (HNM.out _ HS0.out.rr).mono ?_); rintro e v1 ⟨rfl, hr1, hb1⟩)
  have HS1 := Lib.hid (HS0.out.but hb1 hr1)
  have HG1 := Lib.hid (show R + 1 + 1 + 1 + 1 < v1.heap.size from HS1.out.rr.lt)
  clear hr1 hb1 HS0 HNM hmf hF0 hFs hsp1
  go_upto_region 7 with (go_at_call 36; (with_reducible refine (HT1.out _ HS1.out.rr).mono ?_); rintro e v2 ⟨A, c, rfl, hr2, hq2, hb2, hn2⟩; have HS2 := Lib.hid (HS1.out.but hb2 hq2); obtain ⟨x0, x1, x2, x3, y0, y1, y2, y3⟩ := HS2.out.cells)
  have HNA := Lib.hid (show ∀ ad, A = some ad → R + 1 + 1 + 1 + 1 < ad.block from fun ad e => Nat.lt_of_lt_of_le HG1.out (hn2 ad e))
  have HRA := Lib.hid (strRow_far17y hr2 (p := ⟨R, 0, none⟩) (fun ad e => by have := HNA.out ad e; show ad.block ≠ R; omega) (.slice A n1 c))
  have HS3 := Lib.hid (HS2.out.s0 (.slice A n1 c))
  clear hr2 hq2 hb2 hn2 x0 x1 x2 x3 y0 y1 y2 y3 HS1 HS2 HT1
  generalize v2.setCell ⟨R, 0, none⟩ (.slice A n1 c) = W3 at *
  obtain ⟨x0, -, -, -, -, -, -, -⟩ := HS3.out.cells
  go_upto_region 8 with (go_at_call 37; (with_reducible refine (HM.out _).mono ?_); rintro e v3 ⟨rfl, rfl⟩)
  have HG3 := Lib.hid (show R + 1 + 1 + 1 + 1 < W3.heap.size from HS3.out.rr.lt)
  clear x0
  go_upto_region 9 with (go_at_call 36; (with_reducible refine (HT2.out _ HS3.out.rr).mono ?_); rintro e v4 ⟨D, d, rfl, hr4, hq4, hb4, hn4⟩; have HS4 := Lib.hid (HS3.out.but hb4 hq4); obtain ⟨x0, x1, x2, x3, y0, y1, y2, y3⟩ := HS4.out.cells)
  have HND := Lib.hid (show ∀ ad, D = some ad → R + 1 + 1 + 1 + 1 < ad.block from fun ad e => Nat.lt_of_lt_of_le HG3.out (hn4 ad e))
  have HRD := Lib.hid (strRow_far17y hr4 (p := ⟨R + 1, 0, none⟩) (fun ad e => by have := HND.out ad e; show ad.block ≠ R + 1; omega) (.slice D n2 d))
  have HRA4 := Lib.hid (strRow_far17y (strRow_but17 HRA.out hb4 (fun ad e h => by have := HNA.out ad e; omega)) (p := ⟨R + 1, 0, none⟩) (fun ad e => by have := HNA.out ad e; show ad.block ≠ R + 1; omega) (.slice D n2 d))
  have HS5 := Lib.hid (HS4.out.s1 (.slice D n2 d))
  clear hr4 hq4 hb4 hn4 x0 x1 x2 x3 y0 y1 y2 y3 HS3 HS4 HT2 HRA
  generalize v4.setCell ⟨R + 1, 0, none⟩ (.slice D n2 d) = W5 at *
  have HG5 := Lib.hid (show R + 1 + 1 + 1 + 1 < W5.heap.size from HS5.out.rr.lt)
  go_upto_region 10 with (go_at_call 38; (with_reducible refine (HP.out _ HS5.out.rr).mono ?_); rintro e v6 ⟨X, x, rfl, hr6, hb6, hn6⟩; have HS6 := Lib.hid (HS5.out.but4 hb6); obtain ⟨x0, x1, x2, x3, y0, y1, y2, y3⟩ := HS6.out.cells)
  have HNX := Lib.hid (show ∀ ad, X = some ad → R + 1 + 1 + 1 + 1 < ad.block from fun ad e => Nat.lt_of_lt_of_le HG5.out (hn6 ad e))
  have HRX := Lib.hid (paRow_far17 hr6 (p := ⟨R + 1 + 1, 0, none⟩) (fun ad e => by have := HNX.out ad e; show ad.block ≠ R + 1 + 1; omega) (.slice X n3 x))
  have HRD6 := Lib.hid (strRow_far17y (strRow_but17 HRD.out hb6 (fun ad e h => by have := HND.out ad e; omega)) (p := ⟨R + 1 + 1, 0, none⟩) (fun ad e => by have := HND.out ad e; show ad.block ≠ R + 1 + 1; omega) (.slice X n3 x))
  have HRA6 := Lib.hid (strRow_far17y (strRow_but17 HRA4.out hb6 (fun ad e h => by have := HNA.out ad e; omega)) (p := ⟨R + 1 + 1, 0, none⟩) (fun ad e => by have := HNA.out ad e; show ad.block ≠ R + 1 + 1; omega) (.slice X n3 x))
  have HS7 := Lib.hid (HS6.out.s2 (.slice X n3 x))
  clear hr6 hb6 hn6 x0 x1 x2 x3 y0 y1 y2 y3 HS5 HS6 HP HRA4 HRD
  generalize v6.setCell ⟨R + 1 + 1, 0, none⟩ (.slice X n3 x) = W7 at *
  obtain ⟨x0, x1, x2, x3, y0, y1, y2, y3⟩ := HS7.out.cells
  have HSF := Lib.hid (((((HS7.out.s0 (.slice A n1 c)).s1 (.slice D n2 d)).s2 (.slice X n3 x)).s3 (.bool true)))
  have HRAF := Lib.hid (strRow_far17y (strRow_far17y (strRow_far17y (strRow_far17y HRA6.out (p := ⟨R, 0, none⟩) (fun ad e => by have := HNA.out ad e; show ad.block ≠ R; omega) (.slice A n1 c)) (p := ⟨R + 1, 0, none⟩) (fun ad e => by have := HNA.out ad e; show ad.block ≠ R + 1; omega) (.slice D n2 d)) (p := ⟨R + 1 + 1, 0, none⟩) (fun ad e => by have := HNA.out ad e; show ad.block ≠ R + 1 + 1; omega) (.slice X n3 x)) (p := ⟨R + 1 + 1 + 1, 0, none⟩) (fun ad e => by have := HNA.out ad e; show ad.block ≠ R + 1 + 1 + 1; omega) (.bool true))
  have HRDF := Lib.hid (strRow_far17y (strRow_far17y (strRow_far17y (strRow_far17y HRD6.out (p := ⟨R, 0, none⟩) (fun ad e => by have := HND.out ad e; show ad.block ≠ R; omega) (.slice A n1 c)) (p := ⟨R + 1, 0, none⟩) (fun ad e => by have := HND.out ad e; show ad.block ≠ R + 1; omega) (.slice D n2 d)) (p := ⟨R + 1 + 1, 0, none⟩) (fun ad e => by have := HND.out ad e; show ad.block ≠ R + 1 + 1; omega) (.slice X n3 x)) (p := ⟨R + 1 + 1 + 1, 0, none⟩) (fun ad e => by have := HND.out ad e; show ad.block ≠ R + 1 + 1 + 1; omega) (.bool true))
  have HRXF := Lib.hid (paRow_far17 (paRow_far17 (paRow_far17 (paRow_far17 HRX.out (p := ⟨R, 0, none⟩) (fun ad e => by have := HNX.out ad e; show ad.block ≠ R; omega) (.slice A n1 c)) (p := ⟨R + 1, 0, none⟩) (fun ad e => by have := HNX.out ad e; show ad.block ≠ R + 1; omega) (.slice D n2 d)) (p := ⟨R + 1 + 1, 0, none⟩) (fun ad e => by have := HNX.out ad e; show ad.block ≠ R + 1 + 1; omega) (.slice X n3 x)) (p := ⟨R + 1 + 1 + 1, 0, none⟩) (fun ad e => by have := HNX.out ad e; show ad.block ≠ R + 1 + 1 + 1; omega) (.bool true))
  go_region
  have HEQ := Lib.hid (show ∀ Y : World, Y = ((((W7.setCell ⟨R, 0, none⟩ (.slice A n1 c)).setCell ⟨R + 1, 0, none⟩ (.slice D n2 d)).setCell ⟨R + 1 + 1, 0, none⟩ (.slice X n3 x)).setCell ⟨R + 1 + 1 + 1, 0, none⟩ (.bool true)).drew → Rw w R (.slice A n1 c) (.slice D n2 d) (.slice X n3 x) (.bool true) Y ∧ StrRow Y A args ∧ StrRow Y D env ∧ PaRow Y X aux from fun Y hY => by
    subst hY
    exact ⟨⟨HSF.out.b0.drew, HSF.out.b1.drew, HSF.out.b2.drew, HSF.out.b3.drew, HSF.out.bel.drew⟩, HRAF.out, HRDF.out, HRXF.out⟩)
  obtain ⟨Y, hY⟩ : ∃ Y, ((((W7.setCell ⟨R, 0, none⟩ (.slice A n1 c)).setCell ⟨R + 1, 0, none⟩ (.slice D n2 d)).setCell ⟨R + 1 + 1, 0, none⟩ (.slice X n3 x)).setCell ⟨R + 1 + 1 + 1, 0, none⟩ (.bool true)).drew = Y := ⟨_, rfl⟩
  rw [hY]
  have HY := Lib.hid (HEQ.out Y hY.symm)
  clear hY HEQ HSF HRAF HRDF HRXF x0 x1 x2 x3 y0 y1 y2 y3 HS7 HRX HRD6 HRA6
  obtain ⟨x0, x1, x2, x3, y0, y1, y2, y3⟩ := HY.out.1.cells
  go_wp2
  refine leaves_cons (f := 34) (args := #[.pointer (some ⟨R, 0, none⟩), .pointer (some ⟨R + 1, 0, none⟩), .pointer (some ⟨R + 1 + 1, 0, none⟩), .pointer (some ⟨R + 1 + 1 + 1, 0, none⟩)]) (by simp) (by simp [go_sem]) ?_
  refine (catch_idle17 _ _ _ _ _).mono ?_
  rintro e u' w'' ⟨rfl, rfl, rfl⟩
  have hfin := HEND.out (.returned (.tuple #[.slice A n1 c, .slice D n2 d, .slice X n3 x, .bool true])) w'' A c D d X x rfl HY.out.2.1 HY.out.2.2.1 HY.out.2.2.2 HY.out.1.bel
  simp [Leaves, settle, results, Try.results14, go_sem, x0, x1, x2, x3, hfin]
end Go.Proofs.Ytafogipkbhglcaa
