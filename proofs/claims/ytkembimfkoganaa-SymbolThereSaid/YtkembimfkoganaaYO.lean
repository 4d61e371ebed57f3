/- Layer 10: (Program).made. -/
import Derived.Test.YtkembimfkoganaaYN
import Derived.BigRegion
import Derived.Deep.CutRange
import Derived.Deep.CutBlock
import Derived.RegionTactic
namespace Go.Proofs.Ytkembimfkoganaa
open Go.RowKit Go.Deep
set_option linter.unusedVariables false
set_option linter.unusedSimpArgs false

/-- While names and symbols are put together. -/
structure Mk (w : World) (R G : Nat) (pc : Array Value) (dc : Array Value) (v1 v2 : Value) (x1 : List ByteArray) (x2 : List Sy) (W : World) : Prop where
  p : Blk W R 36 pc
  r : Blk W (R + 1) 38 #[.slice none 0 0, .int .i64 0, .int .i64 0, .int .i64 0, .int .i64 0, .int .i64 0, .int .i64 0, .int .i64 0, .int .i64 0]
  d : Blk W G 38 dc
  a : W.ownsRow (G + 1) 9 1 v1 x1.length (strs x1)
  b : W.ownsRow (G + 1) 23 3 v2 x2.length (syCells x2)
  rg : R + 1 < G
  bel : Below R w W
theorem own_typed {w w' : World} {B e e' size size' n n' : Nat} {v v' : Value} {xs ys : List Value} (h : w.ownsRow B e size v n xs) (h' : w.ownsRow B e' size' v' n' ys) (he : e ≠ e') (hg : w.grownBy w' v'.ownBlock) : w'.ownsRow B e size v n xs := by
  refine h.kept hg ?_
  rcases hv : v.ownBlock with _ | g
  · exact .inl rfl
  · refine .inr fun e2 => ?_
    rcases h.2 with ⟨rfl, _⟩ | ⟨g1, cap, cur, rfl, _, hb, _⟩
    · cases hv
    · rcases h'.2 with ⟨rfl, _⟩ | ⟨g2, cap2, cur2, rfl, _, hb2, _⟩
      · cases e2
      · have e3 : g1 = g2 := by have := hv.trans e2; injection this
        subst e3
        rw [hb] at hb2
        injection hb2 with hb2
        injection hb2 with _ h3 _
        exact he h3
section
variable {w W W' : World} {R G : Nat} {pc dc : Array Value} {v1 v2 : Value} {x1 : List ByteArray} {x2 : List Sy}
theorem Mk.below (h : Mk w R G pc dc v1 v2 x1 x2 W) (hb : Below W.heap.size W W') : Mk w R G pc dc v1 v2 x1 x2 W' :=
  ⟨h.p.below hb h.p.lt, h.r.below hb h.r.lt, h.d.below hb h.d.lt, own_below h.a hb, own_below h.b hb, h.rg, h.bel.trans (hb.mono (Nat.le_of_lt h.p.lt))⟩
theorem Mk.push1 (h : Mk w R G pc dc v1 v2 x1 x2 W) {v' : Value} {s : ByteArray} (ho : W'.ownsRow (G + 1) 9 1 v' (x1.length + 1) (strs x1 ++ [.string s])) (hg : W.grownBy W' v1.ownBlock) : Mk w R G pc dc v' v2 (x1 ++ [s]) x2 W' := by
  have hlt : ∀ g, some g = v1.ownBlock → G + 1 ≤ g := fun g e => (h.a.lt g e.symm).1
  refine ⟨h.p.grown hg (fun e => by have := hlt _ e; have := h.rg; omega), h.r.grown hg (fun e => by have := hlt _ e; have := h.rg; omega), h.d.grown hg (fun e => by have := hlt _ e; omega), ?_, own_typed h.b h.a (by decide) hg, h.rg, h.bel.grown hg (Nat.le_of_lt h.p.lt) (fun j e => by have := hlt _ e.symm; have := h.rg; omega)⟩
  simpa [strs] using ho
theorem Mk.push2 (h : Mk w R G pc dc v1 v2 x1 x2 W) {v' : Value} {s : Sy} (ho : W'.ownsRow (G + 1) 23 3 v' (x2.length + 1) (syCells x2 ++ [.int .i64 s.n, .bool s.d, .int .i64 s.v])) (hg : W.grownBy W' v2.ownBlock) : Mk w R G pc dc v1 v' x1 (x2 ++ [s]) W' := by
  have hlt : ∀ g, some g = v2.ownBlock → G + 1 ≤ g := fun g e => (h.b.lt g e.symm).1
  refine ⟨h.p.grown hg (fun e => by have := hlt _ e; have := h.rg; omega), h.r.grown hg (fun e => by have := hlt _ e; have := h.rg; omega), h.d.grown hg (fun e => by have := hlt _ e; omega), own_typed h.a h.b (by decide) hg, ?_, h.rg, h.bel.grown hg (Nat.le_of_lt h.p.lt) (fun j e => by have := hlt _ e.symm; have := h.rg; omega)⟩
  rw [syCells_snoc]
  simpa using ho
theorem Mk.setD (h : Mk w R G pc dc v1 v2 x1 x2 W) (j : Nat) (u : Value) : Mk w R G pc (dc.setIfInBounds j u) v1 v2 x1 x2 (W.setCell ⟨G, j, none⟩ u) := by
  have hg : W.grownBy (W.setCell ⟨G, j, none⟩ u) (some G) := ⟨rfl, rfl, rfl, by simp [World.setCell], fun k _ hk => Below.heap_setCell _ _ _ _ (fun e => hk (by rw [e]))⟩
  have hrg := h.rg
  refine ⟨h.p.far (p := ⟨G, j, none⟩) (by show R ≠ G; omega) u, h.r.far (p := ⟨G, j, none⟩) (by show R + 1 ≠ G; omega) u, h.d.set_ j u, ?_, ?_, h.rg, h.bel.setCell (p := ⟨G, j, none⟩) (by show R ≤ G; omega) u⟩
  · refine h.a.kept hg ?_
    rcases hv : v1.ownBlock with _ | g
    · exact .inl rfl
    · exact .inr fun e => by have := (h.a.lt g hv).1; injection e with e; omega
  · refine h.b.kept hg ?_
    rcases hv : v2.ownBlock with _ | g
    · exact .inl rfl
    · exact .inr fun e => by have := (h.b.lt g hv).1; injection e with e; omega
end

theorem results_tct {P : Program} {fn : Func} {a p u : Tmp} {ty : TypeId} (h : fn.results = #[.tmp a, .cell p ty, .tmp u]) (tmps : Array Value) (w : World) (g : Nat) (t : TypeId) (cs : Array Value) (fr : Nat × Nat) (d : TypeDesc)
    (hp : tmps.getD p undef = .pointer (some ⟨g, 0, none⟩)) (hg : w.heap[g]? = some (.cells cs t fr))
    (hu : P.underlying ty = some d) (hd : (match d with | .struct _ | .array _ _ => true | _ => false) = true) (hi : (P.info? ty).map (·.size) = some cs.size) :
    (results fn tmps).run P w = .ok (.tuple #[tmps.getD a undef, .agg cs, tmps.getD u undef]) w := by
  have e : (results fn tmps).run P w = ((asAddr (tmps.getD p undef)).run P w).andThen fun x w₁ => ((loadVar ty x).run P w₁).andThen fun v w₂ => .ok (.tuple #[tmps.getD a undef, v, tmps.getD u undef]) w₂ := by
    simp only [results, h]
    simp [Sem.run_bind, Result.andThen]
  rw [e, hp]
  show ((loadVar ty ⟨g, 0, none⟩).run P w).andThen _ = _
  rw [run_loadVar_row w g t ty cs fr d hg hu hd hi]
  rfl

theorem flat_bytesY (l : List Sy) : (l.flatMap Sy.bytes).length = 24 * l.length := by
  induction l with
  | nil => rfl
  | cons s l ih => rw [List.flatMap_cons, List.length_append, ih, Sy.bytes_length, List.length_cons]; omega
theorem own_setY {w : World} {B e size n : Nat} {v : Value} {xs : List Value} (h : w.ownsRow B e size v n xs) {p : Addr} (hp : p.block < B) (u : Value) : (w.setCell p u).ownsRow B e size v n xs := by
  have hg : w.grownBy (w.setCell p u) (some p.block) := ⟨rfl, rfl, rfl, by simp [World.setCell], fun k _ hk => Below.heap_setCell _ _ _ _ (fun e => hk (by rw [e]))⟩
  refine h.kept hg ?_
  rcases hv : v.ownBlock with _ | g
  · exact .inl rfl
  · exact .inr fun e => by have := (h.lt g hv).1; injection e with e; omega
theorem blk9Y {w : World} {b : Nat} {t : TypeId} {u0 u1 u2 u3 u4 u5 u6 u7 u8 z0 z1 z2 z3 z4 z5 z6 z7 z8 : Value} (h : Blk w b t #[z0, z1, z2, z3, z4, z5, z6, z7, z8]) : Blk (((((((((w.setCell ⟨b, 0, none⟩ u0).setCell ⟨b, 1, none⟩ u1).setCell ⟨b, 2, none⟩ u2).setCell ⟨b, 3, none⟩ u3).setCell ⟨b, 4, none⟩ u4).setCell ⟨b, 5, none⟩ u5).setCell ⟨b, 6, none⟩ u6).setCell ⟨b, 7, none⟩ u7).setCell ⟨b, 8, none⟩ u8) b t #[u0, u1, u2, u3, u4, u5, u6, u7, u8] := by
  have := (((((((((h.set_ 0 u0).set_ 1 u1).set_ 2 u2).set_ 3 u3).set_ 4 u4).set_ 5 u5).set_ 6 u6).set_ 7 u7).set_ 8 u8)
  simpa only [List.setIfInBounds_toArray, List.set_cons_zero, List.set_cons_succ] using this
theorem own9Y {w : World} {b B e size n : Nat} {v : Value} {xs : List Value} (h : w.ownsRow B e size v n xs) (hb : b < B) (u0 u1 u2 u3 u4 u5 u6 u7 u8 : Value) : (((((((((w.setCell ⟨b, 0, none⟩ u0).setCell ⟨b, 1, none⟩ u1).setCell ⟨b, 2, none⟩ u2).setCell ⟨b, 3, none⟩ u3).setCell ⟨b, 4, none⟩ u4).setCell ⟨b, 5, none⟩ u5).setCell ⟨b, 6, none⟩ u6).setCell ⟨b, 7, none⟩ u7).setCell ⟨b, 8, none⟩ u8).ownsRow B e size v n xs :=
  (own_setY (own_setY (own_setY (own_setY (own_setY (own_setY (own_setY (own_setY (own_setY h (p := ⟨b, 0, none⟩) hb u0) (p := ⟨b, 1, none⟩) hb u1) (p := ⟨b, 2, none⟩) hb u2) (p := ⟨b, 3, none⟩) hb u3) (p := ⟨b, 4, none⟩) hb u4) (p := ⟨b, 5, none⟩) hb u5) (p := ⟨b, 6, none⟩) hb u6) (p := ⟨b, 7, none⟩) hb u7) (p := ⟨b, 8, none⟩) hb u8)
theorem below9Y {w0 w : World} {b R : Nat} (h : Below R w0 w) (hb : R ≤ b) (u0 u1 u2 u3 u4 u5 u6 u7 u8 : Value) : Below R w0 (((((((((w.setCell ⟨b, 0, none⟩ u0).setCell ⟨b, 1, none⟩ u1).setCell ⟨b, 2, none⟩ u2).setCell ⟨b, 3, none⟩ u3).setCell ⟨b, 4, none⟩ u4).setCell ⟨b, 5, none⟩ u5).setCell ⟨b, 6, none⟩ u6).setCell ⟨b, 7, none⟩ u7).setCell ⟨b, 8, none⟩ u8) :=
  (((((((((h.setCell (p := ⟨b, 0, none⟩) hb u0).setCell (p := ⟨b, 1, none⟩) hb u1).setCell (p := ⟨b, 2, none⟩) hb u2).setCell (p := ⟨b, 3, none⟩) hb u3).setCell (p := ⟨b, 4, none⟩) hb u4).setCell (p := ⟨b, 5, none⟩) hb u5).setCell (p := ⟨b, 6, none⟩) hb u6).setCell (p := ⟨b, 7, none⟩) hb u7).setCell (p := ⟨b, 8, none⟩) hb u8)
/-- What made hands back. -/
def aheadY (ah : Int) : Nat := 8 + (ah % 64).toNat
def viewM (A : Nat) (ss : List ByteArray) (k : Nat) : List UInt8 := zbL A ++ nbM (nmsM ss k)
def cntM (ss : List ByteArray) : Nat := min ss.length 12
def VM (ah : Int) (ss : List ByteArray) (zs : List Int) : List UInt8 := viewM (aheadY ah) ss (cntM ss) ++ (symsM ss zs (cntM ss)).flatMap Sy.bytes ++ tabY (nmsM ss (cntM ss))
def DM (ah : Int) (ss : List ByteArray) : Dyn := ⟨[], fun j => if j = 1 then (aheadY ah : Nat) else if j = 2 then ((nbM (nmsM ss (cntM ss))).length : Nat) else if j = 3 then ((aheadY ah + (nbM (nmsM ss (cntM ss))).length : Nat) : Int) else if j = 4 then ((aheadY ah + (nbM (nmsM ss (cntM ss))).length + 24 * cntM ss : Nat) : Int) else 0⟩
def MadeP (w : World) (ah : Int) (ss : List ByteArray) (zs : List Int) (e : Ending) (w' : World) : Prop :=
  ∃ A c, e = .returned (.tuple #[.string (mkb (VM ah ss zs)), .agg ((DM ah ss).cs (.slice none 0 0)), .slice A (cntM ss) c]) ∧ SyRow w' A (symsM ss zs (cntM ss)) ∧ Below w.heap.size w w'
theorem infoSy : (Try.prog.info? 23).map (fun i => (i.zero, i.size, i.bytes)) = some (some (.agg #[.int .i64 0, .bool false, .int .i64 0]), 3, 24) := by kernel_rfl
theorem i64_and63 (n : Int) : bits .and .i64 n 63 = n % 64 := i64_and_mask n 6 63 (by omega) (by decide)
theorem i64_and3m (n : Int) : bits .and .i64 n 3 = n % 4 := i64_and_mask n 2 3 (by omega) (by decide)

theorem zat0_hit {S : ByteArray} {k : Nat} (h : k < S.size) (hk : k ≤ zat S 0) (he : S[k] = 0) : zat S 0 = k := by
  refine zat_hit (s := S) (a := 0) (k := k) (by omega) hk ?_
  simpa using he
theorem zat0_step {S : ByteArray} {k : Nat} (h : k < S.size) (hk : k ≤ zat S 0) (he : ¬ S[k] = 0) : k + 1 ≤ zat S 0 := by
  refine zat_step (s := S) (a := 0) (k := k) (by omega) hk ?_
  simpa using he
/-- While a text is cut at its first byte 0. -/
def Cutting (S s : ByteArray) (j : Nat) : Prop := (s = S ∧ j ≤ zat S 0) ∨ (s = cutZ S ∧ j = zat S 0 + 1)
theorem cutZ_len (S : ByteArray) : (cutZ S).size = zat S 0 := by
  have := zat_le S 0
  unfold cutZ
  rw [extract_mkb, mkb_size, List.drop_zero, List.length_take, len_data]
  omega
theorem Cutting.stop {S s : ByteArray} {j : Nat} (h : Cutting S s j) (hj : ¬ j < s.size) : s = cutZ S := by
  rcases h with ⟨rfl, h⟩ | ⟨rfl, h⟩
  · have h1 := zat_le s 0
    have e : zat s 0 = s.size := by omega
    unfold cutZ
    rw [e, extract_mkb, List.drop_zero, List.take_of_length_le (by rw [len_data]; omega), mkb_of]
  · rfl
theorem Cutting.go {S s : ByteArray} {j : Nat} (h : Cutting S s j) (hj : j < s.size) : s = S ∧ j ≤ zat S 0 := by
  rcases h with h | ⟨rfl, h⟩
  · exact h
  · rw [cutZ_len] at hj; omega
set_option maxRecDepth 100000 in
set_option maxHeartbeats 6400000 in
theorem made_any (p : PrgIn) (w : World) (hp : p.In w) : Calls Try.prog 15 #[.agg p.cs] w fun e w' => MadeP w p.ah p.ss p.zs e w' := by
  obtain ⟨l1, l2, r1, r2, wf⟩ := hp
  obtain ⟨ss, zs, ah, A1, c1, A2, c2⟩ := p
  unfold PrgIn.cs
  simp only at *
  unfold maxLen at l1 l2
  obtain ⟨AA, hAA⟩ : ∃ A, aheadY ah = A := ⟨_, rfl⟩
  obtain ⟨a, ha⟩ : ∃ a : Nat, ah % 64 = (a : Int) := ⟨(ah % 64).toNat, by omega⟩
  have hAl : 8 ≤ AA ∧ AA ≤ 71 := by rw [← hAA]; unfold aheadY; omega
  have hA8 : (8 : Int) + (a : Int) = (AA : Int) := by rw [← hAA]; unfold aheadY; omega
  have e63 := i64_and63 ah
  rw [ha] at e63
  have hFI := fun u => rfill_any ⟨#[]⟩ (AA : Int) u (WalkArith.wf_i64 (by omega)) (by decide) (by omega)
  rw [fill_zb] at hFI
  have hzs : (mkb (zbL AA)).size = AA := by rw [mkb_size]; simp [zbL]
  obtain ⟨R, hR⟩ : ∃ R, w.heap.size = R := ⟨_, rfl⟩
  have HV := Lib.hid (fun v (hv : Below R w v) => show StrRow v A1 ss ∧ IntRow v A2 zs from ⟨strRow_belowY r1 hR.symm hv, intRow_below r2 hR.symm hv⟩)
  have HFI := Lib.hid hFI
  have HAA := Lib.hid hAA
  obtain ⟨n, hn⟩ : ∃ n, ss.length = n := ⟨_, rfl⟩
  obtain ⟨m, hm⟩ : ∃ m, zs.length = m := ⟨_, rfl⟩
  rw [hn] at l1 ⊢
  rw [hm] at l2 ⊢
  have HN := Lib.hid (And.intro hn hm)
  have hK0 := (Blk.new w 36 #[.slice A1 n c1, .slice A2 m c2, .int .i64 ah]).alloc (.cells #[.slice none 0 0, .int .i64 0, .int .i64 0, .int .i64 0, .int .i64 0, .int .i64 0, .int .i64 0, .int .i64 0, .int .i64 0] 38)
  have hQ0 : Blk ((w.alloc (.cells #[.slice A1 n c1, .slice A2 m c2, .int .i64 ah] 36)).alloc (.cells #[.slice none 0 0, .int .i64 0, .int .i64 0, .int .i64 0, .int .i64 0, .int .i64 0, .int .i64 0, .int .i64 0, .int .i64 0] 38)) (R + 1) 38 #[.slice none 0 0, .int .i64 0, .int .i64 0, .int .i64 0, .int .i64 0, .int .i64 0, .int .i64 0, .int .i64 0, .int .i64 0] := by
    have := Blk.new (w.alloc (.cells #[.slice A1 n c1, .slice A2 m c2, .int .i64 ah] 36)) 38 #[.slice none 0 0, .int .i64 0, .int .i64 0, .int .i64 0, .int .i64 0, .int .i64 0, .int .i64 0, .int .i64 0, .int .i64 0]
    rw [World.size_alloc, hR] at this
    exact this
  have hB0 : Below R w ((w.alloc (.cells #[.slice A1 n c1, .slice A2 m c2, .int .i64 ah] 36)).alloc (.cells #[.slice none 0 0, .int .i64 0, .int .i64 0, .int .i64 0, .int .i64 0, .int .i64 0, .int .i64 0, .int .i64 0, .int .i64 0] 38)) := by rw [← hR]; exact ((Below.refl _ _).alloc (Nat.le_refl _) _).alloc (by simp) _
  rw [hR] at hK0
  obtain ⟨W0, hW0⟩ : ∃ W0, (w.alloc (.cells #[.slice A1 n c1, .slice A2 m c2, .int .i64 ah] 36)).alloc (.cells #[.slice none 0 0, .int .i64 0, .int .i64 0, .int .i64 0, .int .i64 0, .int .i64 0, .int .i64 0, .int .i64 0, .int .i64 0] 38) = W0 := ⟨_, rfl⟩
  rw [hW0] at hK0 hQ0 hB0
  have c2' : W0.cell? ⟨R, 2, none⟩ = some (.int .i64 ah) := hK0.at_ 2 _ rfl
  have HK := Lib.hid (And.intro hK0 (And.intro hQ0 hB0))
  have HW0 := Lib.hid hW0
  clear hFI hAA hn hm r1 r2 hW0 hK0 hQ0 hB0 ha wf
  go_enter Try.func15, Try.ntmps15
  go_upto_region 1 with fail
  rw [HW0.out]
  clear HW0
  go_upto_region 5 with (go_at_call 19; with_reducible refine (HFI.out _).mono ?_; rintro e v1 ⟨rfl, hb1⟩)
  obtain ⟨G, hG⟩ : ∃ G, v1.heap.size = G := ⟨_, rfl⟩
  have hMK : Mk w R G #[.slice A1 n c1, .slice A2 m c2, .int .i64 ah] #[.slice none 0 0, .int .i64 0, .int .i64 0, .int .i64 0, .int .i64 0, .int .i64 0, .int .i64 0, .int .i64 0, .int .i64 0] (.slice none 0 0) (.slice none 0 0) [] [] (v1.alloc (.cells #[.slice none 0 0, .int .i64 0, .int .i64 0, .int .i64 0, .int .i64 0, .int .i64 0, .int .i64 0, .int .i64 0, .int .i64 0] 38)) := by
    obtain ⟨k0, q0, b0⟩ := HK.out
    have hRs : R + 1 < W0.heap.size := q0.lt
    have hsz := hb1.size
    refine ⟨(k0.below hb1 k0.lt).alloc _, (q0.below hb1 q0.lt).alloc _, by rw [← hG]; exact Blk.new _ _ _, World.ownsRow_nil _ _ _ _, World.ownsRow_nil _ _ _ _, by omega, (b0.trans (hb1.mono (by omega))).alloc (by omega) _⟩
  rw [hG]
  clear HK hb1 hG c2' e63 hA8 HFI
  generalize v1.alloc (.cells #[.slice none 0 0, .int .i64 0, .int .i64 0, .int .i64 0, .int .i64 0, .int .i64 0, .int .i64 0, .int .i64 0, .int .i64 0] 38) = W1 at *
  have x1 : W1.cell? ⟨G, 1, none⟩ = some (.int .i64 0) := hMK.d.at_ 1 _ rfl
  have f1 := hMK.d.frozen 1
  have hMK2 := hMK.setD 1 (.int .i64 AA)
  have hMK3 : Mk w R G #[.slice A1 n c1, .slice A2 m c2, .int .i64 ah] #[.slice none 0 0, .int .i64 AA, .int .i64 0, .int .i64 0, .int .i64 0, .int .i64 0, .int .i64 0, .int .i64 0, .int .i64 0] (.slice none 0 0) (.slice none 0 0) [] [] (W1.setCell ⟨G, 1, none⟩ (.int .i64 AA)) := by simpa using hMK2
  have HMK := Lib.hid hMK3
  clear hMK hMK2 hMK3
  go_upto_region 6 with fail
  generalize W1.setCell ⟨G, 1, none⟩ (.int .i64 AA) = W2 at *
  clear x1 f1
  generalize hv0 : mkb (zbL AA) = V0 at *
  have HV0 := Lib.hid hv0
  clear hv0
  have HCP := Lib.hid (fun v1 v2 x1 x2 v (h : Mk w R G #[.slice A1 n c1, .slice A2 m c2, .int .i64 ah] #[.slice none 0 0, .int .i64 AA, .int .i64 0, .int .i64 0, .int .i64 0, .int .i64 0, .int .i64 0, .int .i64 0, .int .i64 0] v1 v2 x1 x2 v) => show v.cell? ⟨R, 0, none⟩ = some (.slice A1 n c1) ∧ v.cell? ⟨R, 1, none⟩ = some (.slice A2 m c2) ∧ v.cell? ⟨G, 1, none⟩ = some (.int .i64 AA) from ⟨h.p.cell 0, h.p.cell 1, h.d.cell 1⟩)
  go_wp2_with fail
  go_loopw [5, 7, 8, 9] (fun vw lv nv i wr => ∃ (k : Nat), k ≤ n ∧ k ≤ 12 ∧ i = .int .i64 k ∧ vw = .string (mkb (viewM AA ss k)) ∧ Hid (Mk w R G #[.slice A1 n c1, .slice A2 m c2, .int .i64 ah] #[.slice none 0 0, .int .i64 AA, .int .i64 0, .int .i64 0, .int .i64 0, .int .i64 0, .int .i64 0, .int .i64 0, .int .i64 0] nv lv (nmsM ss k) (symsM ss zs k) wr)) (fun _ _ _ i _ => n - (intOf i).toNat)
  case atStart => exact ⟨0, Nat.zero_le _, by omega, rfl, by rw [← HV0.out]; simp [viewM, nmsM, nbM], HMK⟩
  case round =>
    clear HMK
    obtain ⟨k, hk, hk12, rfl, rfl, HM⟩ := hrel
    obtain ⟨y0, y1, y2⟩ := HCP.out _ _ _ _ _ HM.out
    by_cases hlt : k < n ∧ k < 12
    · obtain ⟨h1, h2⟩ := hlt
      have hkl : k < ss.length := by rw [HN.out.1]; exact h1
      obtain ⟨ad, rfl, hab, hc, hsz⟩ := (HV.out wr HM.out.bel).1 k hkl
      have HSH := Lib.hid (fun v => shortY_any ss[k] 8 v hsz (by omega))
      have hs8 := shortSY_size ss[k] 8
      have hnm : nmS ss[k] = cutZ (shortSY ss[k] 8) := rfl
      have hns := nmsM_succ ss hkl
      have hys := symsM_succ ss zs k
      rw [hnm] at hns
      have hvb := valM_in zs k
      have hvv : ∀ (h : k < zs.length), zs[k] % 4096 = valM zs k := fun h => by unfold valM; rw [List.getD_eq_getElem?_getD, List.getElem?_eq_getElem h]; rfl
      have hv0 : ¬ k < zs.length → valM zs k = 0 := fun h => by unfold valM; rw [List.getD_eq_getElem?_getD, List.getElem?_eq_none (by omega)]; rfl
      have hsy : symM ss zs k = ⟨((nbM (nmsM ss k)).length : Nat), !(valM zs k % 4 == 0), valM zs k⟩ := rfl
      rw [hsy] at hys
      have hvw : (mkb (viewM AA ss k)).size = AA + (nbM (nmsM ss k)).length := by rw [mkb_size]; unfold viewM; rw [List.length_append]; simp [zbL]
      have hnl := nbM_le (nmsM ss k) (nmsM_size ss k)
      rw [nmsM_length ss (by omega)] at hnl
      have hvn : mkb (viewM AA ss k) ++ cutZ (shortSY ss[k] 8) ++ ⟨#[0]⟩ = mkb (viewM AA ss (k + 1)) := by
        unfold viewM
        rw [hns, nbM_snoc]
        conv => lhs; rw [← mkb_of (cutZ (shortSY ss[k] 8)), show (⟨#[0]⟩ : ByteArray) = mkb [0] from rfl, mkb_append, mkb_append]
        simp [List.append_assoc]
      have HVV := Lib.hid (And.intro hvv hv0)
      generalize shortSY ss[k] 8 = S at *
      generalize ss[k] = S0 at *
      have HNS := Lib.hid hns
      have HYS := Lib.hid hys
      have HVN := Lib.hid hvn
      generalize valM zs k = V at *
      have hnl2 : (nbM (nmsM ss k)).length ≤ 108 := by omega
      generalize (nbM (nmsM ss k)).length = NB at *
      obtain ⟨VW, hVW⟩ : ∃ VW, mkb (viewM AA ss k) = VW := ⟨_, rfl⟩
      rw [hVW] at hvw HVN ⊢
      have HVW := Lib.hid hvw
      have hvw2 : VW.size ≤ 300 := by omega
      have hi12 : decide ((k : Int) < (n : Int)) = true := decide_eq_true (by omega)
      have hi13 : decide ((k : Int) < 12) = true := decide_eq_true (by omega)
      clear hns hys hvn hvv hv0 hsy hnm hsz hVW hvw hnl
      go_upto_region 10 with (go_at_call 8; refine (HSH.out _).mono ?_; rintro e w1 ⟨rfl, rfl⟩)
      go_wp2_with fail
      go_loopw [10, 11] (fun sv jv wx => ∃ (s : ByteArray) (j : Nat), j ≤ 9 ∧ s.size ≤ 8 ∧ sv = .string s ∧ jv = .int .i64 j ∧ Hid (Cutting S s j) ∧ wx = wr) (fun _ jv _ => 20 - (intOf jv).toNat)
      case atStart => exact ⟨S, 0, by omega, hs8, rfl, rfl, Lib.hid (.inl ⟨rfl, Nat.zero_le _⟩), rfl⟩
      case round =>
        obtain ⟨s, j, hj9, hs8, rfl, rfl, HC, rfl⟩ := hrel
        by_cases hj : j < s.size
        · obtain ⟨rfl, hz⟩ := HC.out.go hj
          by_cases hb : s[j] = 0
          · have hz2 := zat0_hit hj hz hb
            have hcs : s.extract 0 j = cutZ s := by unfold cutZ; rw [hz2]
            have hb2 : (s[j].toNat == 0) = true := by rw [hb]; rfl
            have HCS := Lib.hid (show (s.extract 0 j).size ≤ 8 ∧ Cutting s (s.extract 0 j) (j + 1) from ⟨by rw [hcs]; exact Nat.le_trans (cutZ_size s) hs8, by rw [hcs]; exact .inr ⟨rfl, by omega⟩⟩)
            clear hcs hz2
            go_wp2_with fail
            go_roundw
            case rel => exact ⟨_, j + 1, by omega, HCS.out.1, rfl, by go_num, Lib.hid HCS.out.2, trivial⟩
            case measure => simp [intOf]; omega
          · have hz2 := zat0_step hj hz hb
            have hb2 : (s[j].toNat == 0) = false := by
              simp only [beq_eq_false_iff_ne, ne_eq]
              intro h; exact hb (UInt8.toNat_inj.1 (by simpa using h))
            go_wp2_with fail
            go_roundw
            case rel => exact ⟨s, j + 1, by omega, hs8, rfl, by go_num, Lib.hid (.inl ⟨rfl, hz2⟩), trivial⟩
            case measure => simp [intOf]; omega
        · have hsc := HC.out.stop hj
          subst hsc
          clear HC
          go_upto_if 58 with fail
          go_cut [12] from 24 to 85 (fun x wx => x = .int .i64 V ∧ wr = wx)
          case first =>
            by_cases hkm : k < m
            · have hkz : k < zs.length := by rw [HN.out.2]; exact hkm
              obtain ⟨ad2, rfl, hab2, hd, hwf2⟩ := (HV.out _ HM.out.bel).2 k hkz
              have e12 := i64_and12 zs[k]
              rw [HVV.out.1 hkz] at e12
              generalize zs[k] = z at *
              go_wp2_with fail
              go_meet
              exact ⟨rfl, rfl⟩
            · obtain rfl : V = 0 := HVV.out.2 (by rw [HN.out.2]; exact hkm)
              go_wp2_with fail
              go_meet
              exact ⟨rfl, rfl⟩
          case rest =>
            obtain ⟨rfl, rfl⟩ := hcut
            have hnk : (nmsM ss k).length = k := nmsM_length ss (by omega)
            have hsk : (symsM ss zs k).length = k := symsM_length ss zs k
            have hm1 := HM.out.below ((Below.refl _ _).alloc (Nat.le_refl _) (.cells #[.string (cutZ S)] 9))
            have hsz1 : G + 1 ≤ wr.heap.size := HM.out.d.lt
            have hcz : (cutZ S).size ≤ 8 := hs8
            clear hs8
            have HM1 := Lib.hid hm1
            obtain ⟨i0, hi, hz0, hz1, hz2⟩ := info_parts infoStr
            clear hm1 HM hc hab hi12 hi13 HSH y0 y1
            generalize cutZ S = SC at *
            go_upto_region 19 with (refine wpList_append_lies _ (by rfl) (.tmp 65) (.tmp 67) _ (by rfl) (G + 1) 9 i0 _ 1 16 Try.underlying24 hi hz0 hz1 hz2 rfl (by omega) u8 (nmsM ss k).length (strs (nmsM ss k)) (by rfl) HM1.out.a ⟨wr.heap.size, 0, none⟩ 1 1 [.string SC] (by rfl) (by rfl) (World.news_of_block (cs := #[.string SC]) (t := 9) (fr := (0, 0)) (heap_alloc_new wr _)) (by simp [Value.oneCell']) (by omega) (by unfold maxLen; omega) (by omega) (by simp; omega) (wr.heap.size + 1) (by simp) ?_; intro gg cap w1 hown1 hgrow hat hlt1)
            have hm2 := HM1.out.push1 (s := SC) hown1 hgrow
            rw [← HNS.out] at hm2
            have HM2 := Lib.hid hm2
            have z1 : w1.cell? ⟨G, 1, none⟩ = some (.int .i64 AA) := hm2.d.at_ 1 _ rfl
            have hvsub : (VW.size : Int) - (AA : Int) = (NB : Int) := by have := HVW.out; omega
            have e3 := i64_and3m V
            clear hm2 hown1 hgrow hat hlt1 HM1 hi hz0 hz1 hz2 y2
            obtain ⟨i1, hi, hz0, hz1, hz2⟩ := info_parts infoSy
            have hm3 := HM2.out.below ((Below.refl _ _).alloc (Nat.le_refl _) (.cells #[.int .i64 NB, .bool (!(V % 4 == 0)), .int .i64 V] 23))
            have HM3 := Lib.hid hm3
            have hsz2 : G + 1 ≤ w1.heap.size := HM2.out.d.lt
            clear hm3
            go_upto_region 20 with (refine wpList_append_lies _ (by rfl) (.tmp 69) (.tmp 80) _ (by rfl) (G + 1) 23 i1 _ 3 24 Try.underlying39 hi hz0 hz1 hz2 rfl (by omega) u7 (symsM ss zs k).length (syCells (symsM ss zs k)) (by rfl) HM3.out.b ⟨w1.heap.size, 0, none⟩ 1 1 [.int .i64 NB, .bool (!(V % 4 == 0)), .int .i64 V] (by rfl) (by rfl) (World.news_of_block (cs := #[.int .i64 NB, .bool (!(V % 4 == 0)), .int .i64 V]) (t := 23) (fr := (0, 0)) (heap_alloc_new w1 _)) (by simp [Value.oneCell']) (by omega) (by unfold maxLen; omega) (by omega) (by simp; omega) (w1.heap.size + 1) (by simp) ?_; intro g2 cap2 w2 hown2 hgrow2 hat2 hlt2)
            have hm4 := HM3.out.push2 (s := ⟨NB, !(V % 4 == 0), V⟩) hown2 hgrow2
            rw [← HYS.out] at hm4
            rw [hnk, hsk] at hm4
            have HM4 := Lib.hid hm4
            clear hm4 hown2 hgrow2 hat2 hlt2 HM2 HM3 hi hz0 hz1 hz2 z1 e3 hvsub hvb hnl2 hsz1 hsz2 hnk hsk
            go_wp2_with fail
            go_roundw
            case rel => exact ⟨k + 1, by omega, by omega, by go_num, by rw [HVN.out], HM4⟩
            case measure => simp [intOf]; omega
    · have hl2 : (k < n ∧ ¬ k < 12) ∨ ¬ k < n := by omega
      have hkc : cntM ss = k := by unfold cntM; rw [HN.out.1]; omega
      have hvw : (mkb (viewM AA ss k)).size = AA + (nbM (nmsM ss k)).length := by rw [mkb_size]; unfold viewM; rw [List.length_append]; simp [zbL]
      have hnl := nbM_le (nmsM ss k) (nmsM_size ss k)
      rw [nmsM_length ss (by rw [HN.out.1]; exact hk)] at hnl
      have hgoal : MadeP w ah ss zs = fun e w' => ∃ A c, e = .returned (.tuple #[.string (mkb (viewM AA ss k ++ (symsM ss zs k).flatMap Sy.bytes ++ tabY (nmsM ss k))), .agg #[.slice none 0 0, .int .i64 AA, .int .i64 (nbM (nmsM ss k)).length, .int .i64 ((AA + (nbM (nmsM ss k)).length : Nat) : Int), .int .i64 ((AA + (nbM (nmsM ss k)).length + 24 * k : Nat) : Int), .int .i64 0, .int .i64 0, .int .i64 0, .int .i64 0], .slice A k c]) ∧ SyRow w' A (symsM ss zs k) ∧ Below w.heap.size w w' := by
        funext e w'
        unfold MadeP VM DM
        rw [hkc, HAA.out]
        rfl
      have HGOAL := Lib.hid hgoal
      clear hgoal
      obtain ⟨NB, hNB⟩ : ∃ NB, (nbM (nmsM ss k)).length = NB := ⟨_, rfl⟩
      rw [hNB] at hvw hnl HGOAL
      obtain ⟨AN, hAN⟩ : ∃ AN, AA + NB = AN := ⟨_, rfl⟩
      rw [hAN] at hvw HGOAL
      obtain ⟨AH, hAH⟩ : ∃ AH, AN + 24 * k = AH := ⟨_, rfl⟩
      rw [hAH] at HGOAL
      have hsub : (AN : Int) - (AA : Int) = (NB : Int) := by omega
      have hAN3 : AN ≤ 300 := by omega
      obtain ⟨VW, hVW⟩ : ∃ VW, mkb (viewM AA ss k) = VW := ⟨_, rfl⟩
      rw [hVW] at hvw ⊢
      have hm1 := HM.out.setD 2 (.int .i64 NB)
      have hm2 := hm1.setD 3 (.int .i64 AN)
      have x2 : wr.cell? ⟨G, 2, none⟩ = some (.int .i64 0) := HM.out.d.at_ 2 _ rfl
      have f2 := HM.out.d.frozen 2
      have x3 : (wr.setCell ⟨G, 2, none⟩ (.int .i64 NB)).cell? ⟨G, 3, none⟩ = some (.int .i64 0) := hm1.d.at_ 3 _ rfl
      have f3 := hm1.d.frozen 3
      have x1 : (wr.setCell ⟨G, 2, none⟩ (.int .i64 NB)).cell? ⟨G, 1, none⟩ = some (.int .i64 AA) := hm1.d.at_ 1 _ rfl
      have hm3 : Mk w R G #[.slice A1 n c1, .slice A2 m c2, .int .i64 ah] #[.slice none 0 0, .int .i64 AA, .int .i64 NB, .int .i64 AN, .int .i64 0, .int .i64 0, .int .i64 0, .int .i64 0, .int .i64 0] u8 u7 (nmsM ss k) (symsM ss zs k) ((wr.setCell ⟨G, 2, none⟩ (.int .i64 NB)).setCell ⟨G, 3, none⟩ (.int .i64 AN)) := by simpa using hm2
      have HM3 := Lib.hid hm3
      have HVW := Lib.hid (And.intro hVW hAH)
      have HN2 := Lib.hid (And.intro hNB hAN)
      clear hm1 hm2 hm3 hVW hnl hAH hNB hAN HM
      rcases hl2 with ⟨h1, h2⟩ | h1
      all_goals
        go_upto_region 23 with fail
        generalize (wr.setCell ⟨G, 2, none⟩ (.int .i64 NB)).setCell ⟨G, 3, none⟩ (.int .i64 AN) = W3 at *
        clear x1 x2 x3 f2 f3 y0 y1 y2
        obtain ⟨hbl, A7, c7, rfl, hrow⟩ := SyRow.of_own HM3.out.b
        have hsl : (symsM ss zs k).length = k := symsM_length ss zs k
        rw [hsl] at hbl ⊢
        have HROW := Lib.hid (fun v (hv : Below W3.heap.size W3 v) => hrow.below rfl hv)
        have HMB := Lib.hid (fun v (hv : Below W3.heap.size W3 v) => HM3.out.below hv)
        have hB3 := Lib.hid (Below.refl W3.heap.size W3)
        have HSL := Lib.hid hsl
        clear hrow hsl hbl
        go_wp2_with fail
        go_loopw [5, 13] (fun vw iv wx => ∃ (i : Nat), i ≤ k ∧ iv = .int .i64 i ∧ vw = .string (mkb (viewM AA ss k ++ ((symsM ss zs k).take i).flatMap Sy.bytes)) ∧ Hid (Below W3.heap.size W3 wx)) (fun _ iv _ => k - (intOf iv).toNat)
        case atStart => exact ⟨0, Nat.zero_le _, rfl, by rw [← HVW.out.1]; simp, hB3⟩
        case round =>
          clear hB3
          obtain ⟨i, hi, rfl, rfl, HB⟩ := hrel
          by_cases hik : i < k
          · have hil : i < (symsM ss zs k).length := by rw [HSL.out]; exact hik
            obtain ⟨ad, rfl, hblt, s0, s1, s2⟩ := (HROW.out wr HB.out).at_ hil
            have hsw : ((symsM ss zs k)[i]).wf := by rw [symsM_at]; exact symM_wf ss zs (by omega)
            have hby := fun v => rsbytes_any (symsM ss zs k)[i] v hsw
            have hvn : mkb (viewM AA ss k ++ ((symsM ss zs k).take i).flatMap Sy.bytes) ++ mkb ((symsM ss zs k)[i]).bytes = mkb (viewM AA ss k ++ ((symsM ss zs k).take (i + 1)).flatMap Sy.bytes) := by
              rw [mkb_append, List.take_succ_eq_append_getElem hil, List.flatMap_append, List.append_assoc]
              simp
            have hz1 : (mkb (viewM AA ss k ++ ((symsM ss zs k).take i).flatMap Sy.bytes)).size ≤ 700 := by
              have h1 := hvw
              rw [← HVW.out.1, mkb_size] at h1
              rw [mkb_size, List.length_append, h1, flat_bytesY, List.length_take]
              omega
            have hz2 : (mkb ((symsM ss zs k)[i]).bytes).size ≤ 24 := by rw [mkb_size, Sy.bytes_length]; exact Nat.le_refl _
            have HVN := Lib.hid hvn
            generalize mkb (viewM AA ss k ++ ((symsM ss zs k).take i).flatMap Sy.bytes) = V1 at *
            unfold Sy.cs at hby
            generalize mkb ((symsM ss zs k)[i]).bytes = V2 at *
            have HBY := Lib.hid hby
            generalize ((symsM ss zs k)[i]).n = y0 at *
            generalize ((symsM ss zs k)[i]).d = y1 at *
            generalize ((symsM ss zs k)[i]).v = y2 at *
            clear hby hvn hsw hvw hsub
            go_wp2_with (go_at_call 14; with_reducible refine (HBY.out _).mono ?_; rintro e v5 ⟨rfl, hb5⟩)
            go_roundw
            case rel => exact ⟨i + 1, by omega, by go_num, by rw [HVN.out], Lib.hid (HB.out.trans (hb5.mono HB.out.size))⟩
            case measure => simp [intOf]; omega
          · obtain rfl : i = k := by omega
            have htk : (symsM ss zs i).take i = symsM ss zs i := List.take_of_length_le (by rw [HSL.out]; exact Nat.le_refl _)
            rw [htk]
            have hv3 : (mkb (viewM AA ss i ++ (symsM ss zs i).flatMap Sy.bytes)).size = AH := by
              have h1 := hvw
              rw [← HVW.out.1, mkb_size] at h1
              rw [mkb_size, List.length_append, h1, flat_bytesY, HSL.out]
              exact HVW.out.2
            have hcat : mkb (viewM AA ss i ++ (symsM ss zs i).flatMap Sy.bytes) ++ mkb (tabY (nmsM ss i)) = mkb (viewM AA ss i ++ (symsM ss zs i).flatMap Sy.bytes ++ tabY (nmsM ss i)) := mkb_append _ _
            have hts : (mkb (tabY (nmsM ss i))).size ≤ 200 := by
              rw [mkb_size, tabY_length, nmsM_length ss (by rw [HN.out.1]; exact hk)]
              unfold bN
              omega
            have hAHl : AH ≤ 700 := by have := HVW.out.2; omega
            have hM4 := HMB.out wr HB.out
            have x4 : wr.cell? ⟨G, 4, none⟩ = some (.int .i64 0) := hM4.d.at_ 4 _ rfl
            have f4 := hM4.d.frozen 4
            have hM5 : Mk w R G #[.slice A1 n c1, .slice A2 m c2, .int .i64 ah] #[.slice none 0 0, .int .i64 AA, .int .i64 NB, .int .i64 AN, .int .i64 AH, .int .i64 0, .int .i64 0, .int .i64 0, .int .i64 0] u8 (.slice A7 i c7) (nmsM ss i) (symsM ss zs i) (wr.setCell ⟨G, 4, none⟩ (.int .i64 AH)) := by
              have := hM4.setD 4 (.int .i64 AH)
              simpa [HSL.out] using this
            obtain ⟨hnl, A8, c8, rfl, hsr⟩ := strRow_ownY hM5.a (fun x hx => by have := nmsM_size ss i x hx; unfold maxLen; omega)
            have hni : (nmsM ss i).length = i := nmsM_length ss (by rw [HN.out.1]; exact hk)
            have htb := rtable_any A8 (nmsM ss i) c8 _ hsr (by omega) (fun x hx => by have := nmsM_size ss i x hx; omega)
            rw [hni] at htb hM5 ⊢
            have HTB := Lib.hid htb
            have HM5 := Lib.hid hM5
            have HCAT := Lib.hid hcat
            generalize mkb (viewM AA ss i ++ (symsM ss zs i).flatMap Sy.bytes) = V3 at *
            generalize mkb (tabY (nmsM ss i)) = TB at *
            clear htb hM5 hM4 hcat hsr htk hvw hsub hnl
            go_upto_region 29 with (go_at_call 10; with_reducible refine HTB.out.mono ?_; rintro e v6 ⟨rfl, hb6⟩)
            have hM6 := HM5.out.below hb6
            have k0 : v6.cell? ⟨G, 0, none⟩ = some (.slice none 0 0) := hM6.d.at_ 0 _ rfl
            have k1 : v6.cell? ⟨G, 1, none⟩ = some (.int .i64 AA) := hM6.d.at_ 1 _ rfl
            have k2 : v6.cell? ⟨G, 2, none⟩ = some (.int .i64 NB) := hM6.d.at_ 2 _ rfl
            have k3 : v6.cell? ⟨G, 3, none⟩ = some (.int .i64 AN) := hM6.d.at_ 3 _ rfl
            have k4 : v6.cell? ⟨G, 4, none⟩ = some (.int .i64 AH) := hM6.d.at_ 4 _ rfl
            have k5 : v6.cell? ⟨G, 5, none⟩ = some (.int .i64 0) := hM6.d.at_ 5 _ rfl
            have k6 : v6.cell? ⟨G, 6, none⟩ = some (.int .i64 0) := hM6.d.at_ 6 _ rfl
            have k7 : v6.cell? ⟨G, 7, none⟩ = some (.int .i64 0) := hM6.d.at_ 7 _ rfl
            have k8 : v6.cell? ⟨G, 8, none⟩ = some (.int .i64 0) := hM6.d.at_ 8 _ rfl
            have r0 : v6.cell? ⟨R + 1, 0, none⟩ = some (.slice none 0 0) := hM6.r.at_ 0 _ rfl
            have r1 : v6.cell? ⟨R + 1, 1, none⟩ = some (.int .i64 0) := hM6.r.at_ 1 _ rfl
            have r2 : v6.cell? ⟨R + 1, 2, none⟩ = some (.int .i64 0) := hM6.r.at_ 2 _ rfl
            have r3 : v6.cell? ⟨R + 1, 3, none⟩ = some (.int .i64 0) := hM6.r.at_ 3 _ rfl
            have r4 : v6.cell? ⟨R + 1, 4, none⟩ = some (.int .i64 0) := hM6.r.at_ 4 _ rfl
            have r5 : v6.cell? ⟨R + 1, 5, none⟩ = some (.int .i64 0) := hM6.r.at_ 5 _ rfl
            have r6 : v6.cell? ⟨R + 1, 6, none⟩ = some (.int .i64 0) := hM6.r.at_ 6 _ rfl
            have r7 : v6.cell? ⟨R + 1, 7, none⟩ = some (.int .i64 0) := hM6.r.at_ 7 _ rfl
            have r8 : v6.cell? ⟨R + 1, 8, none⟩ = some (.int .i64 0) := hM6.r.at_ 8 _ rfl
            have g0 := hM6.r.frozen 0
            have g1 := hM6.r.frozen 1
            have g2 := hM6.r.frozen 2
            have g3 := hM6.r.frozen 3
            have g4 := hM6.r.frozen 4
            have g5 := hM6.r.frozen 5
            have g6 := hM6.r.frozen 6
            have g7 := hM6.r.frozen 7
            have g8 := hM6.r.frozen 8
            have q1 : R + 1 ≠ G := by have := hM6.rg; omega
            have q2 : G ≠ R + 1 := fun e => q1 e.symm
            have q3 : ((R + 1) == G) = false := by simpa using q1
            have q4 : (G == (R + 1)) = false := by simpa using q2
            have HM6 := Lib.hid hM6
            clear hM6 hb6 HM5 HTB x4 f4
            go_region
            go_wp2
            rw [HGOAL.out]
            have hrg := HM6.out.rg
            have hbk := (blk9Y HM6.out.r (u0 := .slice none 0 0) (u1 := .int .i64 AA) (u2 := .int .i64 NB) (u3 := .int .i64 AN) (u4 := .int .i64 AH) (u5 := .int .i64 0) (u6 := .int .i64 0) (u7 := .int .i64 0) (u8 := .int .i64 0)).drew
            have hbl := (below9Y HM6.out.bel (b := R + 1) (by omega) (.slice none 0 0) (.int .i64 AA) (.int .i64 NB) (.int .i64 AN) (.int .i64 AH) (.int .i64 0) (.int .i64 0) (.int .i64 0) (.int .i64 0)).drew
            have how := own9Y HM6.out.b (b := R + 1) (by omega) (.slice none 0 0) (.int .i64 AA) (.int .i64 NB) (.int .i64 AN) (.int .i64 AH) (.int .i64 0) (.int .i64 0) (.int .i64 0) (.int .i64 0)
            obtain ⟨-, A9, c9, hv9, hrow9⟩ := SyRow.of_own how
            rw [HSL.out] at hv9
            injection hv9 with e1 e2 e3
            subst e1
            subst e3
            clear how
            generalize World.setCell _ _ _ = W9 at hbk hbl hrow9 ⊢
            have hrow10 : SyRow W9.drew A7 (symsM ss zs i) := hrow9
            have hB10 : Below w.heap.size w W9.drew := by rw [hR]; exact hbl
            clear hrow9 hbl
            refine bodyPost_ret (results_tct rfl _ _ (R + 1) 38 _ (0, 0) _ rfl hbk Try.underlying38 rfl (by kernel_rfl)) rfl ⟨A7, c7, ?_, hrow10, hB10⟩
            rw [← HCAT.out]
            rfl
end Go.Proofs.Ytkembimfkoganaa
