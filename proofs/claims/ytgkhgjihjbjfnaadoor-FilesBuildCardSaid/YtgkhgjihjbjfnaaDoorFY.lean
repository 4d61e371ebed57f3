/- Package files: Bytes: what its rounds keep; the bytes that they put together; an append of a text in a round. -/
import Derived.Test.YtgkhgjihjbjfnaaDoorFR
import Derived.Lib.AppendStr
namespace Go.Proofs.YtgkhgjihjbjfnaaDoor
open Go.RowKit Go.Shelf
set_option linter.unusedVariables false
set_option linter.unusedSimpArgs false
attribute [local go_sem] Oper.semAt_some

/-- Cells of extents, or of a list of them. -/
def isExt (t : TypeId) : Prop := t = 61 ∨ t = 53
/-- Extents are as they were. -/
def KpX (W W' : World) : Prop := ∀ k cs t, isExt t → Blk W k t cs → Blk W' k t cs
theorem KpX.refl (W : World) : KpX W W := fun _ _ _ _ h => h
theorem KpX.trans {A B C : World} (h : KpX A B) (k : KpX B C) : KpX A C := fun i cs t hS hi => k i cs t hS (h i cs t hS hi)
theorem KpX.alloc (W : World) (o : Obj) : KpX W (W.alloc o) := fun _ _ _ _ h => h.alloc o
theorem KpX.drew (W : World) : KpX W W.drew := fun _ _ _ _ h => h
theorem KpX.of_but {S : Nat → Prop} {W W' : World} (h : But S W W') (hS : ∀ k, S k → ∃ t cs, Blk W k t cs ∧ ¬ isExt t) : KpX W W' := fun k cs t ht hb => hb.but h (fun e => by
  obtain ⟨t', cs', h1, h2⟩ := hS k e
  unfold Blk at hb h1
  rw [hb] at h1
  cases h1
  exact h2 ht)
theorem KpX.grown {W W' : World} {row : Option Nat} (h : W.grownBy W' row) (hS : ∀ k, row = some k → ∃ t cs, Blk W k t cs ∧ ¬ isExt t) : KpX W W' := fun k cs t ht hb => hb.grown h (fun e => by
  obtain ⟨t', cs', h1, h2⟩ := hS k e.symm
  unfold Blk at hb h1
  rw [hb] at h1
  cases h1
  exact h2 ht)
theorem KpX.setCell (W : World) {p : Addr} {t : TypeId} {cs : Array Value} (hp : Blk W p.block t cs) (ht : ¬ isExt t) (u : Value) : KpX W (W.setCell p u) := fun k cs' t' ht' hb => hb.far (fun e => by
  subst e
  unfold Blk at hb hp
  rw [hb] at hp
  cases hp
  exact ht ht') u
theorem kpX_b {w : World} (W : World) (l : Nat) (o o' : Obj) (_ : w.heap.size ≤ l) (h : W.heap[l]? = some o) (ho : o.isCells = false) (_ : o.isWalk = false) : KpX W (W.putObj l o') := fun k cs t _ hb => by
  refine (World.putObj_heap_other ?_).trans hb
  intro e
  subst e
  unfold Blk at hb
  rw [hb] at h
  cases h
  cases ho

set_option maxRecDepth 100000 in
set_option maxHeartbeats 2000000 in
theorem parts1x_in (n : Nat) (hn : 1 ≤ n) (l Bs g cap : Nat) (cur : Array Value) (xs : List (Nat × Nat)) (hsm : SmallE xs) (J Jx : List (Fin xs.length) → World → Prop) (W : World)
    (hJ : AbidesFrom W.heap.size J)
    (hY : ∀ pre x W1, J pre W1 → pre.length < xs.length → YieldAt Fence.wide (n - 1) Tryd.prog l (encE xs x) W1 fun e W' =>
      (e = .returned (.bool true) ∧ J (pre ++ [x]) W' ∧ KpX W1 W') ∨ (e = .returned (.bool false) ∧ Jx (pre ++ [x]) W'))
    (hBs : Blk W Bs 53 #[.slice (some ⟨g, 0, none⟩) xs.length cap]) (hg : Blk W g 61 cur) (hc : cur.toList.take (xs.length * 2) = extCells xs) (h0 : J [] W) :
    CallsIn Fence.wide n Tryd.prog 59 #[.func (.yield l) #[] #[], .pointer (some ⟨Bs, 0, none⟩)] W fun e W' => (∃ v, e = .returned v) ∧
      ((∃ ys, ys = List.finRange xs.length ∧ J ys W') ∨ (∃ pre, (∃ k, k ≤ xs.length ∧ pre = upF xs.length k) ∧ Jx pre W')) := by
  refine callsIn_of_wp Tryd.func59 rfl trivial ?_ rfl
  simp only [Tryd.ntmps59, List.size_toArray, List.length_cons, List.length_nil, Nat.reduceAdd, Nat.reduceSub, Array.replicate_succ, Array.replicate_zero, List.push_toArray, List.append_toArray, List.nil_append, List.cons_append]
  have cBs := hBs.at_ 0 _ rfl
  gi_wp2
  gi_loopw [3, 8] (fun a i wr => ∃ k : Nat, k ≤ xs.length ∧ i = .int .i64 k ∧ a = .int .i64 (ahd xs k : Nat) ∧ J (upF xs.length k) wr ∧ KpX W wr ∧ W.heap.size ≤ wr.heap.size)
    (fun _ i _ => xs.length - (intOf i).toNat)
  case atStart => exact ⟨0, Nat.zero_le _, rfl, rfl, by rw [upF_zero]; exact h0, KpX.refl _, Nat.le_refl _⟩
  case round =>
    obtain ⟨k, hk, rfl, rfl, hJs, hK, hsz⟩ := hrel
    by_cases hlt : k < xs.length
    · have hbg := hK _ _ _ (.inl rfl) hg
      obtain ⟨c1, c2⟩ := ext_cells hbg hc hlt
      have hJ1 := hJ _ _ _ none hJs (World.grownBy_alloc wr (.cells #[.int .i64 (xs[k].1 : Nat), .int .i64 (xs[k].2 : Nat)] 61) none) (fun r e => by cases e)
      obtain ⟨fn, tmps, assign, body, hy, hR⟩ := hY _ ⟨k, hlt⟩ _ hJ1 (by rw [upF_length hk]; exact hlt)
      simp only [encE] at hy
      have hbn : ∀ W3, KpX (wr.alloc (.cells #[.int .i64 (xs[k].1 : Nat), .int .i64 (xs[k].2 : Nat)] 61)) W3 → Blk W3 wr.heap.size 61 #[.int .i64 (xs[k].1 : Nat), .int .i64 (xs[k].2 : Nat)] := fun W3 h3 =>
        h3 _ _ _ (.inl rfl) (Blk.new _ _ _)
      have hKn : ∀ W3, KpX (wr.alloc (.cells #[.int .i64 (xs[k].1 : Nat), .int .i64 (xs[k].2 : Nat)] 61)) W3 → KpX W W3 := fun W3 h3 => hK.trans ((KpX.alloc wr _).trans h3)
      have hA := ahd_succ xs hlt
      have hA1 := ahd_le xs (k + 1)
      have hA2 := hsm.2.1
      have hA3 := hsm.2.2 _ (List.getElem_mem hlt)
      have hA4 := hsm.1
      have hup := upF_succ hlt
      rw [hA] at hA1
      generalize ahd xs k = A at *
      generalize xs[k].1 = p at *
      generalize xs[k].2 = q at *
      have HB := Lib.hid hbn
      have HK := Lib.hid hKn
      have HU := Lib.hid hup
      have HA := Lib.hid hA
      clear hbn hKn hup hA hbg hJ1 hJs hK
      gi_wp2
      refine hR.mono ?_
      rintro e W3 (⟨rfl, hJ3, hk3⟩ | ⟨rfl, hJx3⟩)
      · have hb3 := HB.out _ hk3
        have c3 := hb3.at_ 1 _ rfl
        have hl3 := hb3.lt
        clear hb3
        gi_wp2
        go_roundw
        case rel => exact ⟨k + 1, by omega, by go_num, by rw [HA.out]; go_num, by rw [HU.out]; exact hJ3, HK.out _ hk3, by omega⟩
        case measure => simp [intOf]; omega
      · gi_wp2
        refine bodyPost_ret (results_none rfl _ _ _) rfl ?_
        exact ⟨⟨_, rfl⟩, .inr ⟨_, ⟨k + 1, by omega, HU.out.symm⟩, hJx3⟩⟩
    · obtain rfl : k = xs.length := by omega
      gi_wp2
      go_end0
      exact ⟨⟨_, rfl⟩, .inl ⟨_, upF_full _, hJs⟩⟩
/-- What parts hands back stops at each extent, in order. -/
theorem partsx_stops (n : Nat) (hn : 1 ≤ n) (Bs : Nat) (v : Value) (xs : List (Nat × Nat)) (hsm : SmallE xs) (w : World) (hBs : Blk w Bs 53 #[v]) (hv : ExtRow w v xs) :
    SeqStopsK Fence.wide n Tryd.prog 59 #[.pointer (some ⟨Bs, 0, none⟩)] (encE xs) KpX (fun ys => ys = List.finRange xs.length) (fun pre => ∃ k, k ≤ xs.length ∧ pre = upF xs.length k) xs.length w := fun l J Jx W hW hJ _ hY h0 => by
  have hBs' : Blk W Bs 53 #[v] := hBs.below hW hBs.lt
  rcases hv.below hW with ⟨rfl, rfl⟩ | ⟨g, cap, cur, rfl, hb, hc⟩
  · exact (parts1_nil_in n l Bs (J []) W hBs' h0).mono fun e W' ⟨he, hj⟩ => ⟨he, .inl ⟨_, rfl, hj⟩⟩
  · exact parts1x_in n hn l Bs g cap cur xs hsm J Jx W hJ hY hBs' hb hc h0

/-- Pages a .. a+n-1, one behind the other. -/
def secL (d : ByteArray) (a n : Nat) : List UInt8 := (List.range n).flatMap fun j => (pageOf d (a + j)).data.toList
theorem secL_zero (d : ByteArray) (a : Nat) : secL d a 0 = [] := rfl
theorem secL_succ (d : ByteArray) (a n : Nat) : secL d a (n + 1) = secL d a n ++ (pageOf d (a + n)).data.toList := by
  unfold secL
  rw [List.range_succ, List.flatMap_append]
  simp
theorem secL_length (d : ByteArray) (a : Nat) : ∀ n, (secL d a n).length = 64 * n
  | 0 => rfl
  | n + 1 => by
    rw [secL_succ, List.length_append, secL_length d a n, len_data, pageOf_size]
    omega
theorem secL_add (d : ByteArray) (a m : Nat) : ∀ n, secL d a (m + n) = secL d a m ++ secL d (a + m) n
  | 0 => by simp [secL_zero]
  | n + 1 => by
    rw [← Nat.add_assoc, secL_succ, secL_add d a m n, secL_succ, List.append_assoc, Nat.add_assoc]
theorem fillL_add (l : List UInt8) (a b : Nat) : fillL l (a + b) = fillL l a ++ fillL (l.drop a) b := by
  unfold fillL
  rcases Nat.le_total a l.length with h | h
  · rw [List.take_add, List.length_drop, show a - l.length = 0 by omega, show a + b - l.length = b - (l.length - a) by omega]
    simp
  · rw [List.take_of_length_le (by omega), List.take_of_length_le h, List.drop_of_length_le h, show a + b - l.length = (a - l.length) + b by omega, ← List.replicate_append_replicate]
    simp
theorem secL_fill (d : ByteArray) : ∀ n, secL d 0 n = fillL d.data.toList (64 * n)
  | 0 => by simp [secL_zero, fillL]
  | n + 1 => by
    rw [secL_succ, secL_fill d n, Nat.mul_succ, fillL_add, Nat.zero_add]
    unfold pageOf
    rw [mkb_data]
theorem secL_take (d : ByteArray) : (secL d 0 (pgs d.size)).take d.size = d.data.toList := by
  rw [secL_fill]
  have hl := len_data d
  have h : d.data.toList.length ≤ 64 * pgs d.size := by unfold pgs; omega
  unfold fillL
  rw [List.take_of_length_le h, ← hl, List.take_append_of_le_length (Nat.le_refl _), List.take_length]
/-- The sectors of these extents, one behind the other. -/
def cont (d : ByteArray) (xs : List (Nat × Nat)) (pre : List (Fin xs.length)) : List UInt8 := pre.flatMap fun x => secL d (ahd xs x.1) xs[x.1].2
theorem cont_snoc (d : ByteArray) (xs : List (Nat × Nat)) (pre : List (Fin xs.length)) (x : Fin xs.length) : cont d xs (pre ++ [x]) = cont d xs pre ++ secL d (ahd xs x.1) xs[x.1].2 := by simp [cont]
theorem cont_upF (d : ByteArray) (xs : List (Nat × Nat)) : ∀ k, k ≤ xs.length → cont d xs (upF xs.length k) = secL d 0 (ahd xs k)
  | 0, _ => by simp [upF_zero, cont, ahd, secL_zero]
  | k + 1, h => by
    rw [upF_succ (by omega), cont_snoc, cont_upF d xs k (by omega), ahd_succ xs (by omega), secL_add, Nat.zero_add]
theorem cont_full (d : ByteArray) (xs : List (Nat × Nat)) : cont d xs (List.finRange xs.length) = secL d 0 (ahd xs xs.length) := by
  rw [← upF_full, cont_upF d xs _ (Nat.le_refl _)]
theorem cont_le (d : ByteArray) (xs : List (Nat × Nat)) (M : Nat) (hM : ∀ e ∈ xs, e.2 ≤ M) : ∀ pre : List (Fin xs.length), (cont d xs pre).length ≤ 64 * M * pre.length
  | [] => by simp [cont]
  | x :: pre => by
    have h1 := cont_le d xs M hM pre
    have h2 := hM _ (List.getElem_mem x.2)
    have e : cont d xs (x :: pre) = secL d (ahd xs x.1) xs[x.1].2 ++ cont d xs pre := by simp [cont]
    rw [e, List.length_append, secL_length, List.length_cons, Nat.mul_succ]
    have : 64 * xs[x.1].2 ≤ 64 * M := Nat.mul_le_mul_left 64 h2
    omega

/-- make([]byte, 0, n). -/
theorem run_make_bytes0 {P : Program} (t e : TypeId) (i : TypeInfo) (ht : P.underlying t = some (.slice e)) (hi : P.info? e = some i) (hz : i.zero = some (.int .u8 0)) (hs : i.size = 1) (hb : i.bytes = 1)
    (n : Int) (h0 : 0 ≤ n) (hn : n ≤ 281474976710656) (w : World) :
    (Instr.makeSlice t (.int .i64 0) (.int .i64 n)).run P w = .ok (.slice (some ⟨w.heap.size, 0, none⟩) 0 n.toNat) (w.alloc (.cells (zrow n.toNat) e)) := by
  rw [run_make (P := P) w t e i _ ht hi hz .i64 .i64 0 n (Int.le_refl _) h0 (by rw [hb]; omega) (by omega), hs, madeCells_bytes]
  rfl
/-- An append whose run is known, in a round. -/
theorem wpListIn_append_run {F : Fence} {n : Nat} {P : Program} (w : World) {ops : Array Oper} {rest : List Oper} {o : Oper} {a : Act} {Q : Exit → Act → World → Prop}
    (hg : o.guard = none) (s x : Operand) (t u : TypeId) (hop : o.op = Op.call { callee := Callee.builtin Builtin.append, args := #[s, x], argTypes := #[t, u] })
    (v y v' : Value) (w' : World) (hs : a.eval s = v) (hx : a.eval x = y) (hrun : (Builtin.append_ #[t, u] o.type #[v, y]).run P w = .ok v' w') (hK : wpListIn F n P ops Q rest (a.put o.dst v') w') :
    wpListIn F n P ops Q (o :: rest) a w := by
  refine wpListIn_plain hg fun K hK' => ?_
  unfold Oper.wpIn
  refine ⟨?_, ?_⟩
  · simp [Oper.about, hop, resolve, Target.leads, Sem.run_pure]
  · rw [Oper.semAt_plain F _ _ (by rw [hop]; intro c hc'; cases hc')]
    simp [execOp, hop, resolve, invoke, builtin, hs, hx, hrun, Result.andThen]
    exact hK' _ _ hK
/-- What ends by itself alone. -/
def calm (Q : Exit → Act → World → Prop) : Exit → Act → World → Prop
  | .normal, a, w => Q .normal a w
  | _, _, _ => False
theorem calm_le {Q : Exit → Act → World → Prop} : ∀ e a w, calm Q e a w → Q e a w := fun e a w h => by
  cases e <;> first | exact h | exact h.elim
theorem calm_not {Q : Exit → Act → World → Prop} : ¬ LetsOut (calm Q) := fun ⟨_, _, h⟩ => h
theorem calm_normal {Q : Exit → Act → World → Prop} {a : Act} {w : World} (h : Q .normal a w) : calm Q .normal a w := h
theorem strCells_mkb (l : List UInt8) : Lib.strCells (mkb l) = Lib.byteCells l := by unfold Lib.strCells; rw [mkb_data]; rfl
theorem strCells_data (s : ByteArray) : Lib.strCells s = Lib.byteCells s.data.toList := rfl
end Go.Proofs.YtgkhgjihjbjfnaaDoor
