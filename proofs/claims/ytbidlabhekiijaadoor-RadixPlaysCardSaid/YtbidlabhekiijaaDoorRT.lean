/- A range over a function whose iterator ranges over another one: what is asked of both sides. -/
import Derived.Test.YtbidlabhekiijaaDoorRR
import Derived.Laws.EntriesVeiled
namespace Go.Proofs.YtbidlabhekiijaaDoor
open Go.RowKit Go.Shelf
set_option linter.unusedVariables false
set_option linter.unusedSimpArgs false
attribute [local go_sem] Oper.semAt_some

theorem wpIn_named {F : Fence} {n : Nat} {P : Program} {c : Code} {Q : Exit → Act → World → Prop} {T : Array Value} {D : List Deferred} {w : World} (h : ∀ T', T = T' → c.wpIn F n P Q ⟨T', D⟩ w) : c.wpIn F n P Q ⟨T, D⟩ w := h T rfl
theorem OwnFrom.up {β : Type} {B B' : Nat} {I : β → World → Prop} (h : OwnFrom B I) (hB : B ≤ B') : OwnFrom B' I := fun s W W' row hs hg hr => h s W W' row hs hg (fun r e => ⟨Nat.le_trans hB (hr r e).1, (hr r e).2⟩)
theorem KeepsFrom.up {B B' : Nat} {W W' : World} (h : KeepsFrom B W W') (hB : B ≤ B') : KeepsFrom B' W W' := ⟨h.size, fun k o hk ho hc => h.same k o (Nat.le_trans hB hk) ho hc⟩
theorem KeepsFrom.of_below {B : Nat} {W W' : World} (h : Below W.heap.size W W') : KeepsFrom B W W' := ⟨h.size, fun k o _ ho _ => (h.block k (Array.getElem?_eq_some_iff.1 ho).1).trans ho⟩
/-- A block that is turned and turned back. -/
theorem KeepsFrom.turn {B l : Nat} {W V : World} {o o1 : Obj} (ho : W.heap[l]? = some o) (h : KeepsFrom B (W.putObj l o1) V) : KeepsFrom B W (V.putObj l o) := by
  have hs := h.size
  refine ⟨by simpa using hs, fun k u hk hu hc => ?_⟩
  by_cases e : k = l
  · subst e
    have hlt := (Array.getElem?_eq_some_iff.1 hu).1
    rw [ho] at hu
    cases hu
    exact World.putObj_heap_same (by simp at hs; omega)
  · exact (World.putObj_heap_other e).trans (h.same k u hk ((World.putObj_heap_other e).trans hu) hc)

/-- What an iterator promises to whatever loop, if its rounds keep Pk's blocks, and what is no cells and was laid since its call began. -/
def SeqB {α : Type} (P : Program) (Pk : Nat → TypeId → Prop) (gf : Nat) (lb : Array Value) (encs : α → Array Value) (S Sp : List α → Prop) (N : Nat) (w : World) : Prop :=
  ∀ (n l : Nat) (J Jx : List α → World → Prop) (W : World), Below w.heap.size w W → OwnFrom W.heap.size J → OwnFrom W.heap.size Jx →
    (∀ m pre x W1, J pre W1 → pre.length < N → YieldAt Fence.wide m P l (encs x) W1 fun e W' =>
      (e = .returned (.bool true) ∧ J (pre ++ [x]) W' ∧ KpP Pk W1 W' ∧ KeepsFrom W.heap.size W1 W') ∨ (e = .returned (.bool false) ∧ Jx (pre ++ [x]) W' ∧ KeepsFrom W.heap.size W1 W')) →
    J [] W → CallsIn Fence.wide n P gf (#[.func (.yield l) #[] #[]] ++ lb) W fun e W' => (∃ v, e = .returned v) ∧ ((∃ xs, S xs ∧ J xs W') ∨ (∃ pre, Sp pre ∧ Jx pre W'))

/-- The loop's record. -/
def recL (fn : FuncId) (tmps : Array Value) (ps : Array Tmp) (assign body : Code) (d : Nat) (st : LoopState) (pe : Option Code) : Obj := .loop { state := st, pending := pe, fn, tmps, params := ps, assign, body, defers := d }

theorem KeepsFrom.put {B l : Nat} (W : World) (o : Obj) (h : l < B) : KeepsFrom B W (W.putObj l o) := KeepsFrom.of_grownBy (grownBy_putObj' W l o) (fun j e => by cases e; exact h)
/-- A round's way out: its record turned, the caller's word kept. -/
theorem turnX {β : Type} {d : Nat} {rb rx : Obj} {X : β → World → Prop} (hX : OwnFrom d X) {s : β} {W1 W3 : World} (hlt : d + 1 < W1.heap.size) (hd : W1.heap[d]? = some (.deferred (some [])))
    (hk : KeepsFrom d (W1.putObj (d + 1) rb) W3) (hrb : rb.isCells = false) (hx : X s W3) :
    W3.heap[d + 1]? = some rb ∧ X s (W3.putObj (d + 1) rx) ∧ (W3.putObj (d + 1) rx).heap[d + 1]? = some rx ∧ (W3.putObj (d + 1) rx).heap[d]? = some (.deferred (some [])) := by
  have h1 : W3.heap[d + 1]? = some rb := hk.same _ _ (by omega) (World.putObj_heap_same hlt) hrb
  have h2 : W3.heap[d]? = some (.deferred (some [])) := hk.same _ _ (Nat.le_refl _) ((World.putObj_heap_other (by omega)).trans hd) rfl
  exact ⟨h1, hX.putObj _ hx (by omega) h1 hrb, World.putObj_heap_same (Array.getElem?_eq_some_iff.1 h1).1, (World.putObj_heap_other (by omega)).trans h2⟩

/-- A loop over such an iterator. -/
theorem range_own {α : Type} {P : Program} {Pk : Nat → TypeId → Prop} {g : Operand} {ps : Array Tmp} {assign body : Code} {Q : Exit → Act → World → Prop} {a : Act} {w : World} {n gf : Nat} {lb : Array Value}
    (hg : a.eval g = .func (.func gf) #[] lb) (eg : ∀ args w, (callFunc gf args).run P w = .ok (.enter gf args) w)
    {encs : α → Array Value} (hps : ∀ x, (encs x).size = ps.size) {S Sp : List α → Prop} {N : Nat} (hseq : SeqB P Pk gf lb encs S Sp N w)
    (I : List α → World → Prop) (Ix : Code → List α → World → Prop) (hI : OwnFrom w.heap.size I) (hIx : ∀ c, OwnFrom w.heap.size (Ix c)) (h0 : I [] w)
    (Ax : List α → α → Act → World → Prop) (hAx : ∀ pre x a', OwnFrom w.heap.size (fun (_ : Unit) W => Ax pre x a' W))
    (hassign : ∀ (m l : Nat) (pre : List α) (x : α) (W : World) (K : Act → World → Prop), I pre W → pre.length < N → (∀ a' W', KeepsFrom w.heap.size W W' → KpP Pk W W' → Ax pre x a' W' → K a' W') →
      assign.wpIn (Fence.wide.inRound l) m P (Exit.then K (fun _ _ _ => False)) { tmps := (ps.zip (encs x)).foldl (fun t (p, v) => t.setIfInBounds p v) a.tmps, defers := [] } W)
    (hbody : ∀ (m l : Nat) (pre : List α) (x : α) (a' : Act) (W : World), w.heap.size ≤ l → Ax pre x a' W → body.wpIn (Fence.wide.inRound l) m P (ownPostG w.heap.size (KpP Pk) I Ix (pre ++ [x]) W) a' W)
    (hdone : ∀ (D : Nat) (xs : List α) (W : World), w.heap.size ≤ D → S xs → I xs W → W.heap[D]? = some (.deferred (some [])) → Q .normal { a with defers := { target := .collected D, args := #[] } :: a.defers } W)
    (hstop : ∀ (D : Nat) (c : Code) (pre : List α) (W : World), w.heap.size ≤ D → Sp pre → Ix c pre W → W.heap[D]? = some (.deferred (some [])) → c.wpIn Fence.wide n P Q { a with defers := { target := .collected D, args := #[] } :: a.defers } W) :
    (Code.rangeFunc g ps assign body).wpIn Fence.wide n P Q a w := by
  refine wpIn_rangeFunc fun fn _ => ?_
  obtain ⟨d, hd⟩ : ∃ d, w.heap.size = d := ⟨_, rfl⟩
  obtain ⟨V, hV⟩ : ∃ V, (w.alloc (.deferred (some []))).alloc (recL fn a.tmps ps assign body d .ready none) = V := ⟨_, rfl⟩
  have hVs : V.heap.size = d + 2 := by rw [← hV, ← hd]; simp
  have hVd : V.heap[d]? = some (.deferred (some [])) := by
    rw [← hV, ← hd]; exact (Below.heap_alloc _ _ _ (by simp)).trans (World.alloc_heap_new w _)
  have hVl : V.heap[d + 1]? = some (recL fn a.tmps ps assign body d .ready none) := by
    have h := World.alloc_heap_new (w.alloc (.deferred (some []))) (recL fn a.tmps ps assign body d .ready none)
    rwa [World.size_alloc, hV, hd] at h
  have hVb : Below w.heap.size w V := by
    rw [← hV]; exact ((Below.refl _ w).alloc (Nat.le_refl _) _).alloc (by simp) _
  have hVI : I [] V := by rw [← hV]; exact hI.alloc _ (hI.alloc _ h0)
  -- blocks of the loop's own are no business of the iterator's
  have hkeep : ∀ {A B : World} {row : Option Nat}, A.grownBy B row → (∀ r, row = some r → V.heap.size ≤ r ∧ ∃ o : Obj, A.heap[r]? = some o ∧ o.isCells = false) → ∀ k o, k < d + 2 → A.heap[k]? = some o → B.heap[k]? = some o :=
    fun hg' hr k o hk ho => (hg'.block k (Array.getElem?_eq_some_iff.1 ho).1 (fun e => by have := (hr k e.symm).1; omega)).trans ho
  have hup : ∀ {A : World} {row : Option Nat}, (∀ r, row = some r → V.heap.size ≤ r ∧ ∃ o : Obj, A.heap[r]? = some o ∧ o.isCells = false) → (∀ r, row = some r → w.heap.size ≤ r ∧ ∃ o : Obj, A.heap[r]? = some o ∧ o.isCells = false) :=
    fun hr r e => ⟨by have := (hr r e).1; omega, (hr r e).2⟩
  refine ⟨d + 1, [{ target := .collected d, args := #[] }], V, { target := .fn (.func gf) lb, args := #[.func (.yield (d + 1)) #[] #[]] }, V, gf, #[.func (.yield (d + 1)) #[] #[]] ++ lb, V, ?_, ?_, fun _ _ => trivial, ?_, fun h => absurd h (by simp [Fence.wide]), ?_⟩
  · rw [← hV, ← hd]; exact run_enterLoop_outer _ _ _ _ _
  · simp only [resolve, hg]
    simp [go_sem]
  · simp [invoke, go_sem, eg]
  refine (hseq (n - 1) (d + 1) (fun pre W => I pre W ∧ W.heap[d + 1]? = some (recL fn a.tmps ps assign body d .ready none) ∧ W.heap[d]? = some (.deferred (some [])))
    (fun pre W => ∃ c, Ix c pre W ∧ W.heap[d + 1]? = some (recL fn a.tmps ps assign body d .done (some c)) ∧ W.heap[d]? = some (.deferred (some []))) V hVb
    (fun s A B row hs hg' hr => ⟨hI s A B row hs.1 hg' (hup hr), hkeep hg' hr _ _ (by omega) hs.2.1, hkeep hg' hr _ _ (by omega) hs.2.2⟩)
    (fun s A B row ⟨c, hs⟩ hg' hr => ⟨c, hIx c s A B row hs.1 hg' (hup hr), hkeep hg' hr _ _ (by omega) hs.2.1, hkeep hg' hr _ _ (by omega) hs.2.2⟩)
    ?_ ⟨hVI, hVl, hVd⟩).mono ?_
  · rintro m pre x W ⟨hi, hl, hk⟩ hlen
    have hy := run_yield (P := P) (args := encs x) hl (hps x)
    refine ⟨fn, _, assign, body, hy, roundIn_of_wpIn trivial (hassign m _ pre x W _ hi hlen ?_)⟩
    clear hy
    intro a' A hA1 hA2 hA3
    have hAl := hA1.same _ _ (by omega) hl rfl
    have hAd := hA1.same _ _ (by omega) hk rfl
    have hlt : d + 1 < A.heap.size := (Array.getElem?_eq_some_iff.1 hAl).1
    refine ⟨_, run_beginRound hAl rfl, ?_⟩
    have hbusy : (A.putObj (d + 1) (recL fn a.tmps ps assign body d .busy none)).heap[d + 1]? = some (recL fn a.tmps ps assign body d .busy none) := World.putObj_heap_same hlt
    have hkk : ∀ {W3 : World} (o : Obj), KeepsFrom d (A.putObj (d + 1) (recL fn a.tmps ps assign body d .busy none)) W3 → KeepsFrom V.heap.size W (W3.putObj (d + 1) o) := fun {W3} o h1 => by
      rw [hVs]
      exact ((KeepsFrom.up hA1 (by omega)).trans (KeepsFrom.put A _ (by omega))).trans ((KeepsFrom.up h1 (by omega)).trans (KeepsFrom.put W3 o (by omega)))
    refine wpIn_mono (hbody m _ pre x a' _ (by omega) ((hAx pre x a').putObj (s := ()) _ hA3 (by omega) hAl rfl)) ?_
    rw [hd]
    rintro e a3 W3 hp
    cases e with
    | normal =>
      obtain ⟨h1, h2, h3⟩ := hp
      obtain ⟨t1, t2, t3, t4⟩ := turnX (rx := recL fn a.tmps ps assign body d .ready none) (hd ▸ hI) hlt hAd h1 rfl h3
      refine ⟨_, _, run_endRound none t1, .inl ⟨rfl, ⟨t2, t3, t4⟩, hA2.trans (((kpP_b A _ _ _ (Nat.le_succ_of_le (Nat.le_of_eq hd)) hAl rfl rfl).trans h2).trans (kpP_b (w := w) W3 _ _ _ (Nat.le_succ_of_le (Nat.le_of_eq hd)) t1 rfl rfl)), hkk _ h1⟩⟩
    | ret =>
      obtain ⟨h1, h3⟩ := hp
      obtain ⟨t1, t2, t3, t4⟩ := turnX (rx := recL fn a.tmps ps assign body d .done (some .ret)) (hd ▸ hIx _) hlt hAd h1 rfl h3
      exact ⟨_, _, run_endRound (some .ret) t1, .inr ⟨rfl, ⟨.ret, t2, t3, t4⟩, hkk _ h1⟩⟩
    | exit id =>
      obtain ⟨h1, h3⟩ := hp
      obtain ⟨t1, t2, t3, t4⟩ := turnX (rx := recL fn a.tmps ps assign body d .done (some (.exit id))) (hd ▸ hIx _) hlt hAd h1 rfl h3
      exact ⟨_, _, run_endRound (some (.exit id)) t1, .inr ⟨rfl, ⟨.exit id, t2, t3, t4⟩, hkk _ h1⟩⟩
    | goto t =>
      obtain ⟨h1, h3⟩ := hp
      obtain ⟨t1, t2, t3, t4⟩ := turnX (rx := recL fn a.tmps ps assign body d .done (some (.goto t))) (hd ▸ hIx _) hlt hAd h1 rfl h3
      exact ⟨_, _, run_endRound (some (.goto t)) t1, .inr ⟨rfl, ⟨.goto t, t2, t3, t4⟩, hkk _ h1⟩⟩
    | panic ch => exact hp.elim
    | outgrown => exact hp.elim
  · rintro e W2 ⟨⟨v, rfl⟩, (⟨xs, hS, hi, hl, hk⟩ | ⟨pre, hSp, c, hi, hl, hk⟩)⟩
    · exact ⟨none, _, run_endLoop hl (by simp), hdone d xs _ (Nat.le_of_eq hd) hS (hI.putObj _ hi (by omega) hl rfl) ((World.putObj_heap_other (by omega)).trans hk)⟩
    · exact ⟨some c, _, run_endLoop hl (by simp), hstop d c pre _ (Nat.le_of_eq hd) hSp ((hIx c).putObj _ hi (by omega) hl rfl) ((World.putObj_heap_other (by omega)).trans hk)⟩
end Go.Proofs.YtbidlabhekiijaaDoor

/- Package radix: stretches: what it hands back, and what that promises. -/
namespace Go.Proofs.YtbidlabhekiijaaDoor
open Go.RowKit Go.Shelf
set_option linter.unusedVariables false
set_option linter.unusedSimpArgs false
attribute [local go_sem] Oper.semAt_some

theorem stretches_any (a : Option Addr) (low : Int) (w : World) : Calls Tryd.prog 57 #[.pointer a, .int .i64 low] w fun e w' => e = .returned (.func (.func 65) #[] #[.pointer (some ⟨w.heap.size, 0, none⟩), .pointer (some ⟨w.heap.size + 1, 0, none⟩)]) ∧ w' = (w.alloc (.cells #[.pointer a] 33)).alloc (.cells #[.int .i64 low] 3) := by
  have hmf : ∀ (fn : Fn) (first cap : Array Value) (w : World), (Instr.makeFunc fn first cap).run Tryd.prog w = .ok (.func fn first cap) w := fun _ _ _ _ => rfl
  go_enter Tryd.func57, Tryd.ntmps57
  go_wp2
  go_ret
  exact ⟨rfl, rfl⟩

/-- Of a table that is closed nothing comes. -/
theorem str_seq0 (Pk : Nat → TypeId → Prop) {α : Type} (encs : α → Array Value) (Sp : List α → Prop) (N bt bl : Nat) (a : Option Addr) (low : Int) (w : World)
    (hbt : Blk w bt 33 #[.pointer a]) (hC : ∀ W, Below w.heap.size w W → Calls Tryd.prog 58 #[.pointer a] W fun e w' => e = .returned (.bool true) ∧ W = w') :
    SeqB Tryd.prog Pk 65 #[.pointer (some ⟨bt, 0, none⟩), .pointer (some ⟨bl, 0, none⟩)] encs (fun xs => xs = []) Sp N w := by
  intro n l J Jx W hW hJ hJx hY h0
  have hmf : ∀ (fn : Fn) (first cap : Array Value) (w : World), (Instr.makeFunc fn first cap).run Tryd.prog w = .ok (.func fn first cap) w := fun _ _ _ _ => rfl
  have hB : Below W.heap.size W ((W.alloc (.cells #[.func (.yield l) #[] #[]] 114)).alloc (.cells #[.func (.func 66) #[] #[.pointer (some ⟨bt, 0, none⟩), .pointer (some ⟨bl, 0, none⟩), .pointer (some ⟨W.heap.size, 0, none⟩), .pointer (some ⟨W.heap.size + 1, 0, none⟩)]] 115)) :=
    ((Below.refl _ W).alloc (Nat.le_refl _) _).alloc (by simp) _
  have hJ2 : J [] ((W.alloc (.cells #[.func (.yield l) #[] #[]] 114)).alloc (.cells #[.func (.func 66) #[] #[.pointer (some ⟨bt, 0, none⟩), .pointer (some ⟨bl, 0, none⟩), .pointer (some ⟨W.heap.size, 0, none⟩), .pointer (some ⟨W.heap.size + 1, 0, none⟩)]] 115)) :=
    hJ _ _ _ none (hJ _ _ _ none h0 (World.grownBy_alloc _ _ none) (fun r e => by cases e)) (World.grownBy_alloc _ _ none) (fun r e => by cases e)
  obtain ⟨V, hV⟩ : ∃ V, ((W.alloc (.cells #[.func (.yield l) #[] #[]] 114)).alloc (.cells #[.func (.func 66) #[] #[.pointer (some ⟨bt, 0, none⟩), .pointer (some ⟨bl, 0, none⟩), .pointer (some ⟨W.heap.size, 0, none⟩), .pointer (some ⟨W.heap.size + 1, 0, none⟩)]] 115)) = V := ⟨_, rfl⟩
  rw [hV] at hB hJ2
  have c0 := (hbt.below (hW.trans (hB.mono hW.size)) hbt.lt).at_ 0 _ rfl
  have HC := Lib.hid (hC _ (hW.trans (hB.mono hW.size)))
  have HJ2 := Lib.hid hJ2
  have hdd : ∀ k : Nat, (Fence.wide.depth.isSome = true → 1 ≤ k) := fun k h => by cases h
  clear hC hW hbt hY hB hJ2
  refine callsIn_of_wp Tryd.func65 rfl trivial ?_ rfl
  simp only [Tryd.ntmps65, List.size_toArray, List.length_cons, List.length_nil, Nat.reduceAdd, Nat.reduceSub, Array.replicate_succ, Array.replicate_zero, List.push_toArray, List.append_toArray, List.nil_append, List.cons_append]
  gi_wp2_with (refine ⟨trivial, hdd _, ?_⟩; gi_at_call 58; refine (callsIn_wide.2 HC.out).mono ?_; rintro e v2 ⟨rfl, rfl⟩)
  go_end0
  exact ⟨⟨_, rfl⟩, .inl ⟨_, rfl, HJ2.out⟩⟩

set_option maxRecDepth 100000 in
set_option maxHeartbeats 1000000 in
/-- Of an open one what trav tells. -/
theorem str_seq (Pk : Nat → TypeId → Prop) (t p h g bt bl : Nat) (low : Int) (hlow : -9223372036854775808 ≤ low ∧ low < 9223372036854775808) (X : Pol) (root : Nat) (M : Nat → Sl) (F : Nat → Nat → Nat) (T : Tbl X root M F) (hE : ∀ i q, i ≤ 4 → (ent M F i q).Ok) (ft : Fit X) (hs : Kps Pk t p h g bt bl) (w : World)
    (hbt : Blk w bt 33 #[.pointer (some ⟨t, 0, none⟩)]) (hbl : Blk w bl 3 #[.int .i64 low]) (hT : Td w t p h g X root) :
    SeqB Tryd.prog Pk 65 #[.pointer (some ⟨bt, 0, none⟩), .pointer (some ⟨bl, 0, none⟩)] (fun x => #[strV M F x]) (fun xs => xs = trav M low 4 0 0) (fun pre => pre <+: trav M low 4 0 0) (trav M low 4 0 0).length w := by
  intro n l J Jx W hW hJ hJx hY h0
  have hmf : ∀ (fn : Fn) (first cap : Array Value) (w : World), (Instr.makeFunc fn first cap).run Tryd.prog w = .ok (.func fn first cap) w := fun _ _ _ _ => rfl
  have hB : Below W.heap.size W ((W.alloc (.cells #[.func (.yield l) #[] #[]] 114)).alloc (.cells #[.func (.func 66) #[] #[.pointer (some ⟨bt, 0, none⟩), .pointer (some ⟨bl, 0, none⟩), .pointer (some ⟨W.heap.size, 0, none⟩), .pointer (some ⟨W.heap.size + 1, 0, none⟩)]] 115)) :=
    ((Below.refl _ W).alloc (Nat.le_refl _) _).alloc (by simp) _
  have hB2 := hW.trans (hB.mono hW.size)
  have hby := (Blk.new W 114 #[.func (.yield l) #[] #[]]).alloc (.cells #[.func (.func 66) #[] #[.pointer (some ⟨bt, 0, none⟩), .pointer (some ⟨bl, 0, none⟩), .pointer (some ⟨W.heap.size, 0, none⟩), .pointer (some ⟨W.heap.size + 1, 0, none⟩)]] 115)
  have hbh := Blk.new (W.alloc (.cells #[.func (.yield l) #[] #[]] 114)) 115 #[.func (.func 66) #[] #[.pointer (some ⟨bt, 0, none⟩), .pointer (some ⟨bl, 0, none⟩), .pointer (some ⟨W.heap.size, 0, none⟩), .pointer (some ⟨W.heap.size + 1, 0, none⟩)]]
  rw [World.size_alloc] at hbh
  have hJ2 : J [] ((W.alloc (.cells #[.func (.yield l) #[] #[]] 114)).alloc (.cells #[.func (.func 66) #[] #[.pointer (some ⟨bt, 0, none⟩), .pointer (some ⟨bl, 0, none⟩), .pointer (some ⟨W.heap.size, 0, none⟩), .pointer (some ⟨W.heap.size + 1, 0, none⟩)]] 115)) :=
    hJ _ _ _ none (hJ _ _ _ none h0 (World.grownBy_alloc _ _ none) (fun r e => by cases e)) (World.grownBy_alloc _ _ none) (fun r e => by cases e)
  have c0 := (hbt.below hW hbt.lt).at_ 0 _ rfl
  have hmx : Tryd.prog.follows .mixedOrders = true := by kernel_rfl
  have hdd : ∀ k : Nat, (Fence.wide.depth.isSome = true → 1 ≤ k) := fun k h => by cases h
  have hbt2 := hbt.below hB2 hbt.lt
  have hbl2 := hbl.below hB2 hbl.lt
  have hT2 := hT.on hB2
  have HJ := Lib.hid hJ
  obtain ⟨V, hV⟩ : ∃ V, ((W.alloc (.cells #[.func (.yield l) #[] #[]] 114)).alloc (.cells #[.func (.func 66) #[] #[.pointer (some ⟨bt, 0, none⟩), .pointer (some ⟨bl, 0, none⟩), .pointer (some ⟨W.heap.size, 0, none⟩), .pointer (some ⟨W.heap.size + 1, 0, none⟩)]] 115)) = V := ⟨_, rfl⟩
  rw [hV] at hby hbh hJ2 hbt2 hbl2 hT2
  have hthr : Thr V t p h g bt bl W.heap.size (W.heap.size + 1) l low X root := ⟨hbt2, hbl2, hby, hbh, hT2.head, hT2.pl⟩
  have HTH := through_in Pk t p h g bt bl W.heap.size (W.heap.size + 1) l low hlow X root M F T hE ft hs (trav M low 4 0 0).length J Jx (fun s A B hs hg => HJ.out _ _ _ none hs hg (fun r e => by cases e))
    (fun m pre x W1 hj hl => (hY m pre x W1 hj hl).mono fun e W' hh => hh.imp (fun ⟨a, b, c, _⟩ => ⟨a, b, c⟩) (fun ⟨a, b, _⟩ => ⟨a, b⟩)) 3 0 0 rfl (Or.inl ⟨rfl, rfl⟩) (by decide) (n - 1)
  rw [T.root] at HTH
  have HTH := fun V' hV' hJ' => HTH [] V' hJ' hV' (by simp)
  simp only [Nat.zero_mul, Nat.sub_zero, Nat.reducePow, show ((0 : Nat) : Int) = 0 from rfl, show ((512 : Nat) : Int) = 512 from rfl] at HTH
  replace HTH := HTH V.drew (hthr.on (Below.refl _ _).drew) (HJ.out _ _ _ none hJ2 (grown_none (Below.refl _ _).drew) (fun r e => by cases e))
  have HTH2 : Hid (CallsIn Fence.wide (n - 1) Tryd.prog 66 #[.int .i64 (root : Nat), .int .i64 0, .int .i64 512, .pointer (some ⟨bt, 0, none⟩), .pointer (some ⟨bl, 0, none⟩), .pointer (some ⟨W.heap.size, 0, none⟩), .pointer (some ⟨W.heap.size + 1, 0, none⟩)] V.drew fun e W' => ∃ b, e = .returned (.bool b) ∧ ((∃ xs, xs = trav M low 4 0 0 ∧ J xs W') ∨ (∃ pre, pre <+: trav M low 4 0 0 ∧ Jx pre W'))) := Lib.hid (HTH.mono fun e W' hh => by
    rcases hh with ⟨rfl, hj, _⟩ | ⟨rfl, ys, hys, hj⟩
    · exact ⟨true, rfl, .inl ⟨_, rfl, hj⟩⟩
    · exact ⟨false, rfl, .inr ⟨ys, hys, hj⟩⟩)
  have HC := Lib.hid (closed_no hT2)
  have x0 := hbt2.at_ 0 _ rfl
  have x1 := hT2.head.at_ 0 _ rfl
  have x2 := hT2.head.at_ 1 _ rfl
  have x3 := hbh.at_ 0 _ rfl
  clear hY hB hB2 hby hbh hJ2 hbt2 hbl2 hT2 hthr HTH hbt hbl hT hJ HJ hJx h0 hW
  refine callsIn_of_wp Tryd.func65 rfl trivial ?_ rfl
  simp only [Tryd.ntmps65, List.size_toArray, List.length_cons, List.length_nil, Nat.reduceAdd, Nat.reduceSub, Array.replicate_succ, Array.replicate_zero, List.push_toArray, List.append_toArray, List.nil_append, List.cons_append]
  gi_wp2_with (refine ⟨trivial, hdd _, ?_⟩; gi_at_call 58; refine (callsIn_wide.2 HC.out).mono ?_; rintro e v2 ⟨rfl, rfl⟩)
  gi_region_with_o (refine ⟨trivial, hdd _, ?_⟩; gi_at_call 66; refine HTH2.out.mono ?_; rintro e W5 ⟨b, rfl, hpost⟩)
  all_goals (go_at_K; go_end0; exact ⟨⟨_, rfl⟩, hpost⟩)
end Go.Proofs.YtbidlabhekiijaaDoor

/- Package radix: spots: what it hands back, and what that promises. -/
namespace Go.Proofs.YtbidlabhekiijaaDoor
open Go.RowKit Go.Shelf
set_option linter.unusedVariables false
set_option linter.unusedSimpArgs false
attribute [local go_sem] Oper.semAt_some

theorem spots_any (a : Option Addr) (low : Int) (w : World) : Calls Tryd.prog 40 #[.pointer a, .int .i64 low] w fun e w' => e = .returned (.func (.func 56) #[] #[.pointer (some ⟨w.heap.size, 0, none⟩), .pointer (some ⟨w.heap.size + 1, 0, none⟩)]) ∧ w' = (w.alloc (.cells #[.pointer a] 33)).alloc (.cells #[.int .i64 low] 3) := by
  have hmf : ∀ (fn : Fn) (first cap : Array Value) (w : World), (Instr.makeFunc fn first cap).run Tryd.prog w = .ok (.func fn first cap) w := fun _ _ _ _ => rfl
  go_enter Tryd.func40, Tryd.ntmps40
  go_wp2
  go_ret
  exact ⟨rfl, rfl⟩

/-- Those of what comes that are pages. -/
def leafs (l : List (Nat × Nat)) : List (Nat × Nat) := l.filter fun x => decide (4 ≤ x.1)
theorem leafs_nil : leafs [] = [] := rfl
theorem leafs_yes (l : List (Nat × Nat)) {x : Nat × Nat} (h : 4 ≤ x.1) : leafs (l ++ [x]) = leafs l ++ [x] := by simp [leafs, h]
theorem leafs_no (l : List (Nat × Nat)) {x : Nat × Nat} (h : x.1 < 4) : leafs (l ++ [x]) = leafs l := by simp [leafs, Nat.not_le.2 h]
theorem leafs_len (l : List (Nat × Nat)) : (leafs l).length ≤ l.length := List.length_filter_le _ _
theorem leafs_pre {l r : List (Nat × Nat)} (h : l <+: r) : leafs l <+: leafs r := by
  obtain ⟨t, rfl⟩ := h
  exact ⟨leafs t, by simp [leafs]⟩
/-- A page and its entry. -/
noncomputable def spotV (M : Nat → Sl) (F : Nat → Nat → Nat) (x : Nat × Nat) : Value :=
  .agg #[.int .i64 ((x.2 * 8 ^ (4 - x.1) : Nat) : Int), .bool (ent M F x.1 x.2).h, .bool (ent M F x.1 x.2).w, .bool (ent M F x.1 x.2).c, .bool (ent M F x.1 x.2).o, .int .i64 (ent M F x.1 x.2).n]
noncomputable def strCs (M : Nat → Sl) (F : Nat → Nat → Nat) (x : Nat × Nat) : Array Value :=
  #[.int .i64 ((x.2 * 8 ^ (4 - x.1) : Nat) : Int), .int .i64 ((8 ^ (4 - x.1) : Nat) : Int), .bool (ent M F x.1 x.2).h, .bool (ent M F x.1 x.2).w, .bool (ent M F x.1 x.2).c, .bool (ent M F x.1 x.2).o, .int .i64 (ent M F x.1 x.2).n]
@[go_sem] theorem build_spot (a n : Int) (h w c o : Bool) (W : World) : (Instr.build 47 #[(0, .int .i64 a), (1, .agg #[.bool h, .bool w, .bool c, .bool o, .int .i64 n])]).run Tryd.prog W = .ok (.agg #[.int .i64 a, .bool h, .bool w, .bool c, .bool o, .int .i64 n]) W := run_build W 47 _ _ (by kernel_rfl)

theorem Blk.own1 {β : Type} (B k : Nat) (t : TypeId) (cs : Array Value) : OwnFrom B (fun (_ : β) W => Blk W k t cs) := fun _ X Y row hs hg hr => by
  unfold Blk at hs ⊢
  exact (grownBy_keeps_cells hg (fun r e => (hr r e).2) hs rfl).trans hs
theorem ownFrom_blk {β : Type} {B : Nat} {Jb : β → World → Prop} (h : OwnFrom B Jb) {γ : Type} (f : γ → β) : OwnFrom B (fun s W => Jb (f s) W) := fun s W W' row hs hg hr => h (f s) W W' row hs hg hr

set_option maxRecDepth 100000 in
set_option maxHeartbeats 1000000 in
/-- What spots promises, of what stretches does. -/
theorem spots_seq {a : Option Addr} (Pk : Nat → TypeId → Prop) (bt bl : Nat) (low : Int) (M : Nat → Sl) (F : Nat → Nat → Nat) (L : List (Nat × Nat)) (N : Nat) (w : World)
    (hy : ∀ k, Pk k 100)
    (hbt : Blk w bt 33 #[.pointer a]) (hbl : Blk w bl 3 #[.int .i64 low])
    (hS : ∀ W b1 b2, Below w.heap.size w W → Blk W b1 33 #[.pointer a] → Blk W b2 3 #[.int .i64 low] →
      SeqB Tryd.prog Pk 65 #[.pointer (some ⟨b1, 0, none⟩), .pointer (some ⟨b2, 0, none⟩)] (fun x => #[strV M F x]) (fun xs => xs = L) (fun pre => pre <+: L) N W) :
    SeqB Tryd.prog Pk 56 #[.pointer (some ⟨bt, 0, none⟩), .pointer (some ⟨bl, 0, none⟩)] (fun x => #[spotV M F x]) (fun xs => xs = leafs L) (fun pre => pre <+: leafs L) N w := by
  intro n l J Jx W hW hJ hJx hY h0
  have c0 := ((hbt.below hW hbt.lt).alloc (.cells #[.func (.yield l) #[] #[]] 100)).at_ 0 _ rfl
  have c1 := ((hbl.below hW hbl.lt).alloc (.cells #[.func (.yield l) #[] #[]] 100)).at_ 0 _ rfl
  have hyb := (((Blk.new W 100 #[.func (.yield l) #[] #[]]).alloc (.cells #[.pointer a] 33)).alloc (.cells #[.int .i64 low] 3))
  have hb1 := (Blk.new (W.alloc (.cells #[.func (.yield l) #[] #[]] 100)) 33 #[.pointer a]).alloc (.cells #[.int .i64 low] 3)
  have hb2 := Blk.new ((W.alloc (.cells #[.func (.yield l) #[] #[]] 100)).alloc (.cells #[.pointer a] 33)) 3 #[.int .i64 low]
  have hb := (((Below.refl W.heap.size W).alloc (Nat.le_refl _) (.cells #[.func (.yield l) #[] #[]] 100)).alloc (by simp) (.cells #[.pointer a] 33)).alloc (by simp; omega) (.cells #[.int .i64 low] 3)
  simp only [World.size_alloc] at hb1 hb2
  have hdd : ∀ k : Nat, (Fence.wide.depth.isSome = true → 1 ≤ k) := fun k h => by cases h
  have HJ := Lib.hid (And.intro hJ (And.intro hJx (And.intro hY h0)))
  have HW := Lib.hid hW
  have HS := Lib.hid hS
  clear hS hJ hJx hY h0 hbt hbl hW
  refine callsIn_of_wp_marks Tryd.func56 rfl trivial ?_ rfl
  simp only [Tryd.ntmps56, List.size_toArray, List.length_cons, List.length_nil, Nat.reduceAdd, Nat.reduceSub, Array.replicate_succ, Array.replicate_zero, List.push_toArray, List.append_toArray, List.nil_append, List.cons_append]
  gi_wp2_with (refine ⟨trivial, hdd _, ?_⟩; gi_at_call 57; refine (callsIn_wide.2 (stretches_any _ _ _)).mono ?_; rintro e v2 ⟨rfl, rfl⟩)
  try simp only [World.size_alloc]
  obtain ⟨V, hV⟩ : ∃ V, ((W.alloc (.cells #[.func (.yield l) #[] #[]] 100)).alloc (.cells #[.pointer a] 33)).alloc (.cells #[.int .i64 low] 3) = V := ⟨_, rfl⟩
  rw [hV] at hyb hb1 hb2 hb ⊢
  have hle : W.heap.size ≤ V.heap.size := hb.size
  have HSQ := Lib.hid (HS.out V _ _ (HW.out.trans (hb.mono HW.out.size)) hb1 hb2)
  have hI0 : J (leafs []) V := HJ.out.1 _ _ _ none HJ.out.2.2.2 (grown_none hb) (fun r e => by cases e)
  clear hV c0 c1 hb hb1 hb2 HS HW
  refine wpIn_named ?_
  intro T hT
  refine range_own (Pk := Pk) (gf := 65) (lb := #[.pointer (some ⟨W.heap.size + 1, 0, none⟩), .pointer (some ⟨W.heap.size + 1 + 1, 0, none⟩)]) (by rw [← hT]; rfl) (enters_of Tryd.func65 (by kernel_rfl) rfl)
    (fun _ => rfl) HSQ.out
    (fun pre U => J (leafs pre) U ∧ Blk U W.heap.size 100 #[.func (.yield l) #[] #[]])
    (fun c pre U => c = .ret ∧ Jx (leafs pre) U)
    ((ownFrom_blk (OwnFrom.up HJ.out.1 hle) leafs).and (Blk.own1 _ _ _ _))
    (fun c => (ownFrom_pure _ (fun _ => c = .ret)).and (ownFrom_blk (OwnFrom.up HJ.out.2.1 hle) leafs))
    ⟨hI0, hyb⟩
    (fun pre x a' U => (J (leafs pre) U ∧ Blk U W.heap.size 100 #[.func (.yield l) #[] #[]]) ∧ pre.length < N ∧ ∃ Bx, Blk U Bx 105 (strCs M F x) ∧ a' = { tmps := ((T.setIfInBounds 8 (strV M F x)).setIfInBounds 4 (.pointer (some ⟨Bx, 0, none⟩))), defers := [] })
    (fun pre x a' => fun _ X Y row ⟨⟨h1, h2⟩, h3, Bx, h4, h5⟩ hg hr => ⟨⟨(OwnFrom.up HJ.out.1 hle) _ X Y row h1 hg hr, Blk.own1 _ _ _ _ () X Y row h2 hg hr⟩, h3, Bx, Blk.own1 _ _ _ _ () X Y row h4 hg hr, h5⟩)
    ?assign ?body ?done ?stop
  case assign =>
    rintro m l2 pre x U K ⟨h1, h2⟩ hlen hK
    have HK := Lib.hid hK
    have HJU := Lib.hid (show J (leafs pre) (U.alloc (.cells (strCs M F x) 105)) from (OwnFrom.up HJ.out.1 hle) _ _ _ none h1 (World.grownBy_alloc _ _ none) (fun r e => by cases e))
    have HYU := Lib.hid (h2.alloc (.cells (strCs M F x) 105))
    clear hK h1 h2 hyb hI0
    simp only [List.zip_toArray, List.zip_cons_cons, List.zip_nil_right, List.size_toArray, List.foldl_toArray', List.foldl_toArray, List.foldl_cons, List.foldl_nil]
    subst hT
    unfold strV
    simp only [List.setIfInBounds_toArray, List.set_cons_succ, List.set_cons_zero]
    gi_wp2
    refine HK.out _ _ ((KeepsOthers.alloc _ _).from _) (KpP.alloc U _) ⟨⟨HJU.out, HYU.out⟩, hlen, U.heap.size, Blk.new U _ _, ?_⟩
    rfl
  case body =>
    rintro m l2 pre x a' U hl2 ⟨⟨h1, h2⟩, hlen, Bx, bX, rfl⟩
    subst hT
    simp only [List.setIfInBounds_toArray, List.set_cons_succ, List.set_cons_zero]
    have y0 := h2.at_ 0 _ rfl
    have hyy := HJ.out.2.2.1 (m - 1) (leafs pre) x U h1 (Nat.lt_of_le_of_lt (leafs_len pre) hlen)
    have HH := Lib.hid (And.intro h1 h2)
    have hlv := @leafs_yes pre x
    have hln := @leafs_no pre x
    unfold spotV at hyy
    unfold strCs at bX
    unfold strV
    have hp1 : 4 ≤ x.1 → 8 ^ (4 - x.1) = 1 := fun h => by rw [Nat.sub_eq_zero_of_le h]
    have hp2 : x.1 < 4 → 8 ^ (4 - x.1) ≠ 1 := fun h e => by
      have := Nat.pow_le_pow_right (n := 8) (by omega) (show 1 ≤ 4 - x.1 by omega)
      omega
    have HLV := Lib.hid (And.intro hlv hln)
    generalize ((x.2 * 8 ^ (4 - x.1) : Nat) : Int) = A at *
    generalize 8 ^ (4 - x.1) = Pg at *
    generalize ent M F x.1 x.2 = z at *
    obtain ⟨zh, zw, zc, zo, zn⟩ := z
    simp only at hyy bX ⊢
    clear hlv hln h1 h2 hyb hI0
    by_cases h4 : 4 ≤ x.1
    · obtain rfl := hp1 h4
      simp only [show ((1 : Nat) : Int) = 1 from rfl] at bX ⊢
      have b0 := bX.at_ 0 _ rfl
      have b1 := bX.at_ 1 _ rfl
      have b2 := bX.at_ 2 _ rfl
      have b3 := bX.at_ 3 _ rfl
      have b4 := bX.at_ 4 _ rfl
      have b5 := bX.at_ 5 _ rfl
      have b6 := bX.at_ 6 _ rfl
      obtain ⟨fn, tmps, assign, body, hyr, hR⟩ := hyy
      have HR := Lib.hid hR
      clear hR bX hp1 hp2
      gi_wp2
      refine ⟨hdd _, RoundIn.mono (F := Fence.wide.inRound l2) HR.out ?_⟩
      rintro e W3 (⟨rfl, hJ3, hk3, hf3⟩ | ⟨rfl, hJx3, hf3⟩)
      · have HFIN := Lib.hid (show KeepsFrom V.heap.size U W3 ∧ KpP Pk U W3 ∧ J (leafs (pre ++ [x])) W3 ∧ Blk W3 W.heap.size 100 #[.func (.yield l) #[] #[]] from ⟨KeepsFrom.up hf3 hle, hk3, by rw [HLV.out.1 h4]; exact hJ3, hk3.2 _ _ _ (hy _) HH.out.2⟩)
        clear hJ3 hk3 hf3 HR hyr b0 b1 b2 b3 b4 b5 b6
        gi_wp2
        exact HFIN.out
      · have HFIN := Lib.hid (show KeepsFrom V.heap.size U W3 ∧ Code.ret = Code.ret ∧ Jx (leafs (pre ++ [x])) W3 from ⟨KeepsFrom.up hf3 hle, rfl, by rw [HLV.out.1 h4]; exact hJx3⟩)
        clear hJx3 hf3 HR hyr b0 b1 b2 b3 b4 b5 b6
        gi_wp2
        exact ⟨HFIN.out.1, rfl, HFIN.out.2.2⟩
    · have hne : ((Pg : Nat) : Int) ≠ 1 := by
        have := hp2 (by omega)
        omega
      clear hp1 hp2 hyy
      generalize ((Pg : Nat) : Int) = Z at *
      have hne2 : (Z == 1) = false := by simpa using hne
      have HFIN := Lib.hid (show KeepsFrom V.heap.size U U ∧ KpP Pk U U ∧ J (leafs (pre ++ [x])) U ∧ Blk U W.heap.size 100 #[.func (.yield l) #[] #[]] from ⟨KeepsFrom.refl _ _, KpP.refl _, by rw [HLV.out.2 (by omega)]; exact HH.out.1, HH.out.2⟩)
      have b1 := bX.at_ 1 _ rfl
      clear bX hne
      gi_wp2_with (with_reducible refine And.intro none_fn ?_)
      exact HFIN.out
  case done =>
    rintro D ys U hD rfl ⟨h1, h2⟩ hK
    gi_wp2
    refine ⟨by simp, .inl ⟨_, _, rfl, run_takeDeferred hK, ?_⟩⟩
    refine ⟨_, results_none rfl _ _ _, ⟨_, rfl⟩, .inl ⟨_, rfl, ?_⟩⟩
    exact (OwnFrom.up HJ.out.1 hle).putObj _ h1 hD hK rfl
  case stop =>
    rintro D c pre U hD hpre ⟨rfl, h1⟩ hK
    gi_wp2
    refine ⟨by simp, .inl ⟨_, _, rfl, run_takeDeferred hK, ?_⟩⟩
    refine ⟨_, results_none rfl _ _ _, ⟨_, rfl⟩, .inr ⟨_, leafs_pre hpre, ?_⟩⟩
    exact (OwnFrom.up HJ.out.2.1 hle).putObj _ h1 hD hK rfl
end Go.Proofs.YtbidlabhekiijaaDoor

/- Package radix: what of a table is gone over; own rows in rounds. -/
namespace Go.Proofs.YtbidlabhekiijaaDoor
open Go.RowKit Go.Shelf
set_option linter.unusedVariables false
set_option linter.unusedSimpArgs false

/-- Blocks that rounds of this package keep, at the least. -/
def Q0 (h b2 : Nat) (k : Nat) (t : TypeId) : Prop := t ≠ 38 ∧ t ≠ 47 ∧ t ≠ 58 ∧ (t = 3 → k = b2 ∨ k = h)
theorem kps_q0 {Pk : Nat → TypeId → Prop} {h b2 : Nat} (hP : ∀ k t, Q0 h b2 k t → Pk k t) (t p g b1 : Nat) : Kps Pk t p h g b1 b2 :=
  ⟨hP _ _ ⟨by decide, by decide, by decide, fun e => absurd e (by decide)⟩, hP _ _ ⟨by decide, by decide, by decide, fun _ => .inl rfl⟩, hP _ _ ⟨by decide, by decide, by decide, fun e => absurd e (by decide)⟩, hP _ _ ⟨by decide, by decide, by decide, fun e => absurd e (by decide)⟩,
   hP _ _ ⟨by decide, by decide, by decide, fun _ => .inr rfl⟩, hP _ _ ⟨by decide, by decide, by decide, fun e => absurd e (by decide)⟩, fun _ => hP _ _ ⟨by decide, by decide, by decide, fun e => absurd e (by decide)⟩, fun _ => hP _ _ ⟨by decide, by decide, by decide, fun e => absurd e (by decide)⟩, fun _ => hP _ _ ⟨by decide, by decide, by decide, fun e => absurd e (by decide)⟩⟩

/-- What stretches promises of this table, from whatever page on. -/
def Tells (w : World) (a : Option Addr) (h : Nat) (M : Nat → Sl) (F : Nat → Nat → Nat) (L : Int → List (Nat × Nat)) : Prop :=
  ∀ (Pk : Nat → TypeId → Prop) (low : Int) (b1 b2 : Nat) (W : World), (-9223372036854775808 ≤ low ∧ low < 9223372036854775808) → Below w.heap.size w W → Blk W b1 33 #[.pointer a] → Blk W b2 3 #[.int .i64 low] → (∀ k t, Q0 h b2 k t → Pk k t) →
    SeqB Tryd.prog Pk 65 #[.pointer (some ⟨b1, 0, none⟩), .pointer (some ⟨b2, 0, none⟩)] (fun x => #[strV M F x]) (fun xs => xs = L low) (fun pre => pre <+: L low) (L low).length W
theorem Tells.on {w w' : World} {a : Option Addr} {h : Nat} {M : Nat → Sl} {F : Nat → Nat → Nat} {L : Int → List (Nat × Nat)} (T : Tells w a h M F L) (hb : Below w.heap.size w w') : Tells w' a h M F L :=
  fun Pk low b1 b2 W hl hW h1 h2 hP => T Pk low b1 b2 W hl (hb.trans (hW.mono hb.size)) h1 h2 hP

theorem Tbl.ok {X : Pol} {root : Nat} {M : Nat → Sl} {F : Nat → Nat → Nat} (T : Tbl X root M F) (hl : X.H.length ≤ 1048576) : ∀ i q, i ≤ 4 → (ent M F i q).Ok := by
  intro i q hi
  by_cases h4 : i = 4
  · subst h4
    rw [ent_page]
    exact T.ents.ok q
  · by_cases hv : live M i q
    · rw [ent_live (by omega) hv]
      obtain ⟨hf, _⟩ := T.frame i q (by omega) (.inr hv)
      exact .inr (by unfold Sl.may; simp; omega)
    · rw [ent_dead (by omega) hv]
      exact .inl rfl
theorem tells_open {w : World} {t p h g : Nat} {X : Pol} {root : Nat} {M : Nat → Sl} {F : Nat → Nat → Nat} (a : Td w t p h g X (root : Nat)) (T : Tbl X root M F) : Tells w (some ⟨t, 0, none⟩) h M F (fun low => trav M low 4 0 0) :=
  fun Pk low b1 b2 W hl hW h1 h2 hP => str_seq Pk t p h g b1 b2 low hl X root M F T (T.ok (by have := a.pl.len; omega)) a.pl.fit (kps_q0 hP t p g b1) W h1 h2 (a.on hW)
theorem tells_nil (w : World) (h : Nat) (M : Nat → Sl) (F : Nat → Nat → Nat) : Tells w none h M F (fun _ => []) :=
  fun Pk low b1 b2 W hl hW h1 h2 hP => str_seq0 Pk _ _ _ b1 b2 none low W h1 (fun V _ => closed_nil V)
theorem tells_zero {w : World} {t : Nat} {r : Int} (hc : Blk w t 63 #[.pointer none, .int .i64 r]) (h : Nat) (M : Nat → Sl) (F : Nat → Nat → Nat) : Tells w (some ⟨t, 0, none⟩) h M F (fun _ => []) :=
  fun Pk low b1 b2 W hl hW h1 h2 hP => str_seq0 Pk _ _ _ b1 b2 _ low W h1 (fun V hV => closed_zero t V ((hc.below (hW.trans (hV.mono hW.size)) hc.lt).at_ 0 _ rfl))
/-- What spots promises of it. -/
theorem Tells.spots {w : World} {a : Option Addr} {h : Nat} {M : Nat → Sl} {F : Nat → Nat → Nat} {L : Int → List (Nat × Nat)} (T : Tells w a h M F L) (Pk : Nat → TypeId → Prop) (low : Int) (b1 b2 : Nat) (W : World) (hl : -9223372036854775808 ≤ low ∧ low < 9223372036854775808)
    (hW : Below w.heap.size w W) (h1 : Blk W b1 33 #[.pointer a]) (h2 : Blk W b2 3 #[.int .i64 low]) (hP : ∀ b k t, Q0 h b k t → Pk k t) :
    SeqB Tryd.prog Pk 56 #[.pointer (some ⟨b1, 0, none⟩), .pointer (some ⟨b2, 0, none⟩)] (fun x => #[spotV M F x]) (fun xs => xs = leafs (L low)) (fun pre => pre <+: leafs (L low)) (L low).length W :=
  spots_seq Pk b1 b2 low M F (L low) (L low).length W (fun k => hP 0 k _ ⟨by decide, by decide, by decide, fun e => absurd e (by decide)⟩) h1 h2
    (fun V c1 c2 hV g1 g2 => T Pk low c1 c2 V hl (hW.trans (hV.mono hW.size)) g1 g2 (hP c2))

theorem kp_app {P : Nat → TypeId → Prop} {W W' : World} {row : Option Nat} (hg : W.grownBy W' row) (h : ∀ k t cs, P k t → Blk W k t cs → row ≠ some k) : KpP P W W' := ⟨hg.size, fun k cs t hp hb => hb.grown hg (fun e => h k t cs hp hb e.symm)⟩
theorem kp_set {P : Nat → TypeId → Prop} (W : World) {p : Addr} {t : TypeId} {cs : Array Value} (hp : Blk W p.block t cs) (ht : ¬ P p.block t) (u : Value) : KpP P W (W.setCell p u) :=
  ⟨by simp [World.setCell], fun k cs' t' hP hb => hb.far (fun e => by
    subst e
    unfold Blk at hb hp
    rw [hb] at hp
    cases hp
    exact ht hP) u⟩
theorem own_nc {W W' : World} {base e size n : Nat} {v : Value} {xs : List Value} {row : Option Nat} (h : W.ownsRow base e size v n xs) (hg : W.grownBy W' row) (hr : ∀ r, row = some r → ∃ o : Obj, W.heap[r]? = some o ∧ o.isCells = false) : W'.ownsRow base e size v n xs := by
  rcases h.2 with ⟨rfl, h0⟩ | ⟨gg, cap, cur, rfl, hb, hgg, _⟩
  · exact h.kept hg (.inl rfl)
  · refine h.kept hg (.inr fun e' => ?_)
    obtain ⟨o, ho, hc⟩ := hr gg (by rw [← e']; rfl)
    rw [hgg] at ho
    cases ho
    cases hc
theorem Blk.not_row {W : World} {B : Nat} {t e : TypeId} {cs : Array Value} (h : Blk W B t cs) (hte : t ≠ e) {base size k : Nat} {v : Value} {xs : List Value} (hr : W.ownsRow base e size v k xs) : v.ownBlock ≠ some B := by
  rcases hr.2 with ⟨rfl, _⟩ | ⟨g, cap, cur, rfl, _, hgb, _⟩
  · simp [Value.ownBlock]
  · intro e'
    obtain rfl : g = B := by simpa [Value.ownBlock] using e'
    unfold Blk at h
    have := h.symm.trans hgb
    simp at this
    exact hte this.2
theorem own_far {w : World} {B e size n : Nat} {v : Value} {xs : List Value} (h : w.ownsRow B e size v n xs) {p : Addr} (hp : v.ownBlock ≠ some p.block) (u : Value) : (w.setCell p u).ownsRow B e size v n xs :=
  h.kept (⟨rfl, rfl, rfl, by simp [World.setCell], fun k _ hk => Below.heap_setCell _ _ _ _ (fun e => hk (by rw [e]))⟩ : w.grownBy (w.setCell p u) (some p.block)) (.inr hp)
theorem own_ge {w : World} {B e size n : Nat} {v : Value} {xs : List Value} (h : w.ownsRow B e size v n xs) {k : Nat} (hk : v.ownBlock = some k) : B ≤ k := by
  rcases h.2 with ⟨rfl, _⟩ | ⟨g, cap, cur, rfl, hb, _⟩
  · cases hk
  · simp only [Value.ownBlock, Option.some.injEq] at hk
    subst hk
    exact hb
theorem own_sl7 {w : World} {B e size n : Nat} {v : Value} {xs : List Value} (h : w.ownsRow B e size v n xs) : ∃ A c, v = .slice A n c := by
  rcases h.2 with ⟨rfl, rfl⟩ | ⟨g, cap, cur, rfl, _⟩
  · exact ⟨none, 0, rfl⟩
  · exact ⟨_, _, rfl⟩
theorem own_cells {W : World} {base e size n : Nat} {v : Value} {xs : List Value} (h : W.ownsRow base e size v n xs) : ∀ (j : Nat) (o : Obj), v.ownBlock = some j → W.heap[j]? = some o → o.isCells = true := by
  intro j o hj ho
  rcases h.2 with ⟨rfl, _⟩ | ⟨g, cap, cur, rfl, _, hg, _⟩
  · cases hj
  · simp only [Value.ownBlock, Option.some.injEq] at hj
    subst hj
    rw [hg] at ho
    cases ho
    rfl
/-- An append to an own row, and the store of what it gives into the row's box. -/
theorem app_round {U w1 : World} {base e size n n' bx tb : Nat} {v v' : Value} {xs xs' : List Value} {P : Nat → TypeId → Prop} {o : Obj} {e0 : Nat} {w : World}
    (hown : U.ownsRow base e size v n xs) (hg : (U.alloc o).grownBy w1 v.ownBlock) (hown1 : w1.ownsRow base e size v' n' xs') (hbx : Blk U bx tb #[v]) (ht : tb ≠ e) (hP : ¬ P bx tb) (hPe : ∀ k cs, P k e → Blk (U.alloc o) k e cs → v.ownBlock ≠ some k) (hB : Below e0 w U) (he : e0 ≤ base) (hbe : e0 ≤ bx) (hwu : e0 ≤ w.heap.size) :
    KeepsOthers U (w1.setCell ⟨bx, 0, none⟩ v') ∧ KpP P U (w1.setCell ⟨bx, 0, none⟩ v') ∧ Blk (w1.setCell ⟨bx, 0, none⟩ v') bx tb #[v'] ∧ (w1.setCell ⟨bx, 0, none⟩ v').ownsRow base e size v' n' xs' ∧ Below e0 w (w1.setCell ⟨bx, 0, none⟩ v') := by
  have h0 := own_below hown ((Below.refl _ _).alloc (Nat.le_refl _) o)
  have h1 : Blk w1 bx tb #[v] := (hbx.alloc o).grown hg (fun e => Blk.not_row (hbx.alloc o) ht h0 e.symm)
  refine ⟨((KeepsOthers.alloc U o).trans (KeepsOthers.of_grownBy hg (own_cells h0))).trans (KeepsOthers.setCell _ _ _), ((KpP.alloc U o).trans (kp_app hg fun k t cs hp hb => ?_)).trans (kp_set _ (p := ⟨bx, 0, none⟩) h1 hP _), by simpa using h1.set_ 0 v', own_far hown1 (Blk.not_row h1 ht hown1) _, ?_⟩
  · by_cases hte : t = e
    · subst hte
      exact hPe k cs hp hb
    · exact Blk.not_row hb hte h0
  · refine Below.setCell (p := ⟨bx, 0, none⟩) ?_ hbe _
    exact (hB.alloc (Nat.le_trans hwu hB.size) o).grown hg (by have := hB.size; simp; omega) (fun k e => Nat.le_trans he (own_ge hown e))
theorem infoInt7 : (Tryd.prog.info? 3).map (fun i => (i.zero, i.size, i.bytes)) = some (some (.int .i64 0), 1, 8) := by kernel_rfl
theorem infoSpot7 : (Tryd.prog.info? 47).map (fun i => (i.zero, i.size, i.bytes)) = some (some (.agg #[.int .i64 0, .bool false, .bool false, .bool false, .bool false, .int .i64 0]), 6, 24) := by kernel_rfl
end Go.Proofs.YtbidlabhekiijaaDoor
