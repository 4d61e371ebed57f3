/- Rows of ints, of strings and of pages, of no one package: which is free, what one tells; copies to a page. -/
import Derived.Test.YtafogipkbhglcaaBut
namespace Go.Proofs.Ytafogipkbhglcaa
open Go.RowKit
set_option linter.unusedVariables false

def flat (S : List ByteArray) : List UInt8 := S.flatMap fun s => s.data.toList
def All64 (S : List ByteArray) : Prop := ∀ s, s ∈ S → s.size = 64
theorem All64.cons {s : ByteArray} {S : List ByteArray} (h : All64 (s :: S)) : s.size = 64 ∧ All64 S := ⟨h s (by simp), fun x hx => h x (by simp [hx])⟩
theorem flat_length : ∀ {S : List ByteArray}, All64 S → (flat S).length = 64 * S.length
  | [], _ => rfl
  | s :: S, h => by
    have h1 := flat_length h.cons.2
    have h2 := h.cons.1
    unfold flat at *
    rw [List.flatMap_cons, List.length_append, h1, len_data, h2, List.length_cons]
    omega
theorem flat_part : ∀ {S : List ByteArray} {k : Nat}, All64 S → (hk : k < S.length) → ((flat S).drop (64 * k)).take 64 = S[k].data.toList
  | s :: S, 0, h, _ => by
    have h2 := h.cons.1
    rw [Nat.mul_zero, List.drop_zero]
    show ((s :: S).flatMap _).take 64 = _
    rw [List.flatMap_cons, List.take_append_of_le_length (by rw [len_data, h2]; exact Nat.le_refl _), List.take_of_length_le (by rw [len_data, h2]; exact Nat.le_refl _)]
    rfl
  | s :: S, k + 1, h, hk => by
    have h1 := flat_part (k := k) h.cons.2 (by simpa using hk)
    have h2 := h.cons.1
    show (((s :: S).flatMap _).drop _).take 64 = _
    rw [List.flatMap_cons, show 64 * (k + 1) = s.data.toList.length + 64 * k by rw [len_data, h2]; omega, List.drop_append, List.drop_of_length_le (by omega), Nat.add_sub_cancel_left, List.nil_append]
    simpa [flat] using h1
theorem flat_set : ∀ {S : List ByteArray} {k : Nat} {t : ByteArray}, All64 S → k < S.length → t.size = 64 → (flat S).take (64 * k) ++ t.data.toList ++ (flat S).drop (64 * k + 64) = flat (S.set k t)
  | s :: S, 0, t, h, _, ht => by
    have h2 := h.cons.1
    show ((s :: S).flatMap _).take _ ++ _ ++ ((s :: S).flatMap _).drop _ = (t :: S).flatMap _
    rw [List.flatMap_cons, List.flatMap_cons, Nat.mul_zero, List.take_zero, List.nil_append, Nat.zero_add, List.drop_append, List.drop_of_length_le (by rw [len_data, h2]; exact Nat.le_refl _), len_data, h2]
    simp
  | s :: S, k + 1, t, h, hk, ht => by
    have h1 := flat_set (k := k) h.cons.2 (by simpa using hk) ht
    have h2 := h.cons.1
    show ((s :: S).flatMap _).take _ ++ _ ++ ((s :: S).flatMap _).drop _ = (s :: S.set k t).flatMap _
    have h3 : s.data.toList.length = 64 := by rw [len_data, h2]
    rw [List.flatMap_cons, List.flatMap_cons, List.take_append, List.take_of_length_le (by omega), h3, show 64 * (k + 1) - 64 = 64 * k by omega, List.drop_append, List.drop_of_length_le (by omega), h3, show 64 * (k + 1) + 64 - 64 = 64 * k + 64 by omega, List.nil_append]
    unfold flat at h1
    rw [← h1]
    simp [List.append_assoc]
theorem All64.set_ {S : List ByteArray} {k : Nat} {t : ByteArray} (h : All64 S) (ht : t.size = 64) : All64 (S.set k t) := by
  intro x hx
  rcases List.mem_or_eq_of_mem_set hx with h1 | h1
  · exact h x h1
  · rw [h1]; exact ht

/-- A sector of bytes 0. -/
def zsec : ByteArray := mkb (List.replicate 64 0)
theorem zsec_size : zsec.size = 64 := by unfold zsec; rw [mkb_size, List.length_replicate]
theorem flat_at {S : List ByteArray} {k j : Nat} (h : All64 S) (hk : k < S.length) (hj : j < S[k].data.toList.length) : (flat S)[64 * k + j]? = some (S[k].data.toList[j]) := by
  have h1 := flat_part h hk
  have h2 : S[k].data.toList.length = 64 := by rw [len_data]; exact h _ (List.getElem_mem hk)
  have h3 : (((flat S).drop (64 * k)).take 64)[j]? = some (S[k].data.toList[j]) := by rw [h1, List.getElem?_eq_getElem hj]
  rw [List.getElem?_take_of_lt (by omega), List.getElem?_drop] at h3
  exact h3

/-- string(b), b a sector. -/
theorem run_string_sec {P : Program} (w : World) (src dst e : TypeId) (g k : Nat) (t : TypeId) (S : List ByteArray) (ha : All64 S) (hk : k < S.length) (hs : P.underlying src = some (.slice e)) (he : P.underlying e = some (.int .u8)) (hd : P.underlying dst = some .string)
    (hg : Blk w g t (Lib.byteCells (flat S)).toArray) : (convert src dst (.slice (some ⟨g, 64 * k, none⟩) 64 64)).run P w = .ok (.string S[k]) w := by
  have hl : S[k].data.toList.length = 64 := by rw [len_data]; exact ha _ (List.getElem_mem hk)
  have h := run_convert_bytes_back (P := P) w src dst e ⟨g, 64 * k, none⟩ 64 S[k].data.toList hs he hd (fun j hj => by
    have hadd : (⟨g, 64 * k, none⟩ : Addr).add j = ⟨g, 64 * k + j, none⟩ := by
      unfold Addr.add
      split
      · next h => subst h; rfl
      · rfl
    rw [hadd, hg.cell]
    have := flat_at ha hk hj
    simp [Lib.byteCells, List.getElem?_map, this])
  rw [hl] at h
  rw [h]

/-- What a sector has behind a copy of s to it. -/
def over (o s : ByteArray) : ByteArray := mkb (s.data.toList.take 64 ++ o.data.toList.drop (min s.size 64))
theorem over_size {o s : ByteArray} (ho : o.size = 64) : (over o s).size = 64 := by
  unfold over
  rw [mkb_size, List.length_append, List.length_take, List.length_drop, len_data, len_data, ho]
  omega
theorem over_whole {o s : ByteArray} (ho : o.size = 64) (h : s.size = 64) : over o s = s := by
  unfold over
  rw [h, Nat.min_self, List.drop_of_length_le (by rw [len_data, ho]; exact Nat.le_refl _), List.take_of_length_le (by rw [len_data, h]; exact Nat.le_refl _), List.append_nil, mkb_of]

theorem flat_over {S : List ByteArray} {k : Nat} {s : ByteArray} (h : All64 S) (hk : k < S.length) :
    (flat S).take (64 * k) ++ s.data.toList.take (min s.size 64) ++ (flat S).drop (64 * k + min s.size 64) = flat (S.set k (over S[k] s)) := by
  have h1 : S[k].size = 64 := h _ (List.getElem_mem hk)
  rw [← flat_set h hk (over_size h1), List.append_assoc, List.append_assoc]
  congr 1
  have h2 : (flat S).drop (64 * k) = S[k].data.toList ++ (flat S).drop (64 * k + 64) := by
    conv => lhs; rw [← List.take_append_drop 64 ((flat S).drop (64 * k))]
    rw [flat_part h hk, List.drop_drop]
  rw [← List.drop_drop, h2, List.drop_append_of_le_length (by rw [len_data, h1]; omega), ← List.append_assoc]
  congr 1
  unfold over
  rw [mkb_data]
  congr 1
  by_cases h3 : s.size ≤ 64
  · rw [Nat.min_eq_left h3, ← len_data, List.take_of_length_le (Nat.le_refl _), List.take_of_length_le (by rw [len_data]; exact h3)]
  · rw [Nat.min_eq_right (by omega)]

/-- copy(b, s), b a sector. -/
theorem wpList_copy_sec {P : Program} {w : World} {ops : Array Oper} {rest : List Oper} {o : Oper} {a : Act} {Q : Exit → Act → World → Prop} (hgd : o.guard = none) (d x : Operand) (dT sT : TypeId)
    (ho : o.op = .call { callee := .builtin .copy, args := #[d, x], argTypes := #[dT, sT] }) (elem : TypeId) (hu : P.underlying dT = some (.slice elem)) (hs : (P.info? elem).map (·.size) = some 1)
    (g k : Nat) (t : TypeId) (S : List ByteArray) (s : ByteArray) (hd : a.eval d = .slice (some ⟨g, 64 * k, none⟩) 64 64) (hx : a.eval x = .string s) (ha : All64 S) (hk : k < S.length) (hg : Blk w g t (Lib.byteCells (flat S)).toArray)
    (h : ∀ w', Blk w' g t (Lib.byteCells (flat (S.set k (over S[k] s)))).toArray → w.grownBy w' (some g) → wpList P ops Q rest (a.put o.dst (goInt (Nat.min s.size 64))) w') : wpList P ops Q (o :: rest) a w := by
  have hl := flat_length ha
  have hm : Nat.min s.size 64 ≤ 64 := Nat.min_le_right _ _
  refine Lib.wpList_copy_run w hgd d x dT sT ho _ _ hd hx (run_copy_str (P := P) w dT sT o.type elem g (64 * k) 64 64 s _ t hu hs hg _ rfl (by simp [Lib.byteCells_length, hl]; omega)) ?_
  have e : ((Lib.byteCells (flat S)).toArray.toList.take (64 * k) ++ Lib.byteCells (s.data.toList.take (Nat.min s.size 64)) ++ (Lib.byteCells (flat S)).toArray.toList.drop (64 * k + Nat.min s.size 64)) = Lib.byteCells (flat (S.set k (over S[k] s))) := by
    rw [← flat_over ha hk]
    simp [Lib.byteCells]
  rw [e]
  exact h _ (hg.setRow _) (grownBy_setRow _ _ _)

/-- Cells of ints. -/
def icells (H : List Int) : Array Value := (H.map (Value.int .i64)).toArray
theorem icells_at {H : List Int} {k : Nat} (hk : k < H.length) : (icells H)[k]? = some (.int .i64 H[k]) := by simp [icells, hk]
theorem icells_set (H : List Int) (k : Nat) (x : Int) : (icells H).setIfInBounds k (.int .i64 x) = icells (H.set k x) := by simp [icells, List.map_set]

/-- The least free slot; how many there are, if none is. -/
def freeAt : List Int → Nat
  | [] => 0
  | x :: l => if x = 0 then 0 else freeAt l + 1
theorem freeAt_le : ∀ H : List Int, freeAt H ≤ H.length
  | [] => Nat.le_refl _
  | x :: l => by have := freeAt_le l; unfold freeAt; split <;> simp <;> omega
theorem freeAt_hit : ∀ {H : List Int} {k : Nat} (hk : k < H.length), k ≤ freeAt H → H[k] = 0 → freeAt H = k
  | x :: l, 0, _, _, h => by unfold freeAt; simp at h; simp [h]
  | x :: l, k + 1, hk, hf, h => by
    unfold freeAt at *
    split at hf
    · omega
    · rename_i hx
      rw [if_neg hx, freeAt_hit (H := l) (k := k) (by simpa using hk) (by omega) (by simpa using h)]
theorem freeAt_step : ∀ {H : List Int} {k : Nat} (hk : k < H.length), k ≤ freeAt H → H[k] ≠ 0 → k + 1 ≤ freeAt H
  | x :: l, 0, _, _, h => by unfold freeAt; simp at h; simp [h]
  | x :: l, k + 1, hk, hf, h => by
    unfold freeAt at *
    split at hf
    · omega
    · rename_i hx
      rw [if_neg hx]
      have := freeAt_step (H := l) (k := k) (by simpa using hk) (by omega) (by simpa using h)
      omega
theorem freeAt_zero? : ∀ {H : List Int}, freeAt H < H.length → H[freeAt H]? = some 0
  | x :: l, h => by
    by_cases hx : x = 0
    · have e : freeAt (x :: l) = 0 := by unfold freeAt; simp [hx]
      rw [e, hx]
      rfl
    · have e : freeAt (x :: l) = freeAt l + 1 := by rw [freeAt, if_neg hx]
      rw [e, List.getElem?_cons_succ]
      exact freeAt_zero? (by simpa [e] using h)
theorem freeAt_zero {H : List Int} (h : freeAt H < H.length) : H[freeAt H] = 0 := (List.getElem?_eq_some_iff.1 (freeAt_zero? h)).2

def heldI (H : List Int) (s : Int) : Int := if 0 ≤ s ∧ s < H.length then H.getD s.toNat 0 else 0

theorem infoInt : (Try.prog.info? 3).map (fun i => (i.zero, i.size, i.bytes)) = some (some (.int .i64 0), 1, 8) := by kernel_rfl
theorem run_make_ints {P : Program} (t e : TypeId) (i : TypeInfo) (ht : P.underlying t = some (.slice e)) (hi : P.info? e = some i) (hz : i.zero = some (.int .i64 0)) (hs : i.size = 1) (hb : i.bytes = 8)
    (n : Nat) (hn : n ≤ 16384) (w : World) :
    (Instr.makeSlice t (.int .i64 n) (.int .i64 n)).run P w = .ok (.slice (some ⟨w.heap.size, 0, none⟩) n n) (w.alloc (.cells (icells (List.replicate n 0)) e)) := by
  rw [run_make (P := P) w t e i _ ht hi hz .i64 .i64 n n (by omega) (Int.le_refl _) (by rw [hb]; omega) (by omega), hs, Int.toNat_natCast, Nat.mul_one]
  have h := toList_madeCells_one (.int .i64 0) n
  congr 3
  apply Array.ext'
  exact h.trans (by simp [icells])

/-- What a slot that is asked for tells. -/
def askE (H : List Int) (s : Int) : Int := if 0 ≤ s ∧ s < H.length then (if H.getD s.toNat 0 = 0 then 13 else 0) else 14
theorem askE_zero {H : List Int} {s : Int} (h : askE H s = 0) : ∃ k : Nat, s = k ∧ ∃ hk : k < H.length, H[k] ≠ 0 := by
  unfold askE at h
  split at h
  · rename_i h1
    obtain ⟨k, rfl⟩ : ∃ k : Nat, s = k := ⟨s.toNat, by omega⟩
    have hk : k < H.length := by omega
    refine ⟨k, rfl, hk, fun h0 => ?_⟩
    simp [hk, h0] at h
  · cases h
theorem askE_in {H : List Int} {k : Nat} (hk : k < H.length) : askE H k = if H[k] = 0 then 13 else 0 := by
  unfold askE
  rw [if_pos ⟨by omega, by omega⟩]
  simp [hk]

theorem two_cells (w : World) (u v : Value) (t1 t2 : TypeId) : ((w.alloc (.cells #[u] t1)).alloc (.cells #[v] t2)).cell? ⟨w.heap.size, 0, none⟩ = some u ∧ ((w.alloc (.cells #[u] t1)).alloc (.cells #[v] t2)).cell? ⟨w.heap.size + 1, 0, none⟩ = some v := by
  constructor
  · rw [World.cell?_alloc_lt (h := by simp)]
    exact World.cell?_alloc_new w _ t1 0
  · have := World.cell?_alloc_new (w.alloc (.cells #[u] t1)) #[v] t2 0
    rw [World.size_alloc] at this
    exact this

theorem But.thru {S T : Nat → Prop} {a w w' : World} (h : But S a w) (k : But T w w') (ht : ∀ j, T j → S j ∨ a.heap.size ≤ j) : But S a w' :=
  ⟨k.os.trans h.os, k.tape.trans h.tape, k.output.trans h.output, Nat.le_trans h.size k.size, fun i hi hn => (k.block i (Nat.lt_of_lt_of_le hi h.size) (fun e => by
    rcases ht i e with h1 | h1
    · exact hn h1
    · omega)).trans (h.block i hi hn)⟩

theorem u64_wrap_wf (n : Int) : (Lit.int .u64 (IntKind.u64.wrap n)).wf = true := WalkArith.wf_u64 (by rw [IntKind.wrap_u64]; omega)

def addH (H : List Int) (s n : Int) : List Int := if askE H s = 0 then H.set s.toNat (wrap64 (H.getD s.toNat 0 + n)) else H
theorem addH_len (H : List Int) (s n : Int) : (addH H s n).length = H.length := by unfold addH; split <;> simp
/-- Cells of strings. -/
def scells (T : List ByteArray) : Array Value := (T.map Value.string).toArray
theorem scells_at {T : List ByteArray} {k : Nat} (hk : k < T.length) : (scells T)[k]? = some (.string T[k]) := by simp [scells, hk]
theorem scells_set (T : List ByteArray) (k : Nat) (x : ByteArray) : (scells T).setIfInBounds k (.string x) = scells (T.set k x) := by simp [scells, List.map_set]

end Go.Proofs.Ytafogipkbhglcaa
