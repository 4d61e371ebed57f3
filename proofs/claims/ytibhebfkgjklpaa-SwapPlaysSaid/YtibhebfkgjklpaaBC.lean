/- Package block: Read and Write. -/
import Derived.Test.YtibhebfkgjklpaaBB
namespace Go.Proofs.Ytibhebfkgjklpaa
open Go.RowKit
set_option linter.unusedVariables false

theorem flat_at {S : List ByteArray} {k j : Nat} (h : All64 S) (hk : k < S.length) (hj : j < S[k].data.toList.length) : (flat S)[64 * k + j]? = some (S[k].data.toList[j]) := by
  have h1 := flat_part h hk
  have h2 : S[k].data.toList.length = 64 := by rw [len_data]; exact h _ (List.getElem_mem hk)
  have h3 : (((flat S).drop (64 * k)).take 64)[j]? = some (S[k].data.toList[j]) := by rw [h1, List.getElem?_eq_getElem hj]
  rw [List.getElem?_take_of_lt (by omega), List.getElem?_drop] at h3
  exact h3

/-- string(b), b a sector. -/
theorem run_string_sec {P : Program} (w : World) (src dst e : TypeId) (g k : Nat) (t : TypeId) (S : List ByteArray) (ha : All64 S) (hk : k < S.length) (hs : P.underlying src = some (.slice e)) (he : P.underlying e = some (.int .u8)) (hd : P.underlying dst = some .string)
    (hg : Blk w g t (Lib.byteCells (flat S)).toArray) : (convert src dst (.slice (some ⟨g, 64 * k, none⟩) 64 64)).run P w = .ok (.string S[k]) w := by
  have hl : S[k].data.toList.length = 64 := by rw [len_data]; exact ha _ (List.getElem_mem hk)
  have h := run_convert_bytes_back (P := P) w src dst e ⟨g, 64 * k, none⟩ 64 S[k].data.toList hs he hd (fun j hj => by
    have hadd : (⟨g, 64 * k, none⟩ : Addr).add j = ⟨g, 64 * k + j, none⟩ := by
      unfold Addr.add
      split
      · next h => subst h; rfl
      · rfl
    rw [hadd, hg.cell]
    have := flat_at ha hk hj
    simp [Lib.byteCells, List.getElem?_map, this])
  rw [hl] at h
  rw [h]

/-- Is there such a sector? -/
def Dsk.has (D : Dsk) (at_ : Int) : Bool := decide (0 ≤ at_) && decide (at_ < D.S.length)
theorem has_iff {D : Dsk} {at_ : Int} : D.has at_ = true ↔ 0 ≤ at_ ∧ at_ < D.S.length := by unfold Dsk.has; simp
theorem has_not {D : Dsk} {at_ : Int} (h : D.has at_ = false) : at_ < 0 ∨ (D.S.length : Int) ≤ at_ := by
  by_cases h1 : 0 ≤ at_ ∧ at_ < D.S.length
  · rw [has_iff.2 h1] at h; cases h
  · omega
/-- What Read tells, and what the disk is then. -/
def Dsk.rdS (D : Dsk) (at_ : Int) : ByteArray := if D.has at_ then D.S.getD at_.toNat ⟨#[]⟩ else ⟨#[]⟩
def Dsk.rdE (D : Dsk) (at_ : Int) : Int := if D.has at_ then 0 else 14
def Dsk.rdD (D : Dsk) (at_ : Int) : Dsk := if D.has at_ then { D with rd := wrap64 (D.rd + 1) } else D
/-- What Write tells, and what the disk is then. -/
def Dsk.wrE (D : Dsk) (at_ : Int) (s : ByteArray) : Int := if D.has at_ then (if s.size = 64 then (if at_ < D.low then 13 else 0) else 1) else 14
def Dsk.wrD (D : Dsk) (at_ : Int) (s : ByteArray) : Dsk := if D.wrE at_ s = 0 then { D with S := D.S.set at_.toNat s, wr := wrap64 (D.wr + 1) } else D

set_option maxHeartbeats 400000 in
theorem clo_read (w : World) : Calls Try.prog 38 #[] w fun e w' => e = .returned (.int .i64 0) ∧ w = w' := by
  go_enter Try.func38, Try.ntmps38
  go_wp2
  go_ret
  exact ⟨rfl, rfl⟩

set_option maxHeartbeats 400000 in
theorem read_any {p g : Nat} {D : Dsk} {w : World} (h : Dk w p g D) (at_ : Int) :
    Calls Try.prog 27 #[.pointer (some ⟨p, 0, none⟩), .int .i64 at_] w fun e w' => e = .returned (.tuple #[.string (D.rdS at_), .int .i64 (D.rdE at_)]) ∧ But (· = p) w w' ∧ Dk w' p g (D.rdD at_) := by
  cases hh : D.has at_
  · have e1 : D.rdS at_ = ⟨#[]⟩ := by unfold Dsk.rdS; simp [hh]
    have e2 : D.rdE at_ = 14 := by unfold Dsk.rdE; simp [hh]
    have e3 : D.rdD at_ = D := by unfold Dsk.rdD; simp [hh]
    rw [e1, e2, e3]
    have hu := use_far p _ _ _ w (h.head.at_ 0 _ rfl) h.len at_ (has_not hh) (.func (.func 38) #[] #[])
    have HU := Lib.hid hu
    have H := Lib.hid h
    clear hu h e1 e2 e3 hh
    go_enter Try.func27, Try.ntmps27
    go_wp2_with (go_at_call 37; refine HU.out.mono ?_; rintro e w' ⟨rfl, rfl⟩)
    go_ret2
    exact ⟨rfl, But.refl _ _, H.out⟩
  · obtain ⟨h0, h1⟩ := has_iff.1 hh
    obtain ⟨k, rfl⟩ : ∃ k : Nat, at_ = k := ⟨at_.toNat, by omega⟩
    have hk : k < D.S.length := by omega
    have e1 : D.rdS k = D.S[k] := by unfold Dsk.rdS; simp [hh, hk]
    have e2 : D.rdE k = 0 := by unfold Dsk.rdE; simp [hh]
    have e3 : D.rdD k = { D with rd := wrap64 (D.rd + 1) } := by unfold Dsk.rdD; simp [hh]
    rw [e1, e2, e3]
    have hu := use_read h k hk (Lib.hid (clo_read w))
    have hc := h.head.at_ 2 _ rfl
    have hf := h.head.frozen 2
    have hs := h.head.set_ 2 (.int .i64 (wrap64 (D.rd + 1)))
    have hrow := h.row.far (p := ⟨p, 2, none⟩) (fun e => h.ne e.symm) (.int .i64 (wrap64 (D.rd + 1)))
    have hcv := run_string_sec (P := Try.prog) (w.setCell ⟨p, 2, none⟩ (.int .i64 (wrap64 (D.rd + 1)))) 60 9 5 g k 5 D.S h.all hk Try.underlying60 Try.underlying5 Try.underlying9 hrow
    have HU := Lib.hid hu
    have H := Lib.hid h
    have HS := Lib.hid hs
    have HR := Lib.hid hrow
    generalize D.S[k] = s at *
    clear hu h e1 e2 e3 hh hs hrow h0 h1 hk
    go_enter Try.func27, Try.ntmps27
    go_wp2_with (go_at_call 37; refine HU.out.mono ?_; rintro e w' ⟨rfl, rfl⟩)
    go_ret2
    exact ⟨rfl, (But.refl (· = p) w).setCell (p := ⟨p, 2, none⟩) (.inl rfl) _, H.out.ne, HS.out, HR.out, H.out.all, H.out.len⟩
set_option maxHeartbeats 400000 in
theorem read_nil (w : World) (at_ : Int) :
    Calls Try.prog 27 #[.pointer none, .int .i64 at_] w fun e w' => e = .returned (.tuple #[.string ⟨#[]⟩, .int .i64 1]) ∧ w = w' := by
  have hu := use_nil w at_ (.func (.func 38) #[] #[])
  have HU := Lib.hid hu
  clear hu
  go_enter Try.func27, Try.ntmps27
  go_wp2_with (go_at_call 37; refine HU.out.mono ?_; rintro e w' ⟨rfl, rfl⟩)
  go_ret2
  exact ⟨rfl, rfl⟩
set_option maxHeartbeats 400000 in
theorem read_none (p c : Nat) (w : World) (h : w.cell? ⟨p, 0, none⟩ = some (.slice none 0 c)) (at_ : Int) :
    Calls Try.prog 27 #[.pointer (some ⟨p, 0, none⟩), .int .i64 at_] w fun e w' => e = .returned (.tuple #[.string ⟨#[]⟩, .int .i64 14]) ∧ w = w' := by
  have hu := use_far p none 0 c w h (by omega) at_ (by omega) (.func (.func 38) #[] #[])
  have HU := Lib.hid hu
  clear hu h
  go_enter Try.func27, Try.ntmps27
  go_wp2_with (go_at_call 37; refine HU.out.mono ?_; rintro e w' ⟨rfl, rfl⟩)
  go_ret2
  exact ⟨rfl, rfl⟩

/- What may be done: 1, 13 or 0. -/
set_option maxHeartbeats 400000 in
theorem clo_write {p g : Nat} {D : Dsk} {w : World} (h : Dk w p g D) (a b c : Nat) (s : ByteArray) (k : Int) (hs : s.size ≤ 281474976710656)
    (ha : w.cell? ⟨a, 0, none⟩ = some (.string s)) (hb : w.cell? ⟨b, 0, none⟩ = some (.int .i64 k)) (hc : w.cell? ⟨c, 0, none⟩ = some (.pointer (some ⟨p, 0, none⟩))) (r : Int)
    (hr : r = if s.size = 64 then (if k < D.low then 13 else 0) else 1) :
    Calls Try.prog 39 #[.pointer (some ⟨a, 0, none⟩), .pointer (some ⟨b, 0, none⟩), .pointer (some ⟨c, 0, none⟩)] w fun e w' => e = .returned (.int .i64 r) ∧ Drawn w w' := by
  have hl := h.head.at_ 1 _ rfl
  clear h
  by_cases h1 : s.size = 64
  · have h2 : ((s.size : Int) != 64) = false := by simp [h1]
    by_cases h3 : k < D.low
    · have hr1 : r = 13 := by rw [hr, if_pos h1, if_pos h3]
      rw [hr1]
      clear hr hr1 h1
      have d : decide (k < D.low) = true := by simpa using h3
      go_enter Try.func39, Try.ntmps39
      go_wp2
      go_quiet (fail)
      go_wp2
      go_ret
      exact ⟨rfl, _, rfl⟩
    · have hr1 : r = 0 := by rw [hr, if_pos h1, if_neg h3]
      rw [hr1]
      clear hr hr1 h1
      have d : decide (k < D.low) = false := by simpa using h3
      go_enter Try.func39, Try.ntmps39
      go_wp2
      go_quiet (fail)
      go_wp2
      go_ret
      exact ⟨rfl, _, rfl⟩
  · have hr1 : r = 1 := by rw [hr, if_neg h1]
    rw [hr1]
    have h2 : ((s.size : Int) != 64) = true := by simp; omega
    clear hr hr1 h1
    go_enter Try.func39, Try.ntmps39
    go_wp2
    go_ret
    exact ⟨rfl, 0, rfl⟩

/- What stands behind use, in a Write. -/
structure UseQ (w w' : World) (p g : Nat) (D : Dsk) (s : ByteArray) : Prop where
  but : But (fun _ => False) w w'
  dk : Dk w' p g D
  hd : w'.cell? ⟨w.heap.size, 0, none⟩ = some (.pointer (some ⟨p, 0, none⟩))
  hs : w'.cell? ⟨w.heap.size + 1 + 1, 0, none⟩ = some (.string s)
  lt : w.heap.size < w'.heap.size

theorem useQ_of {w : World} {p g : Nat} {D : Dsk} (h : Dk w p g D) (s : ByteArray) (k : Int) (t1 t2 t3 : TypeId) (n : Nat) :
    UseQ w ((((w.alloc (Obj.cells #[Value.pointer (some ⟨p, 0, none⟩)] t1)).alloc (Obj.cells #[Value.int IntKind.i64 k] t2)).alloc (Obj.cells #[Value.string s] t3)).drewN n) p g D s :=
  ⟨((((But.refl _ w).alloc _).alloc _).alloc _).drewN n, (((h.alloc _).alloc _).alloc _).drewN n, by
    show (((w.alloc _).alloc _).alloc _).cell? _ = _
    rw [World.cell?_alloc_lt (h := by simp <;> omega), World.cell?_alloc_lt (h := by simp), World.cell?_alloc_at (hn := rfl)]
    rfl, by
    simp [World.cell?_drewN, World.cell?_alloc_at], by simp; omega⟩

/- use, ahead of what Write does. -/
theorem use_w {p g : Nat} {D : Dsk} {w : World} (h : Dk w p g D) (k : Int) (s : ByteArray) (hs : s.size ≤ 281474976710656) (r : Int) (hr : r = D.wrE k s) (v : Value)
    (hv : v = if r = 0 then .slice (some ⟨g, 64 * k.toNat, none⟩) 64 64 else .slice none 0 0) :
    Calls Try.prog 37 #[.pointer (some ⟨p, 0, none⟩), .int .i64 k, .func (.func 39) #[] #[.pointer (some ⟨w.heap.size + 1 + 1, 0, none⟩), .pointer (some ⟨w.heap.size + 1, 0, none⟩), .pointer (some ⟨w.heap.size, 0, none⟩)]]
      (((w.alloc (Obj.cells #[Value.pointer (some ⟨p, 0, none⟩)] 28)).alloc (Obj.cells #[Value.int IntKind.i64 k] 3)).alloc (Obj.cells #[Value.string s] 9))
      fun e w' => e = .returned (.tuple #[v, .int .i64 r]) ∧ UseQ w w' p g D s := by
  have h3 := ((h.alloc (Obj.cells #[Value.pointer (some ⟨p, 0, none⟩)] 28)).alloc (Obj.cells #[Value.int IntKind.i64 k] 3)).alloc (Obj.cells #[Value.string s] 9)
  have hq := useQ_of h s k 28 3 9
  have hq0 := hq 0
  have hb0 : (((w.alloc (Obj.cells #[Value.pointer (some ⟨p, 0, none⟩)] 28)).alloc (Obj.cells #[Value.int IntKind.i64 k] 3)).alloc (Obj.cells #[Value.string s] 9)).cell? ⟨w.heap.size + 1, 0, none⟩ = some (.int .i64 k) := by
    simp [World.cell?_alloc_past, World.cell?_alloc_at]
  generalize ((w.alloc (Obj.cells #[Value.pointer (some ⟨p, 0, none⟩)] 28)).alloc (Obj.cells #[Value.int IntKind.i64 k] 3)).alloc (Obj.cells #[Value.string s] 9) = w3 at *
  cases hh : D.has k
  · have e : r = 14 := by rw [hr]; unfold Dsk.wrE; simp [hh]
    rw [if_neg (by omega)] at hv
    rw [hv, e]
    refine (use_far p _ _ _ w3 (h3.head.at_ 0 _ rfl) h3.len k (has_not hh) _).mono ?_
    rintro e w' ⟨rfl, rfl⟩
    exact ⟨rfl, hq0⟩
  · obtain ⟨h0, h1⟩ := has_iff.1 hh
    obtain ⟨k, rfl⟩ : ∃ j : Nat, k = j := ⟨k.toNat, by omega⟩
    have e : r = if s.size = 64 then (if (k : Int) < D.low then 13 else 0) else 1 := by rw [hr]; unfold Dsk.wrE; simp [hh]
    have hc := clo_write h3 (w.heap.size + 1 + 1) (w.heap.size + 1) w.heap.size s k hs hq0.hs hb0 hq0.hd r e
    by_cases hz : r = 0
    · subst hz
      rw [if_pos rfl] at hv
      rw [hv, Int.toNat_natCast]
      refine (use_write h3 k (by omega) _ _ _ (Lib.hid hc)).mono ?_
      rintro e w' ⟨rfl, n, rfl⟩
      exact ⟨rfl, hq n⟩
    · rw [if_neg hz] at hv
      rw [hv]
      refine (use_not h3 k (by omega) _ _ _ r (by simpa using hz) (Lib.hid hc)).mono ?_
      rintro e w' ⟨rfl, n, rfl⟩
      exact ⟨rfl, hq n⟩

theorem wrE_size {D : Dsk} {k : Int} {s : ByteArray} (h : D.wrE k s = 0) : D.has k = true ∧ s.size = 64 := by
  unfold Dsk.wrE at h
  split at h
  · split at h
    · exact ⟨‹_›, ‹_›⟩
    · cases h
  · cases h

/-- What a sector has behind a copy of s to it. -/
def over (o s : ByteArray) : ByteArray := mkb (s.data.toList.take 64 ++ o.data.toList.drop (min s.size 64))
theorem over_size {o s : ByteArray} (ho : o.size = 64) : (over o s).size = 64 := by
  unfold over
  rw [mkb_size, List.length_append, List.length_take, List.length_drop, len_data, len_data, ho]
  omega
theorem over_whole {o s : ByteArray} (ho : o.size = 64) (h : s.size = 64) : over o s = s := by
  unfold over
  rw [h, Nat.min_self, List.drop_of_length_le (by rw [len_data, ho]; exact Nat.le_refl _), List.take_of_length_le (by rw [len_data, h]; exact Nat.le_refl _), List.append_nil, mkb_of]

theorem flat_over {S : List ByteArray} {k : Nat} {s : ByteArray} (h : All64 S) (hk : k < S.length) :
    (flat S).take (64 * k) ++ s.data.toList.take (min s.size 64) ++ (flat S).drop (64 * k + min s.size 64) = flat (S.set k (over S[k] s)) := by
  have h1 : S[k].size = 64 := h _ (List.getElem_mem hk)
  rw [← flat_set h hk (over_size h1), List.append_assoc, List.append_assoc]
  congr 1
  have h2 : (flat S).drop (64 * k) = S[k].data.toList ++ (flat S).drop (64 * k + 64) := by
    conv => lhs; rw [← List.take_append_drop 64 ((flat S).drop (64 * k))]
    rw [flat_part h hk, List.drop_drop]
  rw [← List.drop_drop, h2, List.drop_append_of_le_length (by rw [len_data, h1]; omega), ← List.append_assoc]
  congr 1
  unfold over
  rw [mkb_data]
  congr 1
  by_cases h3 : s.size ≤ 64
  · rw [Nat.min_eq_left h3, ← len_data, List.take_of_length_le (Nat.le_refl _), List.take_of_length_le (by rw [len_data]; exact h3)]
  · rw [Nat.min_eq_right (by omega)]

/-- copy(b, s), b a sector. -/
theorem wpList_copy_sec {P : Program} {w : World} {ops : Array Oper} {rest : List Oper} {o : Oper} {a : Act} {Q : Exit → Act → World → Prop} (hgd : o.guard = none) (d x : Operand) (dT sT : TypeId)
    (ho : o.op = .call { callee := .builtin .copy, args := #[d, x], argTypes := #[dT, sT] }) (elem : TypeId) (hu : P.underlying dT = some (.slice elem)) (hs : (P.info? elem).map (·.size) = some 1)
    (g k : Nat) (t : TypeId) (S : List ByteArray) (s : ByteArray) (hd : a.eval d = .slice (some ⟨g, 64 * k, none⟩) 64 64) (hx : a.eval x = .string s) (ha : All64 S) (hk : k < S.length) (hg : Blk w g t (Lib.byteCells (flat S)).toArray)
    (h : ∀ w', Blk w' g t (Lib.byteCells (flat (S.set k (over S[k] s)))).toArray → w.grownBy w' (some g) → wpList P ops Q rest (a.put o.dst (goInt (Nat.min s.size 64))) w') : wpList P ops Q (o :: rest) a w := by
  have hl := flat_length ha
  have hm : Nat.min s.size 64 ≤ 64 := Nat.min_le_right _ _
  refine Lib.wpList_copy_run w hgd d x dT sT ho _ _ hd hx (run_copy_str (P := P) w dT sT o.type elem g (64 * k) 64 64 s _ t hu hs hg _ rfl (by simp [Lib.byteCells_length, hl]; omega)) ?_
  have e : ((Lib.byteCells (flat S)).toArray.toList.take (64 * k) ++ Lib.byteCells (s.data.toList.take (Nat.min s.size 64)) ++ (Lib.byteCells (flat S)).toArray.toList.drop (64 * k + Nat.min s.size 64)) = Lib.byteCells (flat (S.set k (over S[k] s))) := by
    rw [← flat_over ha hk]
    simp [Lib.byteCells]
  rw [e]
  exact h _ (hg.setRow _) (grownBy_setRow _ _ _)

set_option maxHeartbeats 800000 in
theorem write_any {p g : Nat} {D : Dsk} {w : World} (h : Dk w p g D) (k : Int) (s : ByteArray) (hs : s.size ≤ 281474976710656) :
    Calls Try.prog 31 #[.pointer (some ⟨p, 0, none⟩), .int .i64 k, .string s] w fun e w' => e = .returned (.int .i64 (D.wrE k s)) ∧ But (fun j => j = p ∨ j = g) w w' ∧ Dk w' p g (D.wrD k s) := by
  have hmf : ∀ (fn : Fn) (first cap : Array Value) (w : World), (Instr.makeFunc fn first cap).run Try.prog w = .ok (.func fn first cap) w := fun _ _ _ _ => rfl
  by_cases hz : D.wrE k s = 0
  · obtain ⟨hh, hsz⟩ := wrE_size hz
    obtain ⟨h0, h1⟩ := has_iff.1 hh
    obtain ⟨k, rfl⟩ : ∃ j : Nat, k = j := ⟨k.toNat, by omega⟩
    have hk : k < D.S.length := by omega
    have hu := use_w h k s hs 0 hz.symm (.slice (some ⟨g, 64 * k, none⟩) 64 64) (by rw [if_pos rfl, Int.toNat_natCast])
    have e1 : D.wrD k s = { D with S := D.S.set k (over D.S[k] s), wr := wrap64 (D.wr + 1) } := by
      unfold Dsk.wrD
      rw [if_pos hz, Int.toNat_natCast, over_whole (h.all _ (List.getElem_mem hk)) hsz]
    rw [e1, hz]
    have hall : All64 (D.S.set k (over D.S[k] s)) := h.all.set_ (over_size (h.all _ (List.getElem_mem hk)))
    have hne := h.ne
    have hpl := h.head.lt
    have hgl := h.row.lt
    have HU := Lib.hid hu
    have H := Lib.hid h
    have HA := Lib.hid hall
    have hmin : Hid (Nat.min s.size 64 = 64) := by show Nat.min _ _ = _; rw [hsz]; rfl
    clear hu h e1 hz hh hsz h0 h1 hall
    go_enter Try.func31, Try.ntmps31
    go_wp2_with (first
      | (go_at_call 37; refine HU.out.mono ?_; rintro e w4 ⟨rfl, hq⟩; have c1 := hq.hd; have c2 := hq.hs; have HQ := Lib.hid hq; clear hq)
      | (refine wpList_copy_sec rfl (.tmp 19) (.tmp 20) _ _ rfl 5 Try.underlying60 sizeU8 g k 5 D.S s rfl rfl H.out.all hk HQ.out.dk.row ?_
         intro w5 hb5 hg5
         have c3 : w5.cell? ⟨w.heap.size, 0, none⟩ = some (.pointer (some ⟨p, 0, none⟩)) := (World.cell?_of_block (hg5.block w.heap.size HQ.out.lt (by intro e; injection e with e; omega))).trans c1
         have h5 := HQ.out.dk.head.grown hg5 (by intro e; injection e with e; omega)
         have c4 := h5.at_ 3 _ rfl
         have f4 := h5.frozen 3
         have HG := Lib.hid hg5
         have HB := Lib.hid hb5
         have H5 := Lib.hid h5
         clear hg5 hb5 h5))
    go_ret
    refine ⟨rfl, ((HQ.out.but.mono (fun _ h => h.elim)).grown HG.out (fun j e => by injection e with e; exact .inl (.inr e.symm))).setCell (p := ⟨p, 3, none⟩) (.inl (.inl rfl)) _, hne, ?_, HB.out.far (by exact fun e => hne e.symm) _, HA.out, by simpa using H.out.len⟩
    have h6 := H5.out.set_ 3 (.int .i64 (wrap64 (D.wr + 1)))
    simpa using h6
  · have hu := use_w h k s hs _ rfl (.slice none 0 0) (by rw [if_neg hz])
    have e1 : D.wrD k s = D := by unfold Dsk.wrD; rw [if_neg hz]
    have hz1 : (D.wrE k s != 0) = true := by simpa using hz
    rw [e1]
    generalize D.wrE k s = r at *
    have HU := Lib.hid hu
    have H := Lib.hid h
    clear hu h e1 hz
    go_enter Try.func31, Try.ntmps31
    go_wp2_with (go_at_call 37; refine HU.out.mono ?_; rintro e w4 ⟨rfl, hq⟩)
    go_ret
    exact ⟨rfl, hq.but.mono (fun _ h => h.elim), hq.dk⟩

set_option maxHeartbeats 800000 in
theorem write_nil (w : World) (k : Int) (s : ByteArray) :
    Calls Try.prog 31 #[.pointer none, .int .i64 k, .string s] w fun e w' => e = .returned (.int .i64 1) ∧ Below w.heap.size w w' := by
  have hmf : ∀ (fn : Fn) (first cap : Array Value) (w : World), (Instr.makeFunc fn first cap).run Try.prog w = .ok (.func fn first cap) w := fun _ _ _ _ => rfl
  have HU := Lib.hid (fun w f => use_nil w k f)
  go_enter Try.func31, Try.ntmps31
  go_wp2_with (go_at_call 37; refine (HU.out _ _).mono ?_; rintro e w4 ⟨rfl, rfl⟩)
  go_ret
  exact ⟨rfl, (((Below.refl _ w).alloc (Nat.le_refl _) _).alloc (by simp) _).alloc (by simp <;> omega) _⟩

set_option maxHeartbeats 800000 in
theorem write_none (p c : Nat) (w : World) (h : w.cell? ⟨p, 0, none⟩ = some (.slice none 0 c)) (hp : p < w.heap.size) (k : Int) (s : ByteArray) :
    Calls Try.prog 31 #[.pointer (some ⟨p, 0, none⟩), .int .i64 k, .string s] w fun e w' => e = .returned (.int .i64 14) ∧ Below w.heap.size w w' := by
  have hmf : ∀ (fn : Fn) (first cap : Array Value) (w : World), (Instr.makeFunc fn first cap).run Try.prog w = .ok (.func fn first cap) w := fun _ _ _ _ => rfl
  have hb : ∀ o1 o2 o3 : Obj, (((w.alloc o1).alloc o2).alloc o3).cell? ⟨p, 0, none⟩ = some (.slice none 0 c) := fun o1 o2 o3 => by
    rw [World.cell?_alloc_lt (h := by simp <;> omega), World.cell?_alloc_lt (h := by simp <;> omega), World.cell?_alloc_lt (h := by simpa using hp)]
    exact h
  have HU := Lib.hid (fun o1 o2 o3 f => use_far p none 0 c _ (hb o1 o2 o3) (by omega) k (by omega) f)
  clear hb h
  go_enter Try.func31, Try.ntmps31
  go_wp2_with (go_at_call 37; refine (HU.out _ _ _ _).mono ?_; rintro e w4 ⟨rfl, rfl⟩)
  go_ret
  exact ⟨rfl, (((Below.refl _ w).alloc (Nat.le_refl _) _).alloc (by simp) _).alloc (by simp <;> omega) _⟩
end Go.Proofs.Ytibhebfkgjklpaa
