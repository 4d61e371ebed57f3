/- Package block: Read and Write. -/
import Derived.Test.YtgkhgjihjbjfnaaDoorBB
namespace Go.Proofs.YtgkhgjihjbjfnaaDoor
open Go.RowKit
set_option linter.unusedVariables false

theorem flat_at {S : List ByteArray} {k j : Nat} (h : All64 S) (hk : k < S.length) (hj : j < S[k].data.toList.length) : (flat S)[64 * k + j]? = some (S[k].data.toList[j]) := by
  have h1 := flat_part h hk
  have h2 : S[k].data.toList.length = 64 := by rw [len_data]; exact h _ (List.getElem_mem hk)
  have h3 : (((flat S).drop (64 * k)).take 64)[j]? = some (S[k].data.toList[j]) := by rw [h1, List.getElem?_eq_getElem hj]
  rw [List.getElem?_take_of_lt (by omega), List.getElem?_drop] at h3
  exact h3

/-- string(b), b a sector. -/
theorem run_string_sec {P : Program} (w : World) (src dst e : TypeId) (g k : Nat) (t : TypeId) (S : List ByteArray) (ha : All64 S) (hk : k < S.length) (hs : P.underlying src = some (.slice e)) (he : P.underlying e = some (.int .u8)) (hd : P.underlying dst = some .string)
    (hg : Blk w g t (Lib.byteCells (flat S)).toArray) : (convert src dst (.slice (some ⟨g, 64 * k, none⟩) 64 64)).run P w = .ok (.string S[k]) w := by
  have hl : S[k].data.toList.length = 64 := by rw [len_data]; exact ha _ (List.getElem_mem hk)
  have h := run_convert_bytes_back (P := P) w src dst e ⟨g, 64 * k, none⟩ 64 S[k].data.toList hs he hd (fun j hj => by
    have hadd : (⟨g, 64 * k, none⟩ : Addr).add j = ⟨g, 64 * k + j, none⟩ := by
      unfold Addr.add
      split
      · next h => subst h; rfl
      · rfl
    rw [hadd, hg.cell]
    have := flat_at ha hk hj
    simp [Lib.byteCells, List.getElem?_map, this])
  rw [hl] at h
  rw [h]

/-- Is there such a sector? -/
def Dsk.has (D : Dsk) (at_ : Int) : Bool := decide (0 ≤ at_) && decide (at_ < D.S.length)
theorem has_iff {D : Dsk} {at_ : Int} : D.has at_ = true ↔ 0 ≤ at_ ∧ at_ < D.S.length := by unfold Dsk.has; simp
theorem has_not {D : Dsk} {at_ : Int} (h : D.has at_ = false) : at_ < 0 ∨ (D.S.length : Int) ≤ at_ := by
  by_cases h1 : 0 ≤ at_ ∧ at_ < D.S.length
  · rw [has_iff.2 h1] at h; cases h
  · omega
/-- What Read tells, and what the disk is then. -/
def Dsk.rdS (D : Dsk) (at_ : Int) : ByteArray := if D.has at_ then D.S.getD at_.toNat ⟨#[]⟩ else ⟨#[]⟩
def Dsk.rdE (D : Dsk) (at_ : Int) : Int := if D.has at_ then 0 else 14
def Dsk.rdD (D : Dsk) (at_ : Int) : Dsk := if D.has at_ then { D with rd := wrap64 (D.rd + 1) } else D
/-- What Write tells, and what the disk is then. -/
def Dsk.wrE (D : Dsk) (at_ : Int) (s : ByteArray) : Int := if D.has at_ then (if s.size = 64 then (if at_ < D.low then 13 else 0) else 1) else 14
def Dsk.wrD (D : Dsk) (at_ : Int) (s : ByteArray) : Dsk := if D.wrE at_ s = 0 then { D with S := D.S.set at_.toNat s, wr := wrap64 (D.wr + 1) } else D

set_option maxHeartbeats 400000 in
theorem clo_read (w : World) : Calls Tryd.prog 53 #[] w fun e w' => e = .returned (.int .i64 0) ∧ w = w' := by
  go_enter Tryd.func53, Tryd.ntmps53
  go_wp2
  go_ret
  exact ⟨rfl, rfl⟩

set_option maxHeartbeats 400000 in
theorem read_any {p g : Nat} {D : Dsk} {w : World} (h : Dk w p g D) (at_ : Int) :
    Calls Tryd.prog 34 #[.pointer (some ⟨p, 0, none⟩), .int .i64 at_] w fun e w' => e = .returned (.tuple #[.string (D.rdS at_), .int .i64 (D.rdE at_)]) ∧ But (· = p) w w' ∧ Dk w' p g (D.rdD at_) := by
  cases hh : D.has at_
  · have e1 : D.rdS at_ = ⟨#[]⟩ := by unfold Dsk.rdS; simp [hh]
    have e2 : D.rdE at_ = 14 := by unfold Dsk.rdE; simp [hh]
    have e3 : D.rdD at_ = D := by unfold Dsk.rdD; simp [hh]
    rw [e1, e2, e3]
    have hu := use_far p _ _ _ w (h.head.at_ 0 _ rfl) h.len at_ (has_not hh) (.func (.func 53) #[] #[])
    have HU := Lib.hid hu
    have H := Lib.hid h
    clear hu h e1 e2 e3 hh
    go_enter Tryd.func34, Tryd.ntmps34
    go_wp2_with (go_at_call 52; refine HU.out.mono ?_; rintro e w' ⟨rfl, rfl⟩)
    go_ret2
    exact ⟨rfl, But.refl _ _, H.out⟩
  · obtain ⟨h0, h1⟩ := has_iff.1 hh
    obtain ⟨k, rfl⟩ : ∃ k : Nat, at_ = k := ⟨at_.toNat, by omega⟩
    have hk : k < D.S.length := by omega
    have e1 : D.rdS k = D.S[k] := by unfold Dsk.rdS; simp [hh, hk]
    have e2 : D.rdE k = 0 := by unfold Dsk.rdE; simp [hh]
    have e3 : D.rdD k = { D with rd := wrap64 (D.rd + 1) } := by unfold Dsk.rdD; simp [hh]
    rw [e1, e2, e3]
    have hu := use_read h k hk (Lib.hid (clo_read w))
    have hc := h.head.at_ 2 _ rfl
    have hf := h.head.frozen 2
    have hs := h.head.set_ 2 (.int .i64 (wrap64 (D.rd + 1)))
    have hrow := h.row.far (p := ⟨p, 2, none⟩) (fun e => h.ne e.symm) (.int .i64 (wrap64 (D.rd + 1)))
    have hcv := run_string_sec (P := Tryd.prog) (w.setCell ⟨p, 2, none⟩ (.int .i64 (wrap64 (D.rd + 1)))) 35 9 5 g k 5 D.S h.all hk Tryd.underlying35 Tryd.underlying5 Tryd.underlying9 hrow
    have HU := Lib.hid hu
    have H := Lib.hid h
    have HS := Lib.hid hs
    have HR := Lib.hid hrow
    generalize D.S[k] = s at *
    clear hu h e1 e2 e3 hh hs hrow h0 h1 hk
    go_enter Tryd.func34, Tryd.ntmps34
    go_wp2_with (go_at_call 52; refine HU.out.mono ?_; rintro e w' ⟨rfl, rfl⟩)
    go_ret2
    exact ⟨rfl, (But.refl (· = p) w).setCell (p := ⟨p, 2, none⟩) (.inl rfl) _, H.out.ne, HS.out, HR.out, H.out.all, H.out.len⟩
set_option maxHeartbeats 400000 in
theorem read_nil (w : World) (at_ : Int) :
    Calls Tryd.prog 34 #[.pointer none, .int .i64 at_] w fun e w' => e = .returned (.tuple #[.string ⟨#[]⟩, .int .i64 1]) ∧ w = w' := by
  have hu := use_nil w at_ (.func (.func 53) #[] #[])
  have HU := Lib.hid hu
  clear hu
  go_enter Tryd.func34, Tryd.ntmps34
  go_wp2_with (go_at_call 52; refine HU.out.mono ?_; rintro e w' ⟨rfl, rfl⟩)
  go_ret2
  exact ⟨rfl, rfl⟩
set_option maxHeartbeats 400000 in
theorem read_none (p c : Nat) (w : World) (h : w.cell? ⟨p, 0, none⟩ = some (.slice none 0 c)) (at_ : Int) :
    Calls Tryd.prog 34 #[.pointer (some ⟨p, 0, none⟩), .int .i64 at_] w fun e w' => e = .returned (.tuple #[.string ⟨#[]⟩, .int .i64 14]) ∧ w = w' := by
  have hu := use_far p none 0 c w h (by omega) at_ (by omega) (.func (.func 53) #[] #[])
  have HU := Lib.hid hu
  clear hu h
  go_enter Tryd.func34, Tryd.ntmps34
  go_wp2_with (go_at_call 52; refine HU.out.mono ?_; rintro e w' ⟨rfl, rfl⟩)
  go_ret2
  exact ⟨rfl, rfl⟩






/-- What a sector has behind a copy of s to it. -/
def over (o s : ByteArray) : ByteArray := mkb (s.data.toList.take 64 ++ o.data.toList.drop (min s.size 64))
theorem over_size {o s : ByteArray} (ho : o.size = 64) : (over o s).size = 64 := by
  unfold over
  rw [mkb_size, List.length_append, List.length_take, List.length_drop, len_data, len_data, ho]
  omega
theorem over_whole {o s : ByteArray} (ho : o.size = 64) (h : s.size = 64) : over o s = s := by
  unfold over
  rw [h, Nat.min_self, List.drop_of_length_le (by rw [len_data, ho]; exact Nat.le_refl _), List.take_of_length_le (by rw [len_data, h]; exact Nat.le_refl _), List.append_nil, mkb_of]

theorem flat_over {S : List ByteArray} {k : Nat} {s : ByteArray} (h : All64 S) (hk : k < S.length) :
    (flat S).take (64 * k) ++ s.data.toList.take (min s.size 64) ++ (flat S).drop (64 * k + min s.size 64) = flat (S.set k (over S[k] s)) := by
  have h1 : S[k].size = 64 := h _ (List.getElem_mem hk)
  rw [← flat_set h hk (over_size h1), List.append_assoc, List.append_assoc]
  congr 1
  have h2 : (flat S).drop (64 * k) = S[k].data.toList ++ (flat S).drop (64 * k + 64) := by
    conv => lhs; rw [← List.take_append_drop 64 ((flat S).drop (64 * k))]
    rw [flat_part h hk, List.drop_drop]
  rw [← List.drop_drop, h2, List.drop_append_of_le_length (by rw [len_data, h1]; omega), ← List.append_assoc]
  congr 1
  unfold over
  rw [mkb_data]
  congr 1
  by_cases h3 : s.size ≤ 64
  · rw [Nat.min_eq_left h3, ← len_data, List.take_of_length_le (Nat.le_refl _), List.take_of_length_le (by rw [len_data]; exact h3)]
  · rw [Nat.min_eq_right (by omega)]

/-- copy(b, s), b a sector. -/
theorem wpList_copy_sec {P : Program} {w : World} {ops : Array Oper} {rest : List Oper} {o : Oper} {a : Act} {Q : Exit → Act → World → Prop} (hgd : o.guard = none) (d x : Operand) (dT sT : TypeId)
    (ho : o.op = .call { callee := .builtin .copy, args := #[d, x], argTypes := #[dT, sT] }) (elem : TypeId) (hu : P.underlying dT = some (.slice elem)) (hs : (P.info? elem).map (·.size) = some 1)
    (g k : Nat) (t : TypeId) (S : List ByteArray) (s : ByteArray) (hd : a.eval d = .slice (some ⟨g, 64 * k, none⟩) 64 64) (hx : a.eval x = .string s) (ha : All64 S) (hk : k < S.length) (hg : Blk w g t (Lib.byteCells (flat S)).toArray)
    (h : ∀ w', Blk w' g t (Lib.byteCells (flat (S.set k (over S[k] s)))).toArray → w.grownBy w' (some g) → wpList P ops Q rest (a.put o.dst (goInt (Nat.min s.size 64))) w') : wpList P ops Q (o :: rest) a w := by
  have hl := flat_length ha
  have hm : Nat.min s.size 64 ≤ 64 := Nat.min_le_right _ _
  refine Lib.wpList_copy_run w hgd d x dT sT ho _ _ hd hx (run_copy_str (P := P) w dT sT o.type elem g (64 * k) 64 64 s _ t hu hs hg _ rfl (by simp [Lib.byteCells_length, hl]; omega)) ?_
  have e : ((Lib.byteCells (flat S)).toArray.toList.take (64 * k) ++ Lib.byteCells (s.data.toList.take (Nat.min s.size 64)) ++ (Lib.byteCells (flat S)).toArray.toList.drop (64 * k + Nat.min s.size 64)) = Lib.byteCells (flat (S.set k (over S[k] s))) := by
    rw [← flat_over ha hk]
    simp [Lib.byteCells]
  rw [e]
  exact h _ (hg.setRow _) (grownBy_setRow _ _ _)



end Go.Proofs.YtgkhgjihjbjfnaaDoor
