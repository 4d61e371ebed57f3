/- Rows of pages: one cleared, copied to another, a part of one told or laid. -/
import Derived.Test.YtmbjflcmbenbdaaDoorRowI
import Derived.Lib.SliceRun
import Derived.Laws.CopyRow
namespace Go.Proofs.YtmbjflcmbenbdaaDoor
open Go.RowKit
set_option linter.unusedVariables false

theorem zeroU8 (w : World) : (zeroValue 5).run Tryd.prog w = .ok (.int .u8 0) w := by kernel_rfl

theorem zeroCells_bytes (n : Nat) : (Builtin.zeroCells (Value.int .u8 0).cells n).toList = Lib.byteCells (List.replicate n 0) := by
  rw [show (Value.int .u8 0).cells = #[Value.int .u8 0] from rfl]
  simp [Builtin.zeroCells, Lib.byteCells]
  apply List.ext_getElem
  · simp
  · intro i h1 h2
    simp [Nat.mod_one]

/-- clear(b), b a page. -/
theorem run_clear_sec {P : Program} (w : World) (dT ty elem : TypeId) (g k c : Nat) (t : TypeId) (S : List ByteArray) (hu : P.underlying dT = some (.slice elem)) (hz : ∀ w, (zeroValue elem).run P w = .ok (.int .u8 0) w)
    (ha : All64 S) (hk : k < S.length) (hg : Blk w g t (Lib.byteCells (flat S)).toArray) :
    (Builtin.clear_ #[dT] ty #[.slice (some ⟨g, 64 * k, none⟩) 64 c]).run P w = .ok (.tuple #[]) (w.setRow g (Lib.byteCells (flat (S.set k zsec))).toArray) := by
  have hzc : (Builtin.zeroCells (Value.int .u8 0).cells 64).toList = Lib.byteCells zsec.data.toList := by
    unfold zsec
    rw [mkb_data]
    exact zeroCells_bytes 64
  have hl := flat_length ha
  have hzl : zsec.data.toList.length = 64 := by rw [len_data, zsec_size]
  have hst := run_storeCells_at P g (64 * k) t (Lib.byteCells zsec.data.toList) 0 _ w hg (by simp [Lib.byteCells_length, hl, hzl]; omega) (Lib.byteCells_one _)
  have e : ((Lib.byteCells (flat S)).toArray.toList.take (64 * k + 0) ++ Lib.byteCells zsec.data.toList ++ (Lib.byteCells (flat S)).toArray.toList.drop (64 * k + 0 + (Lib.byteCells zsec.data.toList).length)) = Lib.byteCells (flat (S.set k zsec)) := by
    rw [← flat_set ha hk zsec_size, Lib.byteCells_length, hzl]
    simp [Lib.byteCells]
  rw [e] at hst
  simp [Builtin.clear_, run_underlying hu, hz, hzc, hst]

theorem wp_clear_run {P : Program} (w : World) {o : Oper} {a : Act} {K : Act → World → Prop} {Q : Exit → Act → World → Prop} (d : Operand) (t : TypeId)
    (ho : o.op = .call { callee := .builtin .clear, args := #[d], argTypes := #[t] }) (v : Value) (hd : a.eval d = v) {v' : Value} {w' : World}
    (hr : (Builtin.clear_ #[t] o.type #[v]).run P w = .ok v' w') (h : K (a.put o.dst v') w') : o.wp P a w K Q := by
  unfold Oper.wp execOp
  simp only [ho, resolve, invoke, builtin, Sem.run_bind, Sem.run_pure, Result.andThen_ok, List.map_toArray, List.map_cons, List.map_nil, hd, hr]
  exact h

/-- The operation clear(b) in a walk: b a page. -/
theorem wpList_clear_sec {P : Program} {w : World} {ops : Array Oper} {rest : List Oper} {o : Oper} {a : Act} {Q : Exit → Act → World → Prop} (hgd : o.guard = none) (d : Operand) (dT : TypeId)
    (ho : o.op = .call { callee := .builtin .clear, args := #[d], argTypes := #[dT] }) (elem : TypeId) (hu : P.underlying dT = some (.slice elem)) (hz : ∀ w, (zeroValue elem).run P w = .ok (.int .u8 0) w)
    (g k c : Nat) (t : TypeId) (S : List ByteArray) (hd : a.eval d = .slice (some ⟨g, 64 * k, none⟩) 64 c) (ha : All64 S) (hk : k < S.length) (hg : Blk w g t (Lib.byteCells (flat S)).toArray)
    (h : ∀ w', Blk w' g t (Lib.byteCells (flat (S.set k zsec))).toArray → w.grownBy w' (some g) → wpList P ops Q rest (a.put o.dst (.tuple #[])) w') : wpList P ops Q (o :: rest) a w :=
  wpList_plain hgd fun _ hK => wp_clear_run w d dT ho _ hd (run_clear_sec (P := P) w dT o.type elem g k c t S hu hz ha hk hg) (hK _ _ (h _ (hg.setRow _) (grownBy_setRow _ _ _)))

/-- copy(b, c), both pages of the row. -/
theorem wpList_copy_page {P : Program} {w : World} {ops : Array Oper} {rest : List Oper} {o : Oper} {a : Act} {Q : Exit → Act → World → Prop} (hgd : o.guard = none) (d x : Operand) (dT sT : TypeId)
    (ho : o.op = .call { callee := .builtin .copy, args := #[d, x], argTypes := #[dT, sT] }) (elem : TypeId) (hu : P.underlying dT = some (.slice elem)) (hs : (P.info? elem).map (·.size) = some 1)
    (g k j c1 c2 : Nat) (t : TypeId) (S : List ByteArray) (hd : a.eval d = .slice (some ⟨g, 64 * k, none⟩) 64 c1) (hx : a.eval x = .slice (some ⟨g, 64 * j, none⟩) 64 c2) (ha : All64 S) (hk : k < S.length) (hj : j < S.length) (hg : Blk w g t (Lib.byteCells (flat S)).toArray)
    (h : ∀ w', Blk w' g t (Lib.byteCells (flat (S.set k S[j]))).toArray → w.grownBy w' (some g) → wpList P ops Q rest (a.put o.dst (goInt 64)) w') : wpList P ops Q (o :: rest) a w := by
  have hl := flat_length ha
  have hs6 : S[j].size = 64 := ha _ (List.getElem_mem hj)
  have hzl : S[j].data.toList.length = 64 := by rw [len_data, hs6]
  have hcl : (Lib.byteCells S[j].data.toList).length = 64 := by rw [Lib.byteCells_length, hzl]
  have e : ((Lib.byteCells (flat S)).toArray.toList.take (64 * k) ++ Lib.byteCells S[j].data.toList ++ (Lib.byteCells (flat S)).toArray.toList.drop (64 * k + (Lib.byteCells S[j].data.toList).length)) = Lib.byteCells (flat (S.set k S[j])) := by
    rw [← flat_set ha hk hs6, hcl]
    simp [Lib.byteCells]
  have hr := run_copy_row (P := P) w dT sT o.type elem g (64 * k) 64 c1 ⟨g, 64 * j, none⟩ 64 c2 _ t (Lib.byteCells S[j].data.toList) hu hs hg (by rw [hcl]; rfl) (fun i v hv => by
    have hi : i < S[j].data.toList.length := by
      have := (List.getElem?_eq_some_iff.1 hv).1
      rwa [Lib.byteCells_length] at this
    have hadd : (⟨g, 64 * j, none⟩ : Addr).add i = ⟨g, 64 * j + i, none⟩ := by
      unfold Addr.add
      split
      · next h => subst h; rfl
      · rfl
    rw [hadd, hg.cell]
    have := flat_at ha hj hi
    rw [← (List.getElem?_eq_some_iff.1 hv).2]
    simp [Lib.byteCells, List.getElem?_map, this]) (by rw [hcl]; simp [Lib.byteCells_length, hl]; omega) (Lib.byteCells_one _)
  rw [e, hcl] at hr
  exact Lib.wpList_copy_run w hgd d x dT sT ho _ _ hd hx hr (h _ (hg.setRow _) (grownBy_setRow _ _ _))

/-- A page into which s is laid at a place. -/
def putAt (o : ByteArray) (a : Nat) (s : ByteArray) : ByteArray := mkb (o.data.toList.take a ++ s.data.toList ++ o.data.toList.drop (a + s.size))
theorem putAt_size {o s : ByteArray} {a : Nat} (h : a + s.size ≤ o.size) : (putAt o a s).size = o.size := by
  unfold putAt
  rw [mkb_size, List.length_append, List.length_append, List.length_take, List.length_drop, len_data, len_data]
  omega
theorem flat_cut {S : List ByteArray} {k : Nat} (h : All64 S) (hk : k < S.length) : flat S = (flat S).take (64 * k) ++ (S[k].data.toList ++ (flat S).drop (64 * k + 64)) := by
  conv => lhs; rw [← List.take_append_drop (64 * k) (flat S), ← List.take_append_drop 64 ((flat S).drop (64 * k))]
  rw [flat_part h hk, List.drop_drop]
theorem flat_putAt {S : List ByteArray} {k a : Nat} {s : ByteArray} (h : All64 S) (hk : k < S.length) (hs : a + s.size ≤ 64) :
    (flat S).take (64 * k + a) ++ s.data.toList ++ (flat S).drop (64 * k + a + s.size) = flat (S.set k (putAt S[k] a s)) := by
  have h6 : S[k].size = 64 := h _ (List.getElem_mem hk)
  rw [← flat_set h hk (by rw [putAt_size (by omega), h6])]
  have hl := flat_length h
  have hkl : ((flat S).take (64 * k)).length = 64 * k := by rw [List.length_take]; omega
  have h3 : S[k].data.toList.length = 64 := by rw [len_data, h6]
  have e1 : (flat S).take (64 * k + a) = (flat S).take (64 * k) ++ S[k].data.toList.take a := by
    conv => lhs; rw [flat_cut h hk]
    rw [List.take_append, hkl, List.take_of_length_le (by omega), Nat.add_sub_cancel_left, List.take_append_of_le_length (by omega)]
  have e2 : (flat S).drop (64 * k + a + s.size) = S[k].data.toList.drop (a + s.size) ++ (flat S).drop (64 * k + 64) := by
    conv => lhs; rw [flat_cut h hk]
    rw [List.drop_append, hkl, List.drop_of_length_le (by omega), List.nil_append, show 64 * k + a + s.size - 64 * k = a + s.size by omega, List.drop_append_of_le_length (by omega)]
  rw [e1, e2]
  unfold putAt
  rw [mkb_data]
  simp [List.append_assoc]

/-- copy(b, s), b a part of a page, s as long as it is. -/
theorem wpList_copy_word {P : Program} {w : World} {ops : Array Oper} {rest : List Oper} {o : Oper} {a : Act} {Q : Exit → Act → World → Prop} (hgd : o.guard = none) (d x : Operand) (dT sT : TypeId)
    (ho : o.op = .call { callee := .builtin .copy, args := #[d, x], argTypes := #[dT, sT] }) (elem : TypeId) (hu : P.underlying dT = some (.slice elem)) (hs : (P.info? elem).map (·.size) = some 1)
    (g k at_ n c1 : Nat) (t : TypeId) (S : List ByteArray) (s : ByteArray) (hd : a.eval d = .slice (some ⟨g, 64 * k + at_, none⟩) n c1) (hx : a.eval x = .string s) (hn : s.size = n) (hw : at_ + n ≤ 64) (ha : All64 S) (hk : k < S.length) (hg : Blk w g t (Lib.byteCells (flat S)).toArray)
    (h : ∀ w', Blk w' g t (Lib.byteCells (flat (S.set k (putAt S[k] at_ s)))).toArray → w.grownBy w' (some g) → wpList P ops Q rest (a.put o.dst (goInt n)) w') : wpList P ops Q (o :: rest) a w := by
  have hl := flat_length ha
  subst hn
  have hm : Nat.min s.size s.size = s.size := Nat.min_self _
  have hr := run_copy_str (P := P) w dT sT o.type elem g (64 * k + at_) s.size c1 s _ t hu hs hg _ hm (by simp [Lib.byteCells_length, hl]; omega)
  have e : ((Lib.byteCells (flat S)).toArray.toList.take (64 * k + at_) ++ Lib.byteCells (s.data.toList.take s.size) ++ (Lib.byteCells (flat S)).toArray.toList.drop (64 * k + at_ + s.size)) = Lib.byteCells (flat (S.set k (putAt S[k] at_ s))) := by
    rw [← flat_putAt ha hk hw, List.take_of_length_le (i := s.size) (l := s.data.toList) (by rw [len_data]; exact Nat.le_refl _)]
    simp [Lib.byteCells]
  rw [e] at hr
  exact Lib.wpList_copy_run w hgd d x dT sT ho _ _ hd hx hr (h _ (hg.setRow _) (grownBy_setRow _ _ _))

/-- string(b), b a part of a page. -/
theorem run_string_word {P : Program} (w : World) (src dst e : TypeId) (g k at_ n c : Nat) (t : TypeId) (S : List ByteArray) (ha : All64 S) (hk : k < S.length) (hw : at_ + n ≤ 64) (hs : P.underlying src = some (.slice e)) (he : P.underlying e = some (.int .u8)) (hd : P.underlying dst = some .string)
    (hg : Blk w g t (Lib.byteCells (flat S)).toArray) : (convert src dst (.slice (some ⟨g, 64 * k + at_, none⟩) n c)).run P w = .ok (.string (S[k].extract at_ (at_ + n))) w := by
  have h6 : S[k].size = 64 := ha _ (List.getElem_mem hk)
  have h3 : S[k].data.toList.length = 64 := by rw [len_data, h6]
  have hl : ((S[k].data.toList.drop at_).take n).length = n := by rw [List.length_take, List.length_drop, h3]; omega
  have h := run_convert_bytes_back (P := P) w src dst e ⟨g, 64 * k + at_, none⟩ c ((S[k].data.toList.drop at_).take n) hs he hd (fun j hj => by
    rw [hl] at hj
    have hadd : (⟨g, 64 * k + at_, none⟩ : Addr).add j = ⟨g, 64 * k + at_ + j, none⟩ := by
      unfold Addr.add
      split
      · next h => subst h; rfl
      · rfl
    rw [hadd, hg.cell]
    have := flat_at (j := at_ + j) ha hk (by omega)
    rw [show 64 * k + at_ + j = 64 * k + (at_ + j) by omega]
    simp [Lib.byteCells, List.getElem?_map, this])
  rw [hl] at h
  rw [h, extract_mkb, Nat.add_sub_cancel_left]
  rfl
end Go.Proofs.YtmbjflcmbenbdaaDoor
