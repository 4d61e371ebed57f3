/- Words for rows of bytes and for strings; of no program. -/
import Derived.WalkKit
import Derived.BigQuiet
import Derived.Deep.QuietTactic
import Derived.WalkLawsBesides
import Derived.WalkSpells
import Derived.OpenShut
import Derived.ShutString
import Derived.Lib.SlBuf
import Derived.Lib.BufferWrite
import Derived.Lib.BufferRead
import Derived.Lib.ConvBytes
import Derived.Lib.SlBytesRow
import Derived.Lib.Hide
import Derived.Laws.OwnMore
import Derived.Laws.Rows
namespace Go.Proofs.Ytafogipkbhglcaa
open Go.RowKit

/-- A text of these bytes. -/
def mkb (l : List UInt8) : ByteArray := ⟨l.toArray⟩
theorem mkb_data (l : List UInt8) : (mkb l).data.toList = l := by simp [mkb]
theorem mkb_of (s : ByteArray) : mkb s.data.toList = s := by cases s; simp [mkb]
theorem mkb_size (l : List UInt8) : (mkb l).size = l.length := by rw [Lib.size_eq, mkb_data]
theorem mkb_inj {a b : List UInt8} (h : mkb a = mkb b) : a = b := by rw [← mkb_data a, h, mkb_data]
theorem extract_mkb (s : ByteArray) (i j : Nat) : s.extract i j = mkb ((s.data.toList.drop i).take (j - i)) := by
  rw [← Lib.extract_data, mkb_of]
theorem len_data (s : ByteArray) : s.data.toList.length = s.size := (Lib.size_eq s).symm

/-- Block g is just these cells, none frozen. -/
def Blk (w : World) (g : Nat) (t : TypeId) (cs : Array Value) : Prop := w.heap[g]? = some (.cells cs t (0, 0))

section
variable {w w' : World} {g : Nat} {t : TypeId} {cs : Array Value}
theorem Blk.lt (h : Blk w g t cs) : g < w.heap.size := by
  rcases Nat.lt_or_ge g w.heap.size with hlt | hge
  · exact hlt
  · unfold Blk at h; rw [Array.getElem?_eq_none hge] at h; cases h
theorem Blk.cell (h : Blk w g t cs) (i : Nat) : w.cell? ⟨g, i, none⟩ = cs[i]? := cell_of_row w g i cs t (0, 0) h
theorem Blk.at_ (h : Blk w g t cs) (i : Nat) (v : Value) (hv : cs[i]? = some v) : w.cell? ⟨g, i, none⟩ = some v := (h.cell i).trans hv
theorem Blk.frozen (h : Blk w g t cs) (i : Nat) : w.frozen? ⟨g, i, none⟩ = false := by
  unfold Blk at h
  simp [World.frozen?, h]
theorem Blk.new (w : World) (t : TypeId) (cs : Array Value) : Blk (w.alloc (.cells cs t)) w.heap.size t cs := heap_alloc_new w _
theorem Blk.drew (h : Blk w g t cs) : Blk w.drew g t cs := h
theorem Blk.drewN (h : Blk w g t cs) (n : Nat) : Blk (w.drewN n) g t cs := h
theorem Blk.alloc (h : Blk w g t cs) (o : Obj) : Blk (w.alloc o) g t cs := (Below.heap_alloc w o g h.lt).trans h
theorem Blk.set_ (h : Blk w g t cs) (i : Nat) (u : Value) : Blk (w.setCell ⟨g, i, none⟩ u) g t (cs.setIfInBounds i u) := by
  unfold Blk at h ⊢
  simp [World.setCell, Array.getElem?_modify, h]
theorem Blk.far (h : Blk w g t cs) {p : Addr} (hp : g ≠ p.block) (u : Value) : Blk (w.setCell p u) g t cs := (Below.heap_setCell w p u g hp).trans h
theorem Blk.below {B : Nat} (h : Blk w g t cs) (hb : Below B w w') (hg : g < B) : Blk w' g t cs := (hb.block g hg).trans h
theorem Blk.grown {row : Option Nat} (h : Blk w g t cs) (hb : w.grownBy w' row) (hg : some g ≠ row) : Blk w' g t cs := (hb.block g h.lt hg).trans h
end

/-- What a row that is kept is: the bytes l, and bytes 0 behind, up to n; or cut. -/
def fillL (l : List UInt8) (n : Nat) : List UInt8 := l.take n ++ List.replicate (n - l.length) 0
theorem fillL_length (l : List UInt8) (n : Nat) : (fillL l n).length = n := by simp [fillL]; omega

/-- n bytes 0. -/
def zrow (n : Nat) : Array Value := (Lib.byteCells (List.replicate n 0)).toArray
theorem zrow_size (n : Nat) : (zrow n).size = n := by simp [zrow, Lib.byteCells_length]
theorem madeCells_bytes (n : Nat) : madeCells (Value.int .u8 0).cells (n * 1) = zrow n := by
  apply Array.ext_getElem?
  intro i
  by_cases hi : i < n
  · simp [madeCells, zrow, Lib.byteCells, hi, Value.cells, Nat.mod_one]
  · simp [madeCells, zrow, Lib.byteCells, hi]

/-- make([]byte, n). -/
theorem run_make_bytes {P : Program} (t e : TypeId) (i : TypeInfo) (ht : P.underlying t = some (.slice e)) (hi : P.info? e = some i) (hz : i.zero = some (.int .u8 0)) (hs : i.size = 1) (hb : i.bytes = 1)
    (n : Int) (h0 : 0 ≤ n) (hn : n ≤ 281474976710656) (w : World) :
    (Instr.makeSlice t (.int .i64 n) (.int .i64 n)).run P w = .ok (.slice (some ⟨w.heap.size, 0, none⟩) n.toNat n.toNat) (w.alloc (.cells (zrow n.toNat) e)) := by
  rw [run_make (P := P) w t e i _ ht hi hz .i64 .i64 n n h0 (Int.le_refl _) (by rw [hb]; omega) (by omega), hs, madeCells_bytes]

/-- copy(dst, s) of a text. -/
theorem run_copy_str {P : Program} (w : World) (dT sT ty elem : TypeId) (g o dLen dCap : Nat) (s : ByteArray) (cur : Array Value) (t : TypeId)
    (hu : P.underlying dT = some (.slice elem)) (hs : (P.info? elem).map (·.size) = some 1) (hg : w.heap[g]? = some (.cells cur t (0, 0))) (n : Nat) (hn : Nat.min s.size dLen = n) (hfit : o + n ≤ cur.size) :
    (Builtin.copy_ #[dT, sT] ty #[.slice (some ⟨g, o, none⟩) dLen dCap, .string s]).run P w =
      .ok (goInt n) (w.setRow g (cur.toList.take o ++ Lib.byteCells (s.data.toList.take n) ++ cur.toList.drop (o + n)).toArray) := by
  have hlen : (Lib.byteCells (s.data.toList.take n)).length = n := by
    have h1 : n ≤ s.size := by rw [← hn]; exact Nat.min_le_left _ _
    rw [Lib.byteCells_length, List.length_take, len_data, Nat.min_eq_left h1]
  have hst := run_storeCells_at P g o t (Lib.byteCells (s.data.toList.take n)) 0 cur w hg (by rw [hlen]; simpa using hfit) (Lib.byteCells_one _)
  have htk : List.take n (List.map (fun b : UInt8 => Value.int IntKind.u8 (b.toNat : Int)) s.data.toList) = Lib.byteCells (s.data.toList.take n) := by
    unfold Lib.byteCells; rw [List.map_take]
  rw [hlen] at hst
  simp only [Nat.add_zero] at hst
  cases hq : P.info? elem with
  | none => simp [hq] at hs
  | some i =>
    simp [Builtin.copy_, run_underlying hu, Builtin.lenOf, Builtin.firstCells, sizeOf, typeInfo, hq, hn]
    rw [htk, hst]
    simp [Result.andThen]

theorem zrow_drop (n k : Nat) : (zrow n).toList.drop k = Lib.byteCells (List.replicate (n - k) 0) := by simp [zrow, Lib.byteCells]

/-- copy of a text into a new row of bytes 0, whole. -/
theorem run_copy_zeros {P : Program} (w : World) (dT sT ty elem : TypeId) (g N : Nat) (s : ByteArray) (t : TypeId)
    (hu : P.underlying dT = some (.slice elem)) (hs : (P.info? elem).map (·.size) = some 1) (hg : Blk w g t (zrow N)) :
    (Builtin.copy_ #[dT, sT] ty #[.slice (some ⟨g, 0, none⟩) N N, .string s]).run P w =
      .ok (goInt (Nat.min s.size N)) (w.setRow g (Lib.byteCells (fillL s.data.toList N)).toArray) := by
  rw [run_copy_str (P := P) w dT sT ty elem g 0 N N s (zrow N) t hu hs hg _ rfl (by rw [zrow_size, Nat.zero_add]; exact Nat.min_le_right _ _)]
  congr 2
  rw [zrow_drop]
  unfold fillL
  rw [Lib.byteCells_append, List.take_zero, List.nil_append, Nat.zero_add]
  congr 2
  · rw [← len_data]
    congr 1
    show List.take (min _ _) _ = _
    by_cases h : s.data.toList.length ≤ N
    · rw [Nat.min_eq_left h, List.take_of_length_le (Nat.le_refl _), List.take_of_length_le h]
    · rw [Nat.min_eq_right (by omega)]
  · rw [← len_data]
    congr 2
    show _ - min _ _ = _
    omega

theorem Blk.setRow {w : World} {g : Nat} {t : TypeId} {cs : Array Value} (h : Blk w g t cs) (c' : Array Value) : Blk (w.setRow g c') g t c' := setRow_heap w g cs c' t _ h
theorem grownBy_setRow (w : World) (g : Nat) (cs : Array Value) : w.grownBy (w.setRow g cs) (some g) :=
  ⟨rfl, rfl, rfl, by simp [World.setRow], fun k _ hk => setRow_other w g k cs (fun e => hk (by rw [e]))⟩

/-- The operation copy(dst, s) in a walk: dst a new row of bytes 0. -/
theorem wpList_copy_zeros {P : Program} {w : World} {ops : Array Oper} {rest : List Oper} {o : Oper} {a : Act} {Q : Exit → Act → World → Prop} (hgd : o.guard = none) (d x : Operand) (dT sT : TypeId)
    (ho : o.op = .call { callee := .builtin .copy, args := #[d, x], argTypes := #[dT, sT] }) (elem : TypeId) (hu : P.underlying dT = some (.slice elem)) (hs : (P.info? elem).map (·.size) = some 1)
    (g N : Nat) (t : TypeId) (s : ByteArray) (hd : a.eval d = .slice (some ⟨g, 0, none⟩) N N) (hx : a.eval x = .string s) (hg : Blk w g t (zrow N))
    (h : ∀ w', Blk w' g t (Lib.byteCells (fillL s.data.toList N)).toArray → w.grownBy w' (some g) → wpList P ops Q rest (a.put o.dst (goInt (Nat.min s.size N))) w') : wpList P ops Q (o :: rest) a w :=
  Lib.wpList_copy_run w hgd d x dT sT ho _ _ hd hx (run_copy_zeros (P := P) w dT sT o.type elem g N s t hu hs hg) (h _ (hg.setRow _) (grownBy_setRow _ _ _))

/-- string(b), b a row of bytes, whole. -/
theorem run_string_blk {P : Program} (w : World) (src dst e : TypeId) (g cap : Nat) (t : TypeId) (l : List UInt8) (n : Nat) (hn : l.length = n) (hs : P.underlying src = some (.slice e)) (he : P.underlying e = some (.int .u8)) (hd : P.underlying dst = some .string)
    (hg : Blk w g t (Lib.byteCells l).toArray) : (convert src dst (.slice (some ⟨g, 0, none⟩) n cap)).run P w = .ok (.string (mkb l)) w := by
  subst hn
  exact run_convert_bytes_back (P := P) w src dst e ⟨g, 0, none⟩ cap l hs he hd (fun j hj => by
    have hadd : (⟨g, 0, none⟩ : Addr).add j = ⟨g, j, none⟩ := by unfold Addr.add; split <;> simp_all
    rw [hadd, hg.cell]
    simp [Lib.byteCells, hj])

end Go.Proofs.Ytafogipkbhglcaa
