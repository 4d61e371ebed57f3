/- Package elf: headed. -/
import Derived.Test.YtakmmphjdkapeaaDoorEM
import Derived.Lib.LazyBuf
import Derived.Laws.IdiomCopy
namespace Go.Proofs.YtakmmphjdkapeaaDoor
open Go.RowKit
set_option linter.unusedVariables false
set_option linter.unusedSimpArgs false

theorem but_setCells {S : Nat → Prop} {b : Nat} (hS : S b) : ∀ (vs : List Value) (o : Nat) {a w : World}, But S a w → But S a (w.setCells b o vs)
  | [], _, _, _, h => h
  | v :: vs, o, a, w, h => but_setCells hS vs (o + 1) (h.setCell (p := ⟨b, o, none⟩) (.inl hS) v)

/-- h, of which n bytes from a on are f's. -/
def lend (h f : ByteArray) (a n : Nat) : ByteArray := mkb (h.data.toList.take a ++ (f.data.toList.drop a).take n ++ h.data.toList.drop (a + n))
theorem lend_len {h f : ByteArray} {a n : Nat} (h1 : a + n ≤ h.size) (h2 : a + n ≤ f.size) : (h.data.toList.take a ++ (f.data.toList.drop a).take n ++ h.data.toList.drop (a + n)).length = h.size := by
  simp only [List.length_append, List.length_take, List.length_drop, len_data]
  omega
theorem lend_size {h f : ByteArray} {a n : Nat} (h1 : a + n ≤ h.size) (h2 : a + n ≤ f.size) : (lend h f a n).size = h.size := by
  unfold lend
  rw [mkb_size, lend_len h1 h2]
theorem lend_at {h f : ByteArray} {a n j : Nat} (h1 : a + n ≤ h.size) (h2 : a + n ≤ f.size) (hj : j < h.size) : (lend h f a n).data.toList.getD j 0 = if a ≤ j ∧ j < a + n then f.data.toList.getD j 0 else h.data.toList.getD j 0 := by
  unfold lend
  rw [mkb_data]
  have hta : (h.data.toList.take a).length = a := by rw [List.length_take, len_data]; omega
  have htf : ((f.data.toList.drop a).take n).length = n := by rw [List.length_take, List.length_drop, len_data]; omega
  simp only [List.getD_eq_getElem?_getD]
  by_cases hin : a ≤ j ∧ j < a + n
  · rw [if_pos hin, List.append_assoc, List.getElem?_append_right (by omega), hta, List.getElem?_append_left (by omega), List.getElem?_take_of_lt (by omega), List.getElem?_drop, show a + (j - a) = j by omega]
  · rw [if_neg hin]
    by_cases h3 : j < a
    · rw [List.append_assoc, List.getElem?_append_left (by omega), List.getElem?_take_of_lt h3]
    · rw [List.getElem?_append_right (by rw [List.length_append]; omega), List.length_append, hta, htf, List.getElem?_drop, show a + n + (j - (a + n)) = j by omega]
theorem RawB.lend {w : World} {g : Nat} {h f : ByteArray} {a n : Nat} (hr : RawB w g h) (h1 : a + n ≤ h.size) (h2 : a + n ≤ f.size) :
    RawB (w.setCells g a (((f.data.toList.drop a).take n).map fun x => Value.int .u8 (x.toNat : Int))) g (lend h f a n) := by
  have htf : ((f.data.toList.drop a).take n).length = n := by rw [List.length_take, List.length_drop, len_data]; omega
  refine ⟨Nat.lt_of_lt_of_le hr.1 (but_setCells (S := (· = g)) rfl _ _ (But.refl _ w)).size, fun j hj => ?_⟩
  rw [lend_size h1 h2] at hj
  rw [lend_at h1 h2 hj, World.frozen?_setCells]
  refine ⟨?_, (hr.2 j hj).2⟩
  by_cases hin : a ≤ j ∧ j < a + n
  · rw [if_pos hin]
    obtain ⟨i, rfl⟩ : ∃ i, j = a + i := ⟨j - a, by omega⟩
    rw [World.cell?_setCells_in g _ a w (fun i hi => by rw [(hr.2 _ (by simp at hi; omega)).1]; rfl) i (by simp [htf]; omega)]
    have hlt : a + i < f.data.size := (show a + i < f.size by omega)
    simp [List.getD_eq_getElem?_getD]
    rw [Array.getElem?_eq_getElem hlt]
    rfl
  · rw [if_neg hin, World.cell?_setCells_out g _ a w _ (fun _ _ => by simp; omega), (hr.2 j hj).1]
theorem RawB.but {S : Nat → Prop} {w w' : World} {g : Nat} {s : ByteArray} (h : RawB w g s) (hb : But S w w') (hS : ¬ S g) : RawB w' g s := by
  have e := hb.block g h.1 hS
  refine ⟨Nat.lt_of_lt_of_le h.1 hb.size, fun j hj => ?_⟩
  obtain ⟨h1, h2⟩ := h.2 j hj
  constructor
  · rw [← h1]; simp only [World.cell?, e]
  · rw [← h2]; simp only [World.frozen?, e]

set_option maxHeartbeats 1600000 in
theorem lend_any (g cap hb fb a n : Nat) (h f : ByteArray) (w : World) (hr : RawB w g h) (hc : w.cell? ⟨hb, 0, none⟩ = some (.slice (some ⟨g, 0, none⟩) h.size cap)) (hf : w.cell? ⟨fb, 0, none⟩ = some (.string f)) (h1 : a + n ≤ h.size) (h2 : a + n ≤ f.size)
    (hcap : h.size ≤ cap) (h0 : 0 < n) (hs : f.size ≤ 281474976710656) :
    Calls Tryd.prog 54 #[.int .i64 a, .int .i64 n, .pointer (some ⟨hb, 0, none⟩), .pointer (some ⟨fb, 0, none⟩)] w fun e w' => e = .returned (.tuple #[]) ∧ RawB w' g (lend h f a n) ∧ But (· = g) w w' := by
  have hne : ¬ cap = a := by omega
  obtain ⟨M, hM⟩ : ∃ M : Nat, a + n = M := ⟨_, rfl⟩
  have hMi : IntKind.i64.wrap ((a : Int) + (n : Int)) = (M : Int) := by rw [IntWalk.i64_in _ (by omega)]; omega
  have hb1 : a ≤ M := by omega
  have hb2 : M ≤ cap := by omega
  have hb3 : M ≤ f.size := by omega
  have hx : f.extract a M = mkb ((f.data.toList.drop a).take n) := by rw [extract_mkb, show M - a = n by omega]
  have hxs : (mkb ((f.data.toList.drop a).take n)).size = n := by rw [mkb_size, List.length_take, List.length_drop, len_data]; omega
  have hMa : M - a = n := by omega
  have HL := Lib.hid (hr.lend h1 h2)
  have HB := Lib.hid (but_setCells (S := (· = g)) (b := g) rfl (((f.data.toList.drop a).take n).map fun x => Value.int .u8 (x.toNat : Int)) a ((But.refl _ w).drew))
  have HD := Lib.hid ((hr.below (w' := w.drew) (Below.refl _ _).drew).lend h1 h2)
  have HT := Lib.hid ((hr.below (w' := w.drew) (Below.refl _ _).drew).there (t := mkb ((f.data.toList.drop a).take n)) hxs h1)
  have HF := Lib.hid ((hr.below (w' := w.drew) (Below.refl _ _).drew).free (t := mkb ((f.data.toList.drop a).take n)) hxs h1)
  have HX := Lib.hid hxs
  clear hr hxs
  go_enter Tryd.func54, Tryd.ntmps54
  go_wp2_with fail
  go_region_law (refine Go.step_copy_string rfl (.tmp 11) (.tmp 17) 53 9 rfl 5 Tryd.underlying53 sizeOfU8 g a n (cap - a) rfl (mkb ((f.data.toList.drop a).take n)) rfl (Nat.le_of_eq HX.out) HT.out HF.out ?_)
  all_goals
    rw [mkb_data]
    go_end0
    exact ⟨rfl, HD.out, HB.out⟩

/-- h, of which the bytes that may be any are f's: those of the header, and of k segments. -/
def lentS (h f : ByteArray) : Nat → ByteArray
  | 0 => lend (lend h f 40 12) f 58 6
  | k + 1 => lend (lentS h f k) f (64 + 56 * k + 24) 8
def freeK (k j : Nat) : Bool := (decide (40 ≤ j) && decide (j < 52)) || (decide (58 ≤ j) && decide (j < 64)) || (decide (64 ≤ j) && decide (j < 64 + 56 * k) && decide (24 ≤ (j - 64) % 56) && decide ((j - 64) % 56 < 32))
theorem freeK_iff {k j : Nat} : freeK k j = true ↔ (40 ≤ j ∧ j < 52) ∨ (58 ≤ j ∧ j < 64) ∨ (64 ≤ j ∧ j < 64 + 56 * k ∧ 24 ≤ (j - 64) % 56 ∧ (j - 64) % 56 < 32) := by
  unfold freeK
  simp only [Bool.or_eq_true, Bool.and_eq_true, decide_eq_true_eq, or_assoc, and_assoc]
theorem lentS_facts {h f : ByteArray} : ∀ (k : Nat), 64 + 56 * k ≤ h.size → 64 + 56 * k ≤ f.size → (lentS h f k).size = h.size ∧ ∀ j, j < h.size → (lentS h f k).data.toList.getD j 0 = if freeK k j = true then f.data.toList.getD j 0 else h.data.toList.getD j 0
  | 0, h1, h2 => by
    have s1 := lend_size (h := h) (f := f) (a := 40) (n := 12) (by omega) (by omega)
    refine ⟨by unfold lentS; rw [lend_size (by omega) (by omega), s1], fun j hj => ?_⟩
    unfold lentS
    rw [lend_at (by omega) (by omega) (by omega), lend_at (by omega) (by omega) hj]
    by_cases e : freeK 0 j = true
    · rw [if_pos e]
      rw [freeK_iff] at e
      by_cases e1 : 58 ≤ j ∧ j < 58 + 6
      · rw [if_pos e1]
      · rw [if_neg e1, if_pos (by omega)]
    · rw [if_neg e]
      rw [freeK_iff] at e
      rw [if_neg (by omega), if_neg (by omega)]
  | k + 1, h1, h2 => by
    obtain ⟨s1, a1⟩ := lentS_facts (h := h) (f := f) k (by omega) (by omega)
    refine ⟨by unfold lentS; rw [lend_size (by omega) (by omega), s1], fun j hj => ?_⟩
    unfold lentS
    rw [lend_at (by omega) (by omega) (by omega), a1 j hj]
    by_cases e : freeK (k + 1) j = true
    · rw [if_pos e]
      rw [freeK_iff] at e
      by_cases e1 : 64 + 56 * k + 24 ≤ j ∧ j < 64 + 56 * k + 24 + 8
      · rw [if_pos e1]
      · rw [if_neg e1, if_pos (freeK_iff.2 (by omega))]
    · rw [if_neg e]
      rw [freeK_iff] at e
      rw [if_neg (by omega), if_neg (fun e2 => by rw [freeK_iff] at e2; omega)]
/-- string(b), b a row of these bytes. -/
theorem run_string_raw {P : Program} (w : World) (src dst e : TypeId) (g cap : Nat) (s : ByteArray) (hs : P.underlying src = some (.slice e)) (he : P.underlying e = some (.int .u8)) (hd : P.underlying dst = some .string) (hr : RawB w g s) (n : Nat) (hn : s.size = n) :
    (convert src dst (.slice (some ⟨g, 0, none⟩) n cap)).run P w = .ok (.string s) w := by
  subst hn
  have h := run_convert_bytes_back (P := P) w src dst e ⟨g, 0, none⟩ cap s.data.toList hs he hd (fun j hj => by
    have hadd : (⟨g, 0, none⟩ : Addr).add j = ⟨g, j, none⟩ := by unfold Addr.add; split <;> simp_all
    rw [hadd, (hr.2 j (by rw [← len_data]; exact hj)).1]
    simp [List.getD_eq_getElem?_getD, List.getElem?_eq_getElem hj])
  rw [len_data] at h
  rw [h]

set_option maxRecDepth 100000 in
set_option maxHeartbeats 3200000 in
theorem headed_any (f : ByteArray) (x : Img) (A : Option Addr) (c : Nat) (w : World) (hT : ETab w) (hk : (Lit.int .i64 x.kind).wf = true) (he : (Lit.int .i64 x.entry).wf = true) (hr : SegRow w A x.segs) (hl : x.segs.length ≤ 1000) (hf : 64 + 56 * x.segs.length ≤ f.size) (hs : f.size ≤ 281474976710656) :
    Calls Tryd.prog 42 #[.string f, x.v A c] w fun e w' => e = .returned (.bool (Lib.hasPrefix f.data.toList (lentS (mkb x.headL) f x.segs.length).data.toList)) ∧ Below w.heap.size w w' := by
  have hmf : ∀ (fn : Fn) (first cap : Array Value) (w : World), (Instr.makeFunc fn first cap).run Tryd.prog w = .ok (.func fn first cap) w := fun _ _ _ _ => rfl
  have hhead := fun v (hv : Below w.heap.size w v) => header_any x A c v (hT.on hv) hk he (hr.below hv) hl
  have hhl : (mkb x.headL).size = 64 + 56 * x.segs.length := by rw [mkb_size, headL_len]
  obtain ⟨H, hH⟩ : ∃ H, mkb x.headL = H := ⟨_, rfl⟩
  rw [hH] at hhead hhl ⊢
  obtain ⟨kind, entry, segs⟩ := x
  unfold Img.v
  simp only at *
  obtain ⟨n, hn⟩ : ∃ n, segs.length = n := ⟨_, rfl⟩
  simp only [hn] at hhead hhl hf hl ⊢
  have HH := Lib.hid hhead
  have HHL := Lib.hid hhl
  have HPF := Lib.hid (fun p w => prefix_any f p w)
  have HPRE := Lib.hid (fun k (hk : k ≤ n) => lentS_facts (h := H) (f := f) k (by rw [hhl]; omega) (by omega))
  have hW : ∃ W, (w.alloc (.cells #[.string f] 9)).alloc (.cells #[.int .i64 kind, .int .i64 entry, .slice A n c] 24) = W := ⟨_, rfl⟩
  obtain ⟨W, hW⟩ := hW
  have hBW : Below w.heap.size w W := by rw [← hW]; exact ((Below.refl _ _).alloc (Nat.le_refl _) _).alloc (by simp) _
  have hK1 : Blk W w.heap.size 9 #[.string f] := by rw [← hW]; exact (Blk.new w _ _).alloc _
  have hK2 : Blk W (w.heap.size + 1) 24 #[.int .i64 kind, .int .i64 entry, .slice A n c] := by rw [← hW]; simpa using Blk.new (w.alloc (.cells #[.string f] 9)) 24 #[.int .i64 kind, .int .i64 entry, .slice A n c]
  have x0 : W.cell? ⟨w.heap.size + 1, 0, none⟩ = some (.int .i64 kind) := hK2.at_ 0 _ rfl
  have x1 : W.cell? ⟨w.heap.size + 1, 1, none⟩ = some (.int .i64 entry) := hK2.at_ 1 _ rfl
  have x2 : W.cell? ⟨w.heap.size + 1, 2, none⟩ = some (.slice A n c) := hK2.at_ 2 _ rfl
  rw [← hW] at x0 x1 x2
  have HW := Lib.hid hW
  have hcb := fun w => Lib.run_convert_string_bytes (P := Tryd.prog) w 9 53 5 H Tryd.underlying9 Tryd.underlying53 Tryd.underlying5
  have HCB := Lib.hid hcb
  clear hW hcb hhead hhl hT hk he hr hn hH
  go_enter Tryd.func42, Tryd.ntmps42
  go_wp2_with fail
  rw [HW.out]
  refine (HH.out _ hBW).mono ?_
  rintro e v1 ⟨rfl, hb1⟩
  replace hBW := hBW.trans (hb1.mono hBW.size)
  replace hK1 := hK1.below hb1 hK1.lt
  replace hK2 := hK2.below hb1 hK2.lt
  have hcb1 := HCB.out v1
  have hcap := grownCap_ge v1 H.size 0 5
  have hraw := rawB_new v1 5 H
  have hbw := below_bytesWorld v1 5 H
  obtain ⟨v2, hv2⟩ : ∃ v2, v2 = Lib.bytesWorld v1 5 H := ⟨_, rfl⟩
  rw [← hv2] at hcb1 hraw hbw
  generalize grownCap v1 H.size 0 5 = cap at *
  obtain ⟨g, hg⟩ : ∃ g, v1.heap.size = g := ⟨_, rfl⟩
  have hgw : w.heap.size + 1 < g := by rw [← hg]; exact hK2.lt
  have hgq : g < v2.heap.size := by rw [← hg]; exact hraw.1
  rw [hg] at hcb1 hraw
  obtain ⟨W3, hW3⟩ : ∃ W3, v2.alloc (.cells #[.slice (some ⟨g, 0, none⟩) H.size cap] 53) = W3 := ⟨_, rfl⟩
  have hB3 : Below w.heap.size w W3 := by rw [← hW3]; exact (hBW.trans (hbw.mono (by omega))).alloc (by omega) _
  have hQ : Blk W3 v2.heap.size 53 #[.slice (some ⟨g, 0, none⟩) H.size cap] := by rw [← hW3]; exact Blk.new _ _ _
  replace hK1 : Blk W3 w.heap.size 9 #[.string f] := by rw [← hW3]; exact (hK1.below hbw hK1.lt).alloc _
  replace hK2 : Blk W3 (w.heap.size + 1) 24 #[.int .i64 kind, .int .i64 entry, .slice A n c] := by rw [← hW3]; exact (hK2.below hbw hK2.lt).alloc _
  replace hraw : RawB W3 g H := by rw [← hW3]; exact hraw.below ((Below.refl _ _).alloc (Nat.le_refl _) _)
  obtain ⟨q, hq⟩ : ∃ q, v2.heap.size = q := ⟨_, rfl⟩
  rw [hq] at hQ hgq
  have HC := Lib.hid (fun v (hv : But (· = g) W3 v) => show v.cell? ⟨q, 0, none⟩ = some (.slice (some ⟨g, 0, none⟩) H.size cap) ∧ v.cell? ⟨w.heap.size, 0, none⟩ = some (.string f) ∧ v.cell? ⟨w.heap.size + 1, 2, none⟩ = some (.slice A n c) from
    ⟨(hQ.but hv (by omega)).at_ 0 _ rfl, (hK1.but hv (by omega)).at_ 0 _ rfl, (hK2.but hv (by omega)).at_ 2 _ rfl⟩)
  have HEND := Lib.hid (fun v (hv : But (· = g) W3 v) => show Below w.heap.size w v from hB3.trans (hv.below hB3.size (fun k e => by omega)))
  have HV := Lib.hid (And.intro hW3 hq)
  have hbt := But.refl (· = g) W3
  obtain ⟨k0, k1, k2⟩ := HC.out _ hbt
  have hH64 : H.size = 64 + 56 * n := HHL.out
  have HL1 := Lib.hid (show ∀ v, RawB v g H → v.cell? ⟨q, 0, none⟩ = some (.slice (some ⟨g, 0, none⟩) H.size cap) → v.cell? ⟨w.heap.size, 0, none⟩ = some (.string f) → Calls Tryd.prog 54 #[.int .i64 40, .int .i64 12, .pointer (some ⟨q, 0, none⟩), .pointer (some ⟨w.heap.size, 0, none⟩)] v fun e w' => e = .returned (.tuple #[]) ∧ RawB w' g (lend H f 40 12) ∧ But (· = g) v w' from
    fun v h1 h2 h3 => lend_any g cap q w.heap.size 40 12 H f v h1 h2 h3 (by omega) (by omega) hcap (by omega) hs)
  have HL2 := Lib.hid (show ∀ v, RawB v g (lend H f 40 12) → v.cell? ⟨q, 0, none⟩ = some (.slice (some ⟨g, 0, none⟩) H.size cap) → v.cell? ⟨w.heap.size, 0, none⟩ = some (.string f) → Calls Tryd.prog 54 #[.int .i64 58, .int .i64 6, .pointer (some ⟨q, 0, none⟩), .pointer (some ⟨w.heap.size, 0, none⟩)] v fun e w' => e = .returned (.tuple #[]) ∧ RawB w' g (lentS H f 0) ∧ But (· = g) v w' from
    fun v h1 h2 h3 => by
      have hsz := lend_size (h := H) (f := f) (a := 40) (n := 12) (by omega) (by omega)
      exact lend_any g cap q w.heap.size 58 6 (lend H f 40 12) f v h1 (by rw [hsz]; exact h2) h3 (by omega) (by omega) (by omega) (by omega) hs)
  have HLK := Lib.hid (show ∀ k v, k < n → RawB v g (lentS H f k) → v.cell? ⟨q, 0, none⟩ = some (.slice (some ⟨g, 0, none⟩) H.size cap) → v.cell? ⟨w.heap.size, 0, none⟩ = some (.string f) → Calls Tryd.prog 54 #[.int .i64 (64 + 56 * k + 24 : Nat), .int .i64 8, .pointer (some ⟨q, 0, none⟩), .pointer (some ⟨w.heap.size, 0, none⟩)] v fun e w' => e = .returned (.tuple #[]) ∧ RawB w' g (lentS H f (k + 1)) ∧ But (· = g) v w' from
    fun k v hkn h1 h2 h3 => by
      have hsz := (HPRE.out k (by omega)).1
      exact lend_any g cap q w.heap.size (64 + 56 * k + 24) 8 (lentS H f k) f v h1 (by rw [hsz]; exact h2) h3 (by omega) (by omega) (by omega) (by omega) hs)
  have hbs : v1.heap.size = g := hg
  clear hb1 hv2 x0 x1 x2 hBW hbw hB3 hQ hK1 hK2 hW3 hH64 hcap
  go_wp2_with fail
  rw [HV.out.1]
  go_wp2_with (first
    | (go_at_call 54; with_reducible refine (HL1.out _ hraw k0 k1).mono ?_; rintro e v5 ⟨rfl, hraw2, hbt2⟩; clear hraw k0 k1 k2; have hraw := hraw2; clear hraw2; replace hbt := hbt.trans hbt2; clear hbt2; obtain ⟨k0, k1, k2⟩ := HC.out _ hbt)
    | (go_at_call 54; with_reducible refine (HL2.out _ hraw k0 k1).mono ?_; rintro e v5 ⟨rfl, hraw2, hbt2⟩; clear hraw k0 k1 k2; have hraw := hraw2; clear hraw2; replace hbt := hbt.trans hbt2; clear hbt2; obtain ⟨k0, k1, k2⟩ := HC.out _ hbt))
  clear k2 HL1 HL2 HV
  generalize v5 = v6 at *
  go_loopw [19] (fun i wr => ∃ k : Nat, k ≤ n ∧ i = .int .i64 k ∧ RawB wr g (lentS H f k) ∧ But (· = g) W3 wr) (fun i _ => n - (intOf i).toNat)
  case atStart => exact ⟨0, Nat.zero_le _, rfl, hraw, hbt⟩
  case round =>
    clear hraw hbt k0 k1
    obtain ⟨k, hk, rfl, hraw, hbt⟩ := hrel
    obtain ⟨k0, k1, k2⟩ := HC.out _ hbt
    by_cases hlt : k < n
    · obtain ⟨a, ha⟩ : ∃ a : Nat, k * 56 = a := ⟨_, rfl⟩
      obtain ⟨b, hb⟩ : ∃ b : Nat, 64 + a = b := ⟨_, rfl⟩
      obtain ⟨P, hP⟩ : ∃ P : Nat, b + 24 = P := ⟨_, rfl⟩
      have ha' : (k : Int) * 56 = (a : Int) := by omega
      have hb' : (64 : Int) + (a : Int) = (b : Int) := by omega
      have hP' : (b : Int) + 24 = (P : Int) := by omega
      have hPl : P ≤ 100000 := by omega
      have hPP : 64 + 56 * k + 24 = P := by omega
      have hlk := fun v => HLK.out k v hlt
      rw [hPP] at hlk
      have HK := Lib.hid hlk
      clear hlk ha hb hP hPP
      go_wp2_with (go_at_call 54; with_reducible refine (HK.out _ hraw k0 k1).mono ?_; rintro e v7 ⟨rfl, hraw2, hbt2⟩)
      go_roundw
      case rel => exact ⟨k + 1, by omega, by go_num, hraw2, hbt.trans hbt2⟩
      case measure => simp [intOf]; omega
    · obtain rfl : k = n := by omega
      have hsz := (HPRE.out k (Nat.le_refl _)).1
      have hcv := run_string_raw (P := Tryd.prog) wr 53 9 5 g cap (lentS H f k) Tryd.underlying53 Tryd.underlying5 Tryd.underlying9 hraw H.size hsz
      go_wp2_with (go_at_call 55; with_reducible refine (HPF.out _ _).mono ?_; rintro e v8 ⟨rfl, rfl⟩)
      go_ret
      exact ⟨rfl, HEND.out _ hbt⟩
end Go.Proofs.YtakmmphjdkapeaaDoor
