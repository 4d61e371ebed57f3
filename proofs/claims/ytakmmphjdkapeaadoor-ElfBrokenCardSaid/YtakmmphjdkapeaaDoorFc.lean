/- Layer 8: Spec.image. -/
import Derived.Test.YtakmmphjdkapeaaDoorFb
import Derived.Test.YtakmmphjdkapeaaDoorFa
import Derived.Deep.RegionHeld3
namespace Go.Proofs.YtakmmphjdkapeaaDoor
open Go.RowKit
set_option linter.unusedVariables false
set_option linter.unusedSimpArgs false

/-- What came in, the result's block, the image's, and what is kept. -/
structure Ps (w : World) (B : Nat) (sp : Array Value) (v : Value) (wr : World) : Prop where
  s : Blk wr w.heap.size 41 sp
  r : Blk wr (w.heap.size + 1) 24 #[.int .i64 0, .int .i64 0, .slice none 0 0]
  x : Blk wr B 24 #[.int .i64 3, .int .i64 0, v]
  b : Below w.heap.size w wr
section
variable {w wr w2 : World} {B : Nat} {sp : Array Value} {v : Value}
theorem Ps.below (h : Ps w B sp v wr) (hb : Below wr.heap.size wr w2) : Ps w B sp v w2 := ⟨h.s.below hb h.s.lt, h.r.below hb h.r.lt, h.x.below hb h.x.lt, h.b.trans (hb.mono h.b.size)⟩
theorem Ps.alloc (h : Ps w B sp v wr) (o : Obj) : Ps w B sp v (wr.alloc o) := ⟨h.s.alloc o, h.r.alloc o, h.x.alloc o, h.b.alloc h.b.size o⟩
theorem Ps.grown {row : Option Nat} (h : Ps w B sp v wr) (hg : wr.grownBy w2 row) (hB : w.heap.size + 1 < B) (hr : ∀ k, row = some k → B < k) : Ps w B sp v w2 :=
  ⟨h.s.grown hg (fun e => by have := hr _ e.symm; omega), h.r.grown hg (fun e => by have := hr _ e.symm; omega), h.x.grown hg (fun e => by have := hr _ e.symm; omega), h.b.grown hg h.b.size (fun k e => by have := hr k e; omega)⟩
theorem Ps.set2 (h : Ps w B sp v wr) (hB : w.heap.size + 1 < B) (v2 : Value) : Ps w B sp v2 (wr.setCell ⟨B, 2, none⟩ v2) :=
  ⟨h.s.but ((But.refl (· = B) wr).setCell (p := ⟨B, 2, none⟩) (.inl rfl) v2) (by omega), h.r.but ((But.refl (· = B) wr).setCell (p := ⟨B, 2, none⟩) (.inl rfl) v2) (by omega), by simpa using h.x.set_ 2 v2, h.b.setCell (p := ⟨B, 2, none⟩) (by simp only; omega) v2⟩
end
theorem or1 (fl : Int) (h : 0 ≤ fl ∧ fl < 8) : bits .or .i64 fl 1 = orF fl := by
  have : fl = 0 ∨ fl = 1 ∨ fl = 2 ∨ fl = 3 ∨ fl = 4 ∨ fl = 5 ∨ fl = 6 ∨ fl = 7 := by omega
  rcases this with rfl | rfl | rfl | rfl | rfl | rfl | rfl | rfl <;> decide +kernel
/-- A row of one's own that is there. -/
theorem own_there {w : World} {B n : Nat} {v : Value} {s : Seg} {l : List Seg} (h : w.ownsRow B 47 7 v n (segCells (s :: l))) : ∃ g cap, v = .slice (some ⟨g, 0, none⟩) n cap ∧ B ≤ g ∧ g < w.heap.size ∧ n = l.length + 1 ∧ n ≤ cap ∧ cap ≤ maxLen ∧
    (∀ j, j < 7 → w.cell? ⟨g, j, none⟩ = (s.cs)[j]?) ∧ ∀ j, w.frozen? ⟨g, j, none⟩ = false := by
  have hl := h.1
  rw [segCells_length, List.length_cons] at hl
  rcases h.2 with ⟨_, h0⟩ | ⟨g, cap, cur, rfl, hbg, hg, h1, h2, _, ht⟩
  · omega
  · refine ⟨g, cap, rfl, hbg, (show Blk w g _ cur from hg).lt, by omega, h1, h2, fun j hj => ?_, fun j => (show Blk w g _ cur from hg).frozen j⟩
    rw [(show Blk w g _ cur from hg).cell]
    have h1 := segCells_at (s :: l) 0 (by simp) j hj
    rw [← ht, List.getElem?_take, if_pos (by omega)] at h1
    simpa using h1
theorem own_set {w : World} {B e size n g cap : Nat} {xs : List Value} (h : w.ownsRow B e size (.slice (some ⟨g, 0, none⟩) n cap) n xs) (j : Nat) (u : Value) : (w.setCell ⟨g, j, none⟩ u).ownsRow B e size (.slice (some ⟨g, 0, none⟩) n cap) n (xs.set j u) := by
  refine ⟨by rw [List.length_set]; exact h.1, ?_⟩
  rcases h.2 with ⟨h0, _⟩ | ⟨g2, cap2, cur, hv, hbg, hg, h1, h2, h3, ht⟩
  · cases h0
  · injection hv with e1 e2 e3
    injection e1 with e1
    injection e1 with e1 _ _
    subst e1 e3
    refine .inr ⟨g, cap, cur.setIfInBounds j u, rfl, hbg, (show Blk w g e cur from hg).set_ j u, h1, h2, by rw [Array.size_setIfInBounds]; exact h3, ?_⟩
    rw [Array.toList_setIfInBounds, List.take_set, ht]
theorem segCells_fl (s : Seg) (l : List Seg) (z : Int) : (segCells (s :: l)).set 1 (.int .i64 z) = segCells ({ s with fl := z } :: l) := by simp [segCells, Seg.cs]
theorem fin_img {w wr : World} {B n : Nat} {v : Value} {xs : List Value} (a b c : Value) (hr : Blk wr (w.heap.size + 1) 24 #[.int .i64 0, .int .i64 0, .slice none 0 0]) (ho : wr.ownsRow (B + 1) 47 7 v n xs) (hb : Below w.heap.size w wr) (hB : w.heap.size + 1 < B) :
    Blk (((wr.setCell ⟨w.heap.size + 1, 0, none⟩ a).setCell ⟨w.heap.size + 1, 1, none⟩ b).setCell ⟨w.heap.size + 1, 2, none⟩ c) (w.heap.size + 1) 24 #[a, b, c] ∧
    (((wr.setCell ⟨w.heap.size + 1, 0, none⟩ a).setCell ⟨w.heap.size + 1, 1, none⟩ b).setCell ⟨w.heap.size + 1, 2, none⟩ c).ownsRow (B + 1) 47 7 v n xs ∧
    Below w.heap.size w (((wr.setCell ⟨w.heap.size + 1, 0, none⟩ a).setCell ⟨w.heap.size + 1, 1, none⟩ b).setCell ⟨w.heap.size + 1, 2, none⟩ c) :=
  ⟨img_set hr rfl _ _ _, own_setCell (own_setCell (own_setCell ho (p := ⟨w.heap.size + 1, 0, none⟩) (by simp only; omega) _) (p := ⟨w.heap.size + 1, 1, none⟩) (by simp only; omega) _) (p := ⟨w.heap.size + 1, 2, none⟩) (by simp only; omega) _,
    ((hb.setCell (p := ⟨w.heap.size + 1, 0, none⟩) (Nat.le_succ _) _).setCell (p := ⟨w.heap.size + 1, 1, none⟩) (Nat.le_succ _) _).setCell (p := ⟨w.heap.size + 1, 2, none⟩) (Nat.le_succ _) _⟩
/-- What came in, the result, the image, a segment's copy, and the image's row. -/
structure Pg (w : World) (B G g k cap : Nat) (sp x tc : Array Value) (xs : List Value) (wr : World) : Prop where
  s : Blk wr w.heap.size 41 sp
  r : Blk wr (w.heap.size + 1) 24 #[.int .i64 0, .int .i64 0, .slice none 0 0]
  x : Blk wr B 24 x
  t : Blk wr G 47 tc
  o : wr.ownsRow (B + 1) 47 7 (.slice (some ⟨g, 0, none⟩) k cap) k xs
  b : Below w.heap.size w wr
section
variable {w wr : World} {B G g k cap : Nat} {sp x tc : Array Value} {xs : List Value}
theorem Pg.drew (h : Pg w B G g k cap sp x tc xs wr) : Pg w B G g k cap sp x tc xs wr.drew := ⟨h.s.drew, h.r.drew, h.x.drew, h.t.drew, own_below h.o (Below.refl _ _).drew, h.b.drew⟩
theorem Pg.setg (h : Pg w B G g k cap sp x tc xs wr) (hd : w.heap.size + 1 < B ∧ B < g ∧ g < G) (u : Value) : Pg w B G g k cap sp x tc (xs.set 1 u) (wr.setCell ⟨g, 1, none⟩ u) := by
  have hb := (But.refl (· = g) wr).setCell (p := ⟨g, 1, none⟩) (.inl rfl) u
  exact ⟨h.s.but hb (by omega), h.r.but hb (by omega), h.x.but hb (by omega), h.t.but hb (by omega), own_set h.o 1 u, h.b.setCell (p := ⟨g, 1, none⟩) (by simp only; omega) u⟩
theorem Pg.setx (h : Pg w B G g k cap sp x tc xs wr) (hd : w.heap.size + 1 < B ∧ B < g ∧ g < G) (j : Nat) (u : Value) : Pg w B G g k cap sp (x.setIfInBounds j u) tc xs (wr.setCell ⟨B, j, none⟩ u) := by
  have hb := (But.refl (· = B) wr).setCell (p := ⟨B, j, none⟩) (.inl rfl) u
  exact ⟨h.s.but hb (by omega), h.r.but hb (by omega), h.x.set_ j u, h.t.but hb (by omega), own_setCell h.o (p := ⟨B, j, none⟩) (Nat.lt_succ_self _) u, h.b.setCell (p := ⟨B, j, none⟩) (by simp only; omega) u⟩
end
/-- An image of a row of its own, and a number, were told. -/
def ImgNT (w : World) (x : Img) (n : Int) (e : Ending) (w' : World) : Prop :=
  ∃ A c, e = .returned (.tuple #[x.v A c, .int .i64 n]) ∧ w'.ownsRow (w.heap.size + 3) 47 7 (.slice A x.segs.length c) x.segs.length (segCells x.segs) ∧ Below w.heap.size w w'

set_option maxRecDepth 100000 in
set_option maxHeartbeats 3200000 in
theorem image_any (p : SpecIn) (w : World) (hp : p.In w) : Calls Tryd.prog 21 #[p.v] w (ImgNT w p.img p.size) := by
  obtain ⟨kind, entry, qs, A, c⟩ := p
  have hqr := hp.row
  have hcap := hp.cap
  have hlen := hp.len
  unfold SpecIn.v
  unfold maxLen at hcap
  simp only at *
  have himg : SpecIn.img ⟨kind, entry, qs, A, c⟩ = imgOf kind entry (specL 0 (qs.take 4)) := rfl
  have hsize : SpecIn.size ⟨kind, entry, qs, A, c⟩ = 1024 + specP 0 (qs.take 4) * 64 := rfl
  rw [himg, hsize]
  have hke := And.intro hp.kind hp.entry
  obtain ⟨IM, hIM⟩ : ∃ IM, imgOf kind entry (specL 0 (qs.take 4)) = IM := ⟨_, rfl⟩
  obtain ⟨NN, hNN⟩ : ∃ NN, 1024 + specP 0 (qs.take 4) * 64 = NN := ⟨_, rfl⟩
  rw [hIM, hNN]
  have HIM := Lib.hid (And.intro hIM hNN)
  clear hIM hNN
  clear himg hsize hp
  obtain ⟨n, hn⟩ : ∃ n, qs.length = n := ⟨_, rfl⟩
  rw [hn] at hlen ⊢
  obtain ⟨B, hB⟩ : ∃ B, w.heap.size + 2 = B := ⟨_, rfl⟩
  obtain ⟨W, hW⟩ : ∃ W, ((w.alloc (.cells #[.int .i64 kind, .int .i64 entry, .slice A n c] 41)).alloc (.cells #[.int .i64 0, .int .i64 0, .slice none 0 0] 24)).alloc (.cells #[.int .i64 3, .int .i64 0, .slice none 0 0] 24) = W := ⟨_, rfl⟩
  have hM : Ps w B #[.int .i64 kind, .int .i64 entry, .slice A n c] (.slice none 0 0) W := by
    rw [← hW, ← hB]
    exact ⟨((Blk.new w _ _).alloc _).alloc _, by simpa using (Blk.new (w.alloc (.cells #[.int .i64 kind, .int .i64 entry, .slice A n c] 41)) 24 #[.int .i64 0, .int .i64 0, .slice none 0 0]).alloc (.cells #[.int .i64 3, .int .i64 0, .slice none 0 0] 24),
      by simpa using Blk.new ((w.alloc (.cells #[.int .i64 kind, .int .i64 entry, .slice A n c] 41)).alloc (.cells #[.int .i64 0, .int .i64 0, .slice none 0 0] 24)) 24 #[.int .i64 3, .int .i64 0, .slice none 0 0], (((Below.refl _ _).alloc (Nat.le_refl _) _).alloc (by simp) _).alloc (by simp; omega) _⟩
  have hBw : w.heap.size + 1 < B := by omega
  have HW := Lib.hid hW
  have HB := Lib.hid hB
  have HB2 := Lib.hid (show w.heap.size + 3 = B + 1 from by omega)
  have HQ := Lib.hid (fun v (hv : Below w.heap.size w v) => hqr.below hv)
  have HN := Lib.hid hn
  have ho0 := World.ownsRow_nil W (B + 1) 47 7
  have KZ := Lib.hid hM
  clear hW hB hqr hn hM
  obtain ⟨i0, hi, hz0, hz1, hz2⟩ := info_parts infoSeg
  go_enter Tryd.func21, Tryd.ntmps21
  go_upto_region 2 with fail
  rw [HW.out]
  try rw [HB.out]
  go_wp2
  go_loopw [5, 6, 7] (fun pgv offv i wr => ∃ (k : Nat) (P : Int) (v : Value), k ≤ n ∧ k ≤ 4 ∧ i = .int .i64 k ∧ pgv = .int .i64 P ∧ offv = .int .i64 (1024 + P * 64) ∧ 0 ≤ P ∧ P ≤ 4 * k ∧ Hid (specP 0 (qs.take k) = P) ∧ Hid (Ps w B #[.int .i64 kind, .int .i64 entry, .slice A n c] v wr) ∧ Hid (wr.ownsRow (B + 1) 47 7 v k (segCells (specL 0 (qs.take k))))) (fun _ _ i _ => 4 - (intOf i).toNat)
  case atStart => exact ⟨0, 0, _, Nat.zero_le _, Nat.zero_le _, rfl, rfl, rfl, by omega, by omega, Lib.hid rfl, KZ, Lib.hid ho0⟩
  case round =>
    clear KZ ho0
    obtain ⟨k, P, v, hkn, hk4, rfl, rfl, rfl, hP0, hP4, HP, kz, ho⟩ := hrel
    have s2 := kz.out.s.at_ 2 _ rfl
    by_cases hc : k < n ∧ k < 4
    · have hlt := hc.1
      have d1 : decide ((k : Int) < (n : Int)) = true := decide_eq_true (by omega)
      have d2 : decide ((k : Int) < 4) = true := decide_eq_true (by omega)
      have hkl : k < qs.length := by rw [HN.out]; exact hlt
      obtain ⟨ad, rfl, hblt, hwf, q0, q1, q2, q3⟩ := (HQ.out _ kz.out.b).at_ hkl
      obtain ⟨q, hq⟩ : ∃ q, qs[k] = q := ⟨_, rfl⟩
      have htk : qs.take (k + 1) = qs.take k ++ [q] := by rw [List.take_succ_eq_append_getElem hkl, hq]
      rw [hq] at hwf q0 q1 q2 q3
      have hPs : specP 0 (qs.take (k + 1)) = P + q.pg := by rw [htk, specP_snoc, HP.out]
      have hLs : segCells (specL 0 (qs.take (k + 1))) = segCells (specL 0 (qs.take k)) ++ [.int .i64 (q.seg P).ty, .int .i64 (q.seg P).fl, .int .i64 (q.seg P).off, .int .i64 (q.seg P).ad, .int .i64 (q.seg P).sz, .int .i64 (q.seg P).mem, .int .i64 (q.seg P).al] := by rw [htk, specL_snoc, segCells_snoc, HP.out]
      have hpg := pg_in q
      have hmm := mem_in q
      have hss := sz_in q
      have hseg : q.seg P = ⟨1, q.d % 8, 1024 + P * 64 + q.b % 64, P * 64 + q.b % 64, q.sz, q.mem, 64⟩ := rfl
      have hm1 : q.mem = if q.pg * 64 - q.b % 64 - q.c % 32 < 1 then 1 else q.pg * 64 - q.b % 64 - q.c % 32 := rfl
      have hs1 : q.sz = if q.mem - q.d / 8 % 16 < 0 then 0 else q.mem - q.d / 8 % 16 := rfl
      have hg1 : q.pg = 1 + q.a % 4 := rfl
      rw [hseg] at hLs
      simp only at hLs
      generalize q.pg = pg at *
      generalize q.mem = mem at *
      generalize q.sz = sz at *
      obtain ⟨a, b, c2, d⟩ := q
      simp only at *
      have b1 : bits .and .i64 a 3 = a % 4 := i64_and_mask a 2 3 (by omega) (by decide)
      have b2 : bits .and .i64 b 63 = b % 64 := i64_and_mask b 6 63 (by omega) (by decide)
      have b3 : bits .and .i64 c2 31 = c2 % 32 := i64_and_mask c2 5 31 (by omega) (by decide)
      have b4 : bits .and .i64 (d / 8) 15 = d / 8 % 16 := i64_and_mask (d / 8) 4 15 (by omega) (by decide)
      have b5 : bits .and .i64 d 7 = d % 8 := i64_and3 d
      have t3 : d / 2 ^ (3 : Int).toNat = d / 8 := by rfl
      have t3' : d / 2 ^ min (3 : Int).toNat 64 = d / 8 := by rfl
      obtain ⟨a1, ha1⟩ : ∃ z, a % 4 = z := ⟨_, rfl⟩
      obtain ⟨e1, he1⟩ : ∃ z, b % 64 = z := ⟨_, rfl⟩
      obtain ⟨c1, hc1⟩ : ∃ z, c2 % 32 = z := ⟨_, rfl⟩
      obtain ⟨f1, hf1⟩ : ∃ z, d / 8 % 16 = z := ⟨_, rfl⟩
      obtain ⟨fl, hfl⟩ : ∃ z, d % 8 = z := ⟨_, rfl⟩
      have ra : 0 ≤ a1 ∧ a1 ≤ 3 := by omega
      have re : 0 ≤ e1 ∧ e1 ≤ 63 := by omega
      have rc : 0 ≤ c1 ∧ c1 ≤ 31 := by omega
      have rf : 0 ≤ f1 ∧ f1 ≤ 15 := by omega
      have rl : 0 ≤ fl ∧ fl ≤ 7 := by omega
      rw [ha1] at b1 hg1
      rw [he1] at b2 hLs hm1 hmm
      rw [hc1] at b3 hm1
      rw [hf1] at b4 hs1
      rw [hfl] at b5 hLs
      have w1 : IntKind.i64.wrap (1 + a1) = pg := by rw [IntWalk.i64_in _ (by omega)]; omega
      obtain ⟨P64, hP64⟩ : ∃ z, pg * 64 = z := ⟨_, rfl⟩
      have w2 : IntKind.i64.wrap (pg * 64) = P64 := by rw [IntWalk.i64_in _ (by omega)]; omega
      obtain ⟨m1, hm1'⟩ : ∃ z, P64 - e1 = z := ⟨_, rfl⟩
      have w3 : IntKind.i64.wrap (P64 - e1) = m1 := by rw [IntWalk.i64_in _ (by omega)]; omega
      obtain ⟨m2, hm2'⟩ : ∃ z, m1 - c1 = z := ⟨_, rfl⟩
      have w4 : IntKind.i64.wrap (m1 - c1) = m2 := by rw [IntWalk.i64_in _ (by omega)]; omega
      rw [hP64, hm1', hm2'] at hm1
      obtain ⟨s1, hs1'⟩ : ∃ z, mem - f1 = z := ⟨_, rfl⟩
      have w5 : IntKind.i64.wrap (mem - f1) = s1 := by rw [IntWalk.i64_in _ (by omega)]; omega
      rw [hs1'] at hs1
      obtain ⟨o1, ho1⟩ : ∃ z, 1024 + P * 64 = z := ⟨_, rfl⟩
      obtain ⟨o2, ho2⟩ : ∃ z, o1 + e1 = z := ⟨_, rfl⟩
      have w6 : IntKind.i64.wrap (o1 + e1) = o2 := by rw [IntWalk.i64_in _ (by omega)]; omega
      obtain ⟨PP, hPP⟩ : ∃ z, P * 64 = z := ⟨_, rfl⟩
      have w7 : IntKind.i64.wrap (P * 64) = PP := by rw [IntWalk.i64_in _ (by omega)]; omega
      obtain ⟨A2, hA2⟩ : ∃ z, PP + e1 = z := ⟨_, rfl⟩
      have w8 : IntKind.i64.wrap (PP + e1) = A2 := by rw [IntWalk.i64_in _ (by omega)]; omega
      rw [ho1, ho2] at hLs
      rw [hPP, hA2] at hLs
      rw [ho1]
      obtain ⟨P2, hP2⟩ : ∃ z, P + pg = z := ⟨_, rfl⟩
      have w9 : IntKind.i64.wrap (P + pg) = P2 := by rw [IntWalk.i64_in _ (by omega)]; omega
      obtain ⟨o3, ho3⟩ : ∃ z, o1 + P64 = z := ⟨_, rfl⟩
      have w10 : IntKind.i64.wrap (o1 + P64) = o3 := by rw [IntWalk.i64_in _ (by omega)]; omega
      have HKN := Lib.hid (show k + 1 ≤ n ∧ k + 1 ≤ 4 from by omega)
      have HO3 := Lib.hid (show o3 = 1024 + P2 * 64 from by omega)
      have HR := Lib.hid (show 0 ≤ P2 ∧ P2 ≤ 4 * (k + 1 : Nat) from by omega)
      rw [hP2] at hPs
      have HPS := Lib.hid hPs
      have HLS := Lib.hid hLs
      have hmem : (m2 < 1 ∧ mem = 1) ∨ (¬ m2 < 1 ∧ mem = m2) := by
        by_cases h : m2 < 1
        · exact .inl ⟨h, by rw [hm1, if_pos h]⟩
        · exact .inr ⟨h, by rw [hm1, if_neg h]⟩
      have hsz : (s1 < 0 ∧ sz = 0) ∨ (¬ s1 < 0 ∧ sz = s1) := by
        by_cases h : s1 < 0
        · exact .inl ⟨h, by rw [hs1, if_pos h]⟩
        · exact .inr ⟨h, by rw [hs1, if_neg h]⟩
      obtain ⟨g, hg⟩ : ∃ g, wr.heap.size = g := ⟨_, rfl⟩
      obtain ⟨W1, hW1⟩ : ∃ W1, wr.alloc (.cells #[.int .i64 a, .int .i64 b, .int .i64 c2, .int .i64 d] 80) = W1 := ⟨_, rfl⟩
      have k1 : Ps w B #[.int .i64 kind, .int .i64 entry, .slice (some ad) n c] v W1 := by rw [← hW1]; exact kz.out.alloc _
      obtain ⟨cz, hcz⟩ : ∃ cz, segCells (specL 0 (qs.take k)) = cz := ⟨_, rfl⟩
      rw [hcz] at ho HLS
      have hown : W1.ownsRow (B + 1) 47 7 v k cz := by rw [← hW1]; exact ho.out.alloc _
      have hblk : Blk W1 g 80 #[.int .i64 a, .int .i64 b, .int .i64 c2, .int .i64 d] := by rw [← hW1, ← hg]; exact Blk.new _ _ _
      have hgo : ∀ j, v.ownBlock = some j → B < j := fun j e => by have := ho.out.lt j e; omega
      have x2 : W1.cell? ⟨B, 2, none⟩ = some v := k1.x.at_ 2 _ rfl
      have y0 : W1.cell? ⟨g, 0, none⟩ = some (.int .i64 a) := hblk.at_ 0 _ rfl
      have y1 : W1.cell? ⟨g, 1, none⟩ = some (.int .i64 b) := hblk.at_ 1 _ rfl
      have y2 : W1.cell? ⟨g, 2, none⟩ = some (.int .i64 c2) := hblk.at_ 2 _ rfl
      have y3 : W1.cell? ⟨g, 3, none⟩ = some (.int .i64 d) := hblk.at_ 3 _ rfl
      have HWS := Lib.hid (show B + 1 ≤ W1.heap.size from by have := k1.x.lt; omega)
      have HG := Lib.hid hg
      have HW1 := Lib.hid hW1
      have K1 := Lib.hid k1
      have HOWN := Lib.hid hown
      have HGO := Lib.hid hgo
      clear hpg hmm hss hseg hm1 hs1 hg1 ha1 he1 hc1 hf1 hfl ra re rc rf rl hP64 hm1' hm2' hs1' ho1 ho2 hPP hA2 hP2 ho3 hPs hLs hcz hq htk hwf kz ho k1 hown hblk hgo hg hW1 hP0 hP4 HP
      rcases hmem with ⟨l1, rfl⟩ | ⟨l1, rfl⟩
      all_goals
        rcases hsz with ⟨l2, rfl⟩ | ⟨l2, rfl⟩
      all_goals
        go_upto_region 8 with fail
        rw [HW1.out]
        try rw [HG.out]
        clear q0 q1 q2 q3
        go_upto_region 14 with fail
        go_upto_region 16 with fail
        clear y0 y1 y2
        clear d1 d2 b1 b2 b3 b4 t3 t3' w1 w3 w4 w5 l1 l2 hkn hc hlt
        go_wp2_with (at_builtin; refine Hid.out ?_)
        refine Lib.hid ?_
        refine wpList_append_own _ rfl _ _ 22 rfl (B + 1) 47 i0 _ 7 56 Tryd.underlying22 hi hz0 hz1 hz2 rfl (by decide) _ _ _ rfl (HOWN.out.alloc _) ⟨W1.heap.size, 0, none⟩ 1 1 [.int .i64 1, .int .i64 fl, .int .i64 o2, .int .i64 A2, .int .i64 _, .int .i64 _, .int .i64 64] rfl (by rfl) (fun j u hj => by rw [show (⟨W1.heap.size, 0, none⟩ : Addr).add j = ⟨W1.heap.size, j, none⟩ by unfold Addr.add; split <;> simp_all]; exact (Blk.new W1 _ _).at_ j u (by simpa using hj)) (fun u hu => by simp at hu; rcases hu with rfl | rfl | rfl | rfl | rfl | rfl | rfl <;> rfl) (by unfold maxLen; omega) (by omega) (by have := HWS.out; simp; omega) ?_
        intro v' w1 hown1 hgrow1 _
        have k3 : Ps w B #[.int .i64 kind, .int .i64 entry, .slice (some ad) n c] v w1 := (K1.out.alloc _).grown hgrow1 hBw (fun j e => HGO.out j e)
        obtain ⟨ao, n', cap, rfl⟩ : ∃ ao n' cap, v' = .slice ao n' cap := by
          rcases hown1.2 with ⟨hv, _⟩ | ⟨g, cap, cur, hv, _⟩
          · exact ⟨_, _, _, hv⟩
          · exact ⟨_, _, _, hv⟩
        have q2 : w1.cell? ⟨B, 2, none⟩ = some v := k3.x.at_ 2 _ rfl
        have f2 : w1.frozen? ⟨B, 2, none⟩ = false := k3.x.frozen 2
        obtain ⟨W3, hW3⟩ : ∃ W3, w1.setCell ⟨B, 2, none⟩ (.slice ao n' cap) = W3 := ⟨_, rfl⟩
        have k4 := Lib.hid (show Ps w B #[.int .i64 kind, .int .i64 entry, .slice (some ad) n c] (.slice ao n' cap) W3 from by rw [← hW3]; exact k3.set2 hBw _)
        have own3 := Lib.hid (show W3.ownsRow (B + 1) 47 7 (.slice ao n' cap) (k + 1) (segCells (specL 0 (qs.take (k + 1)))) from by rw [← hW3, HLS.out]; exact own_setCell hown1 (p := ⟨B, 2, none⟩) (Nat.lt_succ_self _) _)
        clear k3 hown1 hgrow1 HOWN K1 HGO x2
        go_wp2
        go_roundw
        case rel => exact ⟨k + 1, P2, _, HKN.out.1, HKN.out.2, by go_num, by go_num, by rw [HO3.out], HR.out.1, HR.out.2, HPS, k4, own3⟩
        case measure => have := HKN.out; simp [intOf]; omega
    · have htk : qs.take 4 = qs.take k := by
        by_cases h : k < n
        · rw [show k = 4 by omega]
        · rw [List.take_of_length_le (by rw [HN.out]; omega), List.take_of_length_le (by rw [HN.out]; omega)]
      have hll : (specL 0 (qs.take k)).length = k := by rw [specL_length, List.length_take, HN.out]; omega
      have him : imgOf kind entry (specL 0 (qs.take k)) = IM ∧ 1024 + P * 64 = NN := by
        have h := HIM.out
        rw [htk, HP.out] at h
        exact h
      have hcnd : (decide ((k : Int) < (n : Int)) && decide ((k : Int) < 4)) = false := by
        by_cases h : k < n
        · rw [decide_eq_false (show ¬ (k : Int) < 4 by omega), Bool.and_false]
        · rw [decide_eq_false (show ¬ (k : Int) < (n : Int) by omega), Bool.false_and]
      obtain ⟨v1, v2, rfl⟩ : ∃ A2 c2, v = .slice A2 k c2 := by
        rcases ho.out.2 with ⟨hv, h0⟩ | ⟨g, cap, cur, hv, _⟩
        · exact ⟨_, _, by rw [hv, h0]⟩
        · exact ⟨_, _, hv⟩
      have x0 := kz.out.x.at_ 0 _ rfl
      have x1 := kz.out.x.at_ 1 _ rfl
      have x2 := kz.out.x.at_ 2 _ rfl
      have s0 := kz.out.s.at_ 0 _ rfl
      have r0 := kz.out.r.at_ 0 _ rfl
      have r1 := kz.out.r.at_ 1 _ rfl
      have r2 := kz.out.r.at_ 2 _ rfl
      have f0 := kz.out.r.frozen 0
      have f1 := kz.out.r.frozen 1
      have f2 := kz.out.r.frozen 2
      have hand := i64_and1 kind
      clear htk
      cases hq : qs.take k with
      | nil =>
        rw [hq] at ho hll him
        have HI := Lib.hid him
        clear him
        obtain rfl : 0 = k := hll
        have d3 : decide (((0 : Nat) : Int) > 0) = false := by decide
        have HFIN := Lib.hid (fin_img (.int .i64 3) (.int .i64 0) (.slice v1 0 v2) kz.out.r ho.out kz.out.b hBw)
        clear ho kz
        go_wp2
        refine bodyPost_ret (results_img_tmp rfl _ _ (w.heap.size + 1) 24 _ (0, 0) _ rfl HFIN.out.1 Tryd.underlying24 rfl (by kernel_rfl)) rfl ?_
        rw [← HI.out.1, ← HI.out.2]
        exact ⟨v1, v2, rfl, by rw [HB2.out]; exact HFIN.out.2.1, HFIN.out.2.2⟩
      | cons q l =>
        rw [hq] at ho hll him
        have hk1 : 0 < k := by rw [← hll]; exact Nat.succ_pos _
        have d3 : decide ((0 : Int) < (k : Int)) = true := decide_eq_true (by omega)
        have d4 : (0 : Int) < (k : Int) := by omega
        have himg : imgOf kind entry (specL 0 (q :: l)) = if kind % 2 = 1 then execI (q.seg 0) (specL (0 + q.pg) l) entry else ⟨3, 0, q.seg 0 :: specL (0 + q.pg) l⟩ := rfl
        have hcons : specL 0 (q :: l) = q.seg 0 :: specL (0 + q.pg) l := rfl
        rw [himg] at him
        rw [hcons] at ho hll
        have hmm := mem_in q
        have hpg := pg_in q
        have hsg : (q.seg 0).ad = 0 * 64 + q.b % 64 ∧ (q.seg 0).mem = q.mem ∧ (q.seg 0).fl = q.d % 8 := ⟨rfl, rfl, rfl⟩
        generalize specL (0 + q.pg) l = L at *
        generalize hsq : q.seg 0 = s at *
        have hs1 : 0 ≤ s.ad ∧ s.ad ≤ 63 := by omega
        have hs2 : 1 ≤ s.mem ∧ s.mem ≤ 256 := by omega
        have hs3 : 0 ≤ s.fl ∧ s.fl < 8 := by omega
        clear hsq hmm hpg hsg hcons himg
        by_cases hk : kind % 2 = 1
        case neg =>
          rw [if_neg hk] at him
          have HI := Lib.hid him
          clear him
          have hk2 : (kind % 2 == 1) = false := by simpa using hk
          have HFIN := Lib.hid (fin_img (.int .i64 3) (.int .i64 0) (.slice v1 k v2) kz.out.r ho.out kz.out.b hBw)
          have HLL := Lib.hid hll
          clear ho kz hll
          go_wp2
          all_goals
            refine bodyPost_ret (results_img_tmp rfl _ _ (w.heap.size + 1) 24 _ (0, 0) _ rfl HFIN.out.1 Tryd.underlying24 rfl (by kernel_rfl)) rfl ?_
            rw [← HI.out.1, ← HI.out.2]
            refine ⟨v1, v2, ?_, ?_, HFIN.out.2.2⟩
            · unfold Img.v
              rw [HLL.out]
              rfl
            · rw [HB2.out]
              show World.ownsRow _ _ _ _ (.slice v1 (s :: L).length v2) (s :: L).length _
              rw [HLL.out]
              exact HFIN.out.2.1
        case pos =>
          rw [if_pos hk] at him
          have HI := Lib.hid him
          clear him
          have hk2 : (kind % 2 == 1) = true := by simpa using hk
          obtain ⟨g, cap, hvv, hBg, hgl, -, hkc, -, hcl, hfz⟩ := own_there ho.out
          injection hvv with e1 e2 e3
          subst e1 e3
          obtain ⟨ty, fl, off, ad, sz, mem, al⟩ := s
          unfold execI at HI
          simp only at *
          have c0 : wr.cell? ⟨g, 0, none⟩ = some (.int .i64 ty) := hcl 0 (by omega)
          have c1 : wr.cell? ⟨g, 1, none⟩ = some (.int .i64 fl) := hcl 1 (by omega)
          have c2 : wr.cell? ⟨g, 2, none⟩ = some (.int .i64 off) := hcl 2 (by omega)
          have c3 : wr.cell? ⟨g, 3, none⟩ = some (.int .i64 ad) := hcl 3 (by omega)
          have c4 : wr.cell? ⟨g, 4, none⟩ = some (.int .i64 sz) := hcl 4 (by omega)
          have c5 : wr.cell? ⟨g, 5, none⟩ = some (.int .i64 mem) := hcl 5 (by omega)
          have c6 : wr.cell? ⟨g, 6, none⟩ = some (.int .i64 al) := hcl 6 (by omega)
          have hor := or1 fl hs3
          obtain ⟨f9, hf9⟩ : ∃ z, orF fl = z := ⟨_, rfl⟩
          obtain ⟨r9, q9, hr9, hr91, hr92, hq9, hq91, hq92⟩ := rest_nat entry mem (by omega)
          rw [hf9] at hor
          rw [hf9, hr9, hq9] at HI
          have hm0 : ¬ mem = 0 := by omega
          have w1 : IntKind.i64.wrap (r9 + mem) = r9 + mem := IntWalk.i64_in _ (by omega)
          have w2 : wrap64 (r9 + mem) = r9 + mem := IntWalk.wrap64_in _ (by omega)
          obtain ⟨en, hen⟩ : ∃ z, ad + q9 = z := ⟨_, rfl⟩
          have w3 : IntKind.i64.wrap (ad + q9) = en := by rw [IntWalk.i64_in _ (by omega)]; exact hen
          rw [hen] at HI
          obtain ⟨G, hG⟩ : ∃ G, wr.heap.size = G := ⟨_, rfl⟩
          obtain ⟨W1, hW1⟩ : ∃ W1, wr.alloc (.cells #[.int .i64 ty, .int .i64 fl, .int .i64 off, .int .i64 ad, .int .i64 sz, .int .i64 mem, .int .i64 al] 47) = W1 := ⟨_, rfl⟩
          have k1 : Pg w B G g k v2 #[.int .i64 kind, .int .i64 entry, .slice A n c] #[.int .i64 3, .int .i64 0, .slice (some ⟨g, 0, none⟩) k v2] #[.int .i64 ty, .int .i64 fl, .int .i64 off, .int .i64 ad, .int .i64 sz, .int .i64 mem, .int .i64 al] (segCells (⟨ty, fl, off, ad, sz, mem, al⟩ :: L)) W1 := by
            rw [← hW1, ← hG]
            exact ⟨kz.out.s.alloc _, kz.out.r.alloc _, kz.out.x.alloc _, Blk.new _ _ _, ho.out.alloc _, kz.out.b.alloc kz.out.b.size _⟩
          have hdis : w.heap.size + 1 < B ∧ B < g ∧ g < G := ⟨hBw, by omega, by omega⟩
          have k2 := k1.setg hdis (.int .i64 f9)
          rw [segCells_fl] at k2
          obtain ⟨W2, hW2⟩ : ∃ W2, W1.setCell ⟨g, 1, none⟩ (.int .i64 f9) = W2 := ⟨_, rfl⟩
          rw [hW2] at k2
          have k3 := k2.setx hdis 0 (.int .i64 2)
          obtain ⟨W3, hW3⟩ : ∃ W3, W2.setCell ⟨B, 0, none⟩ (.int .i64 2) = W3 := ⟨_, rfl⟩
          rw [hW3] at k3
          have k4 := k3.setx hdis 1 (.int .i64 en)
          obtain ⟨W4, hW4⟩ : ∃ W4, W3.setCell ⟨B, 1, none⟩ (.int .i64 en) = W4 := ⟨_, rfl⟩
          rw [hW4] at k4
          have k5 := k4.drew
          have HFIN := Lib.hid (fin_img (.int .i64 2) (.int .i64 en) (.slice (some ⟨g, 0, none⟩) k v2) k5.r k5.o k5.b hBw)
          have HLL := Lib.hid hll
          have t1 : W1.cell? ⟨G, 1, none⟩ = some (.int .i64 fl) := k1.t.at_ 1 _ rfl
          have z2 : W1.cell? ⟨B, 2, none⟩ = some (.slice (some ⟨g, 0, none⟩) k v2) := k1.x.at_ 2 _ rfl
          have d1' : W1.cell? ⟨g, 1, none⟩ = some (.int .i64 fl) := by
            rw [← hW1]
            exact ((Below.refl wr.heap.size wr).alloc (Nat.le_refl _) _).cell (p := ⟨g, 1, none⟩) hgl |>.trans c1
          have e1' : W1.frozen? ⟨g, 1, none⟩ = false := by
            rw [← hW1]
            exact ((Below.refl wr.heap.size wr).alloc (Nat.le_refl _) _).frozen (p := ⟨g, 1, none⟩) hgl |>.trans (hfz 1)
          have z0 : W2.cell? ⟨B, 0, none⟩ = some (.int .i64 3) := k2.x.at_ 0 _ rfl
          have y0 := k2.x.frozen 0
          have z1 : W3.cell? ⟨B, 1, none⟩ = some (.int .i64 0) := k3.x.at_ 1 _ rfl
          have y1 := k3.x.frozen 1
          have t3 : W3.cell? ⟨G, 3, none⟩ = some (.int .i64 ad) := k3.t.at_ 3 _ rfl
          have t5 : W3.cell? ⟨G, 5, none⟩ = some (.int .i64 mem) := k3.t.at_ 5 _ rfl
          have s1 : W3.cell? ⟨w.heap.size, 1, none⟩ = some (.int .i64 entry) := k3.s.at_ 1 _ rfl
          have j0 : W4.cell? ⟨B, 0, none⟩ = some (.int .i64 2) := k4.x.at_ 0 _ rfl
          have j1 : W4.cell? ⟨B, 1, none⟩ = some (.int .i64 en) := k4.x.at_ 1 _ rfl
          have j2 : W4.cell? ⟨B, 2, none⟩ = some (.slice (some ⟨g, 0, none⟩) k v2) := k4.x.at_ 2 _ rfl
          have u0 : W4.cell? ⟨w.heap.size + 1, 0, none⟩ = some (.int .i64 0) := k4.r.at_ 0 _ rfl
          have u1 : W4.cell? ⟨w.heap.size + 1, 1, none⟩ = some (.int .i64 0) := k4.r.at_ 1 _ rfl
          have u2 : W4.cell? ⟨w.heap.size + 1, 2, none⟩ = some (.slice none 0 0) := k4.r.at_ 2 _ rfl
          have v0 := k4.r.frozen 0
          have v1 := k4.r.frozen 1
          have v3 := k4.r.frozen 2
          have HG := Lib.hid (And.intro hW1 hG)
          clear hcl hfz hen hs1 hs2 hs3 k1 k2 k3 k4 k5 ho kz hll r0 r1 r2 f0 f1 f2 hW1
          go_upto_region 21 with fail
          all_goals
            rw [HG.out.1]
            try rw [HG.out.2]
            clear c0 c1 c2 c3 c4 c5 c6 x0 x1 x2 s0 s2
            go_upto_region 23 with fail
            go_region
            all_goals
              go_wp2
              refine bodyPost_ret (results_img_tmp rfl _ _ (w.heap.size + 1) 24 _ (0, 0) _ rfl HFIN.out.1 Tryd.underlying24 rfl (by kernel_rfl)) rfl ?_
              rw [← HI.out.1, ← HI.out.2]
              refine ⟨some ⟨g, 0, none⟩, v2, ?_, ?_, HFIN.out.2.2⟩
              · unfold Img.v
                simp only [List.length_cons] at *
                rw [HLL.out]
                rfl
              · rw [HB2.out]
                show World.ownsRow _ _ _ _ (.slice _ (L.length + 1) v2) (L.length + 1) _
                rw [show L.length + 1 = k from HLL.out]
                exact HFIN.out.2.1
end Go.Proofs.YtakmmphjdkapeaaDoor
