/- Package region: Cut, Protect, Add. -/
import Derived.Test.YtmknkdfdkanijaaUO
namespace Go.Proofs.Ytmknkdfdkanijaa
open Go.RowKit Go.ChangeShapes Go.WideShapes Go.Deep
set_option linter.unusedVariables false
set_option linter.unusedSimpArgs false

theorem flat_len {l : List Rg} {p : Rg → List Rg} {q : Nat} (h : ∀ r, (p r).length = q) : (l.flatMap p).length = l.length * q := by
  induction l with
  | nil => simp
  | cons r l ih => rw [List.flatMap_cons, List.length_append, ih, h, List.length_cons, Nat.add_mul]; omega
theorem RowR.from {w v w' : World} {l : List Rg} {e : Ending} (h : RowR v l e w') (hb : Below w.heap.size w v) : RowR w l e w' := by
  obtain ⟨A, h1, h2, h3⟩ := h
  exact ⟨A, h1, h2, hb.trans (h3.mono hb.size)⟩

set_option maxRecDepth 100000 in
set_option maxHeartbeats 3200000 in
theorem cut_any (l : List Rg) (a b : Int) (A : Option Addr) (n c : Nat) (w : World) (h : RS w A n c l) (hasc : Asc l) (ha : 0 ≤ a ∧ a ≤ 1099511627776) (hb : 0 ≤ b ∧ b ≤ 1099511627776) :
    Calls Try.prog 22 #[.slice A n c, .int .i64 a, .int .i64 b] w (RowR w (cutL l a (max a b))) := by
  obtain ⟨m, hm⟩ : ∃ m, max a b = m := ⟨_, rfl⟩
  have hm2 : max b a = m := by rw [← hm]; omega
  have hmb : 0 ≤ m ∧ m ≤ 1099511627776 := by omega
  rw [hm]
  obtain ⟨W, hW⟩ : ∃ W, ((w.alloc (.cells #[.slice A n c] 25)).alloc (.cells #[.int .i64 a] 3)).alloc (.cells #[.int .i64 m] 3) = W := ⟨_, rfl⟩
  have b0 : Blk W w.heap.size 25 #[.slice A n c] := by rw [← hW]; exact ((Blk.new _ _ _).alloc _).alloc _
  have b1 : Blk W (w.heap.size + 1) 3 #[.int .i64 a] := by rw [← hW]; exact (blk_twoU _ _ _ _).alloc _
  have b2 : Blk W (w.heap.size + 2) 3 #[.int .i64 m] := by
    rw [← hW]
    have := blk_twoU (w.alloc (.cells #[.slice A n c] 25)) (.cells #[.int .i64 a] 3) 3 #[.int .i64 m]
    simpa using this
  have hbw : Below w.heap.size w W := by rw [← hW]; exact (((Below.refl _ _).alloc (Nat.le_refl _) _).alloc (by simp) _).alloc (by simp; omega) _
  have hsz : W.heap.size = w.heap.size + 3 := by rw [← hW]; simp
  have HR := Lib.hid (show Calls Try.prog 31 #[.func (.func 32) #[] #[.pointer (some ⟨w.heap.size, 0, none⟩), .pointer (some ⟨w.heap.size + 1, 0, none⟩), .pointer (some ⟨w.heap.size + 2, 0, none⟩)]] W (RowR w (cutL l a m)) from by
    refine (row_cut W w.heap.size (w.heap.size + 1) (w.heap.size + 2) (l.flatMap (cutR a m)) (by rw [flat_len (q := 2) (fun r => rfl)]; have := hasc.len; omega) fun v tb A' c' hT hv => ?_).mono fun e w' h => h.from hbw
    have hRW := h.below hbw
    exact cutFill_any l A n c a m v W.heap.size tb A' c' _ _ _ h.len hT (hRW.row.below rfl hv) (fun ad e => hRW.lt ad e) hasc (b0.below hv b0.lt) (b1.below hv b1.lt) (b2.below hv b2.lt) ⟨b0.lt, b1.lt, b2.lt⟩ ha hmb)
  have HW := Lib.hid hW
  clear h hasc ha hb hmb b0 b1 b2 hbw hsz hW
  go_enter Try.func22, Try.ntmps22
  go_upto_region 2 with fail
  rw [HW.out]
  go_wp2_with (go_at_call 31; refine HR.out.mono ?_; rintro e x ⟨A1, rfl, h1, h2⟩)
  go_ret
  exact ⟨A1, rfl, h1, h2⟩

/-- What Protect tells. -/
def ProR (w : World) (l : List Rg) (a b cp : Int) (e : Ending) (w' : World) : Prop :=
  (b ≤ a ∧ e = .returned (.tuple #[.slice none 0 0, .int .i64 1]) ∧ Below w.heap.size w w') ∨
  (a < b ∧ ¬ b ≤ covF l a ∧ e = .returned (.tuple #[.slice none 0 0, .int .i64 12]) ∧ Below w.heap.size w w') ∨
  (a < b ∧ b ≤ covF l a ∧ ∃ A, e = .returned (.tuple #[.slice A (proL l a b cp).length (proL l a b cp).length, .int .i64 0]) ∧ RS w' A (proL l a b cp).length (proL l a b cp).length (proL l a b cp) ∧ Below w.heap.size w w')
set_option maxRecDepth 100000 in
set_option maxHeartbeats 3200000 in
theorem protect_any (l : List Rg) (a b cp : Int) (A : Option Addr) (n c : Nat) (w : World) (h : RS w A n c l) (hasc : Asc l) (ha : 0 ≤ a ∧ a ≤ 1099511627776) (hb : 0 ≤ b ∧ b ≤ 1099511627776) (hc : 0 ≤ cp ∧ cp ≤ 7) :
    Calls Try.prog 23 #[.slice A n c, .int .i64 a, .int .i64 b, .int .i64 cp] w (ProR w l a b cp) := by
  obtain ⟨W, hW⟩ : ∃ W, (((w.alloc (.cells #[.slice A n c] 25)).alloc (.cells #[.int .i64 a] 3)).alloc (.cells #[.int .i64 b] 3)).alloc (.cells #[.int .i64 cp] 3) = W := ⟨_, rfl⟩
  have b0 : Blk W w.heap.size 25 #[.slice A n c] := by rw [← hW]; exact (((Blk.new _ _ _).alloc _).alloc _).alloc _
  have b1 : Blk W (w.heap.size + 1) 3 #[.int .i64 a] := by rw [← hW]; exact ((blk_twoU _ _ _ _).alloc _).alloc _
  have b2 : Blk W (w.heap.size + 2) 3 #[.int .i64 b] := by
    rw [← hW]
    have := (blk_twoU (w.alloc (.cells #[.slice A n c] 25)) (.cells #[.int .i64 a] 3) 3 #[.int .i64 b]).alloc (.cells #[.int .i64 cp] 3)
    simpa using this
  have b3 : Blk W (w.heap.size + 3) 3 #[.int .i64 cp] := by
    rw [← hW]
    have := blk_twoU ((w.alloc (.cells #[.slice A n c] 25)).alloc (.cells #[.int .i64 a] 3)) (.cells #[.int .i64 b] 3) 3 #[.int .i64 cp]
    simpa using this
  have hbw : Below w.heap.size w W := by rw [← hW]; exact ((((Below.refl _ _).alloc (Nat.le_refl _) _).alloc (by simp) _).alloc (by simp; omega) _).alloc (by simp; omega) _
  have hRW := h.below hbw
  have HIP := Lib.hid (fun v => isPerm_any cp v)
  have HPB := Lib.hid (show permB cp = true from by unfold permB; simp; omega)
  have HC := Lib.hid (fun (x : World) (hx : Below W.heap.size W x) => show x.cell? ⟨w.heap.size, 0, none⟩ = some (.slice A n c) ∧ x.cell? ⟨w.heap.size + 1, 0, none⟩ = some (.int .i64 a) ∧ x.cell? ⟨w.heap.size + 2, 0, none⟩ = some (.int .i64 b) ∧ x.cell? ⟨w.heap.size + 3, 0, none⟩ = some (.int .i64 cp) ∧ Hid (Below w.heap.size w x) from ⟨(b0.below hx b0.lt).at_ 0 _ rfl, (b1.below hx b1.lt).at_ 0 _ rfl, (b2.below hx b2.lt).at_ 0 _ rfl, (b3.below hx b3.lt).at_ 0 _ rfl, Lib.hid (hbw.trans (hx.mono hbw.size))⟩)
  have HCO := Lib.hid (fun (x : World) (hx : Below W.heap.size W x) => covers_any l a b A n c x (hRW.below hx))
  have HR := Lib.hid (fun (hlt : a < b) (x : World) (hx : Below W.heap.size W x) => show Calls Try.prog 31 #[.func (.func 35) #[] #[.pointer (some ⟨w.heap.size, 0, none⟩), .pointer (some ⟨w.heap.size + 1, 0, none⟩), .pointer (some ⟨w.heap.size + 2, 0, none⟩), .pointer (some ⟨w.heap.size + 3, 0, none⟩)]] x (RowR w (proL l a b cp)) from by
    refine (row_pro x w.heap.size (w.heap.size + 1) (w.heap.size + 2) (w.heap.size + 3) (l.flatMap (proR a b cp)) (by rw [flat_len (q := 3) (fun r => rfl)]; have := hasc.len; omega) fun v tb A' c' hT hv => ?_).mono fun e w' h => h.from (hbw.trans (hx.mono hbw.size))
    have hRX := hRW.below hx
    have hs := hx.size
    have c0 := b0.below hx b0.lt
    have c1 := b1.below hx b1.lt
    have c2 := b2.below hx b2.lt
    have c3 := b3.below hx b3.lt
    exact proFill_any l A n c a b v x.heap.size tb A' c' _ _ _ _ cp h.len hT (hRX.row.below rfl hv) (fun ad e => hRX.lt ad e) hasc (c0.below hv c0.lt) (c1.below hv c1.lt) (c2.below hv c2.lt) (c3.below hv c3.lt) ⟨c0.lt, c1.lt, c2.lt, c3.lt⟩ ha hb hc)
  have HW := Lib.hid hW
  have HD := HDw W
  clear h hasc ha hb hc b0 b1 b2 b3 hbw hW hRW
  obtain ⟨x0, x1, x2, x3, HB0⟩ := HC.out W (Below.refl _ _)
  by_cases hlt : a < b
  · have hle : decide (b ≤ a) = false := decide_eq_false (by omega)
    obtain ⟨cv, hcv⟩ : ∃ cv, decide (b ≤ covF l a) = cv := ⟨_, rfl⟩
    have HCV := Lib.hid hcv
    clear hcv
    cases cv with
    | false =>
      go_enter Try.func23, Try.ntmps23
      go_upto_region 1 with fail
      rw [HW.out]
      go_upto_region 3 with (go_at_call 34; with_reducible refine (HIP.out _).mono ?_; rintro e x ⟨rfl, rfl⟩; rw [HPB.out])
      go_wp2_with (go_at_call 19; refine (HCO.out _ (Below.refl _ _)).mono ?_; rintro e x ⟨rfl, hb⟩; rw [HCV.out])
      go_ret2
      exact .inr (.inl ⟨hlt, of_decide_eq_false HCV.out, rfl, (HC.out _ hb).2.2.2.2.out⟩)
    | true =>
      go_enter Try.func23, Try.ntmps23
      go_upto_region 1 with fail
      rw [HW.out]
      go_upto_region 3 with (go_at_call 34; with_reducible refine (HIP.out _).mono ?_; rintro e x ⟨rfl, rfl⟩; rw [HPB.out])
      go_upto_region 5 with (go_at_call 19; refine (HCO.out _ (Below.refl _ _)).mono ?_; rintro e x ⟨rfl, hb⟩; rw [HCV.out])
      go_wp2_with (go_at_call 31; refine (HR.out hlt _ hb).mono ?_; rintro e y ⟨A1, rfl, h1, h2⟩)
      go_ret2
      exact .inr (.inr ⟨hlt, of_decide_eq_true HCV.out, A1, rfl, h1, h2⟩)
  · have hle : decide (b ≤ a) = true := decide_eq_true (by omega)
    go_enter Try.func23, Try.ntmps23
    go_upto_region 1 with fail
    rw [HW.out]
    go_wp2_with (go_at_call 34; with_reducible refine (HIP.out _).mono ?_; rintro e x ⟨rfl, rfl⟩; rw [HPB.out])
    go_ret2
    exact .inl ⟨by omega, rfl, HB0.out⟩
end Go.Proofs.Ytmknkdfdkanijaa
