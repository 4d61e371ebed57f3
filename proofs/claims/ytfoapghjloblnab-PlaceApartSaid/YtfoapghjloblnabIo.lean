/- Package place: what All tells, as a row of steps; the frame of its loop. -/
import Derived.Test.YtfoapghjloblnabIn
import Derived.Test.YtfoapghjloblnabFQ
namespace Go.Proofs.Ytfoapghjloblnab
open Go.RowKit Go.ChangeShapes Go.WideShapes Go.Deep Go.Shelf
set_option linter.unusedVariables false
set_option linter.unusedSimpArgs false

theorem goP_cons (low high : Int) (P : List (Int × Int)) (x : Int × Int) (l : List (Int × Int)) : goP low high P (x :: l) = match stepP P low high x with
    | none => none
    | some a => goP low high (P ++ [(a, rndP x.1)]) l := rfl
theorem goP_append (low high : Int) : ∀ (l1 l2 P : List (Int × Int)), goP low high P (l1 ++ l2) = (goP low high P l1).bind fun P' => goP low high P' l2
  | [], l2, P => rfl
  | x :: l1, l2, P => by
    rw [List.cons_append, goP_cons, goP_cons]
    cases stepP P low high x with
    | none => rfl
    | some a => exact goP_append low high l1 l2 _
theorem goP_next {low high : Int} {l : List (Int × Int)} {P : List (Int × Int)} {k : Nat} (hk : k < l.length) (h : goP low high [] (l.take k) = some P) : goP low high [] (l.take (k + 1)) = (stepP P low high l[k]).map fun a => P ++ [(a, rndP l[k].1)] := by
  rw [List.take_succ_eq_append_getElem hk, goP_append, h]
  show goP low high P [l[k]] = _
  unfold goP
  cases stepP P low high l[k] with
  | none => rfl
  | some a => rfl
theorem goP_none {low high : Int} {l : List (Int × Int)} {k : Nat} (h : goP low high [] (l.take k) = none) : goP low high [] l = none := by
  conv => lhs; rw [← List.take_append_drop k l]
  rw [goP_append, h]
  rfl
theorem likeP_R {P : List (Int × Int)} {low high : Int} {x : Int × Int} (hx : thingP x = true) (hb : BndI low high) : likeP P low high x = (likeR low high x && fitP P low high x.2 (rndP x.1)) := by
  have hbn := thing_bounds hx
  have hr := rndP_pos hbn.1 hbn.2.1
  unfold likeP likeR
  by_cases hf : fitP P low high x.2 (rndP x.1) = true
  · obtain ⟨f1, f2, _⟩ := fitP_iff.1 hf
    unfold BndI at hb
    have hi : inn (x.2 - low) (rndP x.1) (high - low) = true := inn_iff.2 ⟨by omega, by omega, by omega, by omega⟩
    rw [hf, hi]
    simp
  · have hf' : fitP P low high x.2 (rndP x.1) = false := by simpa using hf
    rw [hf']
    simp
/-- The first of the places that are tried that may be is the thing's. -/
theorem step_yes {P : List (Int × Int)} {low high : Int} {x : Int × Int} {fg : Option Int} (hx : thingP x = true) (hb : BndI low high) (hfg : freeP P low high (rndP x.1) = fg) (i : Nat) (a : Int) (hi : (trI low high x fg)[i]? = some a) (h1 : ∀ j b, j < i → (trI low high x fg)[j]? = some b → fitP P low high b (rndP x.1) = false) (h2 : fitP P low high a (rndP x.1) = true) :
    stepP P low high x = some a := by
  have hL := likeP_R (P := P) hx hb
  unfold stepP
  rw [hL]
  unfold trI at hi h1
  obtain ⟨lk, hl⟩ : ∃ lk, likeR low high x = lk := ⟨_, rfl⟩
  rw [hl] at hi h1 ⊢
  cases lk with
  | false =>
    rw [Bool.false_and, if_neg (by decide), hfg]
    rw [if_neg (by decide), List.nil_append] at hi
    cases fg with
    | none => simp at hi
    | some b =>
      cases i with
      | zero => simpa using hi
      | succ i => simp at hi
  | true =>
    rw [if_pos rfl, List.singleton_append] at hi h1
    rw [Bool.true_and]
    cases i with
    | zero =>
      have hi' : x.2 = a := by simpa using hi
      subst hi'
      rw [if_pos h2]
    | succ i =>
      have h3 : fitP P low high x.2 (rndP x.1) = false := h1 0 x.2 (Nat.succ_pos i) rfl
      rw [h3, if_neg (by decide), hfg]
      cases fg with
      | none => simp at hi
      | some b =>
        cases i with
        | zero => simpa using hi
        | succ i => simp at hi
theorem step_no {P : List (Int × Int)} {low high : Int} {x : Int × Int} {fg : Option Int} (hx : thingP x = true) (hb : BndI low high) (hP : WholeP P low high) (hfg : freeP P low high (rndP x.1) = fg) (h1 : ∀ b ∈ trI low high x fg, fitP P low high b (rndP x.1) = false) :
    stepP P low high x = none := by
  have hL := likeP_R (P := P) hx hb
  have hbn := thing_bounds hx
  have hr := rndP_pos hbn.1 hbn.2.1
  have hfn : fg = none := by
    cases fg with
    | none => rfl
    | some b =>
      exfalso
      have h2 := ((freeP_some hP hb.2.2.2.1 (by omega)).1 hfg).1
      have := h1 b (by unfold trI; simp)
      rw [h2] at this
      cases this
  subst hfn
  unfold stepP
  rw [hL]
  cases hl : likeR low high x with
  | false => rw [Bool.false_and, if_neg (by decide)]; exact hfg
  | true =>
    have h2 : fitP P low high x.2 (rndP x.1) = false := h1 x.2 (by unfold trI; simp [hl])
    rw [h2, Bool.and_false, if_neg (by decide)]
    exact hfg

section
variable {w0 W W' : World} {B rc tc yc rb eb tb : Nat} {low high : Int} {m ce D : Nat} {E : Nat → Int} {P : List (Int × Int)} {T G : Nat → Int} {A : Option Addr} {c : Nat} {L : List Int}
theorem own_kp {w w' : World} {B e size n : Nat} {v : Value} {xs : List Value} (h : w.ownsRow B e size v n xs) (hb : KpC (fun _ => False) w w') : w'.ownsRow B e size v n xs := by
  rcases h with ⟨h0, h1⟩
  refine ⟨h0, ?_⟩
  rcases h1 with h1 | ⟨g, cap, cur, hv, hbg, hh, h2⟩
  · exact .inl h1
  · exact .inr ⟨g, cap, cur, hv, hbg, hb _ _ _ (fun e => e) (show Blk w g _ cur from hh), h2⟩
theorem AllS.kp (h : AllS w0 W B rc tc yc rb eb tb low high m ce D E P T G A c L) (hk : KpC (fun _ => False) W W') (hb : Below w0.heap.size w0 W') : AllS w0 W' B rc tc yc rb eb tb low high m ce D E P T G A c L :=
  ⟨h.room.kp hk, ⟨hk _ _ _ (fun e => e) h.cells.bc, hk _ _ _ (fun e => e) h.cells.bt, hk _ _ _ (fun e => e) h.cells.by_, own_kp h.cells.row hk, h.cells.ne, h.cells.lo⟩, h.lo, h.old, hb⟩
theorem kp_grown {X Y : World} {row : Option Nat} (hg : X.grownBy Y row) (hr : ∀ r, row = some r → ∃ o : Obj, X.heap[r]? = some o ∧ o.isCells = false) : KpC (fun _ => False) X Y := fun k cs t _ hb => by
  refine hb.grown hg (fun e => ?_)
  obtain ⟨o, ho, hc⟩ := hr k e.symm
  unfold Blk at hb
  rw [hb] at ho
  cases ho
  cases hc
theorem AllS.own {β : Type} {B' : Nat} (hB : w0.heap.size ≤ B') : OwnFrom B' (fun (_ : β) W => AllS w0 W B rc tc yc rb eb tb low high m ce D E P T G A c L) := fun s X Y row hs hg hr =>
  hs.kp (kp_grown hg (fun r e => (hr r e).2)) (ownFrom_below (Nat.le_refl _) hB s X Y row hs.bel hg hr)
end
theorem Marks.own {β : Type} {B' b0 : Nat} {Ds : List Nat} (hD : ∀ D ∈ Ds, D < B') : OwnFrom B' (fun (_ : β) W => Marks W b0 Ds) := fun s X Y row hs hg hr =>
  ⟨hs.1, fun D h => ⟨(hs.2 D h).1, (hg.block D (hs.lt h) (fun e => by have := (hr D e.symm).1; have := hD D h; omega)).trans (hs.2 D h).2⟩⟩
/-- The slots of All that its loop leaves alone, and its counter. -/
structure FrA (T : Array Value) (A : Option Addr) (c n rc tc yc k : Nat) : Prop where
  size : T.size = 49
  s8 : T[8]? = some (.pointer (some ⟨rc, 0, none⟩))
  s9 : T[9]? = some (.pointer (some ⟨tc, 0, none⟩))
  s10 : T[10]? = some (.pointer (some ⟨yc, 0, none⟩))
  s31 : T[31]? = some (.slice A n c)
  s32 : T[32]? = some (.int .i64 n)
  s33 : T[33]? = some (.int .i64 k)
theorem consI {l : List Value} {n : Nat} (h : l.length = n + 1) : ∃ a t, l = a :: t ∧ t.length = n := by
  cases l with
  | nil => simp at h
  | cons a t => exact ⟨a, t, rfl, by simpa using h⟩
set_option maxRecDepth 100000 in
set_option maxHeartbeats 4000000 in
theorem FrA.lit {T : Array Value} {A : Option Addr} {c n rc tc yc k : Nat} (h : FrA T A c n rc tc yc k) : ∃ u : Nat → Value, T = #[u 0, u 1, u 2, u 3, u 4, u 5, u 6, u 7, .pointer (some ⟨rc, 0, none⟩), .pointer (some ⟨tc, 0, none⟩), .pointer (some ⟨yc, 0, none⟩), u 11, u 12, u 13, u 14, u 15, u 16, u 17, u 18, u 19, u 20, u 21, u 22, u 23, u 24, u 25, u 26, u 27, u 28, u 29, u 30, .slice A n c, .int .i64 n, .int .i64 k, u 34, u 35, u 36, u 37, u 38, u 39, u 40, u 41, u 42, u 43, u 44, u 45, u 46, u 47, u 48] := by
  obtain ⟨hs, h8, h9, h10, h31, h32, h33⟩ := h
  obtain ⟨l0, rfl⟩ : ∃ l : List Value, T = l.toArray := ⟨T.toList, by simp⟩
  have e0 : l0.length = 49 := by simpa using hs
  clear hs
  obtain ⟨a0, l1, rfl, e1⟩ := consI e0
  obtain ⟨a1, l2, rfl, e2⟩ := consI e1
  obtain ⟨a2, l3, rfl, e3⟩ := consI e2
  obtain ⟨a3, l4, rfl, e4⟩ := consI e3
  obtain ⟨a4, l5, rfl, e5⟩ := consI e4
  obtain ⟨a5, l6, rfl, e6⟩ := consI e5
  obtain ⟨a6, l7, rfl, e7⟩ := consI e6
  obtain ⟨a7, l8, rfl, e8⟩ := consI e7
  obtain ⟨a8, l9, rfl, e9⟩ := consI e8
  obtain ⟨a9, l10, rfl, e10⟩ := consI e9
  obtain ⟨a10, l11, rfl, e11⟩ := consI e10
  obtain ⟨a11, l12, rfl, e12⟩ := consI e11
  obtain ⟨a12, l13, rfl, e13⟩ := consI e12
  obtain ⟨a13, l14, rfl, e14⟩ := consI e13
  obtain ⟨a14, l15, rfl, e15⟩ := consI e14
  obtain ⟨a15, l16, rfl, e16⟩ := consI e15
  obtain ⟨a16, l17, rfl, e17⟩ := consI e16
  obtain ⟨a17, l18, rfl, e18⟩ := consI e17
  obtain ⟨a18, l19, rfl, e19⟩ := consI e18
  obtain ⟨a19, l20, rfl, e20⟩ := consI e19
  obtain ⟨a20, l21, rfl, e21⟩ := consI e20
  obtain ⟨a21, l22, rfl, e22⟩ := consI e21
  obtain ⟨a22, l23, rfl, e23⟩ := consI e22
  obtain ⟨a23, l24, rfl, e24⟩ := consI e23
  obtain ⟨a24, l25, rfl, e25⟩ := consI e24
  obtain ⟨a25, l26, rfl, e26⟩ := consI e25
  obtain ⟨a26, l27, rfl, e27⟩ := consI e26
  obtain ⟨a27, l28, rfl, e28⟩ := consI e27
  obtain ⟨a28, l29, rfl, e29⟩ := consI e28
  obtain ⟨a29, l30, rfl, e30⟩ := consI e29
  obtain ⟨a30, l31, rfl, e31⟩ := consI e30
  obtain ⟨a31, l32, rfl, e32⟩ := consI e31
  obtain ⟨a32, l33, rfl, e33⟩ := consI e32
  obtain ⟨a33, l34, rfl, e34⟩ := consI e33
  obtain ⟨a34, l35, rfl, e35⟩ := consI e34
  obtain ⟨a35, l36, rfl, e36⟩ := consI e35
  obtain ⟨a36, l37, rfl, e37⟩ := consI e36
  obtain ⟨a37, l38, rfl, e38⟩ := consI e37
  obtain ⟨a38, l39, rfl, e39⟩ := consI e38
  obtain ⟨a39, l40, rfl, e40⟩ := consI e39
  obtain ⟨a40, l41, rfl, e41⟩ := consI e40
  obtain ⟨a41, l42, rfl, e42⟩ := consI e41
  obtain ⟨a42, l43, rfl, e43⟩ := consI e42
  obtain ⟨a43, l44, rfl, e44⟩ := consI e43
  obtain ⟨a44, l45, rfl, e45⟩ := consI e44
  obtain ⟨a45, l46, rfl, e46⟩ := consI e45
  obtain ⟨a46, l47, rfl, e47⟩ := consI e46
  obtain ⟨a47, l48, rfl, e48⟩ := consI e47
  obtain ⟨a48, l49, rfl, e49⟩ := consI e48
  obtain rfl := List.eq_nil_of_length_eq_zero e49
  refine ⟨fun j => ([a0, a1, a2, a3, a4, a5, a6, a7, a8, a9, a10, a11, a12, a13, a14, a15, a16, a17, a18, a19, a20, a21, a22, a23, a24, a25, a26, a27, a28, a29, a30, a31, a32, a33, a34, a35, a36, a37, a38, a39, a40, a41, a42, a43, a44, a45, a46, a47, a48] : List Value).getD j undef, ?_⟩
  obtain rfl := Option.some.inj h8
  obtain rfl := Option.some.inj h9
  obtain rfl := Option.some.inj h10
  obtain rfl := Option.some.inj h31
  obtain rfl := Option.some.inj h32
  obtain rfl := Option.some.inj h33
  rfl
end Go.Proofs.Ytfoapghjloblnab
