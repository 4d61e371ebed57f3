/- Package files: the frame of fill's loop. -/
import Derived.Test.YtgkhgjihjbjfnaaDoorFR
import Derived.Laws.EntriesVeiled
namespace Go.Proofs.YtgkhgjihjbjfnaaDoor
open Go.RowKit Go.Shelf
set_option linter.unusedVariables false
set_option linter.unusedSimpArgs false

theorem wp_loop_k {P : Program} {Q : Exit → Act → World → Prop} {a : Act} {w : World} {c : Code} (I : Act → World → Prop) (μ : Act → World → Nat) (h₀ : I a w)
    (round : ∀ a w, I a w → ∀ K : Act → World → Prop, (∀ a' w', I a' w' → μ a' w' < μ a w → K a' w') → c.wp P (Exit.then K Q) a w) : (Code.loop c).wp P Q a w :=
  wp_loop I μ h₀ fun a w h => round a w h _ fun _ _ h1 h2 => ⟨h1, h2⟩

theorem wpIn_named {F : Fence} {n : Nat} {P : Program} {c : Code} {Q : Exit → Act → World → Prop} {T : Array Value} {D : List Deferred} {w : World} (h : ∀ T', T = T' → c.wpIn F n P Q ⟨T', D⟩ w) : c.wpIn F n P Q ⟨T, D⟩ w := h T rfl
theorem LaidOk.small {fs : List Fl} {s : Nat} {L : Laid} (h : LaidOk fs s 4 0 L) (hd : ∀ f ∈ fs, f.data.size ≤ 1048576) (hu : 1 + fs.length + L.dat.length ≤ 16384) (k : Nat) (hk : k < fs.length) (hk' : k < L.ex.length) : SmallE L.ex[k] ∧ L.ex[k].length ≤ 4 ∧ ahd L.ex[k] L.ex[k].length = fs[k].pg := by
  have hc := h.cut k hk hk'
  rw [if_neg (by omega), List.take_of_length_le (cuts_len _ _)] at hc
  have hl : L.ex[k].length ≤ 4 := by
    have := congrArg List.length hc
    rw [List.length_map] at this
    have := cuts_len fs[k].pg s
    omega
  have hsum : (L.ex[k].map (·.2)).sum = fs[k].pg := by rw [hc, cuts_sum]
  have hpg := pg_le (hd _ (List.getElem_mem hk))
  refine ⟨⟨by omega, by omega, fun e he => ?_⟩, hl, by rw [ahd_full, hsum]⟩
  obtain ⟨t, ht, rfl⟩ := List.getElem_of_mem he
  have := (h.put k hk hk' t ht).2.1
  omega

/-- The closure put. -/
abbrev putV (bs : Nat) : Value := .func (.func 47) #[] #[.pointer (some ⟨bs, 0, none⟩)]
/-- The slots of fill that the loop leaves alone, and its counter. -/
structure FrOk (T : Array Value) (A : Option Addr) (c m gi U b0 bs bp gs : Nat) (hd : ByteArray) (k : Nat) : Prop where
  size : T.size = 72
  s0 : T[0]? = some (.slice A m c)
  s1 : T[1]? = some (.slice (some ⟨gi, 0, none⟩) m m)
  s2 : T[2]? = some (.int .i64 U)
  s3 : T[3]? = some (.pointer (some ⟨b0, 0, none⟩))
  s4 : T[4]? = some (undef)
  s5 : T[5]? = some (undef)
  s6 : T[6]? = some (.slice none 0 0)
  s7 : T[7]? = some (.pointer (some ⟨bs, 0, none⟩))
  s8 : T[8]? = some (.pointer (some ⟨bp, 0, none⟩))
  s15 : T[15]? = some (.int .i64 U)
  s16 : T[16]? = some (.slice (some ⟨gs, 0, none⟩) U U)
  s17 : T[17]? = some (putV bs)
  s18 : T[18]? = some (putV bs)
  s19 : T[19]? = some (.slice (some ⟨gi, 0, none⟩) m m)
  s20 : T[20]? = some (.int .i64 m)
  s21 : T[21]? = some (.int .i64 U)
  s22 : T[22]? = some (.string hd)
  s23 : T[23]? = some (.tuple #[])
  s24 : T[24]? = some (.slice (some ⟨gi, 0, none⟩) m m)
  s25 : T[25]? = some (.int .i64 m)
  s26 : T[26]? = some (.int .i64 k)
  s71 : T[71]? = some (undef)
theorem cons_of {l : List Value} {n : Nat} (h : l.length = n + 1) : ∃ a t, l = a :: t ∧ t.length = n := by
  cases l with
  | nil => simp at h
  | cons a t => exact ⟨a, t, rfl, by simpa using h⟩
set_option maxRecDepth 100000 in
set_option maxHeartbeats 4000000 in
theorem FrOk.lit {T : Array Value} {A : Option Addr} {c m gi U b0 bs bp gs : Nat} {hd : ByteArray} {k : Nat} (h : FrOk T A c m gi U b0 bs bp gs hd k) : ∃ u : Nat → Value, T = #[.slice A m c, .slice (some ⟨gi, 0, none⟩) m m, .int .i64 U, .pointer (some ⟨b0, 0, none⟩), undef, undef, .slice none 0 0, .pointer (some ⟨bs, 0, none⟩), .pointer (some ⟨bp, 0, none⟩), u 9, u 10, u 11, u 12, u 13, u 14, .int .i64 U, .slice (some ⟨gs, 0, none⟩) U U, putV bs, putV bs, .slice (some ⟨gi, 0, none⟩) m m, .int .i64 m, .int .i64 U, .string hd, .tuple #[], .slice (some ⟨gi, 0, none⟩) m m, .int .i64 m, .int .i64 k, u 27, u 28, u 29, u 30, u 31, u 32, u 33, u 34, u 35, u 36, u 37, u 38, u 39, u 40, u 41, u 42, u 43, u 44, u 45, u 46, u 47, u 48, u 49, u 50, u 51, u 52, u 53, u 54, u 55, u 56, u 57, u 58, u 59, u 60, u 61, u 62, u 63, u 64, u 65, u 66, u 67, u 68, u 69, u 70, undef] := by
  obtain ⟨hs, h0, h1, h2, h3, h4, h5, h6, h7, h8, h15, h16, h17, h18, h19, h20, h21, h22, h23, h24, h25, h26, h71⟩ := h
  obtain ⟨l0, rfl⟩ : ∃ l : List Value, T = l.toArray := ⟨T.toList, by simp⟩
  have e0 : l0.length = 72 := by simpa using hs
  clear hs
  obtain ⟨a0, l1, rfl, e1⟩ := cons_of e0
  obtain ⟨a1, l2, rfl, e2⟩ := cons_of e1
  obtain ⟨a2, l3, rfl, e3⟩ := cons_of e2
  obtain ⟨a3, l4, rfl, e4⟩ := cons_of e3
  obtain ⟨a4, l5, rfl, e5⟩ := cons_of e4
  obtain ⟨a5, l6, rfl, e6⟩ := cons_of e5
  obtain ⟨a6, l7, rfl, e7⟩ := cons_of e6
  obtain ⟨a7, l8, rfl, e8⟩ := cons_of e7
  obtain ⟨a8, l9, rfl, e9⟩ := cons_of e8
  obtain ⟨a9, l10, rfl, e10⟩ := cons_of e9
  obtain ⟨a10, l11, rfl, e11⟩ := cons_of e10
  obtain ⟨a11, l12, rfl, e12⟩ := cons_of e11
  obtain ⟨a12, l13, rfl, e13⟩ := cons_of e12
  obtain ⟨a13, l14, rfl, e14⟩ := cons_of e13
  obtain ⟨a14, l15, rfl, e15⟩ := cons_of e14
  obtain ⟨a15, l16, rfl, e16⟩ := cons_of e15
  obtain ⟨a16, l17, rfl, e17⟩ := cons_of e16
  obtain ⟨a17, l18, rfl, e18⟩ := cons_of e17
  obtain ⟨a18, l19, rfl, e19⟩ := cons_of e18
  obtain ⟨a19, l20, rfl, e20⟩ := cons_of e19
  obtain ⟨a20, l21, rfl, e21⟩ := cons_of e20
  obtain ⟨a21, l22, rfl, e22⟩ := cons_of e21
  obtain ⟨a22, l23, rfl, e23⟩ := cons_of e22
  obtain ⟨a23, l24, rfl, e24⟩ := cons_of e23
  obtain ⟨a24, l25, rfl, e25⟩ := cons_of e24
  obtain ⟨a25, l26, rfl, e26⟩ := cons_of e25
  obtain ⟨a26, l27, rfl, e27⟩ := cons_of e26
  obtain ⟨a27, l28, rfl, e28⟩ := cons_of e27
  obtain ⟨a28, l29, rfl, e29⟩ := cons_of e28
  obtain ⟨a29, l30, rfl, e30⟩ := cons_of e29
  obtain ⟨a30, l31, rfl, e31⟩ := cons_of e30
  obtain ⟨a31, l32, rfl, e32⟩ := cons_of e31
  obtain ⟨a32, l33, rfl, e33⟩ := cons_of e32
  obtain ⟨a33, l34, rfl, e34⟩ := cons_of e33
  obtain ⟨a34, l35, rfl, e35⟩ := cons_of e34
  obtain ⟨a35, l36, rfl, e36⟩ := cons_of e35
  obtain ⟨a36, l37, rfl, e37⟩ := cons_of e36
  obtain ⟨a37, l38, rfl, e38⟩ := cons_of e37
  obtain ⟨a38, l39, rfl, e39⟩ := cons_of e38
  obtain ⟨a39, l40, rfl, e40⟩ := cons_of e39
  obtain ⟨a40, l41, rfl, e41⟩ := cons_of e40
  obtain ⟨a41, l42, rfl, e42⟩ := cons_of e41
  obtain ⟨a42, l43, rfl, e43⟩ := cons_of e42
  obtain ⟨a43, l44, rfl, e44⟩ := cons_of e43
  obtain ⟨a44, l45, rfl, e45⟩ := cons_of e44
  obtain ⟨a45, l46, rfl, e46⟩ := cons_of e45
  obtain ⟨a46, l47, rfl, e47⟩ := cons_of e46
  obtain ⟨a47, l48, rfl, e48⟩ := cons_of e47
  obtain ⟨a48, l49, rfl, e49⟩ := cons_of e48
  obtain ⟨a49, l50, rfl, e50⟩ := cons_of e49
  obtain ⟨a50, l51, rfl, e51⟩ := cons_of e50
  obtain ⟨a51, l52, rfl, e52⟩ := cons_of e51
  obtain ⟨a52, l53, rfl, e53⟩ := cons_of e52
  obtain ⟨a53, l54, rfl, e54⟩ := cons_of e53
  obtain ⟨a54, l55, rfl, e55⟩ := cons_of e54
  obtain ⟨a55, l56, rfl, e56⟩ := cons_of e55
  obtain ⟨a56, l57, rfl, e57⟩ := cons_of e56
  obtain ⟨a57, l58, rfl, e58⟩ := cons_of e57
  obtain ⟨a58, l59, rfl, e59⟩ := cons_of e58
  obtain ⟨a59, l60, rfl, e60⟩ := cons_of e59
  obtain ⟨a60, l61, rfl, e61⟩ := cons_of e60
  obtain ⟨a61, l62, rfl, e62⟩ := cons_of e61
  obtain ⟨a62, l63, rfl, e63⟩ := cons_of e62
  obtain ⟨a63, l64, rfl, e64⟩ := cons_of e63
  obtain ⟨a64, l65, rfl, e65⟩ := cons_of e64
  obtain ⟨a65, l66, rfl, e66⟩ := cons_of e65
  obtain ⟨a66, l67, rfl, e67⟩ := cons_of e66
  obtain ⟨a67, l68, rfl, e68⟩ := cons_of e67
  obtain ⟨a68, l69, rfl, e69⟩ := cons_of e68
  obtain ⟨a69, l70, rfl, e70⟩ := cons_of e69
  obtain ⟨a70, l71, rfl, e71⟩ := cons_of e70
  obtain ⟨a71, l72, rfl, e72⟩ := cons_of e71
  obtain rfl := List.eq_nil_of_length_eq_zero e72
  refine ⟨fun j => ([a0, a1, a2, a3, a4, a5, a6, a7, a8, a9, a10, a11, a12, a13, a14, a15, a16, a17, a18, a19, a20, a21, a22, a23, a24, a25, a26, a27, a28, a29, a30, a31, a32, a33, a34, a35, a36, a37, a38, a39, a40, a41, a42, a43, a44, a45, a46, a47, a48, a49, a50, a51, a52, a53, a54, a55, a56, a57, a58, a59, a60, a61, a62, a63, a64, a65, a66, a67, a68, a69, a70, a71] : List Value).getD j undef, ?_⟩
  obtain rfl := Option.some.inj h0
  obtain rfl := Option.some.inj h1
  obtain rfl := Option.some.inj h2
  obtain rfl := Option.some.inj h3
  obtain rfl := Option.some.inj h4
  obtain rfl := Option.some.inj h5
  obtain rfl := Option.some.inj h6
  obtain rfl := Option.some.inj h7
  obtain rfl := Option.some.inj h8
  obtain rfl := Option.some.inj h15
  obtain rfl := Option.some.inj h16
  obtain rfl := Option.some.inj h17
  obtain rfl := Option.some.inj h18
  obtain rfl := Option.some.inj h19
  obtain rfl := Option.some.inj h20
  obtain rfl := Option.some.inj h21
  obtain rfl := Option.some.inj h22
  obtain rfl := Option.some.inj h23
  obtain rfl := Option.some.inj h24
  obtain rfl := Option.some.inj h25
  obtain rfl := Option.some.inj h26
  obtain rfl := Option.some.inj h71
  rfl
/-- fill behind k files. -/
def FillI (A : Option Addr) (c m gi U b0 bs bp gs : Nat) (hd : ByteArray) (w : World) (DL : List ByteArray) (ex : List (List (Nat × Nat))) (a : Act) (W : World) : Prop :=
  ∃ (k : Nat) (T : Array Value) (Ds : List Nat) (cs : List ByteArray), k ≤ m ∧ a = { tmps := T, defers := Ds.map markOf } ∧ FrOk T A c m gi U b0 bs bp gs hd k ∧ Marks W b0 Ds ∧ Blk W b0 22 #[.slice A m c] ∧ Blk W bp 87 #[putV bs] ∧ Secs W bs gs cs ∧ Wr DL cs (DoneAt ex k false 0 0) ∧ Below b0 w W
def fillM (m : Nat) (a : Act) : Nat := m - (intOf (a.tmps.getD 26 undef)).toNat
end Go.Proofs.YtgkhgjihjbjfnaaDoor
