/- FramesApart: for any row of stores (thirty at most) and any two numbers: frames that are held are no other's; a copy is the same, and then its own. -/
import Derived.Test.YtdelmhcbmlbojaaDoorPI
import Derived.Deep.CutRange
namespace Go.Proofs.YtdelmhcbmlbojaaDoor.lawApart
open Go.ChangeShapes Go.WideShapes Go.ChangeAt Go.RowKit
set_option linter.unusedVariables false

/-- A slice of triples of ints. -/
def TriRow (w : World) (A : Option Addr) (l : List (Int × Int × Int)) : Prop := ∀ i (hi : i < l.length), ∃ ad, A = some ad ∧ ad.block < w.heap.size ∧ w.cell? (ad.add (i * 3)) = some (.int .i64 l[i].1) ∧ w.cell? (ad.add (i * 3 + 1)) = some (.int .i64 l[i].2.1) ∧ w.cell? (ad.add (i * 3 + 2)) = some (.int .i64 l[i].2.2)
theorem openTris {H : Type} {enc : TypeId × Value → H} {w : World} {base : Nat} {spare : Nat → Bool} {held : Bool} {r : Reach} {b0 : Nat} {v : Value} {d : DataW H} {ps : List MemPlace}
    (hv : Value.okWide Tryd.prog w r b0 51 v) (h : DataW.Trod enc Tryd.prog w base spare held 51 v d ps) : ∃ A l c, v = .slice A (List.length l) c ∧ l.length ≤ maxLen ∧ TriRow w A l := by
  have hc2 : Tryd.prog.cellsOf 54 = 3 := by kernel_rfl
  have hc1 : Tryd.prog.cellsOf 3 = 1 := by kernel_rfl
  obtain ⟨A, n, c, rfl, hn, hi⟩ := open_row_n Tryd.underlying51 hv h (by rw [hc2]; omega)
  obtain ⟨zs, hl, hz⟩ := list_of (Q := fun i (z : Int × Int × Int) => ∃ ad, A = some ad ∧ ad.block < w.heap.size ∧ w.cell? (ad.add (i * 3)) = some (.int .i64 z.1) ∧ w.cell? (ad.add (i * 3 + 1)) = some (.int .i64 z.2.1) ∧ w.cell? (ad.add (i * 3 + 2)) = some (.int .i64 z.2.2)) n (fun i h => by
    obtain ⟨ad, rfl, hb, fuel, cs, y, hlen, hat, hy⟩ := hi i h
    rw [hc2] at hlen hat
    obtain ⟨xs, m, _, _, _, hxl, hel⟩ := DataW.trod_array Tryd.underlying54 hy
    match cs, hlen with
    | [c0, c1, c2], _ =>
      have h0 := hel 0 (by omega)
      have h1 := hel 1 (by omega)
      have h2 := hel 2 (by omega)
      rw [hc1, List.getElem?_eq_getElem (by omega)] at h0 h1 h2
      obtain ⟨z0, e0, _, w0⟩ := DataW.trod_int Tryd.underlying3 h0
      obtain ⟨z1, e1, _, w1⟩ := DataW.trod_int Tryd.underlying3 h1
      obtain ⟨z2, e2, _, w2⟩ := DataW.trod_int Tryd.underlying3 h2
      simp at e0 e1 e2
      subst e0 e1 e2
      exact ⟨(z0, z1, z2), ad, rfl, hb, by simpa using hat 0 (by omega), by simpa using hat 1 (by omega), by simpa using hat 2 (by omega)⟩)
  subst hl
  exact ⟨A, zs, c, rfl, hn, hz⟩

/-- The first k of m frames are held once. -/
def onesL (k m : Nat) : List Int := List.replicate k 1 ++ List.replicate (m - k) 0
theorem ones_len {k m : Nat} (h : k ≤ m) : (onesL k m).length = m := by simp [onesL]; omega
theorem ones_free : ∀ {k m : Nat}, k ≤ m → freeAt (onesL k m) = k
  | 0, 0, _ => rfl
  | 0, m + 1, _ => by simp [onesL, List.replicate_succ, freeAt]
  | k + 1, m + 1, h => by
    have := ones_free (k := k) (m := m) (by omega)
    unfold onesL at *
    rw [List.replicate_succ, List.cons_append, freeAt, if_neg (by decide), show m + 1 - (k + 1) = m - k by omega, this]
theorem ones_set {k m : Nat} (h : k < m) : (onesL k m).set k 1 = onesL (k + 1) m := by
  unfold onesL
  obtain ⟨d, rfl⟩ : ∃ d, m = k + (d + 1) := ⟨m - k - 1, by omega⟩
  rw [show k + (d + 1) - k = d + 1 by omega, show k + (d + 1) - (k + 1) = d by omega, List.set_append_right (h := by simp), List.length_replicate, Nat.sub_self, List.replicate_succ (n := d), List.set_cons_zero, List.replicate_succ' (n := k)]
  simp
theorem ones_at {k n m : Nat} (h : k < n) (hn : n ≤ m) : askE (onesL n m) (k : Int) = 0 := by
  have hl : k < (onesL n m).length := by rw [ones_len hn]; omega
  rw [askE_in hl]
  have h1 : (onesL n m)[k]? = some 1 := by unfold onesL; rw [List.getElem?_append_left (by simpa using h), List.getElem?_replicate, if_pos h]
  have : (onesL n m)[k] = 1 := by rw [List.getElem?_eq_getElem hl] at h1; exact Option.some.inj h1
  rw [this]
  decide

/-- The pool of which k frames were taken, and nothing was stored. -/
def takenP (k : Nat) : Pol := ⟨onesL k 9, List.replicate 9 zsec⟩
theorem taken_zero : newP 9 = takenP 0 := by simp [newP, takenP, onesL]
theorem rep_set (a : ByteArray) : ∀ (n k : Nat), (List.replicate n a).set k a = List.replicate n a
  | 0, _ => rfl
  | n + 1, 0 => by rw [List.replicate_succ, List.set_cons_zero]
  | n + 1, k + 1 => by rw [List.replicate_succ, List.set_cons_succ, rep_set a n k]
theorem taken_tk {k : Nat} (hk : k < 9) : (takenP k).tkX = takenP (k + 1) := by
  unfold Pol.tkX
  have hf : freeAt (takenP k).H = k := ones_free (by omega)
  rw [hf, if_pos (by show k < (onesL k 9).length; rw [ones_len (by omega)]; exact hk)]
  unfold takenP
  simp only [ones_set hk, rep_set]

/-- What the law has written down of the pool. -/
structure Lg (n : Nat) (X : Pol) (W : List Int) : Prop where
  nn : n = 8 ∨ n = 9
  H : X.H = onesL n 9
  lenS : X.S.length = 9
  lenW : W.length = 144
  val : ∀ f k, f < n → k < 16 → W[f * 16 + k]? = some (w4 (X.S.getD f ⟨#[]⟩) k)
theorem lg_new : Lg 8 (takenP 8) (List.replicate 144 0) := by
  refine ⟨.inl rfl, rfl, by simp [takenP], by simp, fun f k hf hk => ?_⟩
  rw [List.getElem?_replicate, if_pos (by omega)]
  simp only [takenP, List.getD, List.getElem?_replicate, if_pos (show f < 9 by omega), Option.getD_some]
  rw [w4_zero k hk]

section
variable {w v : World} {p h g b : Nat} {t : TypeId} {cs : Array Value} {X : Pol} {W : List Int} {n : Nat}
theorem c_take {k : Nat} (s : Mm w v p h g b t cs (takenP k)) (hk : k < 8) : Calls Tryd.prog 14 #[.pointer (some ⟨p, 0, none⟩)] v fun e v' => e = .returned (.tuple #[.int .i64 k, .int .i64 0]) ∧ Mm w v' p h g b t cs (takenP (k + 1)) :=
  (mm_take s).mono fun e v' ⟨he, hs⟩ => by
    have hf : freeAt (takenP k).H = k := ones_free (by omega)
    have hl : (takenP k).H.length = 9 := ones_len (by omega)
    rw [taken_tk (by omega)] at hs
    exact ⟨by rw [he, tkV, tkE, hf, if_pos (by omega), if_pos (by omega)], hs⟩
theorem Lg.wd (l : Lg n X W) {f k : Nat} (hf : f < n) (hk : k < 16) : wdE X.H f ((4 * k : Nat) : Int) 3 = 0 := by
  have hn : n ≤ 9 := by rcases l.nn with h | h <;> omega
  unfold wdE
  rw [l.H, if_pos (ones_at hf hn), if_neg (by decide), if_pos (by rw [inn_iff, show wid 3 = 4 from rfl]; omega)]
theorem c_load (s : Mm w v p h g b t cs X) (l : Lg n X W) {f k : Nat} (hf : f < n) (hk : k < 16) {x : Int} (hx : W[f * 16 + k]? = some x) :
    Calls Tryd.prog 25 #[.pointer (some ⟨p, 0, none⟩), .int .i64 f, .int .i64 ((4 * k : Nat) : Int), .int .i64 3] v fun e v' => e = .returned (.tuple #[.int .u64 x, .int .i64 0]) ∧ Mm w v' p h g b t cs X :=
  (mm_load s f ((4 * k : Nat) : Int) 3 (wf_i64 (by omega) (by omega)) (by decide)).mono fun e v' ⟨he, hs⟩ => by
    have e0 := l.wd hf hk
    have e1 : ldV X.H X.S f ((4 * k : Nat) : Int) 3 = x := by
      unfold ldV
      rw [if_pos e0, Int.toNat_natCast]
      have := l.val f k hf hk
      rw [hx] at this
      exact (Option.some.inj this).symm
    exact ⟨by rw [he, e0, e1], hs⟩
theorem c_store (s : Mm w v p h g b t cs X) (l : Lg n X W) {f k : Nat} (hf : f < n) (hk : k < 16) {x : Int} (x0 : 0 ≤ x) (x1 : x < 4294967296) :
    Calls Tryd.prog 27 #[.pointer (some ⟨p, 0, none⟩), .int .i64 f, .int .i64 ((4 * k : Nat) : Int), .int .i64 3, .int .u64 x] v fun e v' => e = .returned (.int .i64 0) ∧ ∃ Y : Pol, Mm w v' p h g b t cs Y ∧ Lg n Y (W.set (f * 16 + k) x) :=
  (mm_store s f ((4 * k : Nat) : Int) 3 x (wf_i64 (by omega) (by omega)) (by decide) (wf_u64 x0 (by omega))).mono fun e v' ⟨he, hs⟩ => by
    have e0 := l.wd hf hk
    have hn : n ≤ 9 := by rcases l.nn with h | h <;> omega
    have hfl : f < X.S.length := by rw [l.lenS]; omega
    have hX : X.stX f ((4 * k : Nat) : Int) 3 x = { X with S := X.S.set f (setS (X.S.getD f ⟨#[]⟩) ((4 * k : Nat) : Int) 4 x.toNat) } := by
      unfold Pol.stX
      rw [if_pos e0, Int.toNat_natCast]
      rfl
    have h64 : (X.S.getD f ⟨#[]⟩).size = 64 := by
      simp only [List.getD, List.getElem?_eq_getElem hfl, Option.getD_some]
      exact s.sw.pl.all _ (List.getElem_mem hfl)
    refine ⟨by rw [he, e0], _, hs, l.nn, by rw [Pol.stX_H, l.H], by rw [hX]; simpa using l.lenS, by rw [List.length_set, l.lenW], fun f2 k2 h2 hk2 => ?_⟩
    rw [hX]
    show (W.set (f * 16 + k) x)[f2 * 16 + k2]? = some (w4 ((X.S.set f _).getD f2 ⟨#[]⟩) k2)
    have hlW := l.lenW
    by_cases hff : f = f2
    · subst hff
      have e1 : ((X.S.set f (setS (X.S.getD f ⟨#[]⟩) ((4 * k : Nat) : Int) 4 x.toNat)).getD f ⟨#[]⟩) = setS (X.S.getD f ⟨#[]⟩) ((4 * k : Nat) : Int) 4 x.toNat := by
        rw [List.getD, List.getElem?_set_self hfl, Option.getD_some]
      rw [e1]
      by_cases hkk : k = k2
      · subst hkk
        rw [List.getElem?_set_self (by omega), w4_same h64 hk x0 x1]
      · rw [List.getElem?_set_ne (by omega), w4_else h64 hk hk2 hkk]
        exact l.val f k2 hf hk2
    · rw [List.getElem?_set_ne (by omega)]
      have e1 : ((X.S.set f (setS (X.S.getD f ⟨#[]⟩) ((4 * k : Nat) : Int) 4 x.toNat)).getD f2 ⟨#[]⟩) = X.S.getD f2 ⟨#[]⟩ := by
        simp only [List.getD, List.getElem?_set_ne hff]
      rw [e1]
      exact l.val f2 k2 h2 hk2

/-- What is written down behind a copy. -/
def copyW (W : List Int) (F : Nat) : List Int := W.take 128 ++ (W.drop (F * 16)).take 16
theorem c_copy (s : Mm w v p h g b t cs X) (l : Lg 8 X W) {F : Nat} (hF : F < 8) :
    Calls Tryd.prog 23 #[.pointer (some ⟨p, 0, none⟩), .int .i64 F] v fun e v' => e = .returned (.tuple #[.int .i64 8, .int .i64 0]) ∧ ∃ Y : Pol, Mm w v' p h g b t cs Y ∧ Lg 9 Y (copyW W F) :=
  (mm_copy s F).mono fun e v' ⟨he, hs⟩ => by
    have hf : freeAt X.H = 8 := by rw [l.H]; exact ones_free (by omega)
    have hl : X.H.length = 9 := by rw [l.H]; exact ones_len (by omega)
    have ha : askE X.H F = 0 := by rw [l.H]; exact ones_at hF (by omega)
    have e1 : cpE X.H F = 0 := by unfold cpE tkE; rw [if_pos ha, hf, if_pos (by omega)]
    have e2 : cpV X.H F = 8 := by unfold cpV tkV; rw [if_pos ha, hf, if_pos (by omega)]; rfl
    have e3 : X.cpX F = ⟨X.H.set 8 1, X.S.set 8 (X.S.getD F ⟨#[]⟩)⟩ := by unfold Pol.cpX; rw [if_pos e1, hf, Int.toNat_natCast]
    have hS := l.lenS
    have hW := l.lenW
    refine ⟨by rw [he, e1, e2], _, hs, .inr rfl, by rw [e3]; show X.H.set 8 1 = _; rw [l.H]; exact ones_set (by omega), by rw [e3]; simpa using hS, by unfold copyW; simp [hW]; omega, fun f k h9 hk => ?_⟩
    rw [e3]
    show (copyW W F)[f * 16 + k]? = some (w4 ((X.S.set 8 _).getD f ⟨#[]⟩) k)
    unfold copyW
    by_cases h8 : f = 8
    · subst h8
      have e4 : ((X.S.set 8 (X.S.getD F ⟨#[]⟩)).getD 8 ⟨#[]⟩) = X.S.getD F ⟨#[]⟩ := by rw [List.getD, List.getElem?_set_self (by omega), Option.getD_some]
      rw [e4, List.getElem?_append_right (by simp [hW]), List.length_take, hW, show 8 * 16 + k - min 128 144 = k by omega, List.getElem?_take_of_lt hk, List.getElem?_drop]
      exact l.val F k hF hk
    · have e4 : ((X.S.set 8 (X.S.getD F ⟨#[]⟩)).getD f ⟨#[]⟩) = X.S.getD f ⟨#[]⟩ := by simp only [List.getD, List.getElem?_set_ne (show 8 ≠ f by omega)]
      rw [e4, List.getElem?_append_left (by simp [hW]; omega), List.getElem?_take_of_lt (by omega)]
      exact l.val f k (by omega) hk
end
theorem copy_row {W : List Int} (hW : W.length = 144) (F : Nat) : ((ucells W).toList.take 128 ++ ((ucells W).toList.drop (F * 16)).take 16 ++ (ucells W).toList.drop (128 + 16)).toArray = ucells (copyW W F) := by
  unfold ucells copyW
  simp [List.map_take, List.map_drop, hW]

theorem infoWant : (Tryd.prog.info? 53).map (fun i => (i.zero, i.size)) = some (some (.agg (ucells (List.replicate 144 0))), 144) := by kernel_rfl

/-- A frame, by a number. -/
theorem num_of (z : Int) {n : Int} (h : n = 8 ∨ n = 9) : ∃ (r : Int) (f : Nat), z.tmod n = r ∧ -9 < r ∧ r < 9 ∧ (r + n).tmod n = f ∧ (f : Int) < n ∧ 0 ≤ r + n := by
  have h1 := Int.tmod_lt_of_pos z (show (0 : Int) < n by omega)
  have h2 := Int.lt_tmod_of_pos z (show (0 : Int) < n by omega)
  obtain ⟨r, hr⟩ : ∃ r, z.tmod n = r := ⟨_, rfl⟩
  rw [hr] at h1 h2
  have h3 := Int.tmod_lt_of_pos (r + n) (show (0 : Int) < n by omega)
  have h4 := Int.tmod_nonneg (a := r + n) n (by omega)
  exact ⟨r, ((r + n).tmod n).toNat, hr, by omega, by omega, by omega, by omega, by omega⟩

set_option maxRecDepth 100000 in
set_option maxHeartbeats 6400000 in
theorem walk (A : Option Addr) (l : List (Int × Int × Int)) (c : Nat) (beh fr : Int) (w : World) (hm : l.length ≤ maxLen) (hz : TriRow w A l) (_ : (Lit.int .i64 beh).wf = true) (_ : (Lit.int .i64 fr).wf = true) (hT : Tab w) :
    Calls Tryd.prog 4 #[.slice A l.length c, .int .i64 beh, .int .i64 fr] w fun e w' => e = .returned (.bool true) ∧ Below w.heap.size w w' := by
  unfold maxLen at hm
  obtain ⟨B, hBe, B0, B1⟩ : ∃ B : Int, bits .and .i64 beh 31 = B ∧ 0 ≤ B ∧ B < 32 := by
    have e : bits .and .i64 beh 31 = beh % (2 : Int) ^ 5 := i64_and_mask beh 5 31 (by omega) (by decide)
    rw [show (2 : Int) ^ 5 = 32 by decide] at e
    exact ⟨_, e, by omega, by omega⟩
  obtain ⟨F, hFr, F8⟩ : ∃ F : Nat, bits .and .i64 fr 7 = F ∧ F < 8 := by
    have e : bits .and .i64 fr 7 = fr % (2 : Int) ^ 3 := i64_and_mask fr 3 7 (by omega) (by decide)
    rw [show (2 : Int) ^ 3 = 8 by decide] at e
    exact ⟨(fr % 8).toNat, by rw [e]; omega, by omega⟩
  have FI : (F : Int) < 9 := by omega
  have HA := Lib.hid (fun w hT => awake6_any w hT)
  have HN := Lib.hid (fun v (hb : Below w.heap.size w v) (hT' : Tab v) => pw_new hb hT' hT.pos 9 (by omega) (by omega))
  have HZ := Lib.hid hz
  have HB := Lib.hid (Below.refl w.heap.size w)
  obtain ⟨hzw, hiw⟩ := zero_of_info infoWant
  have hi16 : (Tryd.prog.info? 52).map (·.size) = some 16 := by kernel_rfl
  have hW0 : (List.replicate 144 (0 : Int)).length = 144 := by simp
  have HG0 := Lib.hid lg_new
  generalize List.replicate 144 (0 : Int) = W0 at *
  have HI16 := Lib.hid hi16
  clear hz hiw hi16
  go_enter Tryd.func4, Tryd.ntmps4
  go_wp2_with (first
    | (go_at_call 10; refine (HA.out _ hT).mono ?_; rintro e v0 ⟨rfl, hb⟩; have hB := HB.out.trans hb; replace hT := hT.below hb hT.pos; clear hb)
    | (go_at_call 11; refine (HN.out _ hB hT).mono ?_; rintro e v1 ⟨p, h, g, rfl, hS⟩; clear hB))
  have hM := Mm.new hS 53 (ucells W0)
  obtain ⟨b, hb⟩ : ∃ b, v1.heap.size = b := ⟨_, rfl⟩
  rw [hb] at hM ⊢
  rw [taken_zero] at hM
  have HM := Lib.hid hM
  clear hM hS hT HN hb
  go_loopw [11, 12, 13] (fun i _ _ wr => ∃ k : Nat, k ≤ 8 ∧ i = .int .i64 k ∧ Mm w wr p h g b 53 (ucells W0) (takenP k)) (fun i _ _ _ => 8 - (intOf i).toNat)
  case atStart => exact ⟨0, by omega, rfl, HM.out⟩
  case round =>
    clear HM
    obtain ⟨k, hk, rfl, hM⟩ := hrel
    by_cases hlt : k < 8
    · go_wp2_with (go_at_call 14; refine (c_take hM hlt).mono ?_; rintro e v3 ⟨rfl, hM3⟩; clear hM)
      go_roundw
      case rel => exact ⟨k + 1, by omega, by go_num, hM3⟩
      case measure => simp [intOf]; omega
    · obtain rfl : k = 8 := by omega
      have HM := Lib.hid hM
      clear hM hlt hk
      rw [show ((8 : Nat) : Int) = 8 from rfl]
      go_wp2_with fail
      generalize wr = wr0 at *
      go_loopw [10, 14, 15, 16, 17, 18, 19] (fun nv i _ _ _ _ _ wr => ∃ (k n : Nat) (X : Pol) (W : List Int), k ≤ l.length ∧ k ≤ 30 ∧ i = .int .i64 k ∧ nv = .int .i64 n ∧ Mm w wr p h g b 53 (ucells W) X ∧ Lg n X W) (fun _ i _ _ _ _ _ _ => l.length - (intOf i).toNat)
      case atStart => exact ⟨0, 8, _, _, Nat.zero_le _, by omega, rfl, rfl, HM.out, HG0.out⟩
      case round =>
        clear HM
        obtain ⟨k, n, X, W, hk, hk30, rfl, rfl, hM, hL⟩ := hrel
        by_cases hlt : k < l.length ∧ k < 30
        · obtain ⟨hk1, hk2⟩ := hlt
          have d30 : decide ((k : Int) < 30) = true := decide_eq_true (by omega)
          obtain ⟨ad, rfl, hab, hc0, hc1, hc2⟩ := HZ.out k hk1
          have hbk : ∀ i, (ad.add i).block < w.heap.size := fun i => by rw [show (ad.add i).block = ad.block by unfold Addr.add; split <;> rfl]; exact hab
          have HC : Hid (∀ v, Below w.heap.size w v → v.cell? (ad.add (k * 3)) = some (.int .i64 l[k].1) ∧ v.cell? { block := (ad.add (k * 3)).block, off := (ad.add (k * 3)).off + 1, spot := none } = some (.int .i64 l[k].2.1) ∧ v.cell? { block := (ad.add (k * 3)).block, off := (ad.add (k * 3)).off + 2, spot := none } = some (.int .i64 l[k].2.2)) := fun v hv => by
            refine ⟨(hv.cell (hbk _)).trans hc0, ?_, ?_⟩
            · show v.cell? ((ad.add (k * 3)).add 1) = _
              rw [Go.Deep.add_add]
              exact (hv.cell (hbk _)).trans hc1
            · show v.cell? ((ad.add (k * 3)).add 2) = _
              rw [Go.Deep.add_add]
              exact (hv.cell (hbk _)).trans hc2
          clear hbk hc0 hc1 hc2 hab
          generalize l[k].1 = z0 at *
          generalize l[k].2.1 = z1 at *
          generalize l[k].2.2 = z2 at *
          obtain ⟨j, m1, m2⟩ : ∃ j : Nat, bits .and .i64 z1 15 = j ∧ j < 16 := by
            have e : bits .and .i64 z1 15 = z1 % (2 : Int) ^ 4 := i64_and_mask z1 4 15 (by omega) (by decide)
            rw [show (2 : Int) ^ 4 = 16 by decide] at e
            exact ⟨(z1 % 16).toNat, by rw [e]; omega, by omega⟩
          obtain ⟨x, x2, x0, x1⟩ : ∃ x : Int, bits .and .u64 (IntKind.u64.wrap z2) 4294967295 = x ∧ 0 ≤ x ∧ x < 4294967296 := by
            obtain ⟨N, hN⟩ : ∃ N : Nat, IntKind.u64.wrap z2 = N := ⟨(IntKind.u64.wrap z2).toNat, by rw [IntKind.wrap_u64]; omega⟩
            have hN2 : N < 18446744073709551616 := by rw [IntKind.wrap_u64] at hN; omega
            have e := u64_and_mask N 32 4294967295 hN2 (by omega) (by decide)
            exact ⟨((N % 2 ^ 32 : Nat) : Int), by rw [hN]; exact e, by omega, by omega⟩
          have e4 : ((4 * j : Nat) : Int) = 4 * (j : Int) := by omega
          have jI : (j : Int) < 16 := by omega
          have hn := hL.nn
          rcases hn with rfl | rfl
          · rw [show ((8 : Nat) : Int) = 8 from rfl]
            obtain ⟨r, f, n1, n2, n3, n4, n5, n6⟩ := num_of z0 (n := 8) (.inl rfl)
            have fI : (f : Int) < 9 := by omega
            by_cases hkB : (k : Int) = B
            · subst hkB
              clear r f n1 n2 n3 n4 n5 n6 fI
              obtain ⟨r, f, n1, n2, n3, n4, n5, n6⟩ := num_of z0 (n := 9) (.inr rfl)
              have hf : f < 9 := by omega
              have hst := fun (v : World) (X : Pol) (W : List Int) (s : Mm w v p h g b 53 (ucells W) X) (l : Lg 9 X W) => c_store s l hf m2 x0 x1
              simp only [e4] at hst
              have HST := Lib.hid hst
              have HCP := Lib.hid (c_copy hM hL F8)
              have HLW := Lib.hid hL.lenW
              clear hst e4
              go_wp2_with (first
                | (go_at_call 23; refine HCP.out.mono ?_; rintro e v5 ⟨rfl, Y, hM5, hL5⟩; clear hM)
                | (refine wpList_load_at rfl 52 (.tmp 77) rfl b (F * 16) 16 rfl 53 (ucells W) _ hM5.blk Tryd.underlying52 rfl HI16.out (by simp [ucells, HLW.out]; omega) ?_)
                | (refine wpList_store_at rfl 52 (.tmp 79) (.tmp 78) rfl b 128 16 _ rfl rfl 53 (ucells W) hM5.blk HI16.out (by simp [ucells, HLW.out]; omega) (by simp [ucells, HLW.out]) (fun v hv => by have := List.mem_of_mem_take hv; have := List.mem_of_mem_drop this; simp [ucells] at this; obtain ⟨_, _, rfl⟩ := this; rfl) ?_
                   intro v6 hv6
                   have hM6 : Mm w v6 p h g b 53 (ucells (copyW W F)) Y := by rw [hv6, copy_row HLW.out]; exact hM5.row _
                   obtain ⟨c0, c1, c2⟩ := HC.out _ hM6.sw.bel
                   clear hM5 hv6)
                | (go_at_call 27; refine (HST.out _ _ _ hM6 hL5).mono ?_; rintro e v7 ⟨rfl, Y7, hM7, hL7⟩; have c7 := hM7.blk.at_ _ _ (ucells_at (hL5.val f j hf m2)); have f7 := hM7.blk.frozen (f * 16 + j); have HM7 := Lib.hid hM7; have HL7 := Lib.hid hL7; clear hM6 hM7 hL7 c0 c1 c2))
              go_roundw
              case rel => exact ⟨k + 1, 9, Y7, _, by omega, by omega, by go_num, rfl, by rw [← ucells_set]; exact HM7.out.store _ _, HL7.out⟩
              case measure => simp [intOf]; omega
            · have hkb : ((k : Int) == B) = false := by simpa using hkB
              have hf : f < 8 := by omega
              have hst := fun (v : World) (X : Pol) (W : List Int) (s : Mm w v p h g b 53 (ucells W) X) (l : Lg 8 X W) => c_store s l hf m2 x0 x1
              simp only [e4] at hst
              have HST := Lib.hid hst
              clear hst e4 hkB
              obtain ⟨c0, c1, c2⟩ := HC.out _ hM.sw.bel
              go_wp2_with (go_at_call 27; refine (HST.out _ _ _ hM hL).mono ?_; rintro e v7 ⟨rfl, Y7, hM7, hL7⟩; have c7 := hM7.blk.at_ _ _ (ucells_at (hL.val f j hf m2)); have f7 := hM7.blk.frozen (f * 16 + j); have HM7 := Lib.hid hM7; have HL7 := Lib.hid hL7; clear hM hM7 hL7 c0 c1 c2)
              go_roundw
              case rel => exact ⟨k + 1, 8, Y7, _, by omega, by omega, by go_num, rfl, by rw [← ucells_set]; exact HM7.out.store _ _, HL7.out⟩
              case measure => simp [intOf]; omega
          · rw [show ((9 : Nat) : Int) = 9 from rfl]
            obtain ⟨r, f, n1, n2, n3, n4, n5, n6⟩ := num_of z0 (n := 9) (.inr rfl)
            have fI : (f : Int) < 9 := by omega
            have hf : f < 9 := by omega
            have hst := fun (v : World) (X : Pol) (W : List Int) (s : Mm w v p h g b 53 (ucells W) X) (l : Lg 9 X W) => c_store s l hf m2 x0 x1
            simp only [e4] at hst
            have HST := Lib.hid hst
            clear hst e4
            obtain ⟨c0, c1, c2⟩ := HC.out _ hM.sw.bel
            obtain ⟨kb, hkb⟩ : ∃ kb, ((k : Int) == B) = kb := ⟨_, rfl⟩
            cases kb
            all_goals
              go_wp2_with (go_at_call 27; refine (HST.out _ _ _ hM hL).mono ?_; rintro e v7 ⟨rfl, Y7, hM7, hL7⟩; have c7 := hM7.blk.at_ _ _ (ucells_at (hL.val f j hf m2)); have f7 := hM7.blk.frozen (f * 16 + j); have HM7 := Lib.hid hM7; have HL7 := Lib.hid hL7; clear hM hM7 hL7 c0 c1 c2)
              go_roundw
              case rel => exact ⟨k + 1, 9, Y7, _, by omega, by omega, by go_num, rfl, by rw [← ucells_set]; exact HM7.out.store _ _, HL7.out⟩
              case measure => simp [intOf]; omega
        · have HM := Lib.hid hM
          have HL := Lib.hid hL
          have hn9 : n ≤ 9 := by rcases hL.nn with h | h <;> omega
          have hl2 : (k < l.length ∧ ¬ k < 30) ∨ ¬ k < l.length := by omega
          clear hlt hM hL
          generalize wr = wr1 at *
          rcases hl2 with ⟨h1, h2⟩ | h1
          all_goals
            go_wp2_with fail
            go_loopw [20, 21, 22, 23] (fun fo _ _ _ wx => ∃ f : Nat, f ≤ n ∧ fo = .int .i64 f ∧ Mm w wx p h g b 53 (ucells W) X) (fun fo _ _ _ _ => n - (intOf fo).toNat)
            case atStart => exact ⟨0, Nat.zero_le _, rfl, HM.out⟩
            case round =>
              obtain ⟨f, hf, rfl, hM⟩ := hrel
              by_cases hfn : f < n
              · have HM3 := Lib.hid hM
                clear hM
                generalize wr = wr2 at *
                go_wp2_with fail
                go_loopw [21, 22, 23] (fun ko _ _ wx => ∃ j : Nat, j ≤ 16 ∧ ko = .int .i64 j ∧ Mm w wx p h g b 53 (ucells W) X) (fun ko _ _ _ => 16 - (intOf ko).toNat)
                case atStart => exact ⟨0, by omega, rfl, HM3.out⟩
                case round =>
                  clear HM3
                  obtain ⟨j, hj, rfl, hM⟩ := hrel
                  by_cases hj16 : j < 16
                  · have hval := HL.out.val f j hfn hj16
                    have hld := fun (v : World) (s : Mm w v p h g b 53 (ucells W) X) => c_load s HL.out hfn hj16 hval
                    rw [show ((4 * j : Nat) : Int) = 4 * (j : Int) by omega] at hld
                    have c7 := Lib.hid (ucells_at hval)
                    generalize w4 (X.S.getD f ⟨#[]⟩) j = y at *
                    have HLD := Lib.hid hld
                    have fI : (f : Int) < 9 := by omega
                    clear hld hval
                    go_wp2_with (go_at_call 25; refine (HLD.out _ hM).mono ?_; rintro e v7 ⟨rfl, hM7⟩; have c8 := hM7.blk.at_ _ _ c7.out; clear hM)
                    go_roundw
                    case rel => exact ⟨j + 1, by omega, by go_num, hM7⟩
                    case measure => simp [intOf]; omega
                  · have HM4 := Lib.hid hM
                    clear hM
                    go_wp2
                    go_roundw
                    case rel => exact ⟨f + 1, by omega, by go_num, HM4.out⟩
                    case measure => simp [intOf]; omega
              · have HM4 := Lib.hid hM
                clear hM
                go_wp2
                go_ret
                exact ⟨rfl, HM4.out.sw.bel⟩

set_option maxRecDepth 100000 in
theorem lifted (os : Os) (started : os.Started) (H : Type) (enc : TypeId × Value → H) :
    ReturnsInHanded {} Tryd.checked os 4 .any (fun w args => (Rows.framesApartSpec.pre enc Tryd.prog Tryd.f4 Rows.framesApartRow.domain false w args ∧ laidMet Tryd.prog Rows.framesApartRow.laid w) ∧ sizedMet enc Tryd.prog Tryd.f4 (OpenSpec.ofChange Rows.framesApartSpec) false w args) (Rows.framesApartSpec.post enc Tryd.prog Tryd.f4 false true false false) := by
  refine returnsInHanded_of_change_and (C := Tryd.checked) (X := fun w _ => laidMet Tryd.prog Rows.framesApartRow.laid w) (fun _ _ _ hh h => h.of_heap hh) own started (by kernel_rfl) Tryd.func4
    (ChangeSpec.witness_at (enc := enc) (C := Tryd.checked) (os := os) (X := fun w _ => laidMet Tryd.prog Rows.framesApartRow.laid w) false (laidWorld os) #[.slice none 0 0, .int .i64 0, .int .i64 0] 8 rfl (by kernel_rfl) (by kernel_rfl) (by kernel_rfl) (by kernel_rfl) (by kernel_rfl) (laid_met os _)) ?_
  intro W base args ds gs before hval0 hW hcnd _ hL _
  have hval : ∀ (j : Nat) t v, Tryd.f4.params[j]? = some t → args[j]? = some v → Value.okWide Tryd.prog W .any base t v := hval0
  have hW' := hW
  obtain ⟨p, q, hA0, hV, rfl, hfz, hnd⟩ := hW
  have hA : DataW.TrodAll enc Tryd.prog W 0 (fun _ => true) true Tryd.f4.params.toList args.toList ds p := hA0
  rw [Tryd.params4] at hA hval
  obtain ⟨v0, vs0, d0, ds0, p0, q0, hargs, rfl, rfl, h0, r0⟩ := trodAll_cons hA
  obtain ⟨v1, vs1, d1, ds1, p1, q1, rfl, rfl, rfl, h1, r1⟩ := trodAll_cons r0
  obtain ⟨v2, vs2, d2, ds2, p2, q2, rfl, rfl, rfl, h2, r2⟩ := trodAll_cons r1
  obtain ⟨rfl, rfl, rfl⟩ := trodAll_nil r2
  obtain rfl : args = #[v0, v1, v2] := by cases args; simp_all
  obtain ⟨rfl, rfl⟩ := trodVars_none hV
  have k0 := h0
  have lt0 : ∀ x ∈ p0, x.block < W.heap.size := by obtain ⟨m, hm⟩ := k0; exact DataW.trod_lt m _ _ _ hm
  obtain ⟨LA0, Ll0, Lc0, rfl, Lm0, Lr0⟩ := openTris (hval 0 51 v0 rfl rfl) h0
  have k1 := h1
  have lt1 : ∀ x ∈ p1, x.block < W.heap.size := by obtain ⟨m, hm⟩ := k1; exact DataW.trod_lt m _ _ _ hm
  obtain ⟨a1, rfl, _, _, w1⟩ := open_int Tryd.underlying3 (hval 1 3 v1 rfl rfl) h1
  have k2 := h2
  have lt2 : ∀ x ∈ p2, x.block < W.heap.size := by obtain ⟨m, hm⟩ := k2; exact DataW.trod_lt m _ _ _ hm
  obtain ⟨a2, rfl, _, _, w2⟩ := open_int Tryd.underlying3 (hval 2 3 v2 rfl rfl) h2
  clear hA0 hval0
  refine (walk LA0 Ll0 Lc0 a1 a2 W Lm0 Lr0 w1 w2 (tab_of_laid hL)).mono fun e W' ⟨he, bel⟩ => ?_
  subst he
  exact ⟨_, rfl, _, _, _, [], _, [], hW', trodAll_mk1 (shut_bool Tryd.underlying4 _), (trodAll_cons_mk (Below.trod laidOut (by kernel_rfl) (of_decide_eq_true (by kernel_rfl)) k0 bel lt0) (trodAll_cons_mk (Below.trod laidOut (by kernel_rfl) (of_decide_eq_true (by kernel_rfl)) k1 bel lt1) (trodAll_cons_mk (Below.trod laidOut (by kernel_rfl) (of_decide_eq_true (by kernel_rfl)) k2 bel lt2) trodAll_mk0))), rfl, bel.frame _, fun h => by cases h⟩
theorem over : Rows.framesApartRow.holds Tryd.pinned (OpenSpec.ofChange Rows.framesApartSpec) :=
  OpenClaim.holds_of_wide 4 Tryd.f4 rfl rfl rfl rfl rfl rfl rfl ⟨rfl, rfl, rfl, rfl, rfl⟩ rfl rfl rfl rfl rfl (by kernel_rfl) Tryd.func4 (by kernel_rfl)
    (of_decide_eq_true (by kernel_rfl)) (by unfold Func.isWrapper; first | (rw [if_pos (by decide +kernel)]; kernel_rfl) | (rw [if_neg (by decide +kernel)]; exact ⟨rfl, rfl⟩))
    (fun os started H enc _ => lifted os started H enc)
/-- The statement. -/
theorem proved : Rows.FramesApartCardSaid :=
  Claim7.holds_tied_plain_at .later [] [.data] true _ false over (fun _ h => by cases h) (by kernel_rfl) (fun _ h => by cases h) framesApart_row_tie rfl ⟨rfl, rfl⟩ (by kernel_rfl) rfl
    (fun f fn hf hfn => by
      obtain rfl : f = 4 := Option.some.inj (hf.symm.trans (by kernel_rfl))
      obtain rfl : fn = Tryd.f4 := Option.some.inj (hfn.symm.trans Tryd.func4)
      refine ⟨by kernel_rfl, fun j t ht => ?_⟩
      rw [Tryd.params4] at ht
      match j, ht with
      | 0, ht =>
        obtain rfl : t = 51 := by simpa using ht.symm
        exact (by kernel_rfl : Tryd.pinned.checked.prog.wantsStandIn 51 = false)
      | 1, ht =>
        obtain rfl : t = 3 := by simpa using ht.symm
        exact (by kernel_rfl : Tryd.pinned.checked.prog.wantsStandIn 3 = false)
      | 2, ht =>
        obtain rfl : t = 3 := by simpa using ht.symm
        exact (by kernel_rfl : Tryd.pinned.checked.prog.wantsStandIn 3 = false)
      | j + 3, ht => simp at ht)
    (by kernel_rfl)
end Go.Proofs.YtdelmhcbmlbojaaDoor.lawApart
