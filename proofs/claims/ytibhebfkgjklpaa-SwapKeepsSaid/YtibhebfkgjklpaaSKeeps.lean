/- SwapKeeps: for any row of ints: what was put is got, as long as it is held; no two held slots are one. -/
import Derived.Test.YtibhebfkgjklpaaSD
import Derived.Test.YtibhebfkgjklpaaBits
import Derived.Deep.CutRange
namespace Go.Proofs.Ytibhebfkgjklpaa.lawKeeps
open Go.ChangeShapes Go.WideShapes Go.ChangeAt Go.RowKit
set_option linter.unusedVariables false

def bI (b : Bool) : Int := if b then 1 else 0
theorem freeAt_all {H : List Int} (h : freeAt H = H.length) {j : Nat} (hj : j < H.length) : H[j] ≠ 0 := fun h0 => by
  have := freeAt_hit hj (by omega) h0
  omega

/-- What the area has to do with the two rows of the law. -/
structure Lg (B : List Bool) (V : List Int) (X : Swp) : Prop where
  fit : Fit X
  first : X.first = 0
  lenB : B.length = 8
  lenV : V.length = 8
  H : X.H = B.map bI
  S : ∀ k, B[k]? = some true → X.D.S[k]? = some (pageS (V.getD k 0))
section
variable {B : List Bool} {V : List Int} {X : Swp}
theorem Lg.lenH (l : Lg B V X) : X.H.length = 8 := by rw [l.H, List.length_map, l.lenB]
theorem Lg.at_ (l : Lg B V X) {j : Nat} (hj : j < 8) : ∃ b, B[j]? = some b ∧ X.H[j]? = some (bI b) := ⟨B[j]'(by rw [l.lenB]; exact hj), List.getElem?_eq_getElem _, by rw [l.H, List.getElem?_map, List.getElem?_eq_getElem (by rw [l.lenB]; exact hj)]; rfl⟩
theorem Lg.ask (l : Lg B V X) {j : Nat} (hj : j < 8) {b : Bool} (hb : B[j]? = some b) : askE X.H j = if b then 0 else 13 := by
  obtain ⟨b', h1, h2⟩ := l.at_ hj
  rw [hb] at h1
  cases h1
  obtain ⟨h3, h4⟩ := List.getElem?_eq_some_iff.1 h2
  rw [askE_in h3, h4]
  cases b <;> rfl
theorem Lg.put (l : Lg B V X) {Y : Swp} {k : Nat} {i : Int} (hk : k < 8) (hf : Fit Y) (h1 : Y.first = X.first) (h2 : Y.H = X.H.set k 1) (h3 : Y.D.S = X.D.S.set (X.first + k).toNat (pageS i)) : Lg (B.set k true) (V.set k i) Y := by
  have hS : X.H.length ≤ X.D.S.length := by have := l.fit.f1; have := l.first; omega
  have h8 := l.lenH
  refine ⟨hf, by rw [h1, l.first], by simp [l.lenB], by simp [l.lenV], by rw [h2, l.H, List.map_set]; rfl, fun j hj => ?_⟩
  rw [h3, l.first, show ((0 : Int) + (k : Int)).toNat = k by omega, List.getElem?_set]
  by_cases e : k = j
  · subst e
    rw [if_pos rfl, if_pos (by omega)]
    simp [List.getD, l.lenV, hk]
  · rw [List.getElem?_set, if_neg e] at hj
    rw [if_neg e, l.S j hj]
    simp [List.getD, e]
theorem Lg.free (l : Lg B V X) {j : Nat} (hj : j < 8) : Lg (B.set j false) V (X.addX j (-1)) := by
  obtain ⟨f1, f2, f3⟩ := l.fit.add j (-1)
  obtain ⟨b, hb, hH⟩ := l.at_ hj
  refine ⟨f1, by rw [f2, l.first], by simp [l.lenB], l.lenV, ?_, fun k hk => ?_⟩
  · rw [addX_H, addH, l.ask hj hb]
    cases b
    · rw [if_neg (by decide), l.H]
      apply List.ext_getElem?
      intro m
      rw [List.getElem?_map, List.getElem?_map, List.getElem?_set]
      by_cases e : j = m
      · subst e
        rw [if_pos rfl, if_pos (by rw [l.lenB]; exact hj), hb]
      · rw [if_neg e]
    · rw [if_pos (by decide), show ((j : Nat) : Int).toNat = j by omega]
      have : X.H.getD j 0 = 1 := by simp [List.getD, hH, bI]
      rw [this, show wrap64 (1 + -1) = 0 by decide +kernel, l.H, List.map_set]
      rfl
  · rw [f3]
    apply l.S
    rw [List.getElem?_set] at hk
    by_cases e : j = k
    · rw [if_pos e] at hk
      split at hk <;> simp at hk
    · rw [if_neg e] at hk
      exact hk
theorem Lg.get (l : Lg B V X) (s : Int) : Lg B V (X.gtX s) := by
  obtain ⟨f1, f2, f3, f4⟩ := l.fit.gt s
  exact ⟨f1, by rw [f2, l.first], l.lenB, l.lenV, by rw [f3, l.H], fun k hk => by rw [f4]; exact l.S k hk⟩
theorem Lg.gtS (l : Lg B V X) {j : Nat} (hj : j < 8) (hb : B[j]? = some true) : X.gtS j = pageS (V.getD j 0) := by
  unfold Swp.gtS
  rw [l.ask hj hb, if_pos (by decide)]
  unfold Dsk.rdS
  rw [if_pos (l.fit.has (by rw [l.lenH]; exact hj)), l.first, show ((0 : Int) + (j : Int)).toNat = j by omega]
  simp [List.getD, l.S j hb]
theorem Lg.gtN (l : Lg B V X) {j : Nat} (hj : j < 8) (hb : B[j]? = some false) : X.gtS j = ⟨#[]⟩ := by
  unfold Swp.gtS
  rw [l.ask hj hb, if_neg (by decide)]
end

/-- The area, and the two rows. -/
structure Mem (w cur : World) (p g q h a b : Nat) (B : List Bool) (V : List Int) (X : Swp) : Prop where
  sw : Sw w cur p g q h X
  wa : w.heap.size ≤ a
  wb : w.heap.size ≤ b
  ab : a ≠ b
  fa : a ≠ p ∧ a ≠ g ∧ a ≠ q ∧ a ≠ h
  fb : b ≠ p ∧ b ≠ g ∧ b ≠ q ∧ b ≠ h
  blkB : Blk cur a 51 (B.map Value.bool).toArray
  blkV : Blk cur b 52 (icells V)
section
variable {w v nxt : World} {p g q h a b : Nat} {B : List Bool} {V : List Int} {X Y : Swp}
theorem Mem.on (m : Mem w v p g q h a b B V X) (hb : Below v.heap.size v nxt) : Mem w nxt p g q h a b B V X := ⟨m.sw.on hb, m.wa, m.wb, m.ab, m.fa, m.fb, m.blkB.below hb m.blkB.lt, m.blkV.below hb m.blkV.lt⟩
theorem Mem.but (m : Mem w v p g q h a b B V X) (hb : But (fun j => j = p ∨ j = g ∨ j = h) v nxt) (ha : Ar nxt p g q h Y) : Mem w nxt p g q h a b B V Y :=
  ⟨m.sw.but hb ha, m.wa, m.wb, m.ab, m.fa, m.fb, m.blkB.but hb (by have := m.fa; rintro (e | e | e) <;> omega), m.blkV.but hb (by have := m.fb; rintro (e | e | e) <;> omega)⟩
theorem Sw.far (s : Sw w v p g q h X) {k : Addr} (h0 : w.heap.size ≤ k.block) (h1 : k.block ≠ p) (h2 : k.block ≠ g) (h3 : k.block ≠ q) (h4 : k.block ≠ h) (u : Value) : Sw w (v.setCell k u) p g q h X :=
  ⟨s.wp, s.wg, s.wq, s.wh, s.bel.setCell h0 _, ⟨⟨s.ar.dk.ne, s.ar.dk.head.far (fun e => h1 e.symm) _, s.ar.dk.row.far (fun e => h2 e.symm) _, s.ar.dk.all, s.ar.dk.len⟩, s.ar.head.far (fun e => h3 e.symm) _, s.ar.row.far (fun e => h4 e.symm) _, s.ar.qp, s.ar.qg, s.ar.hp, s.ar.hg, s.ar.qh, s.ar.len, s.ar.f0, s.ar.f1⟩⟩
theorem Mem.storeB (m : Mem w v p g q h a b B V X) (j : Nat) (x : Bool) : Mem w (v.setCell ⟨a, j, none⟩ (.bool x)) p g q h a b (B.set j x) V X := by
  refine ⟨Sw.far (k := ⟨a, j, none⟩) m.sw m.wa m.fa.1 m.fa.2.1 m.fa.2.2.1 m.fa.2.2.2 _, m.wa, m.wb, m.ab, m.fa, m.fb, ?_, m.blkV.far (p := ⟨a, j, none⟩) (fun e => m.ab e.symm) _⟩
  have := m.blkB.set_ j (.bool x)
  rw [List.map_set]
  simpa using this
theorem Mem.storeV (m : Mem w v p g q h a b B V X) (j : Nat) (x : Int) : Mem w (v.setCell ⟨b, j, none⟩ (.int .i64 x)) p g q h a b B (V.set j x) X := by
  refine ⟨Sw.far (k := ⟨b, j, none⟩) m.sw m.wb m.fb.1 m.fb.2.1 m.fb.2.2.1 m.fb.2.2.2 _, m.wa, m.wb, m.ab, m.fa, m.fb, m.blkB.far (p := ⟨b, j, none⟩) m.ab _, ?_⟩
  have := m.blkV.set_ j (.int .i64 x)
  rw [icells_set] at this
  exact this
theorem Mem.cellB (m : Mem w v p g q h a b B V X) {j : Nat} {x : Bool} (hx : B[j]? = some x) : v.cell? ⟨a, j, none⟩ = some (.bool x) := m.blkB.at_ j _ (by simp [hx])
theorem Mem.cellV (m : Mem w v p g q h a b B V X) (hV : V.length = 8) {j : Nat} (hj : j < 8) : v.cell? ⟨b, j, none⟩ = some (.int .i64 (V.getD j 0)) := m.blkV.at_ j _ (by
  rw [icells_at (show j < V.length by omega)]
  simp [List.getD, show j < V.length by omega])

theorem st_put (m : Mem w v p g q h a b B V X) (l : Lg B V X) {k : Nat} (hk : freeAt X.H = k) (h8 : k < 8) (i : Int) : Calls Try.prog 14 #[.pointer (some ⟨q, 0, none⟩), .string (pageS i)] v fun e v' =>
    e = .returned (.tuple #[.int .i64 k, .int .i64 0]) ∧ ∃ Y, Mem w v' p g q h a b B V Y ∧ Lg (B.set k true) (V.set k i) Y :=
  (put_to m.sw.ar l.fit rfl rfl rfl hk (by rw [l.lenH]; exact h8) (pageS_size i)).mono fun e v' ⟨Y, he, hb, ha, hf, h1, h2, h3⟩ => ⟨he, Y, m.but hb ha, l.put h8 hf h1 h2 h3⟩
theorem st_full (m : Mem w v p g q h a b B V X) (l : Lg B V X) (hk : freeAt X.H = 8) (i : Int) : Calls Try.prog 14 #[.pointer (some ⟨q, 0, none⟩), .string (pageS i)] v fun e v' =>
    e = .returned (.tuple #[.int .i64 0, .int .i64 15]) ∧ Mem w v' p g q h a b B V X :=
  (put_full m.sw.ar l.fit (by rw [hk, l.lenH]) (pageS_size i)).mono fun e v' ⟨he, hb, ha⟩ => ⟨he, m.but hb ha⟩
theorem st_free (m : Mem w v p g q h a b B V X) (l : Lg B V X) {j : Nat} (hj : j < 8) {x : Bool} (hx : B[j]? = some x) (r : Int) (hr : r = if x then 0 else 13) : Calls Try.prog 20 #[.pointer (some ⟨q, 0, none⟩), .int .i64 j] v fun e v' =>
    e = .returned (.int .i64 r) ∧ ∃ Y, Mem w v' p g q h a b B V Y ∧ Lg (B.set j false) V Y :=
  (free_any m.sw.ar j).mono fun e v' ⟨he, hb, ha⟩ => ⟨by rw [he, l.ask hj hx, hr], _, m.but (hb.mono fun _ e => .inr (.inr e)) ha, l.free hj⟩
theorem st_get (m : Mem w v p g q h a b B V X) (l : Lg B V X) {j : Nat} (hj : j < 8) (hx : B[j]? = some true) : Calls Try.prog 16 #[.pointer (some ⟨q, 0, none⟩), .int .i64 j] v fun e v' =>
    e = .returned (.tuple #[.string (pageS (V.getD j 0)), .int .i64 0]) ∧ ∃ Y, Mem w v' p g q h a b B V Y ∧ Lg B V Y :=
  (get_any m.sw.ar j).mono fun e v' ⟨he, hb, ha⟩ => ⟨by rw [he, l.fit.gtE, l.ask hj hx, l.gtS hj hx]; rfl, _, m.but (hb.mono fun _ e => .inl e) ha, l.get j⟩
theorem st_none (m : Mem w v p g q h a b B V X) (l : Lg B V X) {j : Nat} (hj : j < 8) (hx : B[j]? = some false) : Calls Try.prog 16 #[.pointer (some ⟨q, 0, none⟩), .int .i64 j] v fun e v' =>
    e = .returned (.tuple #[.string ⟨#[]⟩, .int .i64 13]) ∧ ∃ Y, Mem w v' p g q h a b B V Y ∧ Lg B V Y :=
  (get_any m.sw.ar j).mono fun e v' ⟨he, hb, ha⟩ => ⟨by rw [he, l.fit.gtE, l.ask hj hx, l.gtN hj hx]; rfl, _, m.but (hb.mono fun _ e => .inl e) ha, l.get j⟩
end

set_option maxRecDepth 100000 in
set_option maxHeartbeats 6400000 in
theorem walk (A : Option Addr) (l : List Int) (c : Nat) (w : World) (hm : l.length ≤ maxLen) (hz : IntRow w A l) :
    Calls Try.prog 5 #[.slice A l.length c] w fun e w' => e = .returned (.bool true) ∧ Below w.heap.size w w' := by
  unfold maxLen at hm
  have HA := Lib.hid (fun w => awake5_any w)
  have HN := Lib.hid (fun w => new_made 8 w (by omega) (by omega))
  have HS := Lib.hid (fun (w : World) p g (d : Dk w p g (newD 8)) => snew_made d 0 8 ⟨by omega, by omega, by omega, by simp [newD]⟩)
  have HP := Lib.hid (fun n w => page_any n w)
  have HZ := Lib.hid hz
  clear hz
  have hB := Below.refl w.heap.size w
  go_enter Try.func5, Try.ntmps5
  go_wp2_with (first
    | (go_at_call 9; refine (HA.out _).mono ?_; rintro e v0 ⟨rfl, hb⟩; replace hB := hB.trans (hb.mono hB.size); clear hb)
    | (go_at_call 11; refine (HN.out _).mono ?_; rintro e v1 ⟨p, g, rfl, hp, hg, hb, hd⟩)
    | (go_at_call 10; refine (HS.out _ _ _ hd).mono ?_; rintro e v2 ⟨q, h, rfl, hq, hh, hb2, ha⟩
       have hS : Sw w v2 p g q h (newX (newD 8) 0 8) := by
         have s1 := hB.size
         have s2 := hb.size
         exact ⟨Nat.le_trans s1 hp, Nat.le_trans s1 hg, by omega, by omega, (hB.trans (hb.mono s1)).trans (hb2.mono (by omega)), ha⟩
       clear hp hg hb hd hq hh hb2 ha hB))
  have hM : Mem w ((v2.alloc (.cells #[.bool false, .bool false, .bool false, .bool false, .bool false, .bool false, .bool false, .bool false] 51)).alloc (.cells #[.int .i64 0, .int .i64 0, .int .i64 0, .int .i64 0, .int .i64 0, .int .i64 0, .int .i64 0, .int .i64 0] 52)) p g q h v2.heap.size (v2.heap.size + 1)
      (List.replicate 8 false) (List.replicate 8 0) (newX (newD 8) 0 8) := by
    have s1 := hS.bel.size
    have l1 := hS.ar.dk.head.lt
    have l2 := hS.ar.dk.row.lt
    have l3 := hS.ar.head.lt
    have l4 := hS.ar.row.lt
    have k1 := (Blk.new v2 51 #[.bool false, .bool false, .bool false, .bool false, .bool false, .bool false, .bool false, .bool false]).alloc (.cells #[.int .i64 0, .int .i64 0, .int .i64 0, .int .i64 0, .int .i64 0, .int .i64 0, .int .i64 0, .int .i64 0] 52)
    have k2 := Blk.new (v2.alloc (.cells #[.bool false, .bool false, .bool false, .bool false, .bool false, .bool false, .bool false, .bool false] 51)) 52 #[.int .i64 0, .int .i64 0, .int .i64 0, .int .i64 0, .int .i64 0, .int .i64 0, .int .i64 0, .int .i64 0]
    rw [World.size_alloc] at k2
    exact ⟨(hS.alloc _).alloc _, s1, by omega, by omega, ⟨by omega, by omega, by omega, by omega⟩, ⟨by omega, by omega, by omega, by omega⟩, k1, k2⟩
  have hL : Lg (List.replicate 8 false) (List.replicate 8 0) (newX (newD 8) 0 8) := ⟨newX_fit (n := 8) (first := 0) (k := 8) (by omega), rfl, by simp, by simp, rfl, fun k hk => by
    rw [List.getElem?_replicate] at hk
    split at hk <;> simp at hk⟩
  generalize v2.heap.size + 1 = b at *
  generalize v2.heap.size = a at *
  have HM := Lib.hid hM
  have HL := Lib.hid hL
  clear hM hL hS
  go_loopw [8, 9, 10, 11, 12, 13, 14, 15, 16, 17] (fun i _ _ _ _ _ _ _ _ _ wr => ∃ (k : Nat) (B : List Bool) (V : List Int) (X : Swp), k ≤ l.length ∧ k ≤ 40 ∧ i = .int .i64 k ∧ Mem w wr p g q h a b B V X ∧ Lg B V X) (fun i _ _ _ _ _ _ _ _ _ _ => l.length - (intOf i).toNat)
  case atStart => exact ⟨0, _, _, _, Nat.zero_le _, by omega, rfl, HM.out, HL.out⟩
  case round =>
    clear HM HL
    obtain ⟨k, B, V, X, hk, hk40, rfl, hM, hL⟩ := hrel
    by_cases hlt : k < l.length ∧ k < 40
    · obtain ⟨hk1, hk2⟩ := hlt
      have d40 : decide ((k : Int) < 40) = true := decide_eq_true (by omega)
      obtain ⟨ad, rfl, hab, hc0, _⟩ := HZ.out k hk1
      replace hc0 := (hM.sw.bel.cell (p := ad.add k) (by rw [show (ad.add k).block = ad.block by unfold Addr.add; split <;> rfl]; exact hab)).trans hc0
      generalize l[k] = x at *
      obtain ⟨r, hr, hr0⟩ : ∃ r : Int, bits .and .i64 x 1 = r ∧ (r = 0 ∨ r = 1) := ⟨x % 2, i64_and_mask x 1 1 (by omega) (by decide), by omega⟩
      rcases hr0 with rfl | rfl
      · obtain ⟨f, hf⟩ : ∃ f, freeAt X.H = f := ⟨_, rfl⟩
        by_cases h8 : f < 8
        · obtain ⟨z, hz, hz2⟩ := hL.at_ h8
          have hz3 : z = false := by
            obtain ⟨y1, y2⟩ := List.getElem?_eq_some_iff.1 hz2
            have := freeAt_hit y1 (by omega)
            have h0 := freeAt_zero (H := X.H) (by rw [hf]; exact y1)
            subst hf
            rw [y2] at h0
            cases z
            · rfl
            · exact absurd h0 (by decide)
          subst hz3
          have HG := Lib.hid (fun v (m : Mem w v p g q h a b B V X) => st_put m hL hf h8 k)
          have HX := Lib.hid hz
          clear hL hf hz hz2
          go_wp2_with (first
            | (go_at_call 13; refine (HP.out _ _).mono ?_; rintro e v3 ⟨rfl, hb3⟩; replace hM := hM.on hb3; clear hb3)
            | (go_at_call 14; refine (HG.out _ hM).mono ?_; rintro e v4 ⟨rfl, Y, hM4, hL4⟩; clear hM; have c4 := hM4.cellB HX.out; have f4 := hM4.blkB.frozen f; have f5 := hM4.blkV.frozen f; have c5 := hM4.cellV (by have := hL4.lenV; simpa using this) h8; have hab2 := hM4.ab; have hab3 := hM4.ab.symm))
          have HM := Lib.hid ((hM4.storeB f true).storeV f (k : Int))
          have HL := Lib.hid hL4
          clear hM4 hL4 c4 c5 f4 f5
          go_loopw [15, 16, 17] (fun i _ _ wx => ∃ (t : Nat) (Z : Swp), t ≤ 8 ∧ i = .int .i64 t ∧ Mem w wx p g q h a b (B.set f true) (V.set f (k : Int)) Z ∧ Lg (B.set f true) (V.set f (k : Int)) Z) (fun i _ _ _ => 8 - (intOf i).toNat)
          case atStart => exact ⟨0, Y, by omega, rfl, HM.out, HL.out⟩
          case round =>
            clear HM HL
            obtain ⟨t, Z, ht, rfl, hM, hL⟩ := hrel
            by_cases ht8 : t < 8
            · obtain ⟨x, hx, _⟩ := hL.at_ ht8
              cases x
              · have HG := Lib.hid (st_none hM hL ht8 hx)
                have HX := Lib.hid hx
                clear hM hL hx
                go_wp2_with (first
                  | (go_at_call 16; refine HG.out.mono ?_; rintro e v8 ⟨rfl, Z2, hM8, hL8⟩; have c8 := hM8.cellB HX.out))
                go_roundw
                case rel => exact ⟨t + 1, Z2, by omega, by go_num, hM8, hL8⟩
                case measure => simp [intOf]; omega
              · have HG := Lib.hid (st_get hM hL ht8 hx)
                have HX := Lib.hid hx
                clear hM hL hx
                go_wp2_with (first
                  | (go_at_call 16; refine HG.out.mono ?_; rintro e v8 ⟨rfl, Z2, hM8, hL8⟩; have c8 := hM8.cellB HX.out; have c9 := hM8.cellV hL8.lenV ht8)
                  | (go_at_call 13; refine (HP.out _ _).mono ?_; rintro e v9 ⟨rfl, hb9⟩; replace hM8 := hM8.on hb9; clear hb9))
                go_roundw
                case rel => exact ⟨t + 1, Z2, by omega, by go_num, hM8, hL8⟩
                case measure => simp [intOf]; omega
            · obtain rfl : t = 8 := by omega
              have HM := Lib.hid hM
              have HL := Lib.hid hL
              clear hM hL
              go_wp2
              go_roundw
              case rel => exact ⟨k + 1, (B.set f true), (V.set f (k : Int)), Z, by omega, by omega, by go_num, HM.out, HL.out⟩
              case measure => simp [intOf]; omega
        · have hf8 : f = 8 := by have := freeAt_le X.H; rw [hL.lenH] at this; omega
          subst hf8
          have hall : ∀ j, j < 8 → B[j]? = some true := fun j hj => by
            obtain ⟨z, hz, hz2⟩ := hL.at_ hj
            obtain ⟨y1, y2⟩ := List.getElem?_eq_some_iff.1 hz2
            have h0 := freeAt_all (by rw [hf, hL.lenH]) y1
            rw [y2] at h0
            cases z
            · exact absurd rfl h0
            · exact hz
          have HG := Lib.hid (fun v (m : Mem w v p g q h a b B V X) => st_full m hL hf k)
          have HL := Lib.hid hL
          have HALL := Lib.hid hall
          clear hL hf hall
          go_wp2_with (first
            | (go_at_call 13; refine (HP.out _ _).mono ?_; rintro e v3 ⟨rfl, hb3⟩; replace hM := hM.on hb3; clear hb3)
            | (go_at_call 14; refine (HG.out _ hM).mono ?_; rintro e v4 ⟨rfl, hM4⟩; clear hM))
          have HM := Lib.hid hM4
          clear hM4
          go_loop [12] (fun i => ∃ t : Nat, t ≤ 8 ∧ i = .int .i64 t) (fun i => 8 - (intOf i).toNat)
          case atStart => exact ⟨0, by omega, rfl⟩
          case round =>
            obtain ⟨t, ht, rfl⟩ := hrel
            by_cases ht8 : t < 8
            · have c6 := HM.out.cellB (HALL.out t ht8)
              go_wp2
              go_round
              case rel => exact ⟨t + 1, by omega, by go_num⟩
              case measure => simp [intOf]; omega
            · obtain rfl : t = 8 := by omega
              go_wp2
              go_roundw
              case rel => exact ⟨k + 1, B, V, X, by omega, by omega, by go_num, HM.out, HL.out⟩
              case measure => simp [intOf]; omega
      · have h7 : ∀ y : Int, bits .and .i64 y 7 = y % 8 := i64_and3
        obtain ⟨j, hj7, hj⟩ : ∃ j : Nat, x / 2 % 8 = j ∧ j < 8 := ⟨(x / 2 % 8).toNat, by omega, by omega⟩
        obtain ⟨z, hz, _⟩ := hL.at_ hj
        cases z
        all_goals
          have HG := Lib.hid (fun v (m : Mem w v p g q h a b B V X) => st_free m hL hj hz _ rfl)
          have HX := Lib.hid hz
          clear hL hz
          go_wp2_with (first
            | (go_at_call 20; refine (HG.out _ hM).mono ?_; rintro e v4 ⟨rfl, Y, hM4, hL4⟩; clear hM; have c4 := hM4.cellB HX.out; have f4 := hM4.blkB.frozen j))
          have HM := Lib.hid (hM4.storeB j false)
          have HL := Lib.hid hL4
          clear hM4 hL4 c4 f4
          go_loopw [15, 16, 17] (fun i _ _ wx => ∃ (t : Nat) (Z : Swp), t ≤ 8 ∧ i = .int .i64 t ∧ Mem w wx p g q h a b (B.set j false) V Z ∧ Lg (B.set j false) V Z) (fun i _ _ _ => 8 - (intOf i).toNat)
          case atStart => exact ⟨0, Y, by omega, rfl, HM.out, HL.out⟩
          case round =>
            clear HM HL
            obtain ⟨t, Z, ht, rfl, hM, hL⟩ := hrel
            by_cases ht8 : t < 8
            · obtain ⟨x, hx, _⟩ := hL.at_ ht8
              cases x
              · have HG := Lib.hid (st_none hM hL ht8 hx)
                have HX := Lib.hid hx
                clear hM hL hx
                go_wp2_with (first
                  | (go_at_call 16; refine HG.out.mono ?_; rintro e v8 ⟨rfl, Z2, hM8, hL8⟩; have c8 := hM8.cellB HX.out))
                go_roundw
                case rel => exact ⟨t + 1, Z2, by omega, by go_num, hM8, hL8⟩
                case measure => simp [intOf]; omega
              · have HG := Lib.hid (st_get hM hL ht8 hx)
                have HX := Lib.hid hx
                clear hM hL hx
                go_wp2_with (first
                  | (go_at_call 16; refine HG.out.mono ?_; rintro e v8 ⟨rfl, Z2, hM8, hL8⟩; have c8 := hM8.cellB HX.out; have c9 := hM8.cellV hL8.lenV ht8)
                  | (go_at_call 13; refine (HP.out _ _).mono ?_; rintro e v9 ⟨rfl, hb9⟩; replace hM8 := hM8.on hb9; clear hb9))
                go_roundw
                case rel => exact ⟨t + 1, Z2, by omega, by go_num, hM8, hL8⟩
                case measure => simp [intOf]; omega
            · obtain rfl : t = 8 := by omega
              have HM := Lib.hid hM
              have HL := Lib.hid hL
              clear hM hL
              go_wp2
              go_roundw
              case rel => exact ⟨k + 1, (B.set j false), V, Z, by omega, by omega, by go_num, HM.out, HL.out⟩
              case measure => simp [intOf]; omega
    · have HM := Lib.hid hM
      have hl2 : (k < l.length ∧ ¬ k < 40) ∨ ¬ k < l.length := by omega
      clear hlt hM hL
      rcases hl2 with ⟨h1, h2⟩ | h1
      all_goals
        go_wp2
        go_ret
        exact ⟨rfl, HM.out.sw.bel⟩

set_option maxRecDepth 100000 in
theorem lifted (os : Os) (started : os.Started) (H : Type) (enc : TypeId × Value → H) :
    ReturnsInHanded {} Try.checked os 5 .any (Rows.swapKeepsSpec.pre6 enc Try.prog Try.f5 Rows.swapKeepsRow.domain false) (Rows.swapKeepsSpec.post enc Try.prog Try.f5 false true false false) := by
  refine returnsInHanded_of_change (C := Try.checked) own started (by kernel_rfl) Try.func5
    (ChangeSpec.witness6 (enc := enc) (C := Try.checked) false ⟨#[], #[.slice none 0 0], []⟩ 8 (by kernel_rfl) (by kernel_rfl) (by kernel_rfl) (by kernel_rfl)) ?_
  intro W base args ds gs before hval0 hW hcnd _
  have hval : ∀ (j : Nat) t v, Try.f5.params[j]? = some t → args[j]? = some v → Value.okWide Try.prog W .any base t v := hval0
  have hW' := hW
  obtain ⟨p, q, hA0, hV, rfl, hfz, hnd⟩ := hW
  have hA : DataW.TrodAll enc Try.prog W 0 (fun _ => true) true Try.f5.params.toList args.toList ds p := hA0
  rw [Try.params5] at hA hval
  obtain ⟨v0, vs0, d0, ds0, p0, q0, hargs, rfl, rfl, h0, r0⟩ := trodAll_cons hA
  obtain ⟨rfl, rfl, rfl⟩ := trodAll_nil r0
  obtain rfl : args = #[v0] := by cases args; simp_all
  obtain ⟨rfl, rfl⟩ := trodVars_none hV
  have k0 := h0
  have lt0 : ∀ x ∈ p0, x.block < W.heap.size := by obtain ⟨m, hm⟩ := k0; exact DataW.trod_lt m _ _ _ hm
  obtain ⟨LA0, Ll0, Lc0, rfl, Lm0, Lr0⟩ := openInts (hval 0 41 v0 rfl rfl) h0
  clear hA0 hval0
  refine (walk LA0 Ll0 Lc0 W Lm0 Lr0).mono fun e W' ⟨he, bel⟩ => ?_
  subst he
  exact ⟨_, rfl, _, _, _, [], _, [], hW', trodAll_mk1 (shut_bool Try.underlying4 _), (trodAll_cons_mk (Below.trod laidOut (by kernel_rfl) (of_decide_eq_true (by kernel_rfl)) k0 bel lt0) trodAll_mk0), rfl, bel.frame _, fun h => by cases h⟩
theorem over : Rows.swapKeepsRow.holds Try.pinned (OpenSpec.ofChange Rows.swapKeepsSpec) :=
  OpenClaim.holds_of_wide 5 Try.f5 rfl rfl rfl rfl rfl rfl rfl ⟨rfl, rfl, rfl, rfl, rfl⟩ rfl rfl rfl rfl rfl (by kernel_rfl) Try.func5 (by kernel_rfl)
    (of_decide_eq_true (by kernel_rfl)) (by unfold Func.isWrapper; first | (rw [if_pos (by decide +kernel)]; kernel_rfl) | (rw [if_neg (by decide +kernel)]; exact ⟨rfl, rfl⟩))
    (fun os started H enc _ => lifted os started H enc)
/-- The statement. -/
theorem proved : Rows.SwapKeepsSaid := over
end Go.Proofs.Ytibhebfkgjklpaa.lawKeeps
