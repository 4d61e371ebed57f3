/- Package files: Bytes: what holds while it runs. -/
import Derived.Test.YtgkhgjihjbjfnaaDoorFY
namespace Go.Proofs.YtgkhgjihjbjfnaaDoor
open Go.RowKit Go.Shelf
set_option linter.unusedVariables false
set_option linter.unusedSimpArgs false

theorem own_by {W W' : World} {B e size n : Nat} {v : Value} {xs : List Value} (h : W.ownsRow B e size v n xs) (hk : ∀ g cur, v.ownBlock = some g → B ≤ g → Blk W g e cur → Blk W' g e cur) : W'.ownsRow B e size v n xs := by
  obtain ⟨h1, h2⟩ := h
  refine ⟨h1, ?_⟩
  rcases h2 with h2 | ⟨g, cap, cur, rfl, hB, hg, r⟩
  · exact .inl h2
  · exact .inr ⟨g, cap, cur, rfl, hB, hk g cur rfl hB hg, r⟩
theorem own_blk {W : World} {B e size n g : Nat} {v : Value} {xs : List Value} (h : W.ownsRow B e size v n xs) (hg : v.ownBlock = some g) : B ≤ g ∧ ∃ cur, Blk W g e cur := by
  rcases h.2 with ⟨rfl, _⟩ | ⟨g', cap, cur, rfl, hB, hb, r⟩
  · simp [Value.ownBlock] at hg
  · simp [Value.ownBlock] at hg
    subst hg
    exact ⟨hB, cur, hb⟩
theorem Blk.two {W : World} {g : Nat} {t t' : TypeId} {cs cs' : Array Value} (h : Blk W g t cs) (k : Blk W g t' cs') : t = t' := by
  unfold Blk at h k
  rw [h] at k
  cases k
  rfl
theorem keepsOthers_but {S : Nat → Prop} {W W' : World} (hb : But S W W') (hS : ∀ k, S k → ∃ t cs, Blk W k t cs) : KeepsOthers W W' := ⟨hb.size, fun k o hk ho => by
  refine (hb.block k (Array.getElem?_eq_some_iff.1 hk).1 (fun e => ?_)).trans hk
  obtain ⟨t, cs, h⟩ := hS k e
  unfold Blk at h
  rw [hk] at h
  cases h
  cases ho⟩
theorem infoU8b : (Tryd.prog.info? 5).map (fun i => (i.zero, i.size, i.bytes)) = some (some (.int .u8 0), 1, 1) := by kernel_rfl

/-- Bytes has read L. -/
structure BySt (w : World) (p pd gd b2 bx : Nat) (F I : Array Value) (D : Dsk) (L : List UInt8) (W : World) : Prop where
  box : Blk W b2 36 #[.pointer (some ⟨p, 0, none⟩)]
  fs : Blk W p 52 F
  ino : Blk W bx 55 I
  val : ∃ v, Blk W (bx + 1 + 1) 35 #[v] ∧ W.ownsRow (bx + 1) 5 1 v L.length (Lib.byteCells L)
  err : Blk W (bx + 1 + 1 + 1) 27 #[.int .i64 0]
  dsk : ∃ D' : Dsk, D'.S = D.S ∧ Dk W pd gd D'
  but : But (· = pd) w W
/-- Where all of it lies. -/
structure ByPl (w : World) (p pd gd b2 bx : Nat) : Prop where
  l1 : w.heap.size ≤ b2
  l2 : b2 < bx
  l3 : p < b2
  l4 : pd < b2
  l5 : gd < b2
  l6 : p ≠ pd

section
variable {w W W' : World} {p pd gd b2 bx : Nat} {F I : Array Value} {D : Dsk} {L : List UInt8}
theorem BySt.below (h : BySt w p pd gd b2 bx F I D L W) (hb : Below W.heap.size W W') : BySt w p pd gd b2 bx F I D L W' := by
  obtain ⟨h1, h2, h3, ⟨v, h4, h5⟩, h6, ⟨D', h7, h8⟩, h9⟩ := h
  exact ⟨h1.below hb h1.lt, h2.below hb h2.lt, h3.below hb h3.lt, ⟨v, h4.below hb h4.lt, own_by h5 (fun g cur _ _ hg => hg.below hb hg.lt)⟩, h6.below hb h6.lt, ⟨D', h7, h8.below hb h8.head.lt h8.row.lt⟩, h9.trans (But.of_below hb)⟩
theorem BySt.alloc (h : BySt w p pd gd b2 bx F I D L W) (o : Obj) : BySt w p pd gd b2 bx F I D L (W.alloc o) := h.below ((Below.refl _ _).alloc (Nat.le_refl _) o)
theorem BySt.drew (h : BySt w p pd gd b2 bx F I D L W) : BySt w p pd gd b2 bx F I D L W.drew := h.below (Below.refl _ _).drew
theorem BySt.own {β : Type} {B0 : Nat} (hB : w.heap.size ≤ B0) (f : β → List UInt8) : OwnFrom B0 (fun (s : β) W => BySt w p pd gd b2 bx F I D (f s) W) := fun s X Y row hs hg hr => by
  obtain ⟨h1, h2, h3, ⟨v, h4, h5⟩, h6, ⟨D', h7, h8⟩, h9⟩ := hs
  have key : ∀ k t cs, Blk X k t cs → Blk Y k t cs := fun k t cs hb => Blk.own k t (fun (_ : Unit) => cs) () X Y row hb hg (fun r e => (hr r e).2)
  exact ⟨key _ _ _ h1, key _ _ _ h2, key _ _ _ h3, ⟨v, key _ _ _ h4, own_by h5 (fun g cur _ _ hg => key _ _ _ hg)⟩, key _ _ _ h6, ⟨D', h7, h8.ne, key _ _ _ h8.head, key _ _ _ h8.row, h8.all, h8.len⟩, ownFrom_but (S := (· = pd)) hB () X Y row h9 hg hr⟩
/-- A read. -/
theorem BySt.read (h : BySt w p pd gd b2 bx F I D L W) (hp : ByPl w p pd gd b2 bx) (k : Nat) (s : ByteArray) (hk : D.S[k]? = some s) (z : Int) (hz : z = k) :
    Calls Tryd.prog 34 #[.pointer (some ⟨pd, 0, none⟩), .int .i64 z] W fun e W' => e = .returned (.tuple #[.string s, .int .i64 0]) ∧ BySt w p pd gd b2 bx F I D L W' ∧ KpX W W' ∧ KeepsOthers W W' := by
  obtain ⟨h1, h2, h3, ⟨v, h4, h5⟩, h6, ⟨D', h7, h8⟩, h9⟩ := h
  have e2 := hp.l2
  have e4 := hp.l4
  rw [← h7] at hk
  obtain ⟨hk1, hk2⟩ := List.getElem?_eq_some_iff.1 hk
  refine (read_ok h8 k hk1 z hz).mono ?_
  rintro e W' ⟨he, hb, D2, hs2, hd2⟩
  refine ⟨by rw [he, hk2], ⟨h1.but hb (by omega), h2.but hb hp.l6, h3.but hb (by omega), ⟨v, h4.but hb (by omega), own_by h5 (fun g cur _ hB hg => hg.but hb (by omega))⟩, h6.but hb (by omega), ⟨D2, hs2.trans h7, hd2⟩, h9.trans hb⟩, ?_, ?_⟩
  · exact KpX.of_but hb (fun k e => by rw [e]; exact ⟨_, _, h8.head, by unfold isExt; decide⟩)
  · exact keepsOthers_but hb (fun k e => by rw [e]; exact ⟨_, _, h8.head⟩)
/-- The error is set. -/
theorem BySt.setErr (h : BySt w p pd gd b2 bx F I D L W) (hp : ByPl w p pd gd b2 bx) : BySt w p pd gd b2 bx F I D L (W.setCell ⟨bx + 1 + 1 + 1, 0, none⟩ (.int .i64 0)) ∧ KpX W (W.setCell ⟨bx + 1 + 1 + 1, 0, none⟩ (.int .i64 0)) := by
  obtain ⟨h1, h2, h3, ⟨v, h4, h5⟩, h6, ⟨D', h7, h8⟩, h9⟩ := h
  obtain ⟨e1, e2, e3, e4, e5, e6⟩ := hp
  refine ⟨⟨h1.far (by show _ ≠ bx + 1 + 1 + 1; omega) _, h2.far (by show _ ≠ bx + 1 + 1 + 1; omega) _, h3.far (by show _ ≠ bx + 1 + 1 + 1; omega) _, ⟨v, h4.far (by show _ ≠ bx + 1 + 1 + 1; omega) _, own_by h5 (fun g cur _ hB hg => hg.far (fun e => ?_) _)⟩, ?_, ⟨D', h7, h8.ne, h8.head.far (by show _ ≠ bx + 1 + 1 + 1; omega) _, h8.row.far (by show _ ≠ bx + 1 + 1 + 1; omega) _, h8.all, h8.len⟩, h9.setCell (p := ⟨bx + 1 + 1 + 1, 0, none⟩) (.inr (by show _ ≤ bx + 1 + 1 + 1; omega)) _⟩, KpX.setCell W (p := ⟨bx + 1 + 1 + 1, 0, none⟩) h6 (by unfold isExt; decide) _⟩
  · have e' : g = bx + 1 + 1 + 1 := e
    subst e'
    have := hg.two h6
    revert this
    decide
  · have h := h6.set_ 0 (.int .i64 0)
    simpa using h
/-- A text is appended. -/
theorem BySt.app (h : BySt w p pd gd b2 bx F I D L W) (hp : ByPl w p pd gd b2 bx) (s : ByteArray) (hs : L.length + s.size ≤ 1000000000) (ty : TypeId) : ∃ v A' m' c' W', Blk W (bx + 1 + 1) 35 #[v] ∧ (Builtin.append_ #[35, 9] ty #[v, .string s]).run Tryd.prog W = .ok (.slice A' m' c') W' ∧
    Blk W' (bx + 1 + 1) 35 #[v] ∧ BySt w p pd gd b2 bx F I D (L ++ s.data.toList) (W'.setCell ⟨bx + 1 + 1, 0, none⟩ (.slice A' m' c')) ∧ KpX W (W'.setCell ⟨bx + 1 + 1, 0, none⟩ (.slice A' m' c')) ∧ KeepsOthers W (W'.setCell ⟨bx + 1 + 1, 0, none⟩ (.slice A' m' c')) := by
  obtain ⟨h1, h2, h3, ⟨v, h4, h5⟩, h6, ⟨D', h7, h8⟩, h9⟩ := h
  obtain ⟨e1, e2, e3, e4, e5, e6⟩ := hp
  obtain ⟨i0, hi, hz0, hz1, hz2⟩ := info_parts infoU8b
  have hlt := h3.lt
  obtain ⟨v', W', hrun, hown, hg, _⟩ := Lib.run_append_own_string (P := Tryd.prog) W (bx + 1) 35 9 ty 5 i0 Tryd.underlying35 Tryd.underlying9 hi hz0 hz1 hz2 v L.length _ h5 s (by unfold maxLen; omega) (by omega) (by omega)
  obtain ⟨A', c', rfl⟩ := own_slice hown
  have hnot : ∀ k t cs, Blk W k t cs → t ≠ 5 → Blk W' k t cs := fun k t cs hk ht => hk.grown hg (fun e => by
    obtain ⟨_, cur, hc⟩ := own_blk h5 e.symm
    exact ht (hk.two hc))
  have hlow : ∀ k t cs, Blk W k t cs → k ≤ bx → Blk W' k t cs := fun k t cs hk hkb => hk.grown hg (fun e => by
    obtain ⟨hB, _⟩ := own_blk h5 e.symm
    omega)
  have k4 := hnot _ _ _ h4 (by decide)
  have hf : ∀ k t cs, Blk W' k t cs → k ≠ bx + 1 + 1 → Blk (W'.setCell ⟨bx + 1 + 1, 0, none⟩ (.slice A' (L.length + s.size) c')) k t cs := fun k t cs hk hne => hk.far (p := ⟨bx + 1 + 1, 0, none⟩) hne _
  have hkx : KpX W W' := KpX.grown hg (fun k e => by
    obtain ⟨_, cur, hc⟩ := own_blk h5 e
    exact ⟨_, _, hc, by unfold isExt; decide⟩)
  have hko : KeepsOthers W W' := KeepsOthers.of_grownBy hg (fun j o e ho => by
    obtain ⟨_, cur, hc⟩ := own_blk h5 e
    unfold Blk at hc
    rw [ho] at hc
    cases hc
    rfl)
  refine ⟨v, A', _, c', W', h4, hrun, k4, ⟨hf _ _ _ (hnot _ _ _ h1 (by decide)) (by omega), hf _ _ _ (hnot _ _ _ h2 (by decide)) (by omega), hf _ _ _ (hnot _ _ _ h3 (by decide)) (by omega), ⟨.slice A' (L.length + s.size) c', ?_, ?_⟩, hf _ _ _ (hnot _ _ _ h6 (by decide)) (by omega), ⟨D', h7, h8.ne, hf _ _ _ (hlow _ _ _ h8.head (by omega)) (by omega), hf _ _ _ (hlow _ _ _ h8.row (by omega)) (by omega), h8.all, h8.len⟩, ?_⟩, ?_, ?_⟩
  · have h := k4.set_ 0 (.slice A' (L.length + s.size) c')
    simpa using h
  · rw [List.length_append, len_data, Lib.byteCells_append]
    refine own_by hown (fun g cur _ _ hc => hf _ _ _ hc (fun e => ?_))
    subst e
    have := hc.two k4
    revert this
    decide
  · refine (h9.grown hg (fun k e => ?_)).setCell (p := ⟨bx + 1 + 1, 0, none⟩) (.inr (by show _ ≤ bx + 1 + 1; omega)) _
    obtain ⟨hB, _⟩ := own_blk h5 e
    exact .inr (by omega)
  · exact hkx.trans (KpX.setCell W' (p := ⟨bx + 1 + 1, 0, none⟩) k4 (by unfold isExt; decide) _)
  · exact hko.trans (KeepsOthers.setCell _ _ _)
theorem BySt.start {v1 : World} (hF : Blk w p 52 F) (hdk : Dk w pd gd D) (hb : Below (w.alloc (.cells #[.pointer (some ⟨p, 0, none⟩)] 36)).heap.size (w.alloc (.cells #[.pointer (some ⟨p, 0, none⟩)] 36)) v1) (N : Nat) (hN : N ≤ 1000000) :
    BySt w p pd gd w.heap.size v1.heap.size F I D [] ((((v1.alloc (.cells I 55)).alloc (.cells (zrow (64 * N)) 5)).alloc (.cells #[.slice (some ⟨v1.heap.size + 1, 0, none⟩) 0 (64 * N)] 35)).alloc (.cells #[.int .i64 0] 27)) := by
  have b0 := Blk.new w 36 #[.pointer (some ⟨p, 0, none⟩)]
  have hB : Below w.heap.size w v1 := ((Below.refl w.heap.size w).alloc (Nat.le_refl _) (.cells #[.pointer (some ⟨p, 0, none⟩)] 36)).trans (hb.mono (by simp))
  have hF1 := hF.below hB hF.lt
  have hd1 := hdk.below hB hdk.head.lt hdk.row.lt
  have i1 := Blk.new v1 55 I
  have r1 := Blk.new (v1.alloc (.cells I 55)) 5 (zrow (64 * N))
  have s1 := Blk.new ((v1.alloc (.cells I 55)).alloc (.cells (zrow (64 * N)) 5)) 35 #[.slice (some ⟨v1.heap.size + 1, 0, none⟩) 0 (64 * N)]
  have e1 := Blk.new (((v1.alloc (.cells I 55)).alloc (.cells (zrow (64 * N)) 5)).alloc (.cells #[.slice (some ⟨v1.heap.size + 1, 0, none⟩) 0 (64 * N)] 35)) 27 #[.int .i64 0]
  simp only [World.size_alloc] at r1 s1 e1
  refine ⟨((((b0.below hb b0.lt).alloc _).alloc _).alloc _).alloc _, (((hF1.alloc _).alloc _).alloc _).alloc _, ((i1.alloc _).alloc _).alloc _, ⟨_, s1.alloc _, rfl, .inr ⟨v1.heap.size + 1, 64 * N, zrow (64 * N), rfl, Nat.le_refl _, (r1.alloc _).alloc _, Nat.zero_le _, by unfold maxLen; omega, by rw [zrow_size]; omega, by simp [Lib.byteCells]⟩⟩, e1, ⟨D, rfl, (((hd1.alloc _).alloc _).alloc _).alloc _⟩, ((((But.of_below hB).alloc _).alloc _).alloc _).alloc _⟩
end
end Go.Proofs.YtgkhgjihjbjfnaaDoor
