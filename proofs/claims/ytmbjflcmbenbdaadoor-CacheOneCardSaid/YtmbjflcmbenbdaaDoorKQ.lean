/- Layer 14's laws: pages that are wanted and dropped; what goes when nobody holds a page. -/
import Derived.Test.YtmbjflcmbenbdaaDoorKN
namespace Go.Proofs.YtmbjflcmbenbdaaDoor
open Go.RowKit Go.Maps
set_option linter.unusedVariables false
set_option linter.unusedSimpArgs false

theorem perm_rmG {α : Type} {l : List α} {k : Nat} {x : α} (hk : l[k]? = some x) : l.Perm (x :: l.eraseIdx k) := by
  obtain ⟨h, rfl⟩ := List.getElem?_eq_some_iff.1 hk
  have e : l = l.take k ++ l[k] :: l.drop (k + 1) := by simp
  rw [List.eraseIdx_eq_take_drop_succ]
  conv => lhs; rw [e]
  exact List.perm_middle
theorem not_mem_rm {α : Type} {l : List α} {k : Nat} {x : α} (hn : l.Nodup) (hk : l[k]? = some x) : x ∉ l.eraseIdx k := (List.nodup_cons.1 ((perm_rmG hk).nodup_iff.1 hn)).1
section
variable {w W W' : World} {a : Ad} {n : Nat} {K : Nat → Prop} {C : Cc} {o : Nat → Nat}
theorem Ls.wfk (S : Ls w a n K C o W) {x : Pg} (hx : x ∈ C.R) : (Lit.int .i64 x.f).wf = true ∧ (Lit.int .i64 x.q).wf = true := by
  obtain ⟨v, A, _⟩ := S.ca
  exact A.wfk x hx
/-- Nobody holds a page. -/
def Idle (w : World) (a : Ad) (n : Nat) (K : Nat → Prop) (C : Cc) (W : World) : Prop := ∃ o, Ls w a n K C o W ∧ ∀ k, o k = 0
/-- One page alone is held, once. -/
def One (w : World) (a : Ad) (n : Nat) (K : Nat → Prop) (C : Cc) (fr : Nat) (W : World) : Prop := ∃ o, Ls w a n K C o W ∧ ∀ k, o k = if k = fr then 1 else 0
theorem idle_made (s : Ls w a n K (newC n) (fun _ => 0) W) : Idle w a n K (newC n) W := ⟨_, s, fun _ => rfl⟩
theorem idle_hit (s : Idle w a n K C W) {x : Pg} (hx : pgF C.R x.f x.q = some x) (hin : 0 ≤ x.q ∧ x.q < pgsOf fs3 x.f) (hh : C.hits ≤ 1000000) :
    Calls Tryd.prog 10 #[.pointer (some ⟨a.pc, 0, none⟩), .agg #[.int .i64 x.f, .int .i64 x.q]] W fun e W' => e = .returned (.tuple #[.int .i64 x.fr, .int .i64 0]) ∧ One w a n K (C.hit x) x.fr W' ∧ But (fun j => ¬ K j) W W' := by
  obtain ⟨o, S, ho⟩ := s
  exact (ls_hit S hx hin (by rw [ho]; omega) hh).mono fun e W' ⟨he, hn⟩ => ⟨he, ⟨_, hn.1, fun k => by unfold bump; split <;> simp [ho]⟩, hn.2⟩
theorem idle_fill (s : Idle w a n K C W) (k : Nat) (hk : k < fs3.length) (q : Nat) (hq : (q : Int) < pgsOf fs3 k) (hx : pgF C.R k q = none) (hroom : C.R.length < n) (hf : C.fills ≤ 1000000) :
    Calls Tryd.prog 10 #[.pointer (some ⟨a.pc, 0, none⟩), .agg #[.int .i64 (k : Int), .int .i64 (q : Int)]] W fun e W' => e = .returned (.tuple #[.int .i64 (freeAt C.X.H : Nat), .int .i64 0]) ∧ One w a n K (C.fill k q (dat3 k q)) (freeAt C.X.H) W' ∧ But (fun j => ¬ K j) W W' := by
  obtain ⟨o, S, ho⟩ := s
  exact (ls_fill S k hk q hq hx (S.inv.room hroom) hf).mono fun e W' ⟨he, hn⟩ => ⟨he, ⟨_, hn.1, fun k => by unfold bump; split <;> simp [ho]⟩, hn.2⟩
theorem one_drop {fr : Nat} (s : One w a n K C fr W) :
    Calls Tryd.prog 15 #[.pointer (some ⟨a.pp, 0, none⟩), .int .i64 (fr : Int)] W fun e W' => e = .returned (.int .i64 0) ∧ (∃ X, Idle w a n K { C with X := X } W') ∧ But (fun j => ¬ K j) W W' := by
  obtain ⟨o, S, ho⟩ := s
  exact (ls_drop S fr (by rw [ho, if_pos rfl]; omega)).mono fun e W' ⟨he, hn⟩ => ⟨he, ⟨_, _, hn.1, fun k => by unfold less; rw [ho]; split <;> simp [*]⟩, hn.2⟩
/-- Nobody holds a page, and there is one: it goes. -/
theorem idle_evict (s : Idle w a n K C W) (hR : C.R ≠ []) :
    ∃ x y, C.evK = some x ∧ y ∈ C.R ∧ y.f = x.f ∧ y.q = x.q ∧ Calls Tryd.prog 12 #[.pointer (some ⟨a.pc, 0, none⟩)] W fun e W' => e = .returned (.tuple #[.agg #[.int .i64 x.f, .int .i64 x.q], .bool true]) ∧ Idle w a n K C.evC W' ∧ But (fun j => ¬ K j) W W' ∧ C.evC.R.length + 1 = C.R.length ∧ pgF C.evC.R x.f x.q = none ∧ (∀ z ∈ C.evC.R, ∃ y ∈ C.R, y.f = z.f ∧ y.q = z.q) := by
  obtain ⟨o, S, ho⟩ := s
  obtain ⟨_, _, _, h⟩ := S.inv.evict
  rcases h with ⟨_, _, _, _, h⟩ | ⟨k, x, h1, h2, h3, h4, h5, h6, h7⟩
  · obtain ⟨x, hx⟩ := List.exists_mem_of_ne_nil _ hR
    have := h x hx
    rw [ho] at this
    omega
  · have hm := List.mem_of_getElem? h3
    obtain ⟨y, hy, e⟩ := List.mem_map.1 hm
    have e1 : y.f = x.f ∧ y.q = x.q := by simpa [Pg.key] using e
    refine ⟨x, y, h1, hy, e1.1, e1.2, (ls_evict S).mono fun e W' ⟨he, hn⟩ => ⟨by rw [he, h1]; rfl, ⟨o, hn.1, ho⟩, hn.2, h7, ?_, fun z hz => ?_⟩⟩
    · rw [pgF_none, h5]
      exact not_mem_rm S.inv.keys h3
    · have hz2 : z.key ∈ C.evC.R.map Pg.key := List.mem_map.2 ⟨z, hz, rfl⟩
      rw [h5] at hz2
      obtain ⟨y, hy, e⟩ := List.mem_map.1 (List.mem_of_mem_eraseIdx hz2)
      exact ⟨y, hy, by simpa [Pg.key] using e⟩
theorem evict_empty (s : Idle w a n K C W) (hR : C.R = []) :
    Calls Tryd.prog 12 #[.pointer (some ⟨a.pc, 0, none⟩)] W fun e W' => e = .returned (.tuple #[.agg #[.int .i64 0, .int .i64 0], .bool false]) ∧ Idle w a n K C W' ∧ But (fun j => ¬ K j) W W' := by
  obtain ⟨o, S, ho⟩ := s
  have hl : C.look = ([], none) := by unfold Cc.look; rw [hR]; rfl
  have e1 : C.evK = none := by unfold Cc.evK; rw [hl]
  have e2 : C.evC = C := by unfold Cc.evC; rw [hl]; dsimp only; rw [← hR]
  have h := ls_evict S
  rw [e1, e2] at h
  exact h.mono fun e W' ⟨he, hn⟩ => ⟨he, ⟨o, hn.1, ho⟩, hn.2⟩
theorem Idle.on (s : Idle w a n K C W) (hb : Below W.heap.size W W') : Idle w a n K C W' := by
  obtain ⟨o, S, ho⟩ := s
  exact ⟨o, S.on hb, ho⟩
theorem Idle.alloc (s : Idle w a n K C W) (ob : Obj) : Idle w a n K C (W.alloc ob) := s.on ((Below.refl _ _).alloc (Nat.le_refl _) ob)
theorem Idle.bel (s : Idle w a n K C W) : Below w.heap.size w W := by
  obtain ⟨o, S, ho⟩ := s
  exact S.bel
end
end Go.Proofs.YtmbjflcmbenbdaaDoor
