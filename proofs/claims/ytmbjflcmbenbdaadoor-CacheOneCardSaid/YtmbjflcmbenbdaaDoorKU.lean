/- CacheOne: what the law's notes say of a cache. -/
import Derived.Test.YtmbjflcmbenbdaaDoorKQ
import Derived.Test.YtmbjflcmbenbdaaDoorKR
import Derived.Test.YtmbjflcmbenbdaaDoorFOs
namespace Go.Proofs.YtmbjflcmbenbdaaDoor
open Go.RowKit Go.Maps
set_option linter.unusedVariables false
set_option linter.unusedSimpArgs false

/-- The eight keys of the law. -/
def kf (v : Nat) : Int := if v < 5 then 2 else 1
def kq (v : Nat) : Int := if v < 5 then v else (v - 5 : Nat)
theorem key_eq {v v' : Nat} (hv : v < 8) (hv' : v' < 8) (h1 : kf v = kf v') (h2 : kq v = kq v') : v = v' := by
  unfold kf at h1
  unfold kq at h2
  split at h1 <;> split at h1 <;> simp_all <;> omega
theorem kq_in {v : Nat} (hv : v < 8) : 0 ≤ kq v ∧ kq v < pgsOf fs3 (kf v) := by
  rw [pg3]
  unfold kf kq
  split
  · simp; omega
  · simp; omega
/-- What the law's notes say: how often the page of each key is held. -/
structure OneI (i : Nat) (R : List Pg) (o hf : Nat → Nat) : Prop where
  some : ∀ v, v < 8 → ∀ x ∈ R, x.f = kf v → x.q = kq v → hf v = o x.fr
  none : ∀ v, v < 8 → (∀ x ∈ R, ¬ (x.f = kf v ∧ x.q = kq v)) → hf v = 0
  key : ∀ x ∈ R, ∃ v, v < 8 ∧ x.f = kf v ∧ x.q = kq v
  few : ∀ k, o k ≤ i
theorem of_nodup {α : Type} {g : Pg → α} {R : List Pg} (hn : (R.map g).Nodup) {x y : Pg} (hx : x ∈ R) (hy : y ∈ R) (h : g x = g y) : x = y := by
  obtain ⟨a, ha, rfl⟩ := List.mem_iff_getElem.1 hx
  obtain ⟨b, hb, rfl⟩ := List.mem_iff_getElem.1 hy
  have := (List.pairwise_iff_getElem.1 hn)
  rcases Nat.lt_trichotomy a b with h1 | h1 | h1
  · exact absurd (by rw [List.getElem_map, List.getElem_map]; exact h) (this a b (by simpa using ha) (by simpa using hb) h1)
  · subst h1; rfl
  · exact absurd (by rw [List.getElem_map, List.getElem_map]; exact h.symm) (this b a (by simpa using hb) (by simpa using ha) h1)
section
variable {i i' : Nat} {R R' : List Pg} {o hf : Nat → Nat}
theorem OneI.mono (I : OneI i R o hf) (h : i ≤ i') : OneI i' R o hf := ⟨I.some, I.none, I.key, fun k => Nat.le_trans (I.few k) h⟩
/-- The same pages, but for what is fresh; what nobody holds may go. -/
theorem OneI.move (I : OneI i R o hf) (h1 : ∀ x' ∈ R', ∃ x ∈ R, x.f = x'.f ∧ x.q = x'.q ∧ x.fr = x'.fr) (h2 : ∀ x ∈ R, (∃ x' ∈ R', x'.f = x.f ∧ x'.q = x.q) ∨ o x.fr = 0) : OneI i R' o hf := by
  refine ⟨fun v hv x' hx' e1 e2 => ?_, fun v hv hno => ?_, fun x' hx' => ?_, I.few⟩
  · obtain ⟨x, hx, k1, k2, k3⟩ := h1 x' hx'
    rw [← k3]
    exact I.some v hv x hx (by rw [k1, e1]) (by rw [k2, e2])
  · by_cases h : ∃ x ∈ R, x.f = kf v ∧ x.q = kq v
    · obtain ⟨x, hx, e1, e2⟩ := h
      rw [I.some v hv x hx e1 e2]
      rcases h2 x hx with ⟨x', hx', k1, k2⟩ | h
      · exact absurd ⟨by rw [k1, e1], by rw [k2, e2]⟩ (hno x' hx')
      · exact h
    · exact I.none v hv fun x hx e => h ⟨x, hx, e⟩
  · obtain ⟨x, hx, k1, k2, k3⟩ := h1 x' hx'
    obtain ⟨v, hv, e1, e2⟩ := I.key x hx
    exact ⟨v, hv, by rw [← k1, e1], by rw [← k2, e2]⟩
/-- One page is held once more, or once less. -/
theorem OneI.turn (I : OneI i R o hf) (hn : (R.map Pg.fr).Nodup) (hk : (R.map Pg.key).Nodup) {x : Pg} (hx : x ∈ R) {v : Nat} (hv : v < 8) (e1 : x.f = kf v) (e2 : x.q = kq v) (z : Nat → Nat) (hz : ∀ k, k ≤ i → z k ≤ i') (hi : i ≤ i') :
    OneI i' R (fun j => if j = x.fr then z (o j) else o j) (fun j => if j = v then z (hf j) else hf j) := by
  refine ⟨fun u hu y hy k1 k2 => ?_, fun u hu hno => ?_, I.key, fun k => ?_⟩
  · by_cases e : u = v
    · subst e
      obtain rfl : x = y := of_nodup hk hx hy (by unfold Pg.key; rw [e1, e2, k1, k2])
      rw [if_pos rfl, if_pos rfl, I.some u hv x hx e1 e2]
    · rw [if_neg e, if_neg fun h => e ?_]
      · exact I.some u hu y hy k1 k2
      · obtain rfl := of_nodup hn hy hx h
        exact key_eq hu hv (by rw [← k1, e1]) (by rw [← k2, e2])
  · rw [if_neg fun h => by subst h; exact hno x hx ⟨e1, e2⟩]
    exact I.none u hu hno
  · show (if k = x.fr then z (o k) else o k) ≤ i'
    split
    · exact hz _ (I.few k)
    · exact Nat.le_trans (I.few k) hi
/-- One more page comes. -/
theorem OneI.come (I : OneI i R o hf) {v k : Nat} (hv : v < 8) (hno : ∀ x ∈ R, ¬ (x.f = kf v ∧ x.q = kq v)) (ho : o k = 0) (hk : k ∉ R.map Pg.fr) (b : Bool) : OneI i (R ++ [⟨kf v, kq v, k, b⟩]) o hf := by
  refine ⟨fun u hu y hy k1 k2 => ?_, fun u hu hn => I.none u hu fun x hx => hn x (List.mem_append_left _ hx), fun x hx => ?_, I.few⟩
  · rcases List.mem_append.1 hy with h | h
    · exact I.some u hu y h k1 k2
    · obtain rfl := List.mem_singleton.1 h
      obtain rfl := key_eq hv hu k1 k2
      rw [I.none v hv hno]
      exact ho.symm
  · rcases List.mem_append.1 hx with h | h
    · exact I.key x h
    · obtain rfl := List.mem_singleton.1 h
      exact ⟨v, hv, rfl, rfl⟩
end
/-- How many of the first n keys are held. -/
def cnt (hf : Nat → Nat) : Nat → Nat
  | 0 => 0
  | j + 1 => cnt hf j + if 0 < hf j then 1 else 0
theorem cnt_le (hf : Nat → Nat) : ∀ n, cnt hf n ≤ n
  | 0 => Nat.le_refl _
  | n + 1 => by have := cnt_le hf n; unfold cnt; split <;> omega
theorem cnt_congr {f g : Nat → Nat} : ∀ n, (∀ j, j < n → f j = g j) → cnt f n = cnt g n
  | 0, _ => rfl
  | n + 1, h => by unfold cnt; rw [cnt_congr n fun j hj => h j (by omega), h n (by omega)]
theorem cnt_zero {f : Nat → Nat} : ∀ n, (∀ j, j < n → f j = 0) → cnt f n = 0
  | 0, _ => rfl
  | n + 1, h => by unfold cnt; rw [cnt_zero n fun j hj => h j (by omega), h n (by omega)]; rfl
theorem cnt_set {f : Nat → Nat} {v : Nat} (hp : 0 < f v) : ∀ n, v < n → cnt f n = cnt (fun j => if j = v then 0 else f j) n + 1
  | 0, h => by omega
  | n + 1, h => by
    unfold cnt
    by_cases e : v = n
    · subst e
      rw [if_pos hp, if_pos rfl, if_neg (by omega)]
      rw [cnt_congr (g := fun j => if j = v then 0 else f j) v fun j hj => by rw [if_neg (by omega)]]
    · rw [cnt_set hp n (by omega), show (if n = v then 0 else f n) = f n from if_neg fun h => e h.symm]
      omega
theorem cnt_pages : ∀ (R : List Pg) (o hf : Nat → Nat), (R.map Pg.key).Nodup → (∀ x ∈ R, ∃ v, v < 8 ∧ x.f = kf v ∧ x.q = kq v) → (∀ v, v < 8 → (0 < hf v ↔ ∃ x ∈ R, x.f = kf v ∧ x.q = kq v ∧ 0 < o x.fr)) → cnt hf 8 = R.countP fun x => decide (0 < o x.fr)
  | [], o, hf, _, _, h => by
    rw [cnt_zero 8 fun j hj => ?_]
    · rfl
    · have := h j hj
      simp at this
      exact this
  | x :: R, o, hf, hk, hkey, h => by
    rw [List.map_cons, List.nodup_cons] at hk
    obtain ⟨v, hv, e1, e2⟩ := hkey x List.mem_cons_self
    have hno : ∀ y ∈ R, ¬ (y.f = kf v ∧ y.q = kq v) := fun y hy e => hk.1 (List.mem_map.2 ⟨y, hy, by unfold Pg.key; rw [e.1, e.2, e1, e2]⟩)
    by_cases hp : 0 < o x.fr
    · rw [List.countP_cons_of_pos (by simpa using hp), cnt_set ((h v hv).2 ⟨x, List.mem_cons_self, e1, e2, hp⟩) 8 hv]
      rw [cnt_pages R o _ hk.2 (fun y hy => hkey y (List.mem_cons_of_mem _ hy)) fun u hu => ?_]
      by_cases e : u = v
      · subst e
        rw [if_pos rfl]
        exact ⟨fun h => by omega, fun ⟨y, hy, k1, k2, _⟩ => absurd ⟨k1, k2⟩ (hno y hy)⟩
      · rw [if_neg e, h u hu]
        exact ⟨fun ⟨y, hy, k⟩ => by
          rcases List.mem_cons.1 hy with rfl | hy
          · exact absurd (key_eq hu hv (by rw [← k.1, e1]) (by rw [← k.2.1, e2])) e
          · exact ⟨y, hy, k⟩, fun ⟨y, hy, k⟩ => ⟨y, List.mem_cons_of_mem _ hy, k⟩⟩
    · rw [List.countP_cons_of_neg (by simpa using hp)]
      refine cnt_pages R o hf hk.2 (fun y hy => hkey y (List.mem_cons_of_mem _ hy)) fun u hu => ?_
      rw [h u hu]
      exact ⟨fun ⟨y, hy, k⟩ => by
          rcases List.mem_cons.1 hy with rfl | hy
          · exact absurd k.2.2 hp
          · exact ⟨y, hy, k⟩, fun ⟨y, hy, k⟩ => ⟨y, List.mem_cons_of_mem _ hy, k⟩⟩
theorem OneI.count {i : Nat} {R : List Pg} {o hf : Nat → Nat} (I : OneI i R o hf) (hk : (R.map Pg.key).Nodup) : cnt hf 8 ≤ R.length ∧ (cnt hf 8 = R.length ↔ ∀ x ∈ R, 0 < o x.fr) := by
  have h := cnt_pages R o hf hk I.key fun v hv => by
    constructor
    · intro hp
      have : ∃ x ∈ R, x.f = kf v ∧ x.q = kq v := Classical.byContradiction fun hc => by
        have := I.none v hv fun x hx e => hc ⟨x, hx, e⟩
        omega
      obtain ⟨x, hx, e1, e2⟩ := this
      exact ⟨x, hx, e1, e2, by rw [← I.some v hv x hx e1 e2]; exact hp⟩
    · rintro ⟨x, hx, e1, e2, hp⟩
      rw [I.some v hv x hx e1 e2]
      exact hp
  rw [h]
  refine ⟨List.countP_le_length, ?_⟩
  rw [List.countP_eq_length]
  simp

/-- The law's cache: its notes are hf, it holds l pages. -/
def St (w : World) (a : Ad) (n : Nat) (K : Nat → Prop) (i : Nat) (hf : Nat → Nat) (l : Nat) (W : World) : Prop := ∃ C o, Ls w a n K C o W ∧ OneI i C.R o hf ∧ C.hits ≤ i ∧ C.fills ≤ i ∧ C.R.length = l
/-- .. and the page of key v lies in frame f. -/
def Sf (w : World) (a : Ad) (n : Nat) (K : Nat → Prop) (i : Nat) (hf : Nat → Nat) (v f : Nat) (W : World) : Prop := ∃ C o, Ls w a n K C o W ∧ OneI i C.R o hf ∧ C.hits ≤ i ∧ C.fills ≤ i ∧ ∃ x ∈ C.R, x.f = kf v ∧ x.q = kq v ∧ x.fr = f
section
variable {w W W' : World} {a : Ad} {n i v f l : Nat} {K K' : Nat → Prop} {hf : Nat → Nat}
theorem Sf.st (s : Sf w a n K i hf v f W) : ∃ l, St w a n K i hf l W := by
  obtain ⟨C, o, S, I, h1, h2, _⟩ := s
  exact ⟨_, C, o, S, I, h1, h2, rfl⟩
theorem St.new (s : Ls w a n K (newC n) (fun _ => 0) W) : St w a n K 0 (fun _ => 0) 0 W :=
  ⟨_, _, s, ⟨fun v _ x hx => by simp [newC] at hx, fun _ _ _ => rfl, fun x hx => by simp [newC] at hx, fun _ => Nat.le_refl _⟩, Nat.le_refl _, Nat.le_refl _, rfl⟩
theorem St.grow (s : St w a n K i hf l W) (hb : Below W.heap.size W W') (hK : ∀ j, K' j → K j ∨ W.heap.size ≤ j ∧ j < W'.heap.size) : St w a n K' i hf l W' := by
  obtain ⟨C, o, S, r⟩ := s
  exact ⟨C, o, S.grow hb hK, r⟩
theorem St.on (s : St w a n K i hf l W) (hb : Below W.heap.size W W') : St w a n K i hf l W' := s.grow hb fun _ h => .inl h
theorem St.aside (s : St w a n K i hf l W) (hb : But K W W') : St w a n K i hf l W' := by
  obtain ⟨C, o, S, r⟩ := s
  exact ⟨C, o, S.aside hb, r⟩
theorem Sf.grow (s : Sf w a n K i hf v f W) (hb : Below W.heap.size W W') (hK : ∀ j, K' j → K j ∨ W.heap.size ≤ j ∧ j < W'.heap.size) : Sf w a n K' i hf v f W' := by
  obtain ⟨C, o, S, r⟩ := s
  exact ⟨C, o, S.grow hb hK, r⟩
theorem Sf.on (s : Sf w a n K i hf v f W) (hb : Below W.heap.size W W') : Sf w a n K i hf v f W' := s.grow hb fun _ h => .inl h
theorem Sf.aside (s : Sf w a n K i hf v f W) (hb : But K W W') : Sf w a n K i hf v f W' := by
  obtain ⟨C, o, S, r⟩ := s
  exact ⟨C, o, S.aside hb, r⟩
theorem St.bel (s : St w a n K i hf l W) : Below w.heap.size w W := by
  obtain ⟨C, o, S, r⟩ := s
  exact S.bel
theorem Sf.bel (s : Sf w a n K i hf v f W) : Below w.heap.size w W := by
  obtain ⟨C, o, S, r⟩ := s
  exact S.bel
theorem St.more (s : St w a n K i hf l W) : St w a n K (i + 1) hf l W := by
  obtain ⟨C, o, S, I, h1, h2, h3⟩ := s
  exact ⟨C, o, S, I.mono (by omega), by omega, by omega, h3⟩
theorem kf_file {v : Nat} (hv : v < 8) : ∃ k q : Nat, k < fs3.length ∧ kf v = (k : Int) ∧ kq v = (q : Int) := by
  unfold kf kq
  split
  · exact ⟨2, v, by decide, rfl, rfl⟩
  · exact ⟨1, v - 5, by decide, rfl, rfl⟩
theorem kf_wf {v : Nat} (hv : v < 8) : (Lit.int .i64 (kf v)).wf = true ∧ (Lit.int .i64 (kq v)).wf = true := by
  unfold kf kq
  constructor <;> refine wf_c ?_ ?_ <;> split <;> omega
theorem one_get (s : St w a n K i hf l W) (hi : i < 1000) (hv : v < 8) :
    Calls Tryd.prog 10 #[.pointer (some ⟨a.pc, 0, none⟩), .agg #[.int .i64 (kf v), .int .i64 (kq v)]] W fun e W' => But (fun j => ¬ K j) W W' ∧
      ((e = .returned (.tuple #[.int .i64 0, .int .i64 18]) ∧ St w a n K i hf l W') ∨ ∃ f : Nat, e = .returned (.tuple #[.int .i64 (f : Int), .int .i64 0]) ∧ Sf w a n K (i + 1) (bump hf v) v f W') := by
  obtain ⟨C, o, S, I, h1, h2, h3⟩ := s
  obtain ⟨w1, w2⟩ := kf_wf hv
  have hin := kq_in hv
  cases hp : pgF C.R (kf v) (kq v) with
  | some x =>
    obtain ⟨hm, e1, e2⟩ := pgF_some hp
    have ho := I.few x.fr
    have h := ls_hit S (x := x) (by rw [e1, e2]; exact hp) (by rw [e1, e2]; exact hin) (by omega) (by omega)
    rw [e1, e2] at h
    refine h.mono fun e W' ⟨he, hn⟩ => ⟨hn.2, .inr ⟨x.fr, he, C.hit x, _, hn.1, ?_, by show C.hits + 1 ≤ _; omega, by show C.fills ≤ _; omega, ?_⟩⟩
    · have I2 := I.turn S.inv.once S.inv.keys hm hv e1 e2 (· + 1) (i' := i + 1) (fun k hk => by omega) (by omega)
      refine OneI.move I2 (fun x' hx' => ?_) (fun y hy => .inl ?_)
      · obtain ⟨y, hy, rfl⟩ := List.mem_map.1 (show x' ∈ wantL C.R x.f x.q from hx')
        exact ⟨y, hy, by split <;> exact ⟨rfl, rfl, rfl⟩⟩
      · exact ⟨_, List.mem_map.2 ⟨y, hy, rfl⟩, by split <;> exact ⟨rfl, rfl⟩⟩
    · exact ⟨_, List.mem_map.2 ⟨x, hm, rfl⟩, by split <;> exact ⟨e1, e2, rfl⟩⟩
  | none =>
    have hno : ∀ x ∈ C.R, ¬ (x.f = kf v ∧ x.q = kq v) := fun x hx e => pgF_none.1 hp (List.mem_map.2 ⟨x, hx, by unfold Pg.key; rw [e.1, e.2]⟩)
    by_cases hroom : freeAt C.X.H < C.X.H.length
    · obtain ⟨k, q, hk, ek, eq⟩ := kf_file hv
      have h := ls_fill S k hk q (by rw [← ek, ← eq]; exact hin.2) (by rw [← ek, ← eq]; exact hp) hroom (by omega)
      obtain ⟨_, ho, hfr⟩ := S.inv.fill hroom (kf v) (kq v) (pgF_none.1 hp) (dat3_size _ _)
      rw [← ek, ← eq] at h
      refine h.mono fun e W' ⟨he, hn⟩ => ⟨hn.2, .inr ⟨freeAt C.X.H, he, _, _, hn.1, ?_, by show C.hits ≤ _; omega, by show C.fills + 1 ≤ _; omega, ?_⟩⟩
      · have I1 := I.come hv hno ho hfr false
        have hI := hn.1.inv
        have I2 := I1.turn (x := ⟨kf v, kq v, freeAt C.X.H, false⟩) hI.once hI.keys (List.mem_append_right _ (List.mem_singleton.2 rfl)) hv rfl rfl (· + 1) (i' := i + 1) (fun k hk => by omega) (by omega)
        exact I2
      · exact ⟨⟨kf v, kq v, freeAt C.X.H, false⟩, List.mem_append_right _ (List.mem_singleton.2 rfl), rfl, rfl, rfl⟩
    · exact (ls_full S (kf v) (kq v) w1 w2 hp hin hroom).mono fun e W' ⟨he, hn⟩ => ⟨hn.2, .inl ⟨he, C, o, hn.1, I, h1, h2, h3⟩⟩
theorem one_len (s : St w a n K i hf l W) : Calls Tryd.prog 11 #[.pointer (some ⟨a.pc, 0, none⟩)] W fun e W' => e = .returned (.int .i64 l) ∧ W = W' := by
  obtain ⟨C, o, S, I, h1, h2, rfl⟩ := s
  exact ls_len S
theorem erase_sub {R R' : List Pg} {k : Nat} (h1 : R'.map Pg.key = (R.map Pg.key).eraseIdx k) (h2 : R'.map Pg.fr = (R.map Pg.fr).eraseIdx k) : ∀ x' ∈ R', ∃ x ∈ R, x.f = x'.f ∧ x.q = x'.q ∧ x.fr = x'.fr := by
  intro x' hx'
  obtain ⟨j, hj, rfl⟩ := List.mem_iff_getElem.1 hx'
  have e1 : (R'.map Pg.key)[j]? = ((R.map Pg.key).eraseIdx k)[j]? := by rw [h1]
  have e2 : (R'.map Pg.fr)[j]? = ((R.map Pg.fr).eraseIdx k)[j]? := by rw [h2]
  rw [List.getElem?_eraseIdx, List.getElem?_map, List.getElem?_eq_getElem hj] at e1 e2
  obtain ⟨t, ht⟩ : ∃ t, t = if j < k then j else j + 1 := ⟨_, rfl⟩
  have e3 : some R'[j].key = (R.map Pg.key)[t]? := by rw [ht]; split at e1 <;> rename_i h <;> simp only [h, if_true, if_false] <;> exact e1
  have e4 : some R'[j].fr = (R.map Pg.fr)[t]? := by rw [ht]; split at e2 <;> rename_i h <;> simp only [h, if_true, if_false] <;> exact e2
  rw [List.getElem?_map] at e3 e4
  cases hR : R[t]? with
  | none => rw [hR] at e3; simp at e3
  | some x =>
    rw [hR] at e3 e4
    simp [Pg.key] at e3 e4
    exact ⟨x, List.mem_of_getElem? hR, e3.1.symm, e3.2.symm, e4.symm⟩
theorem erase_all {R R' : List Pg} {k : Nat} (h1 : R'.map Pg.key = (R.map Pg.key).eraseIdx k) : ∀ y ∈ R, (∃ x' ∈ R', x'.f = y.f ∧ x'.q = y.q) ∨ R[k]? = some y := by
  intro y hy
  obtain ⟨j, hj, rfl⟩ := List.mem_iff_getElem.1 hy
  by_cases e : j = k
  · subst e
    exact .inr (List.getElem?_eq_getElem hj)
  · refine .inl ?_
    obtain ⟨t, ht, ht2⟩ : ∃ t, ((R.map Pg.key).eraseIdx k)[t]? = some R[j].key ∧ True := by
      by_cases h : j < k
      · exact ⟨j, by rw [List.getElem?_eraseIdx, if_pos h, List.getElem?_map, List.getElem?_eq_getElem hj]; rfl, trivial⟩
      · exact ⟨j - 1, by rw [List.getElem?_eraseIdx, if_neg (by omega), show j - 1 + 1 = j by omega, List.getElem?_map, List.getElem?_eq_getElem hj]; rfl, trivial⟩
    rw [← h1, List.getElem?_map] at ht
    cases hR : R'[t]? with
    | none => rw [hR] at ht; simp at ht
    | some x =>
      rw [hR] at ht
      simp [Pg.key] at ht
      exact ⟨x, List.mem_of_getElem? hR, ht.1, ht.2⟩
theorem one_evict (s : St w a n K i hf l W) : cnt hf 8 ≤ l ∧ Calls Tryd.prog 12 #[.pointer (some ⟨a.pc, 0, none⟩)] W fun e W' => But (fun j => ¬ K j) W W' ∧ ∃ f q : Int, e = .returned (.tuple #[.agg #[.int .i64 f, .int .i64 q], .bool (decide (cnt hf 8 < l))]) ∧ ∃ l', St w a n K i hf l' W' := by
  obtain ⟨C, o, S, I, h1, h2, rfl⟩ := s
  obtain ⟨c1, c2⟩ := I.count S.inv.keys
  refine ⟨c1, (ls_evict S).mono fun e W' ⟨he, hn⟩ => ⟨hn.2, ?_⟩⟩
  obtain ⟨_, g1, g2, h⟩ := S.inv.evict
  rcases h with ⟨k1, k2, k3, _, k5⟩ | ⟨k, x, k1, k2, k3, k4, k5, k6, k7⟩
  · refine ⟨0, 0, ?_, _, C.evC, o, hn.1, ?_, by omega, by omega, rfl⟩
    · rw [he, k1, show decide (cnt hf 8 < C.R.length) = false from decide_eq_false (by have := c2.2 k5; omega)]
      rfl
    · have hl := len_of_key k2
      rw [← List.eraseIdx_of_length_le (l := C.R.map Pg.key) (k := C.R.length) (by simp)] at k2
      rw [← List.eraseIdx_of_length_le (l := C.R.map Pg.fr) (k := C.R.length) (by simp)] at k3
      refine I.move (erase_sub k2 k3) fun y hy => ?_
      rcases erase_all k2 y hy with h | h
      · exact .inl h
      · rw [List.getElem?_eq_none (Nat.le_refl _)] at h
        cases h
  · obtain ⟨y, hy, ey⟩ := List.mem_map.1 (List.mem_of_getElem? k4)
    have hlt : cnt hf 8 < C.R.length := by
      rcases Nat.lt_or_ge (cnt hf 8) C.R.length with h | h
      · exact h
      · have := c2.1 (by omega) y hy
        rw [ey, k2] at this
        omega
    refine ⟨x.f, x.q, ?_, _, C.evC, o, hn.1, ?_, by omega, by omega, rfl⟩
    · rw [he, k1, show decide (cnt hf 8 < C.R.length) = true from decide_eq_true hlt]
      rfl
    · refine I.move (erase_sub k5 k6) fun z hz => ?_
      rcases erase_all k5 z hz with h | h
      · exact .inl h
      · rw [List.getElem?_map, h] at k4
        right
        rw [show z.fr = x.fr by simpa using k4, k2]
theorem one_bytes (s : Sf w a n K i hf v f W) : Calls Tryd.prog 14 #[.pointer (some ⟨a.pp, 0, none⟩), .int .i64 (f : Int)] W fun e W' => e = .returned (.tuple #[.string (dat3 (kf v) (kq v)), .int .i64 0]) ∧ Below W.heap.size W W' := by
  obtain ⟨C, o, S, I, h1, h2, x, hx, e1, e2, rfl⟩ := s
  have h := ls_bytes S hx
  rw [e1, e2] at h
  exact h
theorem one_drop1 (s : Sf w a n K i hf v f W) (hv : v < 8) (hp : 0 < hf v) : Calls Tryd.prog 15 #[.pointer (some ⟨a.pp, 0, none⟩), .int .i64 (f : Int)] W fun e W' => e = .returned (.int .i64 0) ∧ But (fun j => ¬ K j) W W' ∧ ∃ l, St w a n K i (less hf v) l W' := by
  obtain ⟨C, o, S, I, h1, h2, x, hx, e1, e2, rfl⟩ := s
  refine (ls_drop S x.fr (by rw [← I.some v hv x hx e1 e2]; exact hp)).mono fun e W' ⟨he, hn⟩ => ⟨he, hn.2, _, _, _, hn.1, ?_, h1, h2, rfl⟩
  exact I.turn S.inv.once S.inv.keys hx hv e1 e2 (· - 1) (i' := i) (fun k hk => by omega) (Nat.le_refl _)
theorem one_has (s : St w a n K i hf l W) (hv : v < 8) : Calls Tryd.prog 16 #[.pointer (some ⟨a.pc, 0, none⟩), .agg #[.int .i64 (kf v), .int .i64 (kq v)]] W fun e W' => Below W.heap.size W W' ∧
    ((e = .returned (.tuple #[.int .i64 0, .bool false]) ∧ hf v = 0) ∨ ∃ f : Nat, e = .returned (.tuple #[.int .i64 (f : Int), .bool true]) ∧ Sf w a n K i hf v f W') := by
  obtain ⟨C, o, S, I, h1, h2, rfl⟩ := s
  obtain ⟨w1, w2⟩ := kf_wf hv
  have h := ls_has S (kf v) (kq v) w1 w2
  cases hp : pgF C.R (kf v) (kq v) with
  | some x =>
    obtain ⟨hm, e1, e2⟩ := pgF_some hp
    rw [show hasV C.R (kf v) (kq v) = .tuple #[.int .i64 (x.fr : Int), .bool true] by unfold hasV gR; rw [hp]; rfl] at h
    exact h.mono fun e W' ⟨he, hb⟩ => ⟨hb, .inr ⟨x.fr, he, C, o, S.on hb, I, h1, h2, x, hm, e1, e2, rfl⟩⟩
  | none =>
    rw [show hasV C.R (kf v) (kq v) = .tuple #[.int .i64 0, .bool false] by unfold hasV gR; rw [hp]; rfl] at h
    exact h.mono fun e W' ⟨he, hb⟩ => ⟨hb, .inl ⟨he, I.none v hv fun x hx e => pgF_none.1 hp (List.mem_map.2 ⟨x, hx, by unfold Pg.key; rw [e.1, e.2]⟩)⟩⟩
theorem one_held (s : Sf w a n K i hf v f W) (hv : v < 8) : Calls Tryd.prog 17 #[.pointer (some ⟨a.pp, 0, none⟩), .int .i64 (f : Int)] W fun e W' => e = .returned (.int .i64 ((hf v + 1 : Nat) : Int)) ∧ W = W' := by
  obtain ⟨C, o, S, I, h1, h2, x, hx, e1, e2, rfl⟩ := s
  have h := ls_held S x.fr (S.lt x hx)
  rw [if_pos (mem_fr hx), ← I.some v hv x hx e1 e2] at h
  exact h
end
end Go.Proofs.YtmbjflcmbenbdaaDoor

/- CacheOne: the reference beside the cache; rows that come in. -/
namespace Go.Proofs.YtmbjflcmbenbdaaDoor
open Go.RowKit Go.Maps Go.ChangeShapes Go.WideShapes Go.Deep
set_option linter.unusedVariables false
set_option linter.unusedSimpArgs false

theorem ext_lt {W : World} {v : Value} {l : List (Nat × Nat)} (h : ExtRow W v l) {j : Nat} (hj : v.ownBlock = some j) : j < W.heap.size := by
  rcases h with ⟨h0, _⟩ | ⟨g, cap, cur, h1, h2, h3⟩
  · subst h0; cases hj
  · subst h1
    injection hj with hj
    subst hj
    exact h2.lt
/-- The reference's files, in blocks from b up to B. -/
def Rf (b B gp : Nat) (W : World) : Prop := ∃ b' g c val vs, RSb b' W g c (builtL fs3 2) (builtL fs3 2).length gp (builtX fs3 2) val vs ∧ b ≤ b' ∧ (b ≤ g ∧ g < B) ∧ (b ≤ gp ∧ gp < B) ∧ (∀ j, val.ownBlock = some j → j < B) ∧ ∀ i (h : i < vs.length) j, vs[i].ownBlock = some j → j < B
theorem Rf.but {b B gp : Nat} {W W' : World} {S : Nat → Prop} (h : Rf b B gp W) (hb : But S W W') (hS : ∀ j, b ≤ j → j < B → ¬ S j) : Rf b B gp W' := by
  obtain ⟨b', g, c, val, vs, h, h1, h2, h3, h4, h5⟩ := h
  refine ⟨b', g, c, val, vs, ⟨h.box.but hb (hS gp h3.1 h3.2), ⟨h.row.len, own_but h.row.own hb (fun k hk => hS k (Nat.le_trans h1 (own_ge h.row.own hk)) (h4 k hk)), fun i hi hi' => ⟨(h.row.ext i hi hi').1.but hb (fun g hg => hS g (Nat.le_trans h1 ((h.row.ext i hi hi').2 g hg)) (h5 i hi' g hg)), (h.row.ext i hi hi').2⟩⟩, h.txt.butK hb (hS g h2.1 h2.2)⟩, h1, h2, h3, h4, h5⟩
theorem Rf.below {b B gp : Nat} {W W' : World} (h : Rf b B gp W) (hb : Below W.heap.size W W') : Rf b B gp W' := h.but (S := fun _ => False) (But.of_below hb) fun _ _ _ h => h
theorem Rf.new {b g c gp : Nat} {v W : World} {val : Value} {vs : List Value} (h : RSo v W g c (builtL fs3 2) (builtL fs3 2).length gp (builtX fs3 2) val vs) (h1 : b ≤ v.heap.size) (h2 : b ≤ g) : Rf b W.heap.size gp W := by
  have hg : g < W.heap.size := by
    obtain ⟨g', c', cur, e, hbk, _⟩ := h.txt
    injection e with e _ _
    injection e with e
    injection e with e _ _
    subst e
    exact hbk.lt
  exact ⟨_, g, c, val, vs, h.b, h1, ⟨h2, hg⟩, ⟨Nat.le_trans h1 h.gpw, h.box.lt⟩, fun j hj => own_lt h.row.own hj, fun i hi j hj => ext_lt (h.row.ext i (by rw [← h.row.len]; exact hi) hi).1 hj⟩
theorem Rf.wide {b B B' gp : Nat} {W : World} (h : Rf b B gp W) (hB : B ≤ B') : Rf b B' gp W := by
  obtain ⟨b', g, c, val, vs, h, h1, h2, h3, h4, h5⟩ := h
  exact ⟨b', g, c, val, vs, h, h1, ⟨h2.1, by omega⟩, ⟨h3.1, by omega⟩, fun j hj => by have := h4 j hj; omega, fun i hi j hj => by have := h5 i hi j hj; omega⟩
/-- A page of the law. -/
theorem one_page {b B gp : Nat} {W : World} (h : Rf b B gp W) {v : Nat} (hv : v < 8) :
    Calls Tryd.prog 13 #[.pointer (some ⟨gp, 0, none⟩), .int .i64 (kf v), .int .i64 (kq v)] W fun e w' => e = .returned (.tuple #[.string (dat3 (kf v) (kq v)), .int .i64 0]) ∧ Below W.heap.size W w' := by
  obtain ⟨b', g, c, val, vs, h, _⟩ := h
  obtain ⟨k, q, hk, ek, eq⟩ := kf_file hv
  have hin := (kq_in hv).2
  rw [ek, eq] at hin ⊢
  rw [pgsOf_at hk] at hin
  rw [dat3_at hk]
  have hxl : (builtX fs3 2).length = fs3.length := builtX_length (by omega)
  exact rpage_yes h (built_disk can3 (by omega) ⟨builtL fs3 2, 0, 0, 0⟩ rfl) k (by rw [hxl]; exact hk) fs3[k].data (built_data (by omega) ⟨builtL fs3 2, 0, 0, 0⟩ rfl k (by rw [hxl]; exact hk) hk) q (by exact_mod_cast hin)
/-- The cells of the law's notes. -/
def hvA (hf : Nat → Nat) : Array Value := ((List.range 8).map fun j => Value.int .i64 (hf j : Nat)).toArray
theorem hvA_at (hf : Nat → Nat) (k : Nat) (hk : k < 8) : (hvA hf)[k]? = some (.int .i64 (hf k : Nat)) := by
  unfold hvA
  simp [hk]
theorem hvA_set (hf : Nat → Nat) (k m : Nat) (hk : k < 8) : (hvA hf).setIfInBounds k (.int .i64 (m : Nat)) = hvA fun j => if j = k then m else hf j := by
  unfold hvA
  apply Array.ext'
  rcases (show k = 0 ∨ k = 1 ∨ k = 2 ∨ k = 3 ∨ k = 4 ∨ k = 5 ∨ k = 6 ∨ k = 7 by omega) with rfl | rfl | rfl | rfl | rfl | rfl | rfl | rfl <;> rfl
set_option maxRecDepth 100000 in
theorem map0_any (w : World) : Calls Tryd.prog 9 #[] w fun e w' => e = .returned (.slice (some ⟨w.heap.size, 0, none⟩) 8 8) ∧ w' = w.alloc (.cells (hvA fun _ => 0) 3) := by
  obtain ⟨i0, hi, hz0, hz1, hz2⟩ := info_parts infoInt
  have hmk : (Instr.makeSlice 22 (.int .i64 8) (.int .i64 8)).run Tryd.prog w = .ok (.slice (some ⟨w.heap.size, 0, none⟩) 8 8) (w.alloc (.cells (hvA fun _ => 0) 3)) := run_make_ints (P := Tryd.prog) 22 3 i0 Tryd.underlying22 hi hz0 hz1 hz2 8 (by omega) w
  go_enter Tryd.func9, Tryd.ntmps9
  go_wp2
  go_ret
  exact ⟨rfl, rfl⟩
/-- A slice of yes and no. -/
def BoolRow (w : World) (A : Option Addr) (l : List Bool) : Prop := ∀ i (hi : i < l.length), ∃ ad, A = some ad ∧ ad.block < w.heap.size ∧ w.cell? (ad.add i) = some (.bool l[i])
set_option maxRecDepth 100000 in
theorem openBools14 {H : Type} {enc : TypeId × Value → H} {w : World} {base : Nat} {spare : Nat → Bool} {held : Bool} {r : Reach} {b0 : Nat} {v : Value} {d : DataW H} {ps : List MemPlace}
    (hv : Value.okWide Tryd.prog w r b0 23 v) (h : DataW.Trod enc Tryd.prog w base spare held 23 v d ps) : ∃ A l c, v = .slice A (List.length l) c ∧ l.length ≤ maxLen ∧ BoolRow w A l := by
  have hc1 : Tryd.prog.cellsOf 4 = 1 := by kernel_rfl
  obtain ⟨A, n, c, rfl, hn, hi⟩ := open_row_n Tryd.underlying23 hv h (by rw [hc1]; omega)
  obtain ⟨zs, hl, hz⟩ := list_of (Q := fun i (z : Bool) => ∃ ad, A = some ad ∧ ad.block < w.heap.size ∧ w.cell? (ad.add i) = some (.bool z)) n (fun i h => by
    obtain ⟨ad, rfl, hb, fuel, cs, y, hlen, hat, hy⟩ := hi i h
    obtain ⟨z, rfl, _⟩ := DataW.trod_bool Tryd.underlying4 hy
    have := hat 0 (by rw [hc1]; omega)
    rw [hc1, Nat.mul_one] at this
    exact ⟨z, ad, rfl, hb, this⟩)
  subst hl
  exact ⟨A, zs, c, rfl, hn, hz⟩
end Go.Proofs.YtmbjflcmbenbdaaDoor
