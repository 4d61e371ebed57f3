/- Package files: files that were opened, in memory. -/
import Derived.Test.YtmbjflcmbenbdaaDoorFC
namespace Go.Proofs.YtmbjflcmbenbdaaDoor
open Go.RowKit Go.Shelf
set_option linter.unusedVariables false
set_option linter.unusedSimpArgs false

theorem read_ok {p g : Nat} {D : Dsk} {w : World} (h : Dk w p g D) (k : Nat) (hk : k < D.S.length) (z : Int) (hz : z = k) :
    Calls Tryd.prog 42 #[.pointer (some ⟨p, 0, none⟩), .int .i64 z] w fun e w' => e = .returned (.tuple #[.string D.S[k], .int .i64 0]) ∧ But (· = p) w w' ∧ ∃ D' : Dsk, D'.S = D.S ∧ Dk w' p g D' := by
  subst hz
  have hh : D.has k = true := has_iff.2 ⟨by omega, by omega⟩
  refine (read_any h k).mono fun e w' ⟨he, hb, hd⟩ => ⟨?_, hb, _, ?_, hd⟩
  · rw [he]
    unfold Dsk.rdS Dsk.rdE
    rw [if_pos hh, if_pos hh, Int.toNat_natCast, List.getD, List.getElem?_eq_getElem hk]
    rfl
  · unfold Dsk.rdD
    split <;> rfl

/-- The cells of a row of inodes, their extents lying at these slices. -/
def inoCells (xs : List Ino) (vs : List Value) : List Value := (xs.zip vs).flatMap fun p => [.string p.1.name, .int .i64 p.1.size, p.2]
theorem inoCells_length : ∀ (xs : List Ino) (vs : List Value), vs.length = xs.length → (inoCells xs vs).length = xs.length * 3
  | [], _, _ => rfl
  | x :: xs, [], h => by simp at h
  | x :: xs, v :: vs, h => by
    have h1 := inoCells_length xs vs (by simpa using h)
    unfold inoCells at *
    rw [List.zip_cons_cons, List.flatMap_cons, List.length_append, h1]
    simp; omega
theorem inoCells_snoc (xs : List Ino) (vs : List Value) (x : Ino) (v : Value) (h : vs.length = xs.length) : inoCells (xs ++ [x]) (vs ++ [v]) = inoCells xs vs ++ [.string x.name, .int .i64 x.size, v] := by
  unfold inoCells
  rw [List.zip_append (by omega), List.flatMap_append]
  simp
theorem inoCells_at : ∀ (xs : List Ino) (vs : List Value) (k : Nat) (h : k < xs.length) (h' : k < vs.length), (inoCells xs vs)[k * 3]? = some (.string xs[k].name) ∧ (inoCells xs vs)[k * 3 + 1]? = some (.int .i64 xs[k].size) ∧ (inoCells xs vs)[k * 3 + 2]? = some vs[k]
  | x :: xs, v :: vs, 0, _, _ => ⟨rfl, rfl, rfl⟩
  | x :: xs, v :: vs, k + 1, h, h' => by
    have h1 := inoCells_at xs vs k (by simpa using h) (by simpa using h')
    unfold inoCells at *
    rw [List.zip_cons_cons, List.flatMap_cons, show (k + 1) * 3 = k * 3 + 3 by omega]
    exact h1

/-- The slice val holds these inodes, in blocks from B on. -/
structure InoRow (W : World) (B : Nat) (val : Value) (xs : List Ino) (vs : List Value) : Prop where
  len : vs.length = xs.length
  own : W.ownsRow B 67 3 val xs.length (inoCells xs vs)
  ext : ∀ i (h : i < xs.length) (h' : i < vs.length), ExtRow W vs[i] xs[i].ext ∧ ∀ g, vs[i].ownBlock = some g → B ≤ g
theorem own_but {S : Nat → Prop} {w w' : World} {B e size n : Nat} {v : Value} {xs : List Value} (h : w.ownsRow B e size v n xs) (hb : But S w w') (hS : ∀ k, v.ownBlock = some k → ¬ S k) : w'.ownsRow B e size v n xs := by
  obtain ⟨h1, h2⟩ := h
  refine ⟨h1, ?_⟩
  rcases h2 with h2 | ⟨g, cap, cur, rfl, hB, hg, r⟩
  · exact .inl h2
  · exact .inr ⟨g, cap, cur, rfl, hB, (hb.block g (Array.getElem?_eq_some_iff.1 hg).1 (hS g rfl)).trans hg, r⟩
theorem own_ge {w : World} {B e size n : Nat} {v : Value} {xs : List Value} (h : w.ownsRow B e size v n xs) {k : Nat} (hk : v.ownBlock = some k) : B ≤ k := (h.lt k hk).1
theorem InoRow.but {S : Nat → Prop} {W W' : World} {B : Nat} {val : Value} {xs : List Ino} {vs : List Value} (h : InoRow W B val xs vs) (hb : But S W W') (hS : ∀ k, S k → k < B) : InoRow W' B val xs vs :=
  ⟨h.len, own_but h.own hb (fun k hk hs => by have := own_ge h.own hk; have := hS k hs; omega), fun i hi hi' => ⟨(h.ext i hi hi').1.but hb (fun g hg hs => by have := (h.ext i hi hi').2 g hg; have := hS g hs; omega), (h.ext i hi hi').2⟩⟩
theorem InoRow.nil (W : World) (B : Nat) : InoRow W B (.slice none 0 0) [] [] := ⟨rfl, World.ownsRow_nil _ _ _ _, fun i h => by simp at h⟩

/-- The files xs, of the disk at pd, lie at p. -/
structure Fs (W : World) (B p pd used : Nat) (xs : List Ino) : Prop where
  ex : ∃ val vs mb, Blk W p 100 #[.pointer (some ⟨pd, 0, none⟩), .int .i64 used, val, .map (some mb)] ∧ InoRow W B val xs vs ∧ NumMap W mb (xs.map Ino.name) ∧ B ≤ p ∧ B ≤ mb
  old : pd < B
theorem Fs.but {S : Nat → Prop} {W W' : World} {B p pd used : Nat} {xs : List Ino} (h : Fs W B p pd used xs) (hb : But S W W') (hS : ∀ k, S k → k < B) : Fs W' B p pd used xs := by
  obtain ⟨⟨val, vs, mb, h1, h2, h3, h4, h5⟩, ho⟩ := h
  exact ⟨⟨val, vs, mb, h1.but hb (fun e => by have := hS _ e; omega), h2.but hb hS, h3.but hb (fun e => by have := hS _ e; omega), h4, h5⟩, ho⟩
theorem Fs.below {W W' : World} {B p pd used : Nat} {xs : List Ino} (h : Fs W B p pd used xs) (hb : Below W.heap.size W W') : Fs W' B p pd used xs := h.but (S := fun _ => False) (But.of_below hb) (fun _ => False.elim)

/-- A disk on which these files stand. -/
structure OnDisk (D : Dsk) (used : Nat) (xs : List Ino) : Prop where
  many : xs.length ≤ 64
  full : used = D.S.length
  head : D.S[0]? = some (headS xs.length used)
  inos : ∀ k (h : k < xs.length), D.S[1 + k]? = some (inoS xs[k])
  fits : ∀ x ∈ xs, InoFits x ∧ Stands x (1 + xs.length) used
  names : (xs.map Ino.name).Nodup
  room : D.S.length ≤ 16384

theorem own_kp {S : Nat → Prop} {w w' : World} {B e size n : Nat} {v : Value} {xs : List Value} (h : w.ownsRow B e size v n xs) (hk : KpC S w w') (hS : ∀ k, v.ownBlock = some k → ¬ S k) : w'.ownsRow B e size v n xs := by
  obtain ⟨h1, h2⟩ := h
  refine ⟨h1, ?_⟩
  rcases h2 with h2 | ⟨g, cap, cur, rfl, hB, hg, r⟩
  · exact .inl h2
  · exact .inr ⟨g, cap, cur, rfl, hB, hk g cur e (hS g rfl) hg, r⟩
theorem not_map {w : World} {mb : Nat} {ns : List ByteArray} (h : NumMap w mb ns) {g : Nat} {t : TypeId} {cs : Array Value} (hb : Blk w g t cs) : g ≠ mb := by
  rintro rfl
  obtain ⟨es, clock, h1, _⟩ := h
  unfold Blk at hb
  rw [h1] at hb
  cases hb
theorem own_not_map {w : World} {mb : Nat} {ns : List ByteArray} (h : NumMap w mb ns) {B e size n : Nat} {v : Value} {xs : List Value} (ho : w.ownsRow B e size v n xs) {g : Nat} (hg : v.ownBlock = some g) : g ≠ mb := by
  rcases ho.2 with ⟨rfl, _⟩ | ⟨g', cap, cur, rfl, _, hgb, _⟩
  · simp [Value.ownBlock] at hg
  · obtain rfl : g' = g := by simpa [Value.ownBlock] using hg
    exact not_map h hgb
theorem ext_not_map {w : World} {mb : Nat} {ns : List ByteArray} (h : NumMap w mb ns) {v : Value} {l : List (Nat × Nat)} (ho : ExtRow w v l) {g : Nat} (hg : v.ownBlock = some g) : g ≠ mb := by
  rcases ho with ⟨rfl, _⟩ | ⟨g', cap, cur, rfl, hb, _⟩
  · simp [Value.ownBlock] at hg
  · obtain rfl : g' = g := by simpa [Value.ownBlock] using hg
    exact not_map h hb
theorem ext_not_row {w : World} {v : Value} {l : List (Nat × Nat)} (ho : ExtRow w v l) {B size n : Nat} {u : Value} {xs : List Value} (hu : w.ownsRow B 67 size u n xs) {g : Nat} (hg : v.ownBlock = some g) : u.ownBlock ≠ some g := by
  rcases ho with ⟨rfl, _⟩ | ⟨g', cap, cur, rfl, hb, _⟩
  · simp [Value.ownBlock] at hg
  · obtain rfl : g' = g := by simpa [Value.ownBlock] using hg
    exact hb.not_row (by decide) hu
theorem ext_not_blk {w : World} {v : Value} {l : List (Nat × Nat)} (ho : ExtRow w v l) {b : Nat} {t : TypeId} {cs : Array Value} (hb : Blk w b t cs) (ht : t ≠ 70) {g : Nat} (hg : v.ownBlock = some g) : g ≠ b := by
  rcases ho with ⟨rfl, _⟩ | ⟨g', cap, cur, rfl, hb', _⟩
  · simp [Value.ownBlock] at hg
  · obtain rfl : g' = g := by simpa [Value.ownBlock] using hg
    rintro rfl
    unfold Blk at hb hb'
    rw [hb] at hb'
    injection hb' with hb'
    injection hb' with _ h2 _
    exact ht h2
theorem InoRow.map {W W' : World} {B mb : Nat} {val : Value} {xs : List Ino} {vs : List Value} {ns : List ByteArray} (h : InoRow W B val xs vs) (hm : NumMap W mb ns) (hb : But (· = mb) W W') : InoRow W' B val xs vs :=
  ⟨h.len, own_but h.own hb (fun k hk => own_not_map hm h.own hk), fun i hi hi' => ⟨(h.ext i hi hi').1.but hb (fun g hg => ext_not_map hm (h.ext i hi hi').1 hg), (h.ext i hi hi').2⟩⟩
/-- One more inode behind a row: what was appended, and what stays. -/
theorem InoRow.snoc {W W' : World} {B : Nat} {val u : Value} {xs : List Ino} {vs : List Value} {x : Ino} {v : Value} (h : InoRow W B val xs vs) (S : Nat → Prop) (hk : KpC S W W') (hSe : ∀ w l g, ExtRow W w l → w.ownBlock = some g → ¬ S g)
    (hv : ExtRow W v x.ext) (hvb : ∀ g, v.ownBlock = some g → B ≤ g) (hu : W'.ownsRow B 67 3 u (xs.length + 1) (inoCells xs vs ++ [.string x.name, .int .i64 x.size, v])) : InoRow W' B u (xs ++ [x]) (vs ++ [v]) := by
  refine ⟨by simp [h.len], by rw [inoCells_snoc _ _ _ _ h.len, List.length_append]; exact hu, fun i hi hi' => ?_⟩
  rcases Nat.lt_or_ge i xs.length with hl | hl
  · rw [List.getElem_append_left hl, List.getElem_append_left (by rw [h.len]; exact hl)]
    exact ⟨(h.ext i hl _).1.kp hk (fun g hg => hSe _ _ g (h.ext i hl _).1 hg), (h.ext i hl _).2⟩
  · have e : i = xs.length := by simp at hi; omega
    subst e
    rw [List.getElem_append_right (Nat.le_refl _), List.getElem_append_right (by rw [h.len]; exact Nat.le_refl _)]
    simp only [Nat.sub_self, List.getElem_cons_zero, h.len]
    exact ⟨hv.kp hk (fun g hg => hSe _ _ g hv hg), hvb⟩

theorem But.on {S T : Nat → Prop} {w v v' : World} (h : But S w v) (hb : But T v v') (hT : ∀ k, T k → S k ∨ w.heap.size ≤ k) : But S w v' :=
  ⟨hb.os.trans h.os, hb.tape.trans h.tape, hb.output.trans h.output, Nat.le_trans h.size hb.size, fun k hk hn => (hb.block k (Nat.lt_of_lt_of_le hk h.size) (fun e => by
    rcases hT k e with h1 | h1
    · exact hn h1
    · omega)).trans (h.block k hk hn)⟩

/-- Open behind k rounds: the files below k are kept. -/
structure OpSt (w W : World) (pd gd used mb pf : Nat) (D : Dsk) (xs : List Ino) (k : Nat) (val : Value) (vs : List Value) (D' : Dsk) : Prop where
  sec : D'.S = D.S
  dsk : Dk W pd gd D'
  box : Blk W pf 100 #[.pointer (some ⟨pd, 0, none⟩), .int .i64 used, val, .map (some mb)]
  row : InoRow W w.heap.size val (xs.take k) vs
  nums : NumMap W mb ((xs.take k).map Ino.name)
  but : But (· = pd) w W
section
variable {w W W' : World} {pd gd used mb pf k : Nat} {D D' D'' : Dsk} {xs : List Ino} {val : Value} {vs : List Value}
theorem OpSt.step (h : OpSt w W pd gd used mb pf D xs k val vs D') (hp : pd < w.heap.size) (hm : w.heap.size ≤ mb) (hf : w.heap.size ≤ pf) (hb : But (· = pd) W W') (hs : D''.S = D.S) (hd : Dk W' pd gd D'') : OpSt w W' pd gd used mb pf D xs k val vs D'' :=
  ⟨hs, hd, h.box.but hb (by omega), h.row.but hb (fun k e => by omega), h.nums.but hb (by omega), h.but.trans hb⟩
theorem OpSt.below (h : OpSt w W pd gd used mb pf D xs k val vs D') (hp : pd < w.heap.size) (hm : w.heap.size ≤ mb) (hf : w.heap.size ≤ pf) (hb : Below W.heap.size W W') : OpSt w W' pd gd used mb pf D xs k val vs D' :=
  h.step hp hm hf (But.of_below hb) h.sec (h.dsk.below hb h.dsk.head.lt h.dsk.row.lt)
theorem OpSt.alloc (h : OpSt w W pd gd used mb pf D xs k val vs D') (hp : pd < w.heap.size) (hm : w.heap.size ≤ mb) (hf : w.heap.size ≤ pf) (o : Obj) : OpSt w (W.alloc o) pd gd used mb pf D xs k val vs D' :=
  h.below hp hm hf ((Below.refl _ _).alloc (Nat.le_refl _) o)
end
theorem readInode_lit (x : Ino) (h : InoFits x) (w : World) : Calls Tryd.prog 45 #[.string (inoS x)] w fun e w' =>
    ∃ A c, e = .returned (.tuple #[.agg #[.string x.name, .int .i64 x.size, .slice A x.ext.length c], .bool true]) ∧ ExtRow w' (.slice A x.ext.length c) x.ext ∧ (∀ g, (Value.slice A x.ext.length c).ownBlock = some g → w.heap.size ≤ g) ∧ Below w.heap.size w w' :=
  (readInode_any x h w).mono fun e w' ⟨v, he, hv, hb, hB⟩ => by
    obtain ⟨A, c, rfl⟩ := hv.slice
    exact ⟨A, c, he, hv, hb, hB⟩
theorem infoIno : (Tryd.prog.info? 67).map (fun i => (i.zero, i.size, i.bytes)) = some (some (.agg #[.string ⟨#[]⟩, .int .i64 0, .slice none 0 0]), 3, 48) := by kernel_rfl

/-- They were opened. -/
def Opened (w : World) (pd gd : Nat) (D : Dsk) (used : Nat) (xs : List Ino) (e : Ending) (w' : World) : Prop :=
  ∃ p, e = .returned (.tuple #[.pointer (some ⟨p, 0, none⟩), .int .i64 0]) ∧ Fs w' w.heap.size p pd used xs ∧ (∃ D' : Dsk, D'.S = D.S ∧ Dk w' pd gd D') ∧ But (· = pd) w w'

set_option maxRecDepth 100000 in
theorem open_nil (w : World) : Calls Tryd.prog 20 #[.pointer none] w fun e w' => e = .returned (.tuple #[.pointer none, .int .i64 1]) ∧ w = w' := by
  go_enter Tryd.func20, Tryd.ntmps20
  go_wp2
  go_ret2
  exact ⟨rfl, rfl⟩

set_option maxRecDepth 100000 in
set_option maxHeartbeats 4000000 in
theorem open_any (pd gd used : Nat) (D : Dsk) (xs : List Ino) (w : World) (h : Dk w pd gd D) (ho : OnDisk D used xs) : Calls Tryd.prog 20 #[.pointer (some ⟨pd, 0, none⟩)] w (Opened w pd gd D used xs) := by
  have hroom := ho.room
  have hmany := ho.many
  have hused := ho.full
  have hum : used ≤ 16384 := by omega
  have hgl := h.row.lt
  have h0 : 0 < D.S.length := by
    have := ho.head
    rcases Nat.eq_zero_or_pos D.S.length with e | e
    · rw [List.getElem?_eq_none (by omega)] at this; cases this
    · exact e
  have hk1 : 1 + xs.length ≤ used := by
    rcases Nat.eq_zero_or_pos xs.length with e | e
    · omega
    · have := ho.inos (xs.length - 1) (by omega)
      rcases Nat.lt_or_ge (1 + (xs.length - 1)) D.S.length with e' | e'
      · omega
      · rw [List.getElem?_eq_none (by omega)] at this; cases this
  have q1 := read_ok h 0 h0 0 rfl
  have e0 : D.S[0] = headS xs.length used := by have := ho.head; rw [List.getElem?_eq_getElem h0] at this; exact Option.some.inj this
  rw [e0] at q1
  have q2 := fun w => readHead_any xs.length used w (by omega) (by omega)
  have q3 : ∀ (D' : Dsk) w', D'.S = D.S → Dk w' pd gd D' → Calls Tryd.prog 44 #[.pointer (some ⟨pd, 0, none⟩)] w' fun e w'' => e = .returned (.int .i64 used) ∧ w' = w'' := fun D' w' hs hd => by
    have := sectors_any hd
    rw [hs, ← hused] at this
    exact this
  generalize headS xs.length used = HS at *
  have Q1 := Lib.hid q1
  have Q2 := Lib.hid q2
  have Q3 := Lib.hid q3
  have hpl := h.head.lt
  have HD := Lib.hid h
  have HO := Lib.hid ho
  clear q1 q2 q3 e0 h ho hused
  have hmm := @run_makeMap Tryd.prog
  go_enter Tryd.func20, Tryd.ntmps20
  go_wp2_with (first
    | (go_at_call 42; with_reducible refine Q1.out.mono ?_; rintro e v1 ⟨rfl, hb1, D1, hD1, hd1⟩)
    | (go_at_call 43; with_reducible refine (Q2.out _).mono ?_; rintro e v2 ⟨rfl, hb2⟩; have hd2 := hd1.below hb2 hd1.head.lt hd1.row.lt)
    | (go_at_call 44; with_reducible refine (Q3.out _ _ hD1 hd2).mono ?_; rintro e v3 ⟨rfl, rfl⟩))
  obtain ⟨mb, hmb⟩ : ∃ mb, v2.heap.size = mb := ⟨_, rfl⟩
  have hm0 := NumMap.made v2
  rw [hmb] at hm0 ⊢
  have hf0 := Blk.new (v2.alloc (.map #[] 0)) 100 #[.pointer (some ⟨pd, 0, none⟩), .int .i64 used, .slice none 0 0, .map (some mb)]
  have hsz2 : (v2.alloc (.map #[] 0)).heap.size = mb + 1 := by rw [World.size_alloc, hmb]
  rw [hsz2] at hf0
  have hm1 : NumMap ((v2.alloc (.map #[] 0)).alloc (.cells #[.pointer (some ⟨pd, 0, none⟩), .int .i64 used, .slice none 0 0, .map (some mb)] 100)) mb [] := World.ownsMap.alloc hm0 _
  have hbt : But (· = pd) w ((v2.alloc (.map #[] 0)).alloc (.cells #[.pointer (some ⟨pd, 0, none⟩), .int .i64 used, .slice none 0 0, .map (some mb)] 100)) := ((hb1.trans (But.of_below hb2)).alloc _).alloc _
  have hdd := (hd2.alloc (.map #[] 0)).alloc (.cells #[.pointer (some ⟨pd, 0, none⟩), .int .i64 used, .slice none 0 0, .map (some mb)] 100)
  have hwm : w.heap.size ≤ mb := by rw [← hmb]; exact Nat.le_trans hb1.size hb2.size
  have hst : OpSt w ((v2.alloc (.map #[] 0)).alloc (.cells #[.pointer (some ⟨pd, 0, none⟩), .int .i64 used, .slice none 0 0, .map (some mb)] 100)) pd gd used mb (mb + 1) D xs 0 (.slice none 0 0) [] D1 := ⟨hD1, hdd, hf0, InoRow.nil _ _, hm1, hbt⟩
  generalize (v2.alloc (.map #[] 0)).alloc (.cells #[.pointer (some ⟨pd, 0, none⟩), .int .i64 used, .slice none 0 0, .map (some mb)] 100) = W0 at *
  obtain ⟨pf, hpf⟩ : ∃ pf, mb + 1 = pf := ⟨_, rfl⟩
  have hwf : w.heap.size ≤ pf := by omega
  have hpm : pf ≠ mb := by omega
  rw [hpf] at hst ⊢
  clear hm0 hf0 hsz2 hm1 hbt hdd hmb hb1 hd1 hb2 hd2 hD1 hpf Q1 Q2 Q3 HD hmm
  obtain ⟨i0, hi, hz0, hz1, hz2⟩ := info_parts infoIno
  go_loopw [54] (fun i wr => ∃ (k : Nat) (val : Value) (vs : List Value) (D' : Dsk), k ≤ xs.length ∧ i = .int .i64 k ∧ OpSt w wr pd gd used mb pf D xs k val vs D') (fun i _ => xs.length - (intOf i).toNat)
  case atStart => exact ⟨0, _, _, _, Nat.zero_le _, rfl, hst⟩
  case round =>
    clear hst W0
    obtain ⟨k, val, vs, D', hk, rfl, hst⟩ := hrel
    by_cases hlt : k < xs.length
    · have hs1 := HO.out.inos k hlt
      have hin : 1 + k < D'.S.length := by
        rw [hst.sec]
        rcases Nat.lt_or_ge (1 + k) D.S.length with e | e
        · exact e
        · rw [List.getElem?_eq_none e] at hs1; cases hs1
      have r1 := read_ok hst.dsk (1 + k) hin (1 + (k : Int)) (by omega)
      have e1 : D'.S[1 + k] = inoS xs[k] := by
        have h2 : D'.S[1 + k]? = some (inoS xs[k]) := by rw [hst.sec]; exact hs1
        rw [List.getElem?_eq_getElem hin] at h2
        exact Option.some.inj h2
      rw [e1, hst.sec] at r1
      obtain ⟨hfit, hstd⟩ := HO.out.fits _ (List.getElem_mem hlt)
      have r2 := fun w => readInode_lit xs[k] hfit w
      have r3 := fun v w (hv : ExtRow w v xs[k].ext) => stands_any xs[k] v (1 + xs.length) used w hfit.small hv hstd (by omega) (by omega)
      rw [show ((1 + xs.length : Nat) : Int) = 1 + (xs.length : Int) by omega] at r3
      have hnl : ((xs.take k).map Ino.name).length = k := by simp; omega
      have hns : (xs.take (k + 1)).map Ino.name = (xs.take k).map Ino.name ++ [xs[k].name] := by rw [List.take_succ_eq_append_getElem hlt, List.map_append]; rfl
      have hnn : xs[k].name ∉ (xs.take k).map Ino.name := by
        have hnd := HO.out.names
        have h2 : (xs.take (k + 1)).map Ino.name <+: xs.map Ino.name := (List.take_prefix _ _).map _
        have h3 := hnd.sublist h2.sublist
        rw [hns, List.nodup_append] at h3
        intro hmem
        exact h3.2.2 _ hmem _ (by simp) rfl
      have r4 := fun w (h : NumMap w mb ((xs.take k).map Ino.name)) => enter_yes mb _ xs[k].name w h (by omega) hfit.name hnn
      rw [hnl, ← hns] at r4
      have hts : xs.take (k + 1) = xs.take k ++ [xs[k]] := List.take_succ_eq_append_getElem hlt
      have hname := (nameOk_iff.1 hfit.name).2.1
      have hext := hfit.many
      generalize xs[k] = x at *
      generalize inoS x = S1 at *
      obtain ⟨nm, sz, ext⟩ := x
      simp only [inoV] at *
      have R1 := Lib.hid r1
      have R2 := Lib.hid r2
      have R3 := Lib.hid r3
      have R4 := Lib.hid r4
      have HT := Lib.hid hts
      have HST := Lib.hid hst
      clear r1 r2 r3 r4 hts hst hs1 hin hfit hstd hnl hns hnn e1
      go_wp2_with (first
        | (go_at_call 42; with_reducible refine R1.out.mono ?_; rintro e v1 ⟨rfl, hb1, D1, hD1, hd1⟩; have st1 := Lib.hid (HST.out.step hpl hwm hwf hb1 hD1 hd1); clear hb1 hD1 hd1)
        | (go_at_call 45; with_reducible refine (R2.out _).mono ?_; rintro e v2 ⟨A, c, rfl, hv, hvb, hb2⟩; have st2 := Lib.hid (st1.out.below hpl hwm hwf hb2); have hsz2 : w.heap.size ≤ v1.heap.size := st1.out.but.size; clear hb2))
      have hX := Blk.new v2 67 #[.string nm, .int .i64 sz, .slice A ext.length c]
      have st3 := Lib.hid (st2.out.alloc hpl hwm hwf (.cells #[.string nm, .int .i64 sz, .slice A ext.length c] 67))
      have hv3 := hv.alloc (.cells #[.string nm, .int .i64 sz, .slice A ext.length c] 67)
      have hvb3 : ∀ g, (Value.slice A ext.length c).ownBlock = some g → w.heap.size ≤ g := fun g hg => by have := hvb g hg; omega
      have hbw : w.heap.size ≤ v2.heap.size := st2.out.but.size
      obtain ⟨bx, hbx⟩ : ∃ bx, v2.heap.size = bx := ⟨_, rfl⟩
      have hpx : pf ≠ bx := by have := st2.out.box.lt; omega
      rw [hbx] at hX hbw ⊢
      generalize v2.alloc (.cells #[.string nm, .int .i64 sz, .slice A ext.length c] 67) = W3 at *
      have c0 := hX.at_ 0 _ rfl
      have c1 := hX.at_ 1 _ rfl
      have c2 := hX.at_ 2 _ rfl
      have a0 := hX.drew.at_ 0 _ rfl
      have a1 := hX.drew.at_ 1 _ rfl
      have a2 := hX.drew.at_ 2 _ rfl
      have a3 := st3.out.box.drew.at_ 3 _ rfl
      have HX := Lib.hid hX
      have HV := Lib.hid hv3
      have HVB := Lib.hid hvb3
      clear hX hv hv3 hvb hvb3 hbx st1 st2
      go_region_held3 (fun w' => w'.cell? ⟨bx, 0, none⟩ = some (.string nm) ∧ w'.cell? ⟨bx, 1, none⟩ = some (.int .i64 sz) ∧ w'.cell? ⟨bx, 2, none⟩ = some (.slice A ext.length c) ∧ w'.cell? ⟨pf, 3, none⟩ = some (.map (some mb)))
        (first | exact ⟨a0, a1, a2, a3⟩)
        (first
        | (go_at_call 46; refine (R3.out _ _ (HV.out.kp (S := fun _ => False) (KpC.of_below (Below.refl _ _).drew) (fun _ _ => id))).mono ?_; rintro e v4 ⟨rfl, hb4⟩; have st4 := Lib.hid ((st3.out.below hpl hwm hwf (Below.refl _ _).drew).below hpl hwm hwf hb4); have HX4 := Lib.hid (HX.out.drew.below hb4 HX.out.lt); have HV4 := Lib.hid ((HV.out.kp (S := fun _ => False) (KpC.of_below (Below.refl _ _).drew) (fun _ _ => id)).below hb4); clear a0 a1 a2 a3; have a0 := HX4.out.at_ 0 _ rfl; have a1 := HX4.out.at_ 1 _ rfl; have a2 := HX4.out.at_ 2 _ rfl; have a3 := st4.out.box.at_ 3 _ rfl; clear hb4)
        | (go_at_call 47; refine (R4.out _ st4.out.nums).mono ?_; rintro e v5 ⟨rfl, hb5, hm5⟩; have HB5 := Lib.hid hb5; have HM5 := Lib.hid hm5; clear a0 a1 a2 a3; have hx5 := HX4.out.but hb5 (by exact not_map st4.out.nums HX4.out); have hf5 := st4.out.box.but hb5 (by exact hpm); have a0 := hx5.at_ 0 _ rfl; have a1 := hx5.at_ 1 _ rfl; have a2 := hx5.at_ 2 _ rfl; have a3 := hf5.at_ 3 _ rfl; have HX5 := Lib.hid hx5; have HF5 := Lib.hid hf5; clear hb5 hm5 hx5 hf5))
      clear a0 a1 a2 a3 c0 c1 c2 HX HV st3 HST
      have hrow := st4.out.row.map st4.out.nums HB5.out
      have a0 := HX5.out.at_ 0 _ rfl
      have a1 := HX5.out.at_ 1 _ rfl
      have a2 := HX5.out.at_ 2 _ rfl
      have b2 := HF5.out.at_ 2 _ rfl
      have b2a := (HF5.out.alloc (.cells #[.string nm, .int .i64 sz, .slice A ext.length c] 67)).at_ 2 _ rfl
      have f2 := HF5.out.frozen 2
      have hne := HF5.out.not_row (by decide) hrow.own
      have hkl : (xs.take k).length = k := by simp; omega
      have hown := hrow.own
      rw [hkl] at hown
      have hwv : w.heap.size ≤ v5.heap.size := Nat.le_trans st4.out.but.size HB5.out.size
      have HRW := Lib.hid hrow
      have HO := Lib.hid hown
      clear hrow hown
      go_wp2_with (fail)
      go_region_law (first
        | (refine step_append_lies _ (by rfl) _ _ _ (by rfl) w.heap.size 67 i0 _ 3 48 Tryd.underlying64 hi hz0 hz1 hz2 rfl (by omega) val k (inoCells (xs.take k) vs) (by rfl) (HO.out.alloc (.cells #[.string nm, .int .i64 sz, .slice A ext.length c] 67)) ⟨v5.heap.size, 0, none⟩ 1 1 [.string nm, .int .i64 sz, .slice A ext.length c] (by rfl) (by rfl) (World.news_of_block (cs := #[.string nm, .int .i64 sz, .slice A ext.length c]) (t := 67) (fr := (0, 0)) (heap_alloc_new v5 (.cells #[.string nm, .int .i64 sz, .slice A ext.length c] 67))) (by simp [Value.oneCell']) (by omega) (by unfold maxLen; omega) (by omega) (by simp; omega) (v5.heap.size + 1) (by simp) ?_
           intro gg cap w1 hown1 hgrow hat hlt1
           have HF1 := Lib.hid ((HF5.out.alloc (.cells #[.string nm, .int .i64 sz, .slice A ext.length c] 67)).drew.grown hgrow (by exact fun e => hne e.symm))
           have q1 := HF1.out.at_ 2 _ rfl
           have f1 := HF1.out.frozen 2
           have HO1 := Lib.hid hown1
           have HG1 := Lib.hid hgrow
           clear hown1 hgrow hat))
      all_goals
        have hgp : (Value.slice (some ⟨gg, 0, none⟩) (k + 1) cap).ownBlock ≠ some pf := HF1.out.not_row (by decide) HO1.out
        obtain ⟨SS, hSS⟩ : ∃ SS : Nat → Prop, SS = fun j => val.ownBlock = some j ∨ j = pf := ⟨_, rfl⟩
        have hbut : But SS v5 (w1.setCell ⟨pf, 2, none⟩ (.slice (some ⟨gg, 0, none⟩) (k + 1) cap)) := by
          rw [hSS]
          exact ((((But.refl _ v5).alloc (.cells #[.string nm, .int .i64 sz, .slice A ext.length c] 67)).drew).grown HG1.out (fun j e => .inl (.inl e))).setCell (p := ⟨pf, 2, none⟩) (.inl (.inr rfl)) _
        have hSB : ∀ j, SS j → w.heap.size ≤ j := fun j hj => by
          rw [hSS] at hj
          rcases hj with h1 | h1
          · exact own_ge HO.out h1
          · omega
        have hSm : ¬ SS mb := fun hj => by
          rw [hSS] at hj
          rcases hj with h1 | h1
          · exact own_not_map HM5.out HO.out h1 rfl
          · exact hpm h1.symm
        have hSe : ∀ u l g, ExtRow v5 u l → u.ownBlock = some g → ¬ SS g := fun u l g hu hg hj => by
          rw [hSS] at hj
          rcases hj with h1 | h1
          · exact ext_not_row hu HO.out hg h1
          · exact ext_not_blk hu HF5.out (by decide) hg h1
        have hdk5 : Dk v5 pd gd D1 := st4.out.dsk.but HB5.out (by omega) (by omega)
        have hb5w : But (· = pd) w v5 := st4.out.but.on HB5.out (fun j e => by omega)
        have hfin : OpSt w (w1.setCell ⟨pf, 2, none⟩ (.slice (some ⟨gg, 0, none⟩) (k + 1) cap)) pd gd used mb pf D xs (k + 1) (.slice (some ⟨gg, 0, none⟩) (k + 1) cap) (vs ++ [.slice A ext.length c]) D1 := by
          refine ⟨st4.out.sec, hdk5.but hbut (fun hj => by have := hSB _ hj; omega) (fun hj => by have := hSB _ hj; omega), by simpa using HF1.out.set_ 2 _, ?_, HM5.out.but hbut hSm, hb5w.on hbut (fun j hj => .inr (hSB j hj))⟩
          rw [HT.out]
          refine HRW.out.snoc SS (KpC.of_but hbut) hSe (HV4.out.but HB5.out (fun g hg => ext_not_map st4.out.nums HV4.out hg)) HVB.out ?_
          rw [hkl]
          exact own_far HO1.out hgp _
        go_wp2
        go_roundw
        case rel => exact ⟨k + 1, _, _, _, by omega, by go_num, hfin⟩
        case measure => simp [intOf]; omega
    · obtain rfl : k = xs.length := by omega
      go_wp2
      go_ret2
      refine ⟨pf, rfl, ⟨⟨val, vs, mb, hst.box, by have := hst.row; rwa [List.take_length] at this, by have := hst.nums; rwa [List.take_length] at this, hwf, hwm⟩, hpl⟩, ⟨_, hst.sec, hst.dsk⟩, hst.but⟩
end Go.Proofs.YtmbjflcmbenbdaaDoor
