/- Package needs: Order, Missing, Depth. -/
import Derived.Test.YtmkaehnekhejmaaGh
namespace Go.Proofs.Ytmkaehnekhejmaa
open Go.RowKit
set_option linter.unusedVariables false
set_option linter.unusedSimpArgs false

/-- The needs are few, and the names no longer than a text may be. -/
theorem LibRow.small {w : World} {A : Option Addr} {L : List Lb} (h : LibRow w A L) : (∀ b ∈ L, b.need.length ≤ 100000) ∧ (∀ b ∈ L, b.name.size ≤ maxLen) := by
  constructor <;> intro b hb <;> obtain ⟨i, hi, rfl⟩ := List.getElem_of_mem hb <;> obtain ⟨_, _, _, _, _, h3⟩ := h i hi
  · exact h3.len
  · exact h3.nm
/-- A row of names was told. -/
def NamesT (l : List ByteArray) (w : World) (u : Value) (w' : World) : Prop := ∃ A c, u = .slice A l.length c ∧ StrRow w' A l ∧ Below w.heap.size w w'
theorem clo_size {L : List Lb} {r : ByteArray} (h : ∀ b ∈ L, b.name.size ≤ maxLen) : ∀ x ∈ (cloW L r).N, x.size ≤ maxLen := fun x hx => by
  obtain ⟨hp, he, _⟩ := there_pos ((clo_inv L r).th x hx)
  rw [← he]
  exact h _ (List.getElem_mem hp)
theorem meet1_M {L : List Lb} {d : Nat} {s : Wk} {nm : ByteArray} {P : ByteArray → Prop} (h : ∀ x ∈ s.M, P x) (hn : P nm) : ∀ x ∈ (meet1 L d s nm).M, P x := by
  unfold meet1
  intro x hx
  split at hx <;> split at hx
  · exact h x hx
  · exact h x hx
  · exact h x hx
  · rcases List.mem_append.1 hx with h1 | h1
    · exact h x h1
    · simp at h1; rw [h1]; exact hn
theorem meetL_M {L : List Lb} {d : Nat} {P : ByteArray → Prop} : ∀ (l : List ByteArray) (s : Wk), (∀ x ∈ s.M, P x) → (∀ x ∈ l, P x) → ∀ x ∈ (meetL L d s l).M, P x
  | [], s, h, _ => h
  | y :: l, s, h, hl => meetL_M l _ (meet1_M h (hl y (by simp))) (fun x hx => hl x (List.mem_cons_of_mem _ hx))
theorem run_M {L : List Lb} {P : ByteArray → Prop} (hL : ∀ b ∈ L, ∀ x ∈ b.need, P x) : ∀ (n : Nat) (x : Wk × Nat), (∀ z ∈ x.1.M, P z) → ∀ z ∈ (runW L n x).1.M, P z
  | 0, x, h => h
  | n + 1, x, h => by
    unfold runW
    split
    · refine run_M hL n _ (meetL_M _ _ h ?_)
      intro z hz
      unfold needOf at hz
      cases hq : findL L (x.1.N.getD x.2 default) with
      | none => rw [hq] at hz; simp at hz
      | some b => rw [hq] at hz; exact hL b (List.mem_of_find?_eq_some hq) z hz
    · exact h
theorem clo_M {L : List Lb} {r : ByteArray} {P : ByteArray → Prop} (hL : ∀ b ∈ L, ∀ x ∈ b.need, P x) (hr : P r) : ∀ z ∈ (cloW L r).M, P z :=
  run_M hL _ _ (meet1_M (by simp) hr)
theorem LibRow.need {w : World} {A : Option Addr} {L : List Lb} (h : LibRow w A L) : ∀ b ∈ L, ∀ x ∈ b.need, x.size ≤ maxLen := by
  intro b hb x hx
  obtain ⟨i, hi, rfl⟩ := List.getElem_of_mem hb
  obtain ⟨_, _, _, _, _, h3⟩ := h i hi
  obtain ⟨j, hj, rfl⟩ := List.getElem_of_mem hx
  obtain ⟨_, _, _, _, h4⟩ := h3.row j hj
  exact h4

/-- A row of numbers. -/
def NRow (w : World) (A : Option Addr) (l : List Nat) : Prop := ∀ i (hi : i < l.length), ∃ ad, A = some ad ∧ ad.block < w.heap.size ∧ w.cell? (ad.add i) = some (.int .i64 ((l[i] : Nat) : Int))
theorem NRow.below {w w' : World} {A : Option Addr} {l : List Nat} (h : NRow w A l) {n : Nat} (hn : n = w.heap.size) (hb : Below n w w') : NRow w' A l := fun i hi => by
  obtain ⟨ad, h1, h2, h3⟩ := h i hi
  refine ⟨ad, h1, Nat.lt_of_lt_of_le h2 hb.size, (hb.cell ?_).trans h3⟩
  have := addr_blockG ad i
  omega
theorem nrow_own {w : World} {lo n : Nat} {v : Value} {l : List Nat} (h : w.ownsRow lo 3 1 v n (nints l)) : ∃ A c, v = .slice A l.length c ∧ NRow w A l := by
  have hl := h.1
  rw [nints_length] at hl
  obtain rfl : n = l.length := by omega
  obtain ⟨A, c, hv, hr⟩ := own_atG h
  refine ⟨A, c, hv, fun i hi => ?_⟩
  obtain ⟨ad, h1, _, h2, h3⟩ := hr i (by rw [nints_length]; exact hi)
  exact ⟨ad, h1, h2, by rw [h3]; simp [nints]⟩
/-- A closure was told: with its rows' addresses. -/
structure ClT (L : List Lb) (s : Wk) (A1 A2 A3 : Option Addr) (MC : Nat) (w : World) : Prop where
  libs : NRow w A1 (s.N.map (posL L))
  deps : NRow w A2 s.D
  miss : StrRow w A3 s.M
  map : MapS MC (s.N.length + s.M.length) (atF s) w
theorem ClT.below {L : List Lb} {s : Wk} {A1 A2 A3 : Option Addr} {MC : Nat} {w w' : World} (h : ClT L s A1 A2 A3 MC w) {n : Nat} (hn : n = w.heap.size) (hb : Below n w w') : ClT L s A1 A2 A3 MC w' :=
  ⟨h.libs.below hn hb, h.deps.below hn hb, strRow_belowG h.miss hn hb, h.map.below hb (by rw [hn]; exact h.map.lt)⟩
theorem gatherS (L : List Lb) (r : ByteArray) (A : Option Addr) (c : Nat) (w : World) (h : LibRow w A L) (hL : L.length ≤ 255) (hr : r.size ≤ maxLen) :
    Calls Try.prog 19 #[.slice A L.length c, .string r] w fun e w' => ∃ A1 c1 A2 c2 A3 c3 MC, e = .returned (.agg #[.slice A1 (cloW L r).N.length c1, .slice A2 (cloW L r).N.length c2, .slice A3 (cloW L r).M.length c3, .map (some MC)]) ∧ ClT L (cloW L r) A1 A2 A3 MC w' ∧ Below w.heap.size w w' := by
  have hM := clo_M h.need hr
  refine (gather_any L r A c w h hL hr).mono ?_
  rintro e w' ⟨v1, v2, v3, MC, lo, rfl, hr3, hmp, -, -, -, -, hb⟩
  obtain ⟨A1, c1, rfl, q1⟩ := nrow_own hr3.a
  obtain ⟨A2, c2, rfl, q2⟩ := nrow_own hr3.b
  obtain ⟨-, A3, c3, rfl, q3⟩ := strRow_ownG hr3.c hM
  refine ⟨A1, c1, A2, c2, A3, c3, MC, ?_, ⟨q1, q2, q3, hmp⟩, hb⟩
  rw [List.length_map, (clo_inv L r).len]

set_option maxRecDepth 100000 in
set_option maxHeartbeats 800000 in
theorem missing_any (L : List Lb) (r : ByteArray) (A : Option Addr) (c : Nat) (w : World) (h : LibRow w A L) (hL : L.length ≤ 255) (hr : r.size ≤ maxLen) :
    Calls Try.prog 12 #[.slice A L.length c, .string r] w fun e w' => ∃ u, e = .returned u ∧ NamesT (cloW L r).M w u w' := by
  have HG := Lib.hid (gatherS L r A c w h hL hr)
  obtain ⟨m, hm⟩ : ∃ m, (cloW L r).M.length = m := ⟨_, rfl⟩
  have HM := Lib.hid hm
  obtain ⟨n, hn⟩ : ∃ n, (cloW L r).N.length = n := ⟨_, rfl⟩
  rw [hm, hn] at HG
  have hfd : ∀ (A1 : Option Addr) (c1 : Nat) (A2 : Option Addr) (c2 : Nat) (A3 : Option Addr) (c3 MC : Nat) (w : World), (Instr.field 49 (.agg #[.slice A1 n c1, .slice A2 n c2, .slice A3 m c3, .map (some MC)]) 2).run Try.prog w = .ok (.slice A3 m c3) w := fun _ _ _ _ _ _ _ _ => by kernel_rfl
  clear h hm hn
  go_enter Try.func12, Try.ntmps12
  go_wp2_with (go_at_call 19; refine HG.out.mono ?_; rintro e w1 ⟨A1, c1, A2, c2, A3, c3, MC, rfl, hcl, hb⟩)
  go_ret
  exact ⟨.slice A3 m c3, rfl, A3, c3, by rw [HM.out], hcl.miss, hb⟩

theorem atF_depth {L : List Lb} {r x : ByteArray} : depW L r x = match atF (cloW L r) x with
    | some z => if 0 ≤ z then (((cloW L r).D.getD z.toNat 0 : Nat) : Int) else -1
    | none => -1 := by
  unfold depW atF
  split
  · simp
  · split
    · rename_i hq
      split at hq
      · injection hq with hq; subst hq; rfl
      · cases hq
    · rfl
set_option maxRecDepth 100000 in
set_option maxHeartbeats 1600000 in
theorem depth_any (L : List Lb) (r x : ByteArray) (A : Option Addr) (c : Nat) (w : World) (h : LibRow w A L) (hL : L.length ≤ 255) (hr : r.size ≤ maxLen) (hx : x.size ≤ maxLen) :
    Calls Try.prog 18 #[.slice A L.length c, .string r, .string x] w fun e w' => e = .returned (.int .i64 (depW L r x)) ∧ Below w.heap.size w w' := by
  have HG := Lib.hid (gatherS L r A c w h hL hr)
  have hI := clo_inv L r
  have hD := atF_depth (L := L) (r := r) (x := x)
  rw [hD]
  clear h hD
  obtain ⟨S, hS⟩ : ∃ S, cloW L r = S := ⟨_, rfl⟩
  rw [hS] at HG hI ⊢
  obtain ⟨n, hn⟩ : ∃ n, S.N.length = n := ⟨_, rfl⟩
  obtain ⟨m, hm⟩ : ∃ n, S.M.length = n := ⟨_, rfl⟩
  rw [hn, hm] at HG
  have hlen := hI.len
  rw [hn] at hlen
  have HN := Lib.hid hn
  obtain ⟨o, ho⟩ : ∃ o, atF S x = o := ⟨_, rfl⟩
  rw [ho]
  have HO := Lib.hid ho
  have HLEN := Lib.hid hlen
  have hat : ∀ z, atF S x = some z → 0 ≤ z → z < n := fun z hz h0 => by
    unfold atF at hz
    split at hz
    · rename_i hm
      injection hz with hz
      have := idx_lt hm
      omega
    · split at hz
      · injection hz with hz; omega
      · cases hz
  rw [ho] at hat
  obtain ⟨rv, hrv⟩ : ∃ rv, (match o with | some z => if 0 ≤ z then ((S.D.getD z.toNat 0 : Nat) : Int) else -1 | none => -1) = rv := ⟨_, rfl⟩
  rw [hrv]
  clear hm hlen hI hS hn ho
  go_enter Try.func18, Try.ntmps18
  go_upto_region 2 with (go_at_call 19; refine HG.out.mono ?_; rintro e w1 ⟨A1, c1, A2, c2, A3, c3, MC, rfl, hcl, hb⟩)
  generalize hW : w1.alloc (.cells #[.slice A1 n c1, .slice A2 n c2, .slice A3 m c3, .map (some MC)] 49) = W
  have hB := Blk.new w1 49 #[.slice A1 n c1, .slice A2 n c2, .slice A3 m c3, .map (some MC)]
  have hb1 : Below w1.heap.size w1 (w1.alloc (.cells #[.slice A1 n c1, .slice A2 n c2, .slice A3 m c3, .map (some MC)] 49)) := (Below.refl _ _).alloc (Nat.le_refl _) _
  rw [hW] at hB hb1
  have hc := hcl.below rfl hb1
  have HB := Lib.hid (hb.trans (hb1.mono hb.size))
  have k3 := hB.cell 3
  have k1 := hB.cell 1
  have hok := hc.map.ok hx
  clear hW hB hb1 hb hcl
  generalize w1.heap.size = G at *
  rw [HO.out] at hok
  cases o with
  | none =>
    simp only at hrv
    subst hrv
    clear hc hat
    go_wp2
    go_ret
    exact ⟨rfl, HB.out⟩
  | some z =>
    simp only at hrv
    by_cases h0 : 0 ≤ z
    · have hzn := hat z rfl h0
      obtain ⟨k, rfl⟩ : ∃ k : Nat, z = k := ⟨z.toNat, by omega⟩
      rw [if_pos h0, Int.toNat_natCast] at hrv
      have hk : k < S.D.length := by rw [HLEN.out]; omega
      obtain ⟨ad, rfl, -, hd⟩ := hc.deps k hk
      rw [List.getD_eq_getElem?_getD, List.getElem?_eq_getElem hk, Option.getD_some] at hrv
      generalize S.D[k] = d at *
      subst hrv
      have hkn : (k : Int) < (n : Int) := by omega
      clear hc hat
      go_wp2
      go_ret
      exact ⟨rfl, HB.out⟩
    · rw [if_neg h0] at hrv
      subst hrv
      have h0' : decide (z ≥ 0) = false := by simp; omega
      have h0'' : ¬ (z ≥ 0) := h0
      clear hc hat
      go_wp2
      go_ret
      exact ⟨rfl, HB.out⟩

/-- A row of names that is filled, k of them are there. -/
def rowS (N : List ByteArray) (n k : Nat) : Array Value := (strs (N.take k) ++ List.replicate (n - k) (Value.string ⟨#[]⟩)).toArray
theorem rowS_set {N : List ByteArray} {n k : Nat} (hn : N.length = n) (hk : k < N.length) : (rowS N n k).setIfInBounds k (.string N[k]) = rowS N n (k + 1) := by
  unfold rowS
  have hl : (strs (N.take k)).length = k := by rw [strs_length, List.length_take]; omega
  rw [List.setIfInBounds_toArray, List.set_append_right _ _ (by omega), hl, Nat.sub_self, show n - k = (n - (k + 1)) + 1 by omega, List.replicate_succ, List.set_cons_zero, List.take_succ_eq_append_getElem hk]
  rw [strs_snoc]
  simp
theorem rowS_at {N : List ByteArray} {n k : Nat} (hn : N.length = n) (hk : k < n) : (rowS N n k)[k]? = some (.string ⟨#[]⟩) := by
  unfold rowS
  have hl : (strs (N.take k)).length = k := by rw [strs_length, List.length_take]; omega
  rw [List.getElem?_toArray, List.getElem?_append_right (by omega), hl, Nat.sub_self, List.getElem?_replicate, if_pos (by omega)]
theorem rowS_zero (N : List ByteArray) (n : Nat) : rowS N n 0 = Array.replicate n (Value.string ⟨#[]⟩) := by simp [rowS, strs]
theorem rowS_all {N : List ByteArray} {n : Nat} (hn : N.length = n) : rowS N n n = (strs N).toArray := by
  unfold rowS
  rw [List.take_of_length_le (by omega), Nat.sub_self]
  simp
theorem strRow_blk {w : World} {g : Nat} {l : List ByteArray} (h : Blk w g 9 (strs l).toArray) (hs : ∀ x ∈ l, x.size ≤ maxLen) : StrRow w (some ⟨g, 0, none⟩) l := fun i hi => by
  refine ⟨_, rfl, h.lt, ?_, hs _ (List.getElem_mem hi)⟩
  rw [show (⟨g, 0, none⟩ : Addr).add i = ⟨g, i, none⟩ by unfold Addr.add; split <;> simp_all, h.cell]
  simp [strs, hi]
/-- An order was told, or none. -/
def OrdT (L : List Lb) (r : ByteArray) (w : World) (e : Ending) (w' : World) : Prop := ∃ A c, e = .returned (.tuple #[.slice A (ordN L r).length c, .int .i64 (ordE L r)]) ∧ StrRow w' A (ordN L r) ∧ Below w.heap.size w w'
theorem OrdT.no {L : List Lb} {r : ByteArray} {w w' : World} {er : Int} (h : ordE L r = er) (h0 : er ≠ 0) (hb : Below w.heap.size w w') : OrdT L r w (.returned (.tuple #[.slice none 0 0, .int .i64 er])) w' := by
  have h1 : ordN L r = [] := by unfold ordN; rw [h, if_neg h0]
  exact ⟨none, 0, by rw [h1, h]; rfl, by rw [h1]; exact fun i hi => absurd hi (by simp), hb⟩
theorem OrdT.yes {L : List Lb} {r : ByteArray} {w w' : World} {A : Option Addr} {n c : Nat} (h : ordE L r = 0) (hn : (cloW L r).N.length = n) (hr : StrRow w' A (cloW L r).N) (hb : Below w.heap.size w w') : OrdT L r w (.returned (.tuple #[.slice A n c, .int .i64 0])) w' := by
  have h1 : ordN L r = (cloW L r).N := by unfold ordN; rw [h, if_pos rfl]
  exact ⟨A, c, by rw [h1, h, hn], by rw [h1]; exact hr, hb⟩
set_option maxRecDepth 100000 in
set_option maxHeartbeats 1600000 in
theorem order_any (L : List Lb) (r : ByteArray) (A : Option Addr) (c : Nat) (w : World) (h : LibRow w A L) (hL : L.length ≤ 255) (hr : r.size ≤ maxLen) :
    Calls Try.prog 9 #[.slice A L.length c, .string r] w (OrdT L r w) := by
  have HG := Lib.hid (gatherS L r A c w h hL hr)
  have hI := clo_inv L r
  have hsz := clo_size (r := r) h.small.2
  have hE : ordE L r = if (cloW L r).N.length = 0 then 12 else if 0 < (cloW L r).M.length ∨ 64 < (cloW L r).N.length then 17 else 0 := rfl
  have HNO := Lib.hid (fun (er : Int) (h : ordE L r = er) (h0 : er ≠ 0) w' (hb : Below w.heap.size w w') => OrdT.no h h0 hb)
  have HYES := Lib.hid (fun (A : Option Addr) (n c : Nat) w' (h : ordE L r = 0) (hn : (cloW L r).N.length = n) (hr : StrRow w' A (cloW L r).N) (hb : Below w.heap.size w w') => OrdT.yes (c := c) h hn hr hb)
  have HH := Lib.hid h
  have hth := hI.th
  obtain ⟨S, hS⟩ : ∃ S, cloW L r = S := ⟨_, rfl⟩
  rw [hS] at HG hI hsz hE hth HYES
  obtain ⟨n, hn⟩ : ∃ n, S.N.length = n := ⟨_, rfl⟩
  obtain ⟨m, hm⟩ : ∃ n, S.M.length = n := ⟨_, rfl⟩
  have HN := Lib.hid (And.intro hn hm)
  rw [hn, hm] at HG hE
  have hmany := hI.many
  rw [hn] at hmany
  obtain ⟨l, hl⟩ : ∃ l, L.length = l := ⟨_, rfl⟩
  rw [hl] at hL hmany HG ⊢
  have HLL := Lib.hid hl
  have HSZ := Lib.hid (And.intro hsz hth)
  obtain ⟨i1, hi, hz0, hz1, hz2⟩ := info_parts infoStr
  have hmk := fun w => run_make_strs (P := Try.prog) 25 9 i1 Try.underlying25 hi hz0 hz1 hz2 n (by omega) w
  clear h hI hS hn hm hsz hth hl
  by_cases hn0 : n = 0
  · rw [if_pos hn0] at hE
    have HE := Lib.hid hE
    subst hn0
    clear hE
    clear hmk
    go_enter Try.func9, Try.ntmps9
    go_wp2_with (go_at_call 19; refine HG.out.mono ?_; rintro e w1 ⟨A1, c1, A2, c2, A3, c3, MC, rfl, hcl, hb⟩; have HB := Lib.hid hb; clear hcl hb)
    go_ret2
    exact HNO.out _ HE.out (by decide) _ (HB.out.alloc HB.out.size _)
  · rw [if_neg hn0] at hE
    have hnb : ((n : Int) == 0) = false := by simp; omega
    by_cases hm0 : 0 < m
    · rw [if_pos (.inl hm0)] at hE
      have HE := Lib.hid hE
      clear hE
      clear hmk
      have hm1 : (0 : Int) < (m : Int) := by omega
      go_enter Try.func9, Try.ntmps9
      go_wp2_with (go_at_call 19; refine HG.out.mono ?_; rintro e w1 ⟨A1, c1, A2, c2, A3, c3, MC, rfl, hcl, hb⟩; have HB := Lib.hid hb; clear hcl hb)
      go_ret2
      exact HNO.out _ HE.out (by decide) _ (HB.out.alloc HB.out.size _)
    · have hm0' : m = 0 := by omega
      subst hm0'
      by_cases h64 : 64 < n
      · rw [if_pos (.inr h64)] at hE
        have HE := Lib.hid hE
        clear hE
        clear hmk
        have h641 : (64 : Int) < (n : Int) := by omega
        go_enter Try.func9, Try.ntmps9
        go_wp2_with (go_at_call 19; refine HG.out.mono ?_; rintro e w1 ⟨A1, c1, A2, c2, A3, c3, MC, rfl, hcl, hb⟩; have HB := Lib.hid hb; clear hcl hb)
        go_ret2
        exact HNO.out _ HE.out (by decide) _ (HB.out.alloc HB.out.size _)
      · rw [if_neg (by omega)] at hE
        have HE := Lib.hid hE
        clear hE
        have h641 : ¬ (64 : Int) < (n : Int) := by omega
        go_enter Try.func9, Try.ntmps9
        go_upto_region 8 with (go_at_call 19; refine HG.out.mono ?_; rintro e w1 ⟨A1, c1, A2, c2, A3, c3, MC, rfl, hcl, hb⟩)
        have b2 := blk_two w1 (.cells #[.slice A1 n c1, .slice A2 n c2, .slice A3 0 c3, .map (some MC)] 49) 9 (Array.replicate n (Value.string ⟨#[]⟩))
        have b1 := (Blk.new w1 49 #[.slice A1 n c1, .slice A2 n c2, .slice A3 0 c3, .map (some MC)]).alloc (.cells (Array.replicate n (Value.string ⟨#[]⟩)) 9)
        have bb : Below w1.heap.size w1 ((w1.alloc (.cells #[.slice A1 n c1, .slice A2 n c2, .slice A3 0 c3, .map (some MC)] 49)).alloc (.cells (Array.replicate n (Value.string ⟨#[]⟩)) 9)) := ((Below.refl _ _).alloc (Nat.le_refl _) _).alloc (by simp) _
        generalize hW : (w1.alloc (.cells #[.slice A1 n c1, .slice A2 n c2, .slice A3 0 c3, .map (some MC)] 49)).alloc (.cells (Array.replicate n (Value.string ⟨#[]⟩)) 9) = W at *
        have HC := Lib.hid hcl
        have HB1 := Lib.hid hb
        have HBB := Lib.hid bb
        have HG1 := Lib.hid (show w1.heap.size = w1.heap.size from rfl)
        rw [← rowS_zero S.N n] at b2
        have HB2 := Lib.hid b2
        have k0 := b1.cell 0
        clear hW b1 b2 hcl hb bb hmk HG
        obtain ⟨G, hG⟩ : ∃ G, w1.heap.size = G := ⟨_, rfl⟩
        have HGG := Lib.hid hG
        rw [hG] at HB2 k0 ⊢
        clear hG
        go_wp2_with fail
        clear k0
        go_loopw [34] (fun i wr => ∃ k : Nat, k ≤ n ∧ i = .int .i64 k ∧ Hid (Blk wr (G + 1) 9 (rowS S.N n k)) ∧ Hid (But (· = G + 1) W wr)) (fun i _ => n - (intOf i).toNat)
        case atStart => exact ⟨0, Nat.zero_le _, rfl, HB2, Lib.hid (But.refl _ _)⟩
        case round =>
          obtain ⟨k, hk, rfl, HBL, HBT⟩ := hrel
          have hbw : Below w1.heap.size w1 wr := HBB.out.trans (HBT.out.below HBB.out.size (fun j hj => by have hj : j = G + 1 := hj; have := HGG.out; omega))
          by_cases hlt : k < n
          · have hk1 : k < S.N.length := by rw [HN.out.1]; exact hlt
            obtain ⟨ad, rfl, -, hcd⟩ := (HC.out.libs.below rfl hbw) k (by rw [List.length_map]; exact hk1)
            rw [List.getElem_map] at hcd
            have hkk := HSZ.out.2 _ (List.getElem_mem hk1)
            obtain ⟨hp, hnm, -⟩ := there_pos hkk
            obtain ⟨al, An, cn, rfl, hblt, hlb⟩ := (HH.out.below rfl (HB1.out.trans (hbw.mono HB1.out.size))) _ hp
            have hc0 := hlb.c0
            rw [hnm] at hc0
            have hset := HBL.out.set_ k (.string S.N[k])
            rw [rowS_set HN.out.1 hk1] at hset
            have hold := (HBL.out.cell k).trans (rowS_at HN.out.1 hlt)
            have hfr := HBL.out.frozen k
            obtain ⟨pp, hpp⟩ : ∃ pp, posL L S.N[k] = pp := ⟨_, rfl⟩
            rw [hpp] at hcd hc0 hp
            generalize S.N[k] = nm at *
            have HS := Lib.hid hset
            have HS2 := Lib.hid (HBT.out.setCell (p := ⟨G + 1, k, none⟩) (.inl rfl) (.string nm))
            have hk0 : (0 : Int) ≤ (k : Int) := by omega
            have hk2 : (k : Int) < (n : Int) := by omega
            have hp0 : (0 : Int) ≤ (pp : Int) := by omega
            have hp2 : (pp : Int) < (l : Int) := by have := HLL.out; omega
            clear hset hbw hkk hnm hlb hpp hp hblt
            go_wp2
            go_roundw
            case rel => exact ⟨k + 1, by omega, by go_num, HS, HS2⟩
            case measure => simp [intOf]; omega
          · obtain rfl : k = n := by omega
            have hbl := HBL.out
            rw [rowS_all HN.out.1] at hbl
            have HF := Lib.hid (strRow_blk hbl HSZ.out.1)
            have HFB := Lib.hid (HB1.out.trans (hbw.mono HB1.out.size))
            have HN1 := HN.out.1
            clear hbl hbw
            go_wp2
            go_ret2
            exact HYES.out _ _ _ _ HE.out HN1 HF.out HFB.out
end Go.Proofs.Ytmkaehnekhejmaa
