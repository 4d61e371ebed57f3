/- For DynamicLists (of no program): names one behind the other; two rows of the law's own. -/
import Derived.Test.YtmbglkebgeomcaaDoorDJ
namespace Go.Proofs.YtmbglkebgeomcaaDoor
open Go.RowKit
set_option linter.unusedVariables false
set_option linter.unusedSimpArgs false

/-- Two rows of the law's own, of one cell each, in blocks of their own. -/
structure Tr (cur : World) (B : Nat) (e1 e2 : TypeId) (v1 v2 : Value) (X1 X2 : List Value) : Prop where
  a : cur.ownsRow B e1 1 v1 X1.length X1
  b : cur.ownsRow B e2 1 v2 X2.length X2
  ne : ∀ g, v1.ownBlock = some g → v2.ownBlock ≠ some g
section
variable {cur c2 w1 : World} {B : Nat} {e1 e2 : TypeId} {v1 v2 v' : Value} {X1 X2 : List Value} {x : Value}
theorem Tr.start (w : World) (B : Nat) (e1 e2 : TypeId) : Tr w B e1 e2 (.slice none 0 0) (.slice none 0 0) [] [] := ⟨World.ownsRow_nil _ _ _ _, World.ownsRow_nil _ _ _ _, fun g h => by cases h⟩
theorem Tr.on (r : Tr cur B e1 e2 v1 v2 X1 X2) (hb : Below cur.heap.size cur c2) : Tr c2 B e1 e2 v1 v2 X1 X2 := ⟨own_below r.a hb, own_below r.b hb, r.ne⟩
theorem Tr.push1 (r : Tr cur B e1 e2 v1 v2 X1 X2) (h2 : Below cur.heap.size cur c2) (ho : w1.ownsRow B e1 1 v' (X1.length + 1) (X1 ++ [x])) (hg : c2.grownBy w1 v1.ownBlock) (hat : v'.ownBlock = v1.ownBlock ∨ v'.ownBlock = some c2.heap.size) :
    Tr w1 B e1 e2 v' v2 (X1 ++ [x]) X2 := by
  refine ⟨by simpa using ho, (own_below r.b h2).kept hg ?_, fun g hv he => ?_⟩
  · rcases h : v2.ownBlock with _ | g
    · exact .inl rfl
    · exact .inr fun e => r.ne g e.symm h
  · rcases hat with h | h
    · exact r.ne g (h.symm.trans hv) he
    · have h1 := (r.b.lt g he).2
      have h3 := h2.size
      rw [h] at hv
      injection hv with hv
      omega
theorem Tr.push2 (r : Tr cur B e1 e2 v1 v2 X1 X2) (h2 : Below cur.heap.size cur c2) (ho : w1.ownsRow B e2 1 v' (X2.length + 1) (X2 ++ [x])) (hg : c2.grownBy w1 v2.ownBlock) (hat : v'.ownBlock = v2.ownBlock ∨ v'.ownBlock = some c2.heap.size) :
    Tr w1 B e1 e2 v1 v' X1 (X2 ++ [x]) := by
  refine ⟨(own_below r.a h2).kept hg ?_, by simpa using ho, fun g hv he => ?_⟩
  · rcases h : v1.ownBlock with _ | g
    · exact .inl rfl
    · exact .inr fun e => r.ne g h e.symm
  · rcases hat with h | h
    · exact r.ne g hv (h.symm.trans he)
    · have h1 := (r.a.lt g hv).2
      have h3 := h2.size
      rw [h] at he
      injection he with he
      omega
theorem Tr.set (r : Tr cur B e1 e2 v1 v2 X1 X2) {p : Addr} (hp : p.block < B) (u : Value) : Tr (cur.setCell p u) B e1 e2 v1 v2 X1 X2 := ⟨own_setD r.a hp u, own_setD r.b hp u, r.ne⟩
end

/-- Names of two letters each, with a byte 0 behind. -/
def wB (p q : Nat → Nat) (i : Nat) : List UInt8 := [UInt8.ofNat (p i), UInt8.ofNat (q i)]
def zB (p q : Nat → Nat) (J : Nat) : List UInt8 := (List.range J).flatMap fun i => wB p q i ++ [0]
theorem zB_succ (p q : Nat → Nat) (J : Nat) : zB p q (J + 1) = zB p q J ++ (wB p q J ++ [0]) := by
  unfold zB
  rw [List.range_succ, List.flatMap_append]
  simp
theorem zB_length (p q : Nat → Nat) : ∀ J, (zB p q J).length = 3 * J
  | 0 => rfl
  | J + 1 => by rw [zB_succ, List.length_append, zB_length p q J]; simp [wB]; omega
theorem zB_at (p q : Nat → Nat) : ∀ (J i : Nat), i < J → ∃ rest, (zB p q J).drop (3 * i) = wB p q i ++ 0 :: rest
  | J + 1, i, h => by
    rw [zB_succ]
    by_cases hi : i < J
    · obtain ⟨rest, hr⟩ := zB_at p q J i hi
      refine ⟨rest ++ (wB p q J ++ [0]), ?_⟩
      rw [List.drop_append_of_le_length (by rw [zB_length]; omega), hr]
      simp
    · obtain rfl : i = J := by omega
      exact ⟨[], by rw [List.drop_left' (zB_length p q i)]⟩
/-- Letters that are none of 0. -/
structure Lets (p q : Nat → Nat) (J : Nat) : Prop where
  p : ∀ i, i < J → 0 < p i ∧ p i < 256
  q : ∀ i, i < J → 0 < q i ∧ q i < 256
theorem ofNat_ne {n : Nat} (h0 : 0 < n) (h1 : n < 256) : (UInt8.ofNat n == 0) = false := by
  rw [beq_eq_false_iff_ne]
  intro e
  have := congrArg UInt8.toNat e
  rw [UInt8.toNat_ofNat'] at this
  simp at this
  omega
theorem text_at {p q : Nat → Nat} {J i : Nat} (h : Lets p q J) (hi : i < J) : textS (mkb (zB p q J)) ((3 * i : Nat) : Int) 24 = mkb (wB p q i) ∧ textOk (mkb (zB p q J)) ((3 * i : Nat) : Int) 24 = true := by
  obtain ⟨rest, hr⟩ := zB_at p q J i hi
  have hz : zat (mkb (zB p q J)) (3 * i) = 2 := by
    unfold zat
    rw [mkb_data, hr]
    unfold wB
    have h1 := ofNat_ne (h.p i hi).1 (h.p i hi).2
    have h2 := ofNat_ne (h.q i hi).1 (h.q i hi).2
    simp only [List.cons_append, List.nil_append, List.findIdx_cons, h1, h2, cond_false, cond_true]
    rfl
  have hsz : (mkb (zB p q J)).size = 3 * J := by rw [mkb_size, zB_length]
  obtain ⟨e1, e2⟩ := text_yes (s := mkb (zB p q J)) (a := 3 * i) (most := 24) (by rw [hz, hsz]; omega) (by rw [hz]; decide)
  refine ⟨?_, e1⟩
  rw [e2, hz, extract_mkb, mkb_data, hr]
  unfold wB
  simp
theorem text_end (p q : Nat → Nat) (J : Nat) : textS (mkb (zB p q J)) ((3 * J : Nat) : Int) 24 = ⟨#[]⟩ ∧ textOk (mkb (zB p q J)) ((3 * J : Nat) : Int) 24 = false := by
  have hsz : (mkb (zB p q J)).size = 3 * J := by rw [mkb_size, zB_length]
  obtain ⟨e1, e2⟩ := text_no (s := mkb (zB p q J)) (a := ((3 * J : Nat) : Int)) (most := 24) (by rintro ⟨_, y, _⟩; rw [hsz] at y; simp only [Int.toNat_natCast] at y; omega)
  exact ⟨e2, e1⟩

/-- The view: zeros, the names, and more. -/
def viewL (a : Nat) (p q : Nat → Nat) (J : Nat) : List UInt8 := List.replicate a 0 ++ zB p q J
def moreL : List UInt8 := [109, 111, 114, 101, 0]
def dL (a J : Nat) (l : List Int) : Dyn := ⟨l, fun j => if j = 1 then (a : Int) else if j = 2 then ((3 * J : Nat) : Int) else 0⟩
theorem dL_wf {a J : Nat} {l : List Int} (ha : a ≤ 100) (hJ : J ≤ 100) (hl : ∀ n ∈ l, (Lit.int .i64 n).wf = true) : (dL a J l).wf := by
  refine ⟨hl, fun j => WalkArith.wf_i64 ?_⟩
  unfold dL
  simp only
  split
  · omega
  · split <;> omega
theorem nms_view (a J : Nat) (p q : Nat → Nat) : nmsS (mkb (viewL a p q J ++ moreL)) (a : Int) ((3 * J : Nat) : Int) = mkb (zB p q J) ∧ nmsB (mkb (viewL a p q J ++ moreL)) (a : Int) ((3 * J : Nat) : Int) = true := by
  have hsz : (mkb (viewL a p q J ++ moreL)).size = a + 3 * J + 5 := by rw [mkb_size]; simp [viewL, moreL, zB_length]; omega
  constructor
  · unfold nmsS
    simp only [Int.toNat_natCast]
    rw [hsz, show min (3 * J) (a + 3 * J + 5 - a) = 3 * J by omega, extract_mkb, extract_mkb, mkb_data, mkb_data]
    congr 1
    unfold viewL
    rw [List.append_assoc, List.drop_left' (List.length_replicate ..), List.drop_zero, List.take_take, show min (3 * J - 0) (a + 3 * J + 5 - a) = 3 * J by omega, List.take_left' (zB_length p q J)]
  · unfold nmsB
    rw [hsz, decide_eq_true (by omega), decide_eq_true (by omega), decide_eq_true (by omega)]
    rfl
theorem name_in {a J i : Nat} {p q : Nat → Nat} {l : List Int} (h : Lets p q J) (hi : i < J) : nameS (mkb (viewL a p q J ++ moreL)) (dL a J l) ((3 * i : Nat) : Int) = mkb (wB p q i) := by
  obtain ⟨e1, e2⟩ := nms_view a J p q
  unfold nameS
  rw [show (dL a J l).f 1 = (a : Int) from rfl, show (dL a J l).f 2 = ((3 * J : Nat) : Int) from rfl, e1, e2, if_pos rfl]
  exact (text_at h hi).1
theorem name_out {a J : Nat} {p q : Nat → Nat} {l : List Int} : nameS (mkb (viewL a p q J ++ moreL)) (dL a J l) ((3 * J : Nat) : Int) = ⟨#[]⟩ ∧ nameOk (mkb (viewL a p q J ++ moreL)) (dL a J l) ((3 * J : Nat) : Int) = false := by
  obtain ⟨e1, e2⟩ := nms_view a J p q
  unfold nameS nameOk
  rw [show (dL a J l).f 1 = (a : Int) from rfl, show (dL a J l).f 2 = ((3 * J : Nat) : Int) from rfl, e1, e2, if_pos rfl]
  exact ⟨(text_end p q J).1, by rw [(text_end p q J).2]; rfl⟩
theorem wB_ne (p q : Nat → Nat) (i : Nat) : mkb (wB p q i) ≠ ⟨#[]⟩ := fun e => by
  have := congrArg ByteArray.size e
  rw [mkb_size] at this
  exact absurd this (by simp [wB]; decide)
/-- The names of places that are needed are told. -/
theorem names_in {a J : Nat} {p q : Nat → Nat} (h : Lets p q J) (K : List Nat) (hK : ∀ k ∈ K, k < J) :
    namesL (mkb (viewL a p q J ++ moreL)) (dL a J (K.map fun k => ((3 * k : Nat) : Int))) = K.map (fun k => mkb (wB p q k)) ∧ namesE (mkb (viewL a p q J ++ moreL)) (dL a J (K.map fun k => ((3 * k : Nat) : Int))) = 0 := by
  have hb : namesB (mkb (viewL a p q J ++ moreL)) (dL a J (K.map fun k => ((3 * k : Nat) : Int))) = true := by
    unfold namesB
    rw [List.all_eq_true]
    intro x hx
    obtain ⟨k, hk, rfl⟩ := List.mem_map.1 hx
    exact decide_eq_true (by rw [name_in h (hK k hk)]; exact wB_ne p q k)
  unfold namesL namesE
  rw [hb]
  refine ⟨?_, rfl⟩
  rw [if_pos rfl]
  show (K.map fun k => ((3 * k : Nat) : Int)).map _ = _
  rw [List.map_map]
  exact List.map_congr_left fun k hk => name_in h (hK k hk)
theorem names_out {a J : Nat} {p q : Nat → Nat} (l : List Int) :
    namesL (mkb (viewL a p q J ++ moreL)) (dL a J (l ++ [((3 * J : Nat) : Int)])) = [] ∧ namesE (mkb (viewL a p q J ++ moreL)) (dL a J (l ++ [((3 * J : Nat) : Int)])) = 17 := by
  have hb : namesB (mkb (viewL a p q J ++ moreL)) (dL a J (l ++ [((3 * J : Nat) : Int)])) = false := by
    cases hq : namesB (mkb (viewL a p q J ++ moreL)) (dL a J (l ++ [((3 * J : Nat) : Int)]))
    · rfl
    · unfold namesB at hq
      rw [List.all_eq_true] at hq
      have := of_decide_eq_true (hq ((3 * J : Nat) : Int) (by simp [dL]))
      exact absurd name_out.1 this
  unfold namesL namesE
  rw [hb]
  exact ⟨rfl, rfl⟩
end Go.Proofs.YtmbglkebgeomcaaDoor
