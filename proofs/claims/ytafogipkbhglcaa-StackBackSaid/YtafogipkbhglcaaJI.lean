/- Layer 17, pure: what was built is read. -/
import Derived.Test.YtafogipkbhglcaaJA
namespace Go.Proofs.Ytafogipkbhglcaa
open Go.RowKit
set_option linter.unusedVariables false
set_option linter.unusedSimpArgs false

theorem getL_putLJ : ∀ W x, getL (putL x W) = x % 256 ^ W
  | 0, x => by simp [putL, getL, Nat.mod_one]
  | W + 1, x => by
    have hx : (UInt8.ofNat x).toNat = x % 256 := by simp
    rw [putL, getL, getL_putLJ W (x / 256), Nat.pow_succ, Nat.mul_comm (256 ^ W) 256, Nat.mod_mul, hx]

/-- A stack as it is seen: bytes 0 ahead, its numbers, bytes 0, its texts. -/
def Vw (V : ByteArray) (z : Nat) (H : List Nat) (y : Nat) (ts : List ByteArray) : Prop :=
  V.data.toList = List.replicate z 0 ++ nums H ++ List.replicate y 0 ++ endL ts
theorem Vw.size {V : ByteArray} {z y : Nat} {H : List Nat} {ts : List ByteArray} (h : Vw V z H y ts) : V.size = z + 8 * H.length + y + tlen ts := by
  rw [← len_data, h]
  simp only [List.length_append, List.length_replicate, nums_length]
  rfl
theorem nums_at : ∀ (H : List Nat) (j : Nat) (hj : j < H.length), ((nums H).drop (8 * j)).take 8 = putL H[j] 8
  | x :: H, 0, _ => by
    unfold nums
    rw [List.flatMap_cons, Nat.mul_zero, List.drop_zero, List.take_append_of_le_length (by rw [putL_length]; exact Nat.le_refl _), List.take_of_length_le (by rw [putL_length]; exact Nat.le_refl _)]
    rfl
  | x :: H, j + 1, hj => by
    have ih := nums_at H j (by simpa using hj)
    unfold nums at *
    rw [List.flatMap_cons, show 8 * (j + 1) = (putL x 8).length + 8 * j by rw [putL_length]; omega, List.drop_append]
    rw [List.drop_of_length_le (by omega), List.nil_append]
    simpa using ih
theorem Vw.num {V : ByteArray} {z y : Nat} {H : List Nat} {ts : List ByteArray} (h : Vw V z H y ts) {j : Nat} (hj : j < H.length) (hb : H[j] < 18446744073709551616) :
    getN V ((z + 8 * j : Nat) : Int) 8 = (H[j] : Nat) ∧ hol V.size ((z + 8 * j : Nat) : Int) 8 = true := by
  have hs := h.size
  have e1 : hol V.size ((z + 8 * j : Nat) : Int) 8 = true := by rw [hol_iff]; omega
  refine ⟨?_, e1⟩
  unfold getN
  rw [if_pos e1, Int.toNat_natCast]
  have hp : partL V (z + 8 * j) (8 : Int).toNat = putL H[j] 8 := by
    unfold partL
    rw [h, show (8 : Int).toNat = 8 from rfl, ← nums_at H j hj]
    rw [List.append_assoc, List.append_assoc, List.drop_append, List.length_replicate, List.drop_of_length_le (by rw [List.length_replicate]; omega), List.nil_append, show z + 8 * j - z = 8 * j by omega]
    rw [List.drop_append_of_le_length (by rw [nums_length]; omega), List.take_append_of_le_length (by rw [List.length_drop, nums_length]; omega)]
  rw [hp, getL_putLJ]
  congr 1
  exact Nat.mod_eq_of_lt hb

theorem text_of {V : ByteArray} {A C : List UInt8} {t : ByteArray} (h : V.data.toList = A ++ (t.data.toList ++ 0 :: C)) (h0 : (0 : UInt8) ∉ t.data.toList) (hs : t.size ≤ 1024) :
    textOk V ((A.length : Nat) : Int) 1024 = true ∧ textS V ((A.length : Nat) : Int) 1024 = t := by
  have hd : V.data.toList.drop A.length = t.data.toList ++ 0 :: C := by rw [h, List.drop_append_of_le_length (Nat.le_refl _), List.drop_length, List.nil_append]
  have hz : zat V A.length = t.size := by
    unfold zat
    rw [hd, List.findIdx_append]
    rw [if_neg]
    · simp [List.findIdx_cons, len_data]
    · rw [List.findIdx_lt_length]
      rintro ⟨x, hx, he⟩
      simp at he
      exact h0 (he ▸ hx)
  have hsz : V.size = A.length + (t.size + 1 + C.length) := by
    rw [← len_data, h]
    simp only [List.length_append, len_data, List.length_cons]
    omega
  obtain ⟨e1, e2⟩ := text_yes (s := V) (a := A.length) (most := 1024) (by rw [hz]; omega) (by rw [hz]; omega)
  refine ⟨e1, ?_⟩
  rw [e2, hz, extract_mkb, hd, show A.length + t.size - A.length = t.data.toList.length by rw [len_data]; omega, List.take_left]
  exact mkb_of t
theorem Vw.text {V : ByteArray} {z y : Nat} {H : List Nat} {ts : List ByteArray} (h : Vw V z H y ts) (hp : plainB ts = true) {k : Nat} (hk : k < ts.length) (hs : ts[k].size ≤ 1024) {a : Nat} (ha : a = z + 8 * H.length + y + tlen (ts.take k)) :
    textOk V (a : Int) 1024 = true ∧ textS V (a : Int) 1024 = ts[k] := by
  have hsplit : endL ts = endL (ts.take k) ++ (ts[k].data.toList ++ 0 :: endL (ts.drop (k + 1))) := by
    conv => lhs; rw [← List.take_append_drop k ts, endL_append, List.drop_eq_getElem_cons hk]
    unfold endL
    rw [List.flatMap_cons, List.append_assoc, List.singleton_append]
  have hd : V.data.toList = (List.replicate z 0 ++ nums H ++ List.replicate y 0 ++ endL (ts.take k)) ++ (ts[k].data.toList ++ 0 :: endL (ts.drop (k + 1))) := by
    rw [h, hsplit]
    simp only [List.append_assoc]
  have hl : (List.replicate z (0 : UInt8) ++ nums H ++ List.replicate y 0 ++ endL (ts.take k)).length = a := by
    simp only [List.length_append, List.length_replicate, nums_length]
    rw [ha]
    rfl
  have hn : (0 : UInt8) ∉ ts[k].data.toList := by
    unfold plainB at hp
    rw [List.all_eq_true] at hp
    have := hp _ (List.getElem_mem hk)
    simpa using this
  have := text_of hd hn hs
  rw [hl] at this
  exact this

/-- What was built, with bytes 0 ahead. -/
theorem built_vw (z T : Nat) (args env : List ByteArray) (aux : List Pa) :
    Vw (mkb (List.replicate z 0 ++ builtL T args env aux)) z (headL (T - (tlen args + tlen env)) args env aux) (sizeN args env aux - rawN args env aux) (args ++ env) := by
  have hs := sizeN_le args env aux
  have hr : rawN args env aux = 8 * (args.length + env.length + 2 * aux.length + 5) + tlen args + tlen env := rfl
  have hl := headL_length (T - (tlen args + tlen env)) args env aux
  unfold Vw
  rw [mkb_data, endL_append]
  unfold builtL fillL textL
  rw [List.take_of_length_le (by rw [nums_length, hl]; omega), nums_length, hl, show sizeN args env aux - (tlen args + tlen env) - 8 * (args.length + env.length + 2 * aux.length + 5) = sizeN args env aux - rawN args env aux by omega]
  simp only [List.append_assoc]
end Go.Proofs.Ytafogipkbhglcaa
