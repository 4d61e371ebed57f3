/- Contracts of the reference's functions of layer 1: Put, Part, Fill, Round. -/
import Derived.Test.YtafogipkbhglcaaOctD
namespace Go.Proofs.Ytafogipkbhglcaa
open Go.RowKit
set_option linter.unusedVariables false

theorem run_string_one {P : Program} (src dst e : TypeId) (hs : P.underlying src = some (.slice e)) (he : P.underlying e = some (.int .u8)) (hd : P.underlying dst = some .string) (n k cap : Nat) (x : Int) (hx : x = (n : Int) / 256 ^ k) (w : World) :
    (convert src dst (.slice (some ⟨w.heap.size, 0, none⟩) 1 cap)).run P (w.alloc (.cells #[.int .u8 (x % 256)] e)) = .ok (.string (mkb [UInt8.ofNat (n / 256 ^ k)])) (w.alloc (.cells #[.int .u8 (x % 256)] e)) := by
  subst hx
  refine run_string_blk (P := P) _ src dst e w.heap.size cap e [UInt8.ofNat (n / 256 ^ k)] 1 rfl hs he hd ?_
  have e : Lib.byteCells [UInt8.ofNat (n / 256 ^ k)] = [.int .u8 ((n : Int) / 256 ^ k % 256)] := by
    simp [Lib.byteCells]
  rw [e]
  exact Blk.new _ _ _

set_option maxHeartbeats 400000 in
theorem rput_any (n b : Int) (w : World) (hn : (Lit.int .u64 n).wf = true) (hb : (Lit.int .i64 b).wf = true) :
    Calls Try.prog 32 #[.int .u64 n, .int .i64 b] w fun e w' => e = .returned (.string (mkb (putL n.toNat (wide b)))) ∧ Below w.heap.size w w' := by
  obtain ⟨_, _⟩ := bounds_u64 hn
  obtain ⟨_, _⟩ := bounds_i64 hb
  obtain ⟨n, rfl⟩ : ∃ M : Nat, n = M := ⟨n.toNat, by omega⟩
  simp only [Int.toNat_natCast]
  have hW : (wide b : Int) ≤ 8 ∧ ∀ k : Nat, k ≤ wide b → (k < wide b ↔ (k : Int) < b ∧ (k : Int) < 8) := ⟨by unfold wide; omega, fun k hk => by unfold wide at *; omega⟩
  obtain ⟨hW, hk8⟩ := hW
  generalize wide b = W at *
  have HK := Lib.hid hk8
  clear hk8
  go_enter Try.func32, Try.ntmps32
  go_wp2
  go_loopw [0, 5, 6] (fun v s i wr => ∃ k : Nat, k ≤ W ∧ i = .int .i64 k ∧ v = .int .u64 ((n : Int) / 256 ^ k) ∧ s = .string (mkb (putL n k)) ∧ Below w.heap.size w wr) (fun _ _ i _ => W - (intOf i).toNat)
  case atStart => exact ⟨0, Nat.zero_le _, rfl, by simp, rfl, Below.refl _ _⟩
  case round =>
    obtain ⟨k, hk, rfl, rfl, rfl, hbel⟩ := hrel
    have hnk : (0 : Int) ≤ (n : Int) / 256 ^ k := Int.ediv_nonneg (by omega) (Int.pow_nonneg (by omega))
    by_cases hlt : k < W
    · obtain ⟨hb1, hb2⟩ := (HK.out k hk).1 hlt
      have hd : ((n : Int) / 256 ^ k) / 256 = (n : Int) / 256 ^ (k + 1) := by rw [Int.ediv_ediv_of_nonneg (Int.pow_nonneg (by omega)), Int.pow_succ]
      have hnle : (n : Int) / 256 ^ k ≤ (n : Int) := Int.ediv_le_self _ (by omega)
      obtain ⟨x, hx⟩ : ∃ x, x = (n : Int) / 256 ^ k := ⟨_, rfl⟩
      have hcv := run_string_one (P := Try.prog) 38 9 5 Try.underlying38 Try.underlying5 Try.underlying9 n k 1 x hx
      rw [← hx] at hd hnle hnk ⊢
      have hz1 : (mkb (putL n k)).size = k := by rw [mkb_size, putL_length]
      have hz2 : (mkb [UInt8.ofNat (n / 256 ^ k)]).size = 1 := by rw [mkb_size]; rfl
      have HD := Lib.hid hd
      have HX := Lib.hid hx
      clear hd hx
      go_wp2
      go_roundw
      case rel => exact ⟨k + 1, by omega, by go_num, by rw [← HD.out], by rw [mkb_append, putL_snoc], hbel.alloc hbel.size _⟩
      case measure => simp [intOf] <;> omega
    · obtain rfl : k = W := by omega
      by_cases hb1 : (k : Int) < b
      · have hb2 : ¬ ((k : Int) < 8) := fun h => absurd ((HK.out k hk).2 ⟨hb1, h⟩) (by omega)
        go_wp2
        go_ret
        exact ⟨rfl, hbel⟩
      · go_wp2
        go_ret
        exact ⟨rfl, hbel⟩



end Go.Proofs.Ytafogipkbhglcaa
