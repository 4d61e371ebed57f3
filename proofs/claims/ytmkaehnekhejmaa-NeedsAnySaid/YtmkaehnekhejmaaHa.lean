/- The reference of layer 12: Order, Depth. -/
import Derived.Test.YtmkaehnekhejmaaGz
import Derived.Test.YtmkaehnekhejmaaGi
namespace Go.Proofs.Ytmkaehnekhejmaa
open Go.RowKit
set_option linter.unusedVariables false
set_option linter.unusedSimpArgs false

theorem clo_there {L : List Lb} {r : ByteArray} : there L r = false ↔ (cloW L r).N.length = 0 := by
  cases h : there L r with
  | false => exact ⟨fun _ => by rw [((clo_inv L r).noroot h).1]; rfl, fun _ => rfl⟩
  | true =>
    have h1 := ((clo_inv L r).root h).1
    have h2 := (List.getElem?_eq_some_iff.1 h1).1
    exact ⟨fun h => (by cases h), fun h => (by omega)⟩
set_option maxRecDepth 100000 in
set_option maxHeartbeats 1600000 in
theorem rorder_any (L : List Lb) (r : ByteArray) (A : Option Addr) (c : Nat) (w : World) (h : LibRow w A L) (hL : L.length ≤ 255) (hr : r.size ≤ maxLen) :
    Calls Try.prog 10 #[.slice A L.length c, .string r] w (OrdT L r w) := by
  have HF := Lib.hid (find_any w L r A c w h (Below.refl _ _) (by omega))
  have HO := Lib.hid (of_any L r A c w h hL hr)
  have hE : ordE L r = if (cloW L r).N.length = 0 then 12 else if 0 < (cloW L r).M.length ∨ 64 < (cloW L r).N.length then 17 else 0 := rfl
  have HNO := Lib.hid (fun (er : Int) (h : ordE L r = er) (h0 : er ≠ 0) w' (hb : Below w.heap.size w w') => OrdT.no h h0 hb)
  have HYES := Lib.hid (fun (A : Option Addr) (n c : Nat) w' (h : ordE L r = 0) (hn : (cloW L r).N.length = n) (hr : StrRow w' A (cloW L r).N) (hb : Below w.heap.size w w') => OrdT.yes (c := c) h hn hr hb)
  have hct := clo_there (L := L) (r := r)
  have hfew := (clo_inv L r).many
  have hsz := clo_size (r := r) h.small.2
  obtain ⟨l, hl⟩ : ∃ l, L.length = l := ⟨_, rfl⟩
  obtain ⟨th, hth⟩ : ∃ b, there L r = b := ⟨_, rfl⟩
  obtain ⟨n, hn⟩ : ∃ n, (cloW L r).N.length = n := ⟨_, rfl⟩
  obtain ⟨m, hm⟩ : ∃ n, (cloW L r).M.length = n := ⟨_, rfl⟩
  unfold OfT at HO
  unfold FindT at HF
  rw [hl, hth] at HF
  rw [hl, hn, hm] at HO
  rw [hth, hn] at hct
  rw [hn, hm] at hE
  rw [hl] at hL hfew ⊢
  rw [hn] at hfew
  have HN := Lib.hid hn
  have HSZ := Lib.hid hsz
  clear h hn hm hth hl hsz
  cases th with
  | false =>
    obtain rfl := hct.1 rfl
    rw [if_pos rfl] at hE
    have HE := Lib.hid hE
    clear hE hct
    go_enter Try.func10, Try.ntmps10
    go_wp2_with (go_at_call 20; refine HF.out.mono ?_; rintro e v1 ⟨A1, c1, rfl, -, rfl⟩)
    go_ret2
    exact HNO.out _ HE.out (by decide) _ (Below.refl _ _)
  | true =>
    have hn0 : ¬ n = 0 := fun e => by have := hct.2 e; cases this
    rw [if_neg hn0] at hE
    by_cases hm0 : 0 < m
    · rw [if_pos (.inl hm0)] at hE
      have HE := Lib.hid hE
      clear hE hct
      have hm1 : (0 : Int) < (m : Int) := by omega
      go_enter Try.func10, Try.ntmps10
      go_wp2_with (first
        | (go_at_call 20; refine HF.out.mono ?_; rintro e v1 ⟨A1, c1, rfl, -, rfl⟩)
        | (go_at_call 13; refine HO.out.mono ?_; rintro e v2 ⟨A1, c1, A2, c2, A3, c3, rfl, -, -, -, hb⟩; have HB := Lib.hid hb; clear hb))
      go_ret2
      exact HNO.out _ HE.out (by decide) _ (HB.out.alloc HB.out.size _)
    · have hm1 : ¬ (0 : Int) < (m : Int) := by omega
      by_cases h64 : 64 < n
      · rw [if_pos (.inr h64)] at hE
        have HE := Lib.hid hE
        clear hE hct
        have h641 : (64 : Int) < (n : Int) := by omega
        go_enter Try.func10, Try.ntmps10
        go_wp2_with (first
          | (go_at_call 20; refine HF.out.mono ?_; rintro e v1 ⟨A1, c1, rfl, -, rfl⟩)
          | (go_at_call 13; refine HO.out.mono ?_; rintro e v2 ⟨A1, c1, A2, c2, A3, c3, rfl, -, -, -, hb⟩; have HB := Lib.hid hb; clear hb))
        go_ret2
        exact HNO.out _ HE.out (by decide) _ (HB.out.alloc HB.out.size _)
      · rw [if_neg (by omega)] at hE
        have HE := Lib.hid hE
        clear hE hct
        have h641 : ¬ (64 : Int) < (n : Int) := by omega
        go_enter Try.func10, Try.ntmps10
        go_wp2_with (first
          | (go_at_call 20; refine HF.out.mono ?_; rintro e v1 ⟨A1, c1, rfl, -, rfl⟩)
          | (go_at_call 13; refine HO.out.mono ?_; rintro e v2 ⟨A1, c1, A2, c2, A3, c3, rfl, hr2, -, -, hb⟩; have HB := Lib.hid hb; have HR2 := Lib.hid hr2; clear hb hr2))
        go_ret2
        exact HYES.out _ _ _ _ HE.out HN.out (strRow_belowG HR2.out rfl ((Below.refl _ _).alloc (Nat.le_refl _) _)) (HB.out.alloc HB.out.size _)
end Go.Proofs.Ytmkaehnekhejmaa
