/- The reference of layer 12: Depth. -/
import Derived.Test.YtmkaehnekhejmaaHa
namespace Go.Proofs.Ytmkaehnekhejmaa
open Go.RowKit
set_option linter.unusedVariables false
set_option linter.unusedSimpArgs false

theorem NRow.belowH {w w' : World} {A : Option Addr} {l : List Nat} (h : NRow w A l) {n : Nat} (hn : n = w.heap.size) (hb : Below n w w') : NRow w' A l := fun i hi => by
  obtain ⟨ad, h1, h2, h3⟩ := h i hi
  exact ⟨ad, h1, Nat.lt_of_lt_of_le h2 hb.size, (hb.cell (by rw [addr_blockG]; omega)).trans h3⟩
theorem idx_nd : ∀ {l : List ByteArray} {k : Nat} (hk : k < l.length), l.Nodup → l.idxOf l[k] = k
  | a :: l, 0, _, _ => by simp
  | a :: l, k + 1, hk, h => by
    have hk' : k < l.length := by simpa using hk
    have h1 := List.nodup_cons.1 h
    have hne : a ≠ l[k] := fun e => h1.1 (by rw [e]; exact List.getElem_mem hk')
    have ih := idx_nd hk' h1.2
    simp only [List.getElem_cons_succ]
    rw [List.idxOf_cons]
    rw [show (a == l[k]) = false from beq_eq_false_iff_ne.2 hne]
    simp only [cond_false]
    rw [ih]
theorem depW_at {L : List Lb} {r x : ByteArray} {k : Nat} (hk : k < (cloW L r).N.length) (he : (cloW L r).N[k] = x) : depW L r x = (((cloW L r).D.getD k 0 : Nat) : Int) := by
  have h := idx_nd hk (clo_inv L r).nd
  rw [he] at h
  unfold depW
  rw [if_pos (by rw [← he]; exact List.getElem_mem hk), h]
set_option maxRecDepth 100000 in
set_option maxHeartbeats 1600000 in
theorem rdepth_any (L : List Lb) (r x : ByteArray) (A : Option Addr) (c : Nat) (w : World) (h : LibRow w A L) (hL : L.length ≤ 255) (hr : r.size ≤ maxLen) :
    Calls Try.prog 25 #[.slice A L.length c, .string r, .string x] w fun e w' => e = .returned (.int .i64 (depW L r x)) ∧ Below w.heap.size w w' := by
  have HO := Lib.hid (of_any L r A c w h hL hr)
  have hfew := (clo_inv L r).many
  have hlen := (clo_inv L r).len
  have HAT := Lib.hid (fun k hk (he : (cloW L r).N[k]'hk = x) => depW_at hk he)
  have HOUT := Lib.hid (fun (h : x ∉ (cloW L r).N) => show depW L r x = -1 from by unfold depW; rw [if_neg h])
  obtain ⟨l, hl⟩ : ∃ l, L.length = l := ⟨_, rfl⟩
  obtain ⟨S, hS⟩ : ∃ S, cloW L r = S := ⟨_, rfl⟩
  obtain ⟨n, hn⟩ : ∃ n, S.N.length = n := ⟨_, rfl⟩
  obtain ⟨m, hm⟩ : ∃ n, S.M.length = n := ⟨_, rfl⟩
  obtain ⟨rv, hrv⟩ : ∃ rv, depW L r x = rv := ⟨_, rfl⟩
  unfold OfT at HO
  rw [hS, hl, hn, hm] at HO
  rw [hrv, hS] at HAT HOUT
  rw [hS, hl, hn] at hfew
  rw [hS, hn] at hlen
  rw [hl] at hL ⊢
  rw [hrv]
  have HN := Lib.hid hn
  have HLEN := Lib.hid hlen
  clear h hn hm hl hS hlen hrv
  go_enter Try.func25, Try.ntmps25
  go_upto_region 2 with (go_at_call 13; refine HO.out.mono ?_; rintro e w1 ⟨A1, c1, A2, c2, A3, c3, rfl, hr1, hr2, -, hb⟩)
  obtain ⟨G, hG⟩ : ∃ G, w1.heap.size = G := ⟨_, rfl⟩
  have hB := Blk.new w1 35 #[.slice A1 n c1, .slice A2 n c2, .slice A3 m c3]
  have hb1 : Below w1.heap.size w1 (w1.alloc (.cells #[.slice A1 n c1, .slice A2 n c2, .slice A3 m c3] 35)) := (Below.refl _ _).alloc (Nat.le_refl _) _
  generalize hW : w1.alloc (.cells #[.slice A1 n c1, .slice A2 n c2, .slice A3 m c3] 35) = W
  rw [hW] at hB hb1
  have HB := Lib.hid (hb.trans (hb1.mono hb.size))
  have HR1 := Lib.hid (strRow_belowG hr1 rfl hb1)
  have HR2 := Lib.hid (hr2.belowH rfl hb1)
  rw [hG] at hB ⊢
  have k0 := hB.cell 0
  have k1 := hB.cell 1
  clear hW hB hb1 hb hr1 hr2 hG
  go_wp2_with fail
  go_loopw [8] (fun z wr => ∃ k : Nat, k ≤ n ∧ z = .int .i64 k ∧ Hid (x ∉ S.N.take k) ∧ wr = W) (fun z _ => n - (intOf z).toNat)
  case atStart => exact ⟨0, Nat.zero_le _, rfl, Lib.hid (by simp), rfl⟩
  case round =>
    obtain ⟨k, hk, rfl, HS, rfl⟩ := hrel
    by_cases hlt : k < n
    · have hk1 : k < S.N.length := by rw [HN.out]; exact hlt
      obtain ⟨ad, rfl, hblt, c0, _⟩ := HR1.out k hk1
      have hk0 : (0 : Int) ≤ (k : Int) := by omega
      have hk2 : (k : Int) < (n : Int) := by omega
      by_cases he : S.N[k] = x
      · have hrv := HAT.out k hk1 he
        have hkD : k < S.D.length := by rw [HLEN.out]; exact hlt
        obtain ⟨ad2, rfl, _, d0⟩ := HR2.out k hkD
        rw [List.getD_eq_getElem?_getD, List.getElem?_eq_getElem hkD, Option.getD_some] at hrv
        generalize S.D[k] = d at *
        subst hrv
        rw [he] at c0
        clear he
        go_wp2
        go_ret
        exact ⟨rfl, HB.out⟩
      · have HS2 := Lib.hid (show x ∉ S.N.take (k + 1) from by
          rw [List.take_succ_eq_append_getElem hk1, List.mem_append]
          rintro (h | h)
          · exact HS.out h
          · simp at h; exact he h.symm)
        have hb := beq_no he
        generalize S.N[k] = nm at *
        clear he
        go_wp2
        go_roundw
        case rel => exact ⟨k + 1, by omega, by go_num, HS2, by first | rfl | trivial⟩
        case measure => simp [intOf]; omega
    · obtain rfl : k = n := by omega
      have HF := Lib.hid (HOUT.out (by
        have := HS.out
        rw [List.take_of_length_le (by rw [HN.out]; exact Nat.le_refl _)] at this
        exact this))
      go_wp2
      go_ret
      exact ⟨congrArg (fun b => Ending.returned (.int .i64 b)) HF.out.symm, HB.out⟩
end Go.Proofs.Ytmkaehnekhejmaa
