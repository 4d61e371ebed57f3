/- Layer 16: the reference's Same; awake; what is asked, as it comes in; the table, laid. -/
import Derived.Test.YtdfokgfcohfgeaaDoorMF
import Derived.Test.YtdfokgfcohfgeaaDoorTie
import Derived.Test.YtdfokgfcohfgeaaDoorCards
import Derived.Lib.LaidTab
import Derived.LaidLaws
import Derived.SevenTiedAt
namespace Go.Proofs.YtdfokgfcohfgeaaDoor
open Go.RowKit Go.ChangeShapes Go.WideShapes Go.Deep
set_option linter.unusedVariables false
set_option linter.unusedSimpArgs false

set_option maxRecDepth 100000 in
set_option maxHeartbeats 1600000 in
/-- Two rows that are the same. -/
theorem rsameM (L : List Int) (A B : Option Addr) (c c' : Nat) (w : World) (hA : IntRow w A L) (hB : IntRow w B L) (hl : L.length ≤ 100000) :
    Calls Tryd.prog 11 #[.slice A L.length c, .slice B L.length c'] w fun e w' => e = .returned (.bool true) ∧ Below w.heap.size w w' := by
  obtain ⟨n, hn⟩ : ∃ n, L.length = n := ⟨_, rfl⟩
  rw [hn] at hl ⊢
  have HA := Lib.hid hA
  have HB := Lib.hid hB
  have HN := Lib.hid hn
  have HR := Lib.hid (fun q => show Below w.heap.size w (w.drewN q) from belowM (Below.refl _ w) q)
  clear hA hB hn
  go_enter Tryd.func11, Tryd.ntmps11
  go_wp2_with fail
  go_loopw [5] (fun z wr => ∃ k : Nat, k ≤ n ∧ z = .int .i64 k ∧ ∃ q, wr = w.drewN q) (fun z _ => n - (intOf z).toNat)
  case atStart => exact ⟨0, Nat.zero_le _, rfl, 0, rfl⟩
  case round =>
    obtain ⟨k, hk, rfl, q, rfl⟩ := hrel
    by_cases hlt : k < n
    · have hk1 : k < L.length := by rw [HN.out]; exact hlt
      obtain ⟨ad, rfl, -, c0, -⟩ := HA.out k hk1
      obtain ⟨bd, rfl, -, d0, -⟩ := HB.out k hk1
      have hk0 : (0 : Int) ≤ (k : Int) := by omega
      have hk2 : (k : Int) < (n : Int) := by omega
      generalize L[k] = z at c0 d0
      clear hk1
      go_wp2_with fail
      go_region
      all_goals go_wp2_with fail
      all_goals go_roundw
      case rel => exact ⟨k + 1, by omega, by go_num, q + 1, rfl⟩
      case measure => simp [intOf]; omega
    · have hkn : k = n := by omega
      subst hkn
      go_wp2_with fail
      go_ret
      exact ⟨rfl, HR.out q⟩

def awakeR : Rg := ⟨0, 1, 6, 1, 0, 0⟩
theorem awake_seq : seqM awakeR true Sl.zero 2 0 = [3, 6, 1] := by decide +kernel
theorem row3M (w : World) : IntRow (w.alloc (.cells #[.int .i64 3, .int .i64 6, .int .i64 1] 3)) (some ⟨w.heap.size, 0, none⟩) [3, 6, 1] := fun i hi => by
  have hN := Blk.new w 3 #[.int .i64 3, .int .i64 6, .int .i64 1]
  have e : ∀ j, (⟨w.heap.size, 0, none⟩ : Addr).add j = ⟨w.heap.size, j, none⟩ := fun j => by unfold Addr.add; split <;> simp_all
  refine ⟨⟨w.heap.size, 0, none⟩, rfl, hN.lt, ?_⟩
  rw [e, hN.cell]
  match i, hi with
  | 0, _ => exact ⟨rfl, (by decide : (Lit.int .i64 3).wf = true)⟩
  | 1, _ => exact ⟨rfl, (by decide : (Lit.int .i64 6).wf = true)⟩
  | 2, _ => exact ⟨rfl, (by decide : (Lit.int .i64 1).wf = true)⟩
@[go_sem] theorem build_rgA (a b c : Int) (w : World) : (Instr.build 23 #[(1, .int .i64 a), (2, .int .i64 b), (3, .int .i64 c)]).run Tryd.prog w = .ok (.agg #[.int .i64 0, .int .i64 a, .int .i64 b, .int .i64 c, .int .i64 0, .int .i64 0]) w := run_build w 23 _ _ (by kernel_rfl)
@[go_sem] theorem build_rgB (a b c d : Int) (w : World) : (Instr.build 23 #[(1, .int .i64 a), (2, .int .i64 b), (3, .int .i64 c), (4, .int .i64 d)]).run Tryd.prog w = .ok (.agg #[.int .i64 0, .int .i64 a, .int .i64 b, .int .i64 c, .int .i64 d, .int .i64 0]) w := run_build w 23 _ _ (by kernel_rfl)

set_option maxRecDepth 100000 in
set_option maxHeartbeats 1600000 in
theorem awakeM (w : World) (hT : Askd w) : Calls Tryd.prog 9 #[] w fun e w' => e = .returned (.bool true) ∧ Below w.heap.size w w' := by
  have hB0 : Below w.heap.size w (w.alloc (.cells #[.int .i64 0, .int .i64 1, .int .i64 6, .int .i64 1, .int .i64 0, .int .i64 0] 23)) := (Below.refl _ w).alloc (Nat.le_refl _) _
  have hst := steps_any awakeR true Sl.zero 2 0 _ (hT.on hB0)
  rw [awake_seq] at hst
  have HST := Lib.hid hst
  have HB0 := Lib.hid hB0
  have HS := Lib.hid (fun A B c c' v h1 h2 => rsameM [3, 6, 1] A B c c' v h1 h2 (by decide))
  clear hB0 hst hT
  unfold Sl.zero Sl.v awakeR Rg.cs at HST
  simp only at HST
  simp only [List.length_cons, List.length_nil] at HS
  go_enter Tryd.func9, Tryd.ntmps9
  go_wp2_with (first
    | (go_at_call 12; (with_reducible refine HST.out.mono ?_); rintro e v ⟨A, c, rfl, hr, hb⟩
       have HR := Lib.hid hr
       have HB1 := Lib.hid (HB0.out.trans (hb.mono HB0.out.size))
       clear hr hb)
    | (go_at_call 11; refine (HS.out _ _ _ _ _ (intRow_belowM HR.out rfl ((Below.refl _ _).alloc (Nat.le_refl _) _)) (row3M _)).mono ?_; rintro e v5 ⟨rfl, hb5⟩
       have HB2 := Lib.hid ((HB1.out.alloc HB1.out.size (.cells #[.int .i64 3, .int .i64 6, .int .i64 1] 3)).trans (hb5.mono (by have := HB1.out.size; simp; omega)))
       clear hb5))
  go_ret
  exact ⟨rfl, HB2.out⟩

/-- What is asked: is there a region; which use; how often a frame is held; an act, a frame. -/
structure Aq where
  th : Bool
  u : Int
  n : Int
  a : Int
  f : Int
def Aq.cs (q : Aq) : Array Value := #[.bool q.th, .int .i64 q.u, .int .i64 q.n, .int .i64 q.a, .int .i64 q.f]
def zaskV : Value := .agg #[.bool false, .int .i64 0, .int .i64 0, .int .i64 0, .int .i64 0]
set_option maxRecDepth 100000 in
theorem open_ask {H : Type} {enc : TypeId × Value → H} {w : World} {base : Nat} {spare : Nat → Bool} {held : Bool} {r : Reach} {b0 : Nat} {v : Value} {d : DataW H} {ps : List MemPlace}
    (hv : Value.okWide Tryd.prog w r b0 27 v) (h : DataW.Trod enc Tryd.prog w base spare held 27 v d ps) : ∃ q : Aq, v = .agg q.cs ∧ (Lit.int .i64 q.u).wf = true := by
  obtain ⟨cs, rfl, hsz, hel⟩ := open_fields Tryd.underlying27 (by kernel_rfl) (by kernel_rfl) hv h
  obtain ⟨u0, _, _, c0, t0⟩ := hel 0 _ rfl
  obtain ⟨u1, _, _, c1, t1⟩ := hel 1 _ rfl
  obtain ⟨u2, _, _, c2, t2⟩ := hel 2 _ rfl
  obtain ⟨u3, _, _, c3, t3⟩ := hel 3 _ rfl
  obtain ⟨u4, _, _, c4, t4⟩ := hel 4 _ rfl
  obtain ⟨b0, h0, _⟩ := DataW.trod_bool Tryd.underlying4 t0
  obtain ⟨n1, h1, _, w1⟩ := DataW.trod_int Tryd.underlying3 t1
  obtain ⟨n2, h2, _, w2⟩ := DataW.trod_int Tryd.underlying3 t2
  obtain ⟨n3, h3, _, w3⟩ := DataW.trod_int Tryd.underlying3 t3
  obtain ⟨n4, h4, _, w4⟩ := DataW.trod_int Tryd.underlying3 t4
  cases h0
  cases h1
  cases h2
  cases h3
  cases h4
  rw [list5 hsz c0 c1 c2 c3 c4]
  exact ⟨⟨b0, n1, n2, n3, n4⟩, rfl, w1⟩

namespace l16
theorem tab_of_laid {W : World} (h : laidMet Tryd.prog [("flyleaf/fault.asked", Rows.laid_flyleaf_fault_asked)] W) : Askd W := by
  have hT := Lib.tabIs_of_head (k := .i64) (zs := [0, 4, 2, 1]) (g := 0) (t := 41) (e := 3) (n := 4) (by kernel_rfl) (by kernel_rfl) Tryd.underlying41 Tryd.underlying3 (by kernel_rfl) (by kernel_rfl) h
  exact ⟨fun i hi => hT.cell (by kernel_rfl) i hi⟩
/-- A world in which the table lies. -/
noncomputable def laidWorld (os : Os) : World :=
  { World.holding Tryd.prog os ⟨#[], #[], []⟩ with heap := (World.holding Tryd.prog os ⟨#[], #[], []⟩).heap.modify 0 fun
      | .cells _ t frozen => .cells #[.int .i64 0, .int .i64 4, .int .i64 2, .int .i64 1] t frozen
      | o => o }
theorem laid_met (os : Os) (args : Array Value) : laidMet Tryd.prog [("flyleaf/fault.asked", Rows.laid_flyleaf_fault_asked)] ((laidWorld os).forCall (fun _ _ => 0) ⟨#[], args, []⟩).memory :=
  laidMet_of_run' 8 (by kernel_rfl) (by kernel_rfl)
end l16
end Go.Proofs.YtdfokgfcohfgeaaDoor
