/- Package cache: Get. -/
import Derived.Test.YtmbjflcmbenbdaeDoorKF
import Derived.BigQuiet
import Derived.Deep.RegionHeld3
namespace Go.Proofs.YtmbjflcmbenbdaeDoor
open Go.RowKit Go.Maps
set_option linter.unusedVariables false
set_option linter.unusedSimpArgs false

section
variable {fs : List Fl} {s : Nat} {W W' : World} {a : Ad} {v v' : Value} {C : Cc}
set_option maxRecDepth 100000 in
set_option maxHeartbeats 800000 in
theorem cget_no (hc : CanBe fs s) (h1 : 1 ≤ s) (A : Ca fs s W a v C) (f q : Int) (hno : ¬ (0 ≤ q ∧ q < pgsOf fs f)) :
    Calls Tryd.prog 6 #[.pointer (some ⟨a.pc, 0, none⟩), .agg #[.int .i64 f, .int .i64 q]] W fun e W' => e = .returned (.tuple #[.int .i64 0, .int .i64 14]) ∧ Below W.heap.size W W' := by
  have A1 := (A.alloc (.cells #[.int .i64 f, .int .i64 q] 33)).drew
  have c1 := A1.cells.2.1
  have hb1 : Below W.heap.size W (W.alloc (.cells #[.int .i64 f, .int .i64 q] 33)).drew := ((Below.refl _ _).alloc (Nat.le_refl _) _).drew
  have hp := cpages_any hc h1 A1 f
  by_cases h0 : q < 0
  · have hd : decide (q < 0) = true := by simpa using h0
    clear A A1 hp hc h1 hno
    generalize a.pc = pc at *
    go_enter Tryd.func6, Tryd.ntmps6
    go_wp2
    go_region
    all_goals
      go_wp2
      go_ret2
      exact ⟨rfl, hb1⟩
  · have hd : decide (q < 0) = false := by simpa using h0
    have hle : (pgsOf fs f : Int) ≤ q := by omega
    have HP := Lib.hid hp
    have HB1 := Lib.hid hb1
    have hbox := (Blk.new W 33 #[.int .i64 f, .int .i64 q]).drew
    have x0 := hbox.at_ 0 _ rfl
    have x1 := hbox.at_ 1 _ rfl
    have HBOX := Lib.hid hbox
    have HHD := Lib.hid A1.head
    clear A A1 hp hc h1 hno hb1 hbox
    unfold caCells at HHD
    generalize pgsOf fs f = n at *
    have hd2 : decide ((n : Int) ≤ q) = true := by simpa using hle
    have h0' : (0 : Int) ≤ q := by omega
    generalize a.pc = pc at *
    go_enter Tryd.func6, Tryd.ntmps6
    go_wp2
    go_region_held3 (fun w' => w'.cell? ⟨pc, 1, none⟩ = some (.pointer (some ⟨a.pf, 0, none⟩)) ∧ w'.cell? ⟨W.heap.size, 0, none⟩ = some (.int .i64 f) ∧ w'.cell? ⟨W.heap.size, 1, none⟩ = some (.int .i64 q))
      (first | exact ⟨c1, x0, x1⟩)
      (first
      | (go_at_call 19; refine HP.out.mono ?_; rintro e W2 ⟨rfl, hb2⟩; have HB2 := Lib.hid (HB1.out.trans (hb2.mono HB1.out.size)); clear c1 x0 x1; have c1 := (HHD.out.below hb2 HHD.out.lt).at_ 1 _ rfl; have x0 := (HBOX.out.below hb2 HBOX.out.lt).at_ 0 _ rfl; have x1 := (HBOX.out.below hb2 HBOX.out.lt).at_ 1 _ rfl; clear hb2))
    go_wp2
    go_ret2
    exact ⟨rfl, HB2.out⟩

set_option maxRecDepth 100000 in
set_option maxHeartbeats 1600000 in
/-- What Get comes to, where the file has the page. -/
theorem cget_in (hc : CanBe fs s) (h1 : 1 ≤ s) (A : Ca fs s W a v C) (f q : Int) (hf : (Lit.int .i64 f).wf = true) (hq : (Lit.int .i64 q).wf = true) (hin : 0 ≤ q ∧ q < pgsOf fs f) (r1 r2 : Int) (R : Value → World → Prop)
    (hyes : ∀ x, pgF C.R f q = some x → ∀ V, Ca fs s V a v C → Calls Tryd.prog 20 #[.pointer (some ⟨a.pc, 0, none⟩), .agg #[.int .i64 f, .int .i64 q], .int .i64 x.fr] V fun e W' => e = .returned (.tuple #[.int .i64 r1, .int .i64 r2]) ∧ ∃ v', R v' W' ∧ Turned a v V v' W')
    (hnot : pgF C.R f q = none → ∀ V, Ca fs s V a v C → Calls Tryd.prog 21 #[.pointer (some ⟨a.pc, 0, none⟩), .agg #[.int .i64 f, .int .i64 q]] V fun e W' => e = .returned (.tuple #[.int .i64 r1, .int .i64 r2]) ∧ ∃ v', R v' W' ∧ Turned a v V v' W') :
    Calls Tryd.prog 6 #[.pointer (some ⟨a.pc, 0, none⟩), .agg #[.int .i64 f, .int .i64 q]] W fun e W' => e = .returned (.tuple #[.int .i64 r1, .int .i64 r2]) ∧ ∃ v', R v' W' ∧ Turned a v W v' W' := by
  have A1 := (A.alloc (.cells #[.int .i64 f, .int .i64 q] 33)).drew
  have c1 := A1.cells.2.1
  have t1 : Turned a v W v (W.alloc (.cells #[.int .i64 f, .int .i64 q] 33)).drew := Turned.below (((Below.refl _ _).alloc (Nat.le_refl _) _).drew)
  have hp := cpages_any hc h1 A1 f
  have hbox := (Blk.new W 33 #[.int .i64 f, .int .i64 q]).drew
  have hd : decide (q < 0) = false := by simpa using hin.1
  have h0 : ¬ q < 0 := by omega
  have hlt : ¬ (pgsOf fs f : Int) ≤ q := by omega
  obtain ⟨z, hz⟩ : ∃ z, gR C.R f q = z := ⟨_, rfl⟩
  have HS := Lib.hid (fun (W2 : World) (hb : Below (W.alloc (.cells #[.int .i64 f, .int .i64 q] 33)).drew.heap.size (W.alloc (.cells #[.int .i64 f, .int .i64 q] 33)).drew W2) =>
    show (Instr.lookup 53 (.map (some a.mb)) (.agg #[.int .i64 f, .int .i64 q]) true).run Tryd.prog W2.drew = .ok (.tuple #[.agg #[.int .i64 (z.getD (0, false)).1, .bool (z.getD (0, false)).2], .bool z.isSome]) W2.drew ∧
      (Instr.lookup 53 (.map (some a.mb)) (.agg #[.int .i64 f, .int .i64 q]) true).run Tryd.prog (W2.alloc (.cells #[.int .i64 0, .bool false] 59)).drew = .ok (.tuple #[.agg #[.int .i64 (z.getD (0, false)).1, .bool (z.getD (0, false)).2], .bool z.isSome]) (W2.alloc (.cells #[.int .i64 0, .bool false] 59)).drew ∧
      (W2.drew.cell? ⟨a.pc, 2, none⟩ = some (.map (some a.mb)) ∧ (W2.alloc (.cells #[.int .i64 0, .bool false] 59)).drew.cell? ⟨a.pc, 2, none⟩ = some (.map (some a.mb))) ∧
      (W2.cell? ⟨W.heap.size, 0, none⟩ = some (.int .i64 f) ∧ W2.cell? ⟨W.heap.size, 1, none⟩ = some (.int .i64 q) ∧ W.heap.size < W2.heap.size) ∧
      Hid (∀ o, Ca fs s (W2.alloc o).drew a v C ∧ Turned a v W v (W2.alloc o).drew) from by
    have A2 := A1.below hb
    have hb2 := hbox.below hb hbox.lt
    have l1 := A2.drew.map.ok hf hq
    have l2 := (A2.alloc (.cells #[.int .i64 0, .bool false] 59)).drew.map.ok hf hq
    rw [hz] at l1 l2
    exact ⟨l1, l2, ⟨A2.drew.cells.2.2.1, (A2.alloc _).drew.cells.2.2.1⟩, ⟨hb2.at_ 0 _ rfl, hb2.at_ 1 _ rfl, hb2.lt⟩, Lib.hid fun o => ⟨(A2.alloc o).drew, (t1.trans (Turned.below hb)).trans (Turned.below (((Below.refl _ _).alloc (Nat.le_refl _) _).drew))⟩⟩)
  have HP := Lib.hid hp
  have x0 := hbox.at_ 0 _ rfl
  have x1 := hbox.at_ 1 _ rfl
  have HBOX := Lib.hid hbox
  have HHD := Lib.hid A1.head
  unfold caCells at HHD
  have h0' : (0 : Int) ≤ q := hin.1
  have hlt' : q < (pgsOf fs f : Int) := hin.2
  have hzc : (pgF C.R f q = none ∧ z = none) ∨ ∃ x, pgF C.R f q = some x ∧ z = some ((x.fr : Int), x.fresh) := by
    unfold gR at hz
    cases h : pgF C.R f q with
    | none => rw [h] at hz; exact .inl ⟨rfl, hz.symm⟩
    | some x => rw [h] at hz; exact .inr ⟨x, rfl, hz.symm⟩
  clear A A1 hp t1 hbox hc h1 hf hq hz hin
  generalize pgsOf fs f = n at *
  have hd2 : decide ((n : Int) ≤ q) = false := by simpa using hlt
  rcases hzc with ⟨hx, rfl⟩ | ⟨x, hx, rfl⟩
  · have HN := Lib.hid (hnot hx)
    clear hyes hnot hx
    dsimp only [Option.getD_none, Option.isSome_none] at HS
    generalize a.pc = pc at *
    go_enter Tryd.func6, Tryd.ntmps6
    go_wp2
    go_region_held3 (fun w' => w'.cell? ⟨pc, 1, none⟩ = some (.pointer (some ⟨a.pf, 0, none⟩)) ∧ w'.cell? ⟨W.heap.size, 0, none⟩ = some (.int .i64 f) ∧ w'.cell? ⟨W.heap.size, 1, none⟩ = some (.int .i64 q))
      (first | exact ⟨c1, x0, x1⟩)
      (first
      | (go_at_call 19; refine HP.out.mono ?_; rintro e W2 ⟨rfl, hb2⟩; obtain ⟨l1, l2, ⟨d1, d2⟩, ⟨b0, b1, b2⟩, HA⟩ := HS.out W2 hb2; clear c1 x0 x1; have c1 := (HHD.out.below hb2 HHD.out.lt).at_ 1 _ rfl; have x0 := (HBOX.out.below hb2 HBOX.out.lt).at_ 0 _ rfl; have x1 := (HBOX.out.below hb2 HBOX.out.lt).at_ 1 _ rfl; clear hb2))
    clear HS HP HHD HBOX b0 b1
    go_wp2
    go_region
    all_goals
      go_wp2_with (go_at_call 21; refine (HN.out _ (HA.out _).1).mono ?_; rintro e W4 ⟨rfl, v', hr, ht⟩; have HF := Lib.hid (show ∃ v', R v' W4 ∧ Turned a v W v' W4 from ⟨v', hr, (HA.out _).2.trans ht⟩); clear hr ht)
      go_ret2
      exact ⟨rfl, HF.out⟩
  · have HY := Lib.hid (hyes x hx)
    clear hyes hnot hx
    generalize x.fr = fr at *
    generalize x.fresh = fh at *
    dsimp only [Option.getD_some, Option.isSome_some] at HS
    generalize a.pc = pc at *
    go_enter Tryd.func6, Tryd.ntmps6
    go_wp2
    go_region_held3 (fun w' => w'.cell? ⟨pc, 1, none⟩ = some (.pointer (some ⟨a.pf, 0, none⟩)) ∧ w'.cell? ⟨W.heap.size, 0, none⟩ = some (.int .i64 f) ∧ w'.cell? ⟨W.heap.size, 1, none⟩ = some (.int .i64 q))
      (first | exact ⟨c1, x0, x1⟩)
      (first
      | (go_at_call 19; refine HP.out.mono ?_; rintro e W2 ⟨rfl, hb2⟩; obtain ⟨l1, l2, ⟨d1, d2⟩, ⟨b0, b1, b2⟩, HA⟩ := HS.out W2 hb2; clear c1 x0 x1; have c1 := (HHD.out.below hb2 HHD.out.lt).at_ 1 _ rfl; have x0 := (HBOX.out.below hb2 HBOX.out.lt).at_ 0 _ rfl; have x1 := (HBOX.out.below hb2 HBOX.out.lt).at_ 1 _ rfl; clear hb2))
    clear HS HP HHD HBOX b0 b1
    go_wp2
    go_region
    all_goals
      go_wp2_with (go_at_call 20; refine (HY.out _ (HA.out _).1).mono ?_; rintro e W4 ⟨rfl, v', hr, ht⟩; have HF := Lib.hid (show ∃ v', R v' W4 ∧ Turned a v W v' W4 from ⟨v', hr, (HA.out _).2.trans ht⟩); clear hr ht)
      go_ret2
      exact ⟨rfl, HF.out⟩

/-- A page that is there is got. -/
theorem cget_hit (hc : CanBe fs s) (h1 : 1 ≤ s) (A : Ca fs s W a v C) {x : Pg} (hx : pgF C.R x.f x.q = some x) (hin : 0 ≤ x.q ∧ x.q < pgsOf fs x.f) (ha : askE C.X.H x.fr = 0) (hh : C.hits ≤ 1000000) :
    Calls Tryd.prog 6 #[.pointer (some ⟨a.pc, 0, none⟩), .agg #[.int .i64 x.f, .int .i64 x.q]] W fun e W' => e = .returned (.tuple #[.int .i64 x.fr, .int .i64 0]) ∧ ∃ v', Ca fs s W' a v' (C.hit x) ∧ Turned a v W v' W' := by
  obtain ⟨wf, wq⟩ := A.wfk x (pgF_some hx).1
  refine cget_in hc h1 A x.f x.q wf wq hin _ _ (fun v' W' => Ca fs s W' a v' (C.hit x)) (fun y hy V AV => ?_) (fun h => by rw [hx] at h; cases h)
  obtain rfl : x = y := by rw [hx] at hy; exact Option.some.inj hy
  exact (chit_any AV hx ha hh).mono fun e W' ⟨he, h2, h3⟩ => ⟨he, v, h2, h3⟩
/-- A page that is not there, and no frame is free. -/
theorem cget_full (hc : CanBe fs s) (h1 : 1 ≤ s) (A : Ca fs s W a v C) (f q : Int) (hf : (Lit.int .i64 f).wf = true) (hq : (Lit.int .i64 q).wf = true) (hx : pgF C.R f q = none) (hin : 0 ≤ q ∧ q < pgsOf fs f) (hfree : ¬ freeAt C.X.H < C.X.H.length) :
    Calls Tryd.prog 6 #[.pointer (some ⟨a.pc, 0, none⟩), .agg #[.int .i64 f, .int .i64 q]] W fun e W' => e = .returned (.tuple #[.int .i64 0, .int .i64 18]) ∧ ∃ v', Ca fs s W' a v' C ∧ Turned a v W v' W' := by
  refine cget_in hc h1 A f q hf hq hin _ _ (fun v' W' => Ca fs s W' a v' C) (fun y hy V AV => by rw [hx] at hy; cases hy) (fun h V AV => ?_)
  exact (cfill_full AV hfree f q).mono fun e W' ⟨he, h2, h3⟩ => ⟨he, v, h2, h3⟩
/-- A page that is not there comes. -/
theorem cget_fill (hc : CanBe fs s) (h1 : 1 ≤ s) (A : Ca fs s W a v C) (k : Nat) (hk : k < fs.length) (q : Nat) (hq : q < pgs fs[k].data.size) (hx : pgF C.R k q = none) (hfree : freeAt C.X.H < C.X.H.length) (hf : C.fills ≤ 1000000) (hl : C.R.length + 1 ≤ 4096) :
    Calls Tryd.prog 6 #[.pointer (some ⟨a.pc, 0, none⟩), .agg #[.int .i64 (k : Int), .int .i64 (q : Int)]] W fun e W' => e = .returned (.tuple #[.int .i64 (freeAt C.X.H : Nat), .int .i64 0]) ∧ ∃ v', Ca fs s W' a v' (C.fill k q (pageOf fs[k].data q)) ∧ Turned a v W v' W' := by
  have hkl := hc.many
  have hqs : q ≤ 1000000 := by
    have := hc.data _ (List.getElem_mem hk)
    unfold pgs at hq
    omega
  refine cget_in hc h1 A k q (wf_c (by omega) (by omega)) (wf_c (by omega) (by omega)) ⟨by omega, by rw [pgsOf_at hk]; omega⟩ _ _ (fun v' W' => Ca fs s W' a v' (C.fill k q (pageOf fs[k].data q))) (fun y hy V AV => by rw [hx] at hy; cases hy) (fun h V AV => ?_)
  exact cfill_yes hc h1 AV hfree k hk q hq hx hf hl
end
end Go.Proofs.YtmbjflcmbenbdaeDoor
