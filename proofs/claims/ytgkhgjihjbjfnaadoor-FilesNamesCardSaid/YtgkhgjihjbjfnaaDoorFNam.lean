/- FilesNames: files of names that may be, each once, are found by them; a name that may not be, or is there twice, lets no disk be. -/
import Derived.Test.YtgkhgjihjbjfnaaDoorFOp
import Derived.Test.YtgkhgjihjbjfnaaDoorFOs
import Derived.Test.YtgkhgjihjbjfnaaDoorLaw
import Derived.Test.YtgkhgjihjbjfnaaDoorTie
import Derived.Test.YtgkhgjihjbjfnaaDoorCards
import Derived.LaidMore
import Derived.Lay
import Derived.SevenTiedAt
import Derived.Stop.Joined
namespace Go.Proofs.YtgkhgjihjbjfnaaDoor.lawFNam
open Go.ChangeShapes Go.WideShapes Go.ChangeAt Go.RowKit
set_option linter.unusedVariables false
set_option linter.unusedSimpArgs false

theorem infoFile : (Tryd.prog.info? 32).map (fun i => (i.zero, i.size, i.bytes)) = some (some (.agg #[.string ⟨#[]⟩, .string ⟨#[]⟩]), 2, 32) := by kernel_rfl
/-- A name, cut to 30 bytes. -/
def cut30 (s : ByteArray) : ByteArray := if 30 < s.size then s.extract 0 30 else s
theorem cut30_size (s : ByteArray) : (cut30 s).size ≤ 30 := by
  unfold cut30
  split
  · rw [extract_mkb, mkb_size, List.length_take]; omega
  · omega
/-- The file of a name. -/
def fl (s : ByteArray) : Fl := ⟨cut30 s, cut30 s⟩
def fls (ss : List ByteArray) (k : Nat) : List Fl := (ss.take k).map fl
theorem fls_length (ss : List ByteArray) (k : Nat) (h : k ≤ ss.length) : (fls ss k).length = k := by simp [fls]; omega
theorem fls_succ (ss : List ByteArray) (k : Nat) (h : k < ss.length) : fls ss (k + 1) = fls ss k ++ [fl ss[k]] := by
  unfold fls
  rw [List.take_succ_eq_append_getElem h, List.map_append]
  rfl
theorem fls_size (ss : List ByteArray) (k : Nat) : ∀ f ∈ fls ss k, f.name.size ≤ 30 ∧ f.data = f.name := fun f hf => by
  obtain ⟨s, _, rfl⟩ := List.mem_map.1 hf
  exact ⟨cut30_size s, rfl⟩

theorem beq_no {a b : ByteArray} (h : a ≠ b) : (a.toList == b.toList) = false := by
  have h2 : a.toList ≠ b.toList := fun e => h (by
    have h3 : a.data.toList = b.data.toList := by rw [← ByteArray.toList_eq, e, ByteArray.toList_eq]
    rw [← mkb_of a, h3, mkb_of])
  simpa using h2
theorem fileCells_snoc (fs : List Fl) (f : Fl) : fileCells (fs ++ [f]) = fileCells fs ++ [.string f.name, .string f.data] := by simp [fileCells]
theorem add_blk (a : Addr) (k : Nat) : (a.add k).block = a.block := by unfold Addr.add; split <;> rfl
theorem notin_iff (fs : List Fl) (S : ByteArray) : S ∉ fs.map Fl.name ↔ ∀ q (h : q < fs.length), fs[q].name ≠ S := by
  constructor
  · intro h q hq e
    exact h (List.mem_map.2 ⟨_, List.getElem_mem hq, e⟩)
  · intro h hm
    obtain ⟨f, hf, e⟩ := List.mem_map.1 hm
    obtain ⟨q, hq, rfl⟩ := List.getElem_of_mem hf
    exact h q hq e
/-- What may be so far, the names below t of fs beside S. -/
def MayI (fs : List Fl) (S : ByteArray) (t : Nat) (b : Bool) : Prop := b = true ↔ (namesOk fs ∧ nameOk S = true) ∧ ∀ q (h : q < fs.length), q < t → fs[q].name ≠ S
theorem MayI.zero {fs : List Fl} {S : ByteArray} {b : Bool} (h : b = true ↔ namesOk fs ∧ nameOk S = true) : MayI fs S 0 b := by
  unfold MayI
  rw [h]
  exact ⟨fun h => ⟨h, fun q _ hq => by omega⟩, fun h => h.1⟩
theorem MayI.same {fs : List Fl} {S : ByteArray} {t : Nat} (ht : t < fs.length) (he : fs[t].name = S) : MayI fs S (t + 1) false := by
  unfold MayI
  exact ⟨fun h => (by cases h), fun h => absurd he (h.2 t ht (by omega))⟩
theorem MayI.no {fs : List Fl} {S : ByteArray} {t : Nat} (h : MayI fs S t false) : MayI fs S (t + 1) false := by
  unfold MayI at *
  exact ⟨fun h => (by cases h), fun h2 => h.2 ⟨h2.1, fun q hq hqt => h2.2 q hq (by omega)⟩⟩
theorem MayI.yes {fs : List Fl} {S : ByteArray} {t : Nat} (ht : t < fs.length) (h : MayI fs S t true) (he : fs[t].name ≠ S) : MayI fs S (t + 1) true := by
  unfold MayI at *
  have h1 := h.1 rfl
  refine ⟨fun _ => ⟨h1.1, fun q hq hqt => ?_⟩, fun _ => rfl⟩
  rcases Nat.lt_or_ge q t with h2 | h2
  · exact h1.2 q hq h2
  · have : q = t := by omega
    subst this
    exact he
theorem MayI.full {fs : List Fl} {S : ByteArray} {t : Nat} {b : Bool} (h : MayI fs S t b) (ht : fs.length ≤ t) : b = true ↔ namesOk (fs ++ [⟨S, S⟩]) := by
  unfold MayI at h
  rw [h, namesOk_snoc, notin_iff]
  constructor
  · rintro ⟨⟨h1, h2⟩, h3⟩
    exact ⟨h1, h2, fun q hq => h3 q hq (by omega)⟩
  · rintro ⟨h1, h2, h3⟩
    exact ⟨⟨h1, h2⟩, fun q hq _ => h3 q hq⟩

set_option maxRecDepth 100000 in
set_option maxHeartbeats 4000000 in
theorem walk (A : Option Addr) (ss : List ByteArray) (c : Nat) (w : World) (hm : ss.length ≤ maxLen) (hr : StrRow w A ss) : Calls Tryd.prog 8 #[.slice A ss.length c] w fun e w' => e = .returned (.bool true) ∧ Below w.heap.size w w' := by
  obtain ⟨M, hM⟩ : ∃ M, min ss.length 10 = M := ⟨_, rfl⟩
  have hM1 : M ≤ ss.length := by omega
  have hM2 : M ≤ 10 := by omega
  have hMlt : ∀ k, k < M → k < ss.length ∧ k < 10 := fun k h => by omega
  unfold maxLen at hm
  obtain ⟨i0, hi, hz0, hz1, hz2⟩ := info_parts infoFile
  have HA := Lib.hid (fun v => awake_true v)
  have HM := Lib.hid hM
  have HR := Lib.hid hr
  clear hM hr
  go_enter Tryd.func8, Tryd.ntmps8
  go_wp2_with (go_at_call 9; go_loud (refine (HA.out _).mono ?_; rintro e v0 ⟨rfl, hb0⟩))
  go_loopw [4, 5, 6] (fun m may i wr => ∃ (k : Nat) (b : Bool), k ≤ M ∧ i = .int .i64 k ∧ may = .bool b ∧ (b = true ↔ namesOk (fls ss k)) ∧ wr.ownsRow w.heap.size 32 2 m k (fileCells (fls ss k)) ∧ Below w.heap.size w wr) (fun _ _ i _ => M - (intOf i).toNat)
  case atStart => exact ⟨0, true, Nat.zero_le _, rfl, rfl, ⟨fun _ => namesOk_nil, fun _ => rfl⟩, ⟨rfl, .inl ⟨rfl, rfl⟩⟩, hb0⟩
  case round =>
    clear hb0 v0
    obtain ⟨k, b, hk, rfl, rfl, hbk, hown, hB⟩ := hrel
    by_cases hlt : k < M
    · obtain ⟨hk1, hk2⟩ := hMlt k hlt
      obtain ⟨ad, rfl, had, cs, hcz⟩ := HR.out k hk1
      replace cs := (hB.cell (p := ad.add k) (by rw [add_blk]; exact had)).trans cs
      have hsz := cut30_size ss[k]
      have hfs := fls_succ ss k hk1
      obtain ⟨S, hS⟩ : ∃ S, cut30 ss[k] = S := ⟨_, rfl⟩
      have hflS : fl ss[k] = ⟨S, S⟩ := by unfold fl; rw [hS]
      rw [hflS] at hfs
      rw [hS] at hsz
      have hfl := fls_length ss k (by omega)
      have hfr := FileRow.of_own hown
      obtain ⟨FS, hFS⟩ : ∃ FS, fls ss k = FS := ⟨_, rfl⟩
      rw [hFS] at hfs hfl hfr hown hbk
      obtain ⟨A', c', rfl⟩ := hfr.slice
      rw [hfl] at hown hfr ⊢
      have HC := Lib.hid (fun v => check_any S v)
      have HFL := Lib.hid hfl
      have HFR := Lib.hid hfr
      have HFS := Lib.hid hfs
      have HOWN := Lib.hid hown
      have HB := Lib.hid hB
      have HBK := Lib.hid hbk
      have hS2 := hS
      unfold cut30 at hS2
      clear hS hflS hfl hfr hfs hown hB hbk hFS
      by_cases h30 : 30 < ss[k].size
      · rw [if_pos h30] at hS2
        cases b
        · have HB0 := Lib.hid (show (false = true) ↔ namesOk FS ∧ nameOk S = true from ⟨(fun h => by cases h), fun h => HBK.out.2 h.1⟩)
          go_wp2
          go_loop [5, 8] (fun may2 j => ∃ (t : Nat) (b2 : Bool), t ≤ k ∧ j = .int .i64 t ∧ may2 = .bool b2 ∧ MayI FS S t b2) (fun _ j => k - (intOf j).toNat)
          case atStart => exact ⟨0, _, Nat.zero_le _, rfl, rfl, MayI.zero HB0.out⟩
          case round =>
            obtain ⟨t, b2, ht, rfl, rfl, hmay⟩ := hrel
            by_cases hlt2 : t < k
            · have htl : t < FS.length := by have := HFL.out; omega
              obtain ⟨g, rfl, hg, d0, d1⟩ := HFR.out.at_ t htl
              have HMY := Lib.hid hmay
              clear hmay d1
              cases b2
              · go_wp2
                go_round
                case rel => exact ⟨t + 1, _, by omega, by go_num, rfl, HMY.out.no⟩
                case measure => simp [intOf]; omega
              · by_cases hne : FS[t].name = S
                · have HY := Lib.hid (MayI.same htl hne)
                  rw [hne] at d0
                  clear hne
                  go_wp2
                  go_round
                  case rel => exact ⟨t + 1, _, by omega, by go_num, rfl, HY.out⟩
                  case measure => simp [intOf]; omega
                · have HY := Lib.hid (HMY.out.yes htl hne)
                  have hx := beq_no hne
                  clear hne
                  generalize FS[t].name = nt at *
                  go_wp2
                  go_round
                  case rel => exact ⟨t + 1, _, by omega, by go_num, rfl, HY.out⟩
                  case measure => simp [intOf]; omega
            · obtain rfl : t = k := by omega
              have HF1 := Lib.hid (hmay.full (by have := HFL.out; omega))
              clear hmay
              go_wp2_with (at_builtin; go_loud (refine wpList_append_own _ rfl _ _ 22 rfl w.heap.size 32 i0 _ 2 32 Tryd.underlying22 hi hz0 hz1 hz2 rfl (by decide) _ _ _ rfl (HOWN.out.alloc _) ⟨wr.heap.size, 0, none⟩ 1 1 [.string S, .string S] rfl (by rfl) (fun j u hj => by rw [show (⟨wr.heap.size, 0, none⟩ : Addr).add j = ⟨wr.heap.size, j, none⟩ by unfold Addr.add; split <;> simp_all]; exact (Blk.new wr _ _).at_ j u (by simpa using hj)) (fun u hu => by simp at hu; subst hu; rfl) (by unfold maxLen; omega) (by omega) (by have := HB.out.size; simp; omega) ?_; intro v' w1 hown1 hgrow1 _; have HOWN1 := Lib.hid hown1; have HG1 := Lib.hid hgrow1; clear hown1 hgrow1))
              go_roundw
              case rel => exact ⟨t + 1, b2, by omega, by go_num, rfl, by rw [HFS.out]; exact HF1.out, by rw [HFS.out, fileCells_snoc]; exact HOWN1.out, (HB.out.alloc HB.out.size _).grown HG1.out (by have := HB.out.size; simp; omega) (fun k hk => own_ge HOWN.out hk)⟩
              case measure => simp [intOf]; omega
        · have HB0 := Lib.hid (show (nameOk S = true) ↔ namesOk FS ∧ nameOk S = true from ⟨fun h => ⟨HBK.out.1 rfl, h⟩, fun h => h.2⟩)
          go_wp2_with (go_at_call 14; refine (HC.out _).mono ?_; rintro e v1 ⟨rfl, rfl⟩)
          go_loop [5, 8] (fun may2 j => ∃ (t : Nat) (b2 : Bool), t ≤ k ∧ j = .int .i64 t ∧ may2 = .bool b2 ∧ MayI FS S t b2) (fun _ j => k - (intOf j).toNat)
          case atStart => exact ⟨0, _, Nat.zero_le _, rfl, rfl, MayI.zero HB0.out⟩
          case round =>
            obtain ⟨t, b2, ht, rfl, rfl, hmay⟩ := hrel
            by_cases hlt2 : t < k
            · have htl : t < FS.length := by have := HFL.out; omega
              obtain ⟨g, rfl, hg, d0, d1⟩ := HFR.out.at_ t htl
              have HMY := Lib.hid hmay
              clear hmay d1
              cases b2
              · go_wp2
                go_round
                case rel => exact ⟨t + 1, _, by omega, by go_num, rfl, HMY.out.no⟩
                case measure => simp [intOf]; omega
              · by_cases hne : FS[t].name = S
                · have HY := Lib.hid (MayI.same htl hne)
                  rw [hne] at d0
                  clear hne
                  go_wp2
                  go_round
                  case rel => exact ⟨t + 1, _, by omega, by go_num, rfl, HY.out⟩
                  case measure => simp [intOf]; omega
                · have HY := Lib.hid (HMY.out.yes htl hne)
                  have hx := beq_no hne
                  clear hne
                  generalize FS[t].name = nt at *
                  go_wp2
                  go_round
                  case rel => exact ⟨t + 1, _, by omega, by go_num, rfl, HY.out⟩
                  case measure => simp [intOf]; omega
            · obtain rfl : t = k := by omega
              have HF1 := Lib.hid (hmay.full (by have := HFL.out; omega))
              clear hmay
              go_wp2_with (at_builtin; go_loud (refine wpList_append_own _ rfl _ _ 22 rfl w.heap.size 32 i0 _ 2 32 Tryd.underlying22 hi hz0 hz1 hz2 rfl (by decide) _ _ _ rfl (HOWN.out.alloc _) ⟨wr.heap.size, 0, none⟩ 1 1 [.string S, .string S] rfl (by rfl) (fun j u hj => by rw [show (⟨wr.heap.size, 0, none⟩ : Addr).add j = ⟨wr.heap.size, j, none⟩ by unfold Addr.add; split <;> simp_all]; exact (Blk.new wr _ _).at_ j u (by simpa using hj)) (fun u hu => by simp at hu; subst hu; rfl) (by unfold maxLen; omega) (by omega) (by have := HB.out.size; simp; omega) ?_; intro v' w1 hown1 hgrow1 _; have HOWN1 := Lib.hid hown1; have HG1 := Lib.hid hgrow1; clear hown1 hgrow1))
              go_roundw
              case rel => exact ⟨t + 1, b2, by omega, by go_num, rfl, by rw [HFS.out]; exact HF1.out, by rw [HFS.out, fileCells_snoc]; exact HOWN1.out, (HB.out.alloc HB.out.size _).grown HG1.out (by have := HB.out.size; simp; omega) (fun k hk => own_ge HOWN.out hk)⟩
              case measure => simp [intOf]; omega
      · rw [if_neg h30] at hS2
        rw [hS2] at cs h30
        clear hS2
        cases b
        · have HB0 := Lib.hid (show (false = true) ↔ namesOk FS ∧ nameOk S = true from ⟨(fun h => by cases h), fun h => HBK.out.2 h.1⟩)
          go_wp2
          go_loop [5, 8] (fun may2 j => ∃ (t : Nat) (b2 : Bool), t ≤ k ∧ j = .int .i64 t ∧ may2 = .bool b2 ∧ MayI FS S t b2) (fun _ j => k - (intOf j).toNat)
          case atStart => exact ⟨0, _, Nat.zero_le _, rfl, rfl, MayI.zero HB0.out⟩
          case round =>
            obtain ⟨t, b2, ht, rfl, rfl, hmay⟩ := hrel
            by_cases hlt2 : t < k
            · have htl : t < FS.length := by have := HFL.out; omega
              obtain ⟨g, rfl, hg, d0, d1⟩ := HFR.out.at_ t htl
              have HMY := Lib.hid hmay
              clear hmay d1
              cases b2
              · go_wp2
                go_round
                case rel => exact ⟨t + 1, _, by omega, by go_num, rfl, HMY.out.no⟩
                case measure => simp [intOf]; omega
              · by_cases hne : FS[t].name = S
                · have HY := Lib.hid (MayI.same htl hne)
                  rw [hne] at d0
                  clear hne
                  go_wp2
                  go_round
                  case rel => exact ⟨t + 1, _, by omega, by go_num, rfl, HY.out⟩
                  case measure => simp [intOf]; omega
                · have HY := Lib.hid (HMY.out.yes htl hne)
                  have hx := beq_no hne
                  clear hne
                  generalize FS[t].name = nt at *
                  go_wp2
                  go_round
                  case rel => exact ⟨t + 1, _, by omega, by go_num, rfl, HY.out⟩
                  case measure => simp [intOf]; omega
            · obtain rfl : t = k := by omega
              have HF1 := Lib.hid (hmay.full (by have := HFL.out; omega))
              clear hmay
              go_wp2_with (at_builtin; go_loud (refine wpList_append_own _ rfl _ _ 22 rfl w.heap.size 32 i0 _ 2 32 Tryd.underlying22 hi hz0 hz1 hz2 rfl (by decide) _ _ _ rfl (HOWN.out.alloc _) ⟨wr.heap.size, 0, none⟩ 1 1 [.string S, .string S] rfl (by rfl) (fun j u hj => by rw [show (⟨wr.heap.size, 0, none⟩ : Addr).add j = ⟨wr.heap.size, j, none⟩ by unfold Addr.add; split <;> simp_all]; exact (Blk.new wr _ _).at_ j u (by simpa using hj)) (fun u hu => by simp at hu; subst hu; rfl) (by unfold maxLen; omega) (by omega) (by have := HB.out.size; simp; omega) ?_; intro v' w1 hown1 hgrow1 _; have HOWN1 := Lib.hid hown1; have HG1 := Lib.hid hgrow1; clear hown1 hgrow1))
              go_roundw
              case rel => exact ⟨t + 1, b2, by omega, by go_num, rfl, by rw [HFS.out]; exact HF1.out, by rw [HFS.out, fileCells_snoc]; exact HOWN1.out, (HB.out.alloc HB.out.size _).grown HG1.out (by have := HB.out.size; simp; omega) (fun k hk => own_ge HOWN.out hk)⟩
              case measure => simp [intOf]; omega
        · have HB0 := Lib.hid (show (nameOk S = true) ↔ namesOk FS ∧ nameOk S = true from ⟨fun h => ⟨HBK.out.1 rfl, h⟩, fun h => h.2⟩)
          go_wp2_with (go_at_call 14; refine (HC.out _).mono ?_; rintro e v1 ⟨rfl, rfl⟩)
          go_loop [5, 8] (fun may2 j => ∃ (t : Nat) (b2 : Bool), t ≤ k ∧ j = .int .i64 t ∧ may2 = .bool b2 ∧ MayI FS S t b2) (fun _ j => k - (intOf j).toNat)
          case atStart => exact ⟨0, _, Nat.zero_le _, rfl, rfl, MayI.zero HB0.out⟩
          case round =>
            obtain ⟨t, b2, ht, rfl, rfl, hmay⟩ := hrel
            by_cases hlt2 : t < k
            · have htl : t < FS.length := by have := HFL.out; omega
              obtain ⟨g, rfl, hg, d0, d1⟩ := HFR.out.at_ t htl
              have HMY := Lib.hid hmay
              clear hmay d1
              cases b2
              · go_wp2
                go_round
                case rel => exact ⟨t + 1, _, by omega, by go_num, rfl, HMY.out.no⟩
                case measure => simp [intOf]; omega
              · by_cases hne : FS[t].name = S
                · have HY := Lib.hid (MayI.same htl hne)
                  rw [hne] at d0
                  clear hne
                  go_wp2
                  go_round
                  case rel => exact ⟨t + 1, _, by omega, by go_num, rfl, HY.out⟩
                  case measure => simp [intOf]; omega
                · have HY := Lib.hid (HMY.out.yes htl hne)
                  have hx := beq_no hne
                  clear hne
                  generalize FS[t].name = nt at *
                  go_wp2
                  go_round
                  case rel => exact ⟨t + 1, _, by omega, by go_num, rfl, HY.out⟩
                  case measure => simp [intOf]; omega
            · obtain rfl : t = k := by omega
              have HF1 := Lib.hid (hmay.full (by have := HFL.out; omega))
              clear hmay
              go_wp2_with (at_builtin; go_loud (refine wpList_append_own _ rfl _ _ 22 rfl w.heap.size 32 i0 _ 2 32 Tryd.underlying22 hi hz0 hz1 hz2 rfl (by decide) _ _ _ rfl (HOWN.out.alloc _) ⟨wr.heap.size, 0, none⟩ 1 1 [.string S, .string S] rfl (by rfl) (fun j u hj => by rw [show (⟨wr.heap.size, 0, none⟩ : Addr).add j = ⟨wr.heap.size, j, none⟩ by unfold Addr.add; split <;> simp_all]; exact (Blk.new wr _ _).at_ j u (by simpa using hj)) (fun u hu => by simp at hu; subst hu; rfl) (by unfold maxLen; omega) (by omega) (by have := HB.out.size; simp; omega) ?_; intro v' w1 hown1 hgrow1 _; have HOWN1 := Lib.hid hown1; have HG1 := Lib.hid hgrow1; clear hown1 hgrow1))
              go_roundw
              case rel => exact ⟨t + 1, b2, by omega, by go_num, rfl, by rw [HFS.out]; exact HF1.out, by rw [HFS.out, fileCells_snoc]; exact HOWN1.out, (HB.out.alloc HB.out.size _).grown HG1.out (by have := HB.out.size; simp; omega) (fun k hk => own_ge HOWN.out hk)⟩
              case measure => simp [intOf]; omega
    · obtain rfl : k = M := by omega
      generalize wr = W0 at *
      have hM := HM.out
      have hFSl := fls_length ss k hM1
      have hsz := fls_size ss k
      have hfr := FileRow.of_own hown
      obtain ⟨FS, hFS⟩ : ∃ FS, fls ss k = FS := ⟨_, rfl⟩
      rw [hFS] at hFSl hsz hfr hown hbk
      obtain ⟨A', c', rfl⟩ := hfr.slice
      have hgA : ∀ g, (Value.slice A' FS.length c').ownBlock = some g → g < W0.heap.size := fun g hg => hfr.lt hg
      have hFSM := hFSl
      rw [hFSl] at hown hgA ⊢
      have hz : ∀ f ∈ FS, f.name.size ≤ maxLen := fun f hf => by have := (hsz f hf).1; unfold maxLen; omega
      have hex : (k < ss.length → k = 10) := fun h => by omega
      have HB := Lib.hid hB
      have HFR := Lib.hid hfr
      clear hown hB hFS HR HA
      cases b
      · have hbad : ¬ namesOk FS := fun h => by have := hbk.2 h; cases this
        have q1 := fun v (hv : FileRow v (.slice A' FS.length c') FS) => build_bad A' c' FS 1 v hv (by omega) hz hbad (by omega)
        rw [hFSl] at q1
        unfold NotBuilt at q1
        have Q1 := Lib.hid q1
        rw [hFSl] at hfr
        have HFR2 := Lib.hid hfr
        clear q1 hbad hz hsz hfr hFSl hFSM hbk hgA HFR hM
        by_cases hlt2 : k < ss.length
        · obtain rfl := hex hlt2
          go_wp2_with (go_at_call 11; go_loud (refine (Q1.out _ HFR2.out).mono ?_; rintro e v1 ⟨rfl, hb1⟩))
          go_ret
          exact ⟨by simp, HB.out.trans (hb1.mono HB.out.size)⟩
        · go_wp2_with (go_at_call 11; go_loud (refine (Q1.out _ HFR2.out).mono ?_; rintro e v1 ⟨rfl, hb1⟩))
          go_ret
          exact ⟨by simp, HB.out.trans (hb1.mono HB.out.size)⟩
      · have hgood := hbk.1 rfl
        have hc := can_few FS 1 (by omega) hgood (fun f hf => by have := hsz f hf; rw [this.2]; omega) (Nat.le_refl 1)
        have q1 := fun v (hv : FileRow v (.slice A' FS.length c') FS) => build_yes A' c' FS 1 v hv hc (Nat.le_refl 1) (by decide)
        have q2 := fun g v hg => of_built hc (Nat.le_refl 1) g v hg
        have q3 := fun pd gd v (h : Dk v pd gd ⟨builtL FS 1, 0, 0, 0⟩) => st_open hc (Nat.le_refl 1) pd gd v h
        have q4 := fun B p pd gd v (h : OpenSt FS 1 v B p pd gd) (k : Nat) (hk : k < FS.length) => st_lookup hc (Nat.le_refl 1) h k hk
        have q5 := fun B p pd gd v (h : OpenSt FS 1 v B p pd gd) (k : Nat) (hk : k < FS.length) => st_bytes hc (Nat.le_refl 1) h k hk
        have q6 := fun B p pd gd v (h : OpenSt FS 1 v B p pd gd) => st_count (Nat.le_refl 1) h
        unfold Built at q1
        unfold Made at q2
        unfold StTold at q5
        rw [hFSl] at q1 hfr
        simp only [hFSl] at q6
        generalize builtL FS 1 = DL at *
        have Q1 := Lib.hid q1
        have Q2 := Lib.hid q2
        have Q3 := Lib.hid q3
        have Q4 := Lib.hid q4
        have Q5 := Lib.hid q5
        have Q6 := Lib.hid q6
        have HFR2 := Lib.hid hfr
        have HFL := Lib.hid hFSl
        have HSZ := Lib.hid hsz
        clear q1 q2 q3 q4 q5 q6 hc hgood hz hsz hfr hFSl hFSM hbk hgA hM
        by_cases hlt2 : k < ss.length
        · obtain rfl := hex hlt2
          go_wp2_with (first
            | (go_at_call 11; go_loud (refine (Q1.out _ HFR2.out).mono ?_; rintro e v1 ⟨g1, rfl, hg, hgl, hb1⟩; have HB1 := Lib.hid hb1))
            | (go_at_call 17; go_loud (refine (Q2.out _ _ hg).mono ?_; rintro e v2 ⟨pd, gd, rfl, hp2, hg2, hb2, hd2⟩; have HB2 := Lib.hid (HB1.out.trans (hb2.mono HB1.out.size))))
            | (go_at_call 16; go_loud (refine (Q3.out _ _ _ hd2).mono ?_; rintro e v3 ⟨p, rfl, hst, hb3⟩; have HB3 := Lib.hid (HB2.out.trans (hb3.below (B := W0.heap.size) HB2.out.size (fun j e => by have := HB1.out.size; omega))))))
          have hpw : W0.heap.size ≤ pd := by have := HB1.out.size; omega
          have HST := Lib.hid hst
          clear hb1 hb2 hb3 hd2 hg hst hgl hp2 hg2
          go_loopw [13] (fun i wx => ∃ t : Nat, t ≤ 10 ∧ i = .int .i64 t ∧ OpenSt FS 1 wx v2.heap.size p pd gd ∧ Below W0.heap.size W0 wx) (fun i _ => 10 - (intOf i).toNat)
          case atStart => exact ⟨0, Nat.zero_le _, rfl, HST.out, HB3.out⟩
          case round =>
            obtain ⟨t, ht, rfl, hst, hbx⟩ := hrel
            by_cases hlt3 : t < 10
            · have htl : t < FS.length := by have := HFL.out; omega
              obtain ⟨g, rfl, hg, d0, d1⟩ := HFR.out.at_ t htl
              replace d0 := (hbx.cell (p := ⟨g, t * 2, none⟩) hg).trans d0
              have r4 := fun v (h : OpenSt FS 1 v v2.heap.size p pd gd) => Q4.out _ _ _ _ v h t htl
              have r5 := fun v (h : OpenSt FS 1 v v2.heap.size p pd gd) => Q5.out _ _ _ _ v h t htl
              have heq := (HSZ.out _ (List.getElem_mem htl)).2
              rw [heq] at r5
              have hcx : ∀ v, Below W0.heap.size W0 v → v.cell? ⟨g, t * 2, none⟩ = some (.string FS[t].name) := fun v hv => (hv.cell (p := ⟨g, t * 2, none⟩) hg).trans (by
                obtain ⟨g', h1, _, h2, _⟩ := HFR.out.at_ t htl
                cases h1
                exact h2)
              have R4 := Lib.hid r4
              have R5 := Lib.hid r5
              have HST2 := Lib.hid hst
              have HBX := Lib.hid hbx
              have HCX := Lib.hid hcx
              clear r4 r5 heq hst hbx hcx d1
              generalize FS[t].name = nt at *
              go_wp2_with (first
                | (go_at_call 20; go_loud (refine (R4.out _ HST2.out).mono ?_; rintro e v4 ⟨rfl, rfl⟩))
                | (go_at_call 21; go_loud (refine (R5.out _ HST2.out).mono ?_; rintro e v5 ⟨rfl, hst5, hb5⟩; have HB5 := Lib.hid (HBX.out.trans (hb5.below (B := W0.heap.size) HBX.out.size (fun j e => by omega))); have HST5 := Lib.hid hst5; have c5 := HCX.out _ HB5.out; clear hst5 hb5)))
              go_roundw
              case rel => exact ⟨t + 1, by omega, by go_num, HST5.out, HB5.out⟩
              case measure => simp [intOf]; omega
            · obtain rfl : t = 10 := by omega
              have r6 := Q6.out _ _ _ _ _ hst
              have R6 := Lib.hid r6
              have HBX := Lib.hid hbx
              clear r6 hst hbx
              go_wp2_with (go_at_call 18; go_loud (refine R6.out.mono ?_; rintro e v6 ⟨rfl, rfl⟩))
              go_ret
              exact ⟨by simp, HB.out.trans (HBX.out.mono HB.out.size)⟩
        · go_wp2_with (first
            | (go_at_call 11; go_loud (refine (Q1.out _ HFR2.out).mono ?_; rintro e v1 ⟨g1, rfl, hg, hgl, hb1⟩; have HB1 := Lib.hid hb1))
            | (go_at_call 17; go_loud (refine (Q2.out _ _ hg).mono ?_; rintro e v2 ⟨pd, gd, rfl, hp2, hg2, hb2, hd2⟩; have HB2 := Lib.hid (HB1.out.trans (hb2.mono HB1.out.size))))
            | (go_at_call 16; go_loud (refine (Q3.out _ _ _ hd2).mono ?_; rintro e v3 ⟨p, rfl, hst, hb3⟩; have HB3 := Lib.hid (HB2.out.trans (hb3.below (B := W0.heap.size) HB2.out.size (fun j e => by have := HB1.out.size; omega))))))
          have hpw : W0.heap.size ≤ pd := by have := HB1.out.size; omega
          have HST := Lib.hid hst
          clear hb1 hb2 hb3 hd2 hg hst hgl hp2 hg2
          go_loopw [13] (fun i wx => ∃ t : Nat, t ≤ k ∧ i = .int .i64 t ∧ OpenSt FS 1 wx v2.heap.size p pd gd ∧ Below W0.heap.size W0 wx) (fun i _ => k - (intOf i).toNat)
          case atStart => exact ⟨0, Nat.zero_le _, rfl, HST.out, HB3.out⟩
          case round =>
            obtain ⟨t, ht, rfl, hst, hbx⟩ := hrel
            by_cases hlt3 : t < k
            · have htl : t < FS.length := by have := HFL.out; omega
              obtain ⟨g, rfl, hg, d0, d1⟩ := HFR.out.at_ t htl
              replace d0 := (hbx.cell (p := ⟨g, t * 2, none⟩) hg).trans d0
              have r4 := fun v (h : OpenSt FS 1 v v2.heap.size p pd gd) => Q4.out _ _ _ _ v h t htl
              have r5 := fun v (h : OpenSt FS 1 v v2.heap.size p pd gd) => Q5.out _ _ _ _ v h t htl
              have heq := (HSZ.out _ (List.getElem_mem htl)).2
              rw [heq] at r5
              have hcx : ∀ v, Below W0.heap.size W0 v → v.cell? ⟨g, t * 2, none⟩ = some (.string FS[t].name) := fun v hv => (hv.cell (p := ⟨g, t * 2, none⟩) hg).trans (by
                obtain ⟨g', h1, _, h2, _⟩ := HFR.out.at_ t htl
                cases h1
                exact h2)
              have R4 := Lib.hid r4
              have R5 := Lib.hid r5
              have HST2 := Lib.hid hst
              have HBX := Lib.hid hbx
              have HCX := Lib.hid hcx
              clear r4 r5 heq hst hbx hcx d1
              generalize FS[t].name = nt at *
              go_wp2_with (first
                | (go_at_call 20; go_loud (refine (R4.out _ HST2.out).mono ?_; rintro e v4 ⟨rfl, rfl⟩))
                | (go_at_call 21; go_loud (refine (R5.out _ HST2.out).mono ?_; rintro e v5 ⟨rfl, hst5, hb5⟩; have HB5 := Lib.hid (HBX.out.trans (hb5.below (B := W0.heap.size) HBX.out.size (fun j e => by omega))); have HST5 := Lib.hid hst5; have c5 := HCX.out _ HB5.out; clear hst5 hb5)))
              go_roundw
              case rel => exact ⟨t + 1, by omega, by go_num, HST5.out, HB5.out⟩
              case measure => simp [intOf]; omega
            · obtain rfl : t = k := by omega
              have r6 := Q6.out _ _ _ _ _ hst
              have R6 := Lib.hid r6
              have HBX := Lib.hid hbx
              clear r6 hst hbx
              go_wp2_with (go_at_call 18; go_loud (refine R6.out.mono ?_; rintro e v6 ⟨rfl, rfl⟩))
              go_ret
              exact ⟨by simp, HB.out.trans (HBX.out.mono HB.out.size)⟩

set_option maxRecDepth 100000 in
theorem lifted (os : Os) (started : os.Started) (H : Type) (enc : TypeId × Value → H) :
    ReturnsInHanded {} Tryd.checked os 8 .any (fun w args => (Rows.filesNamesSpec.pre enc Tryd.prog Tryd.f8 Rows.filesNamesRow.domain false w args ∧ laidMetH Tryd.prog Rows.filesNamesRow.laid w) ∧ sizedMet enc Tryd.prog Tryd.f8 (OpenSpec.ofChange Rows.filesNamesSpec) false w args) (Rows.filesNamesSpec.post enc Tryd.prog Tryd.f8 false true false false) := by
  refine returnsInHanded_of_change_and (C := Tryd.checked) (X := fun w _ => laidMetH Tryd.prog Rows.filesNamesRow.laid w) (fun _ _ _ hh h => h.of_heap hh) own started (by kernel_rfl) Tryd.func8
    (ChangeSpec.witness_shaped (enc := enc) (C := Tryd.checked) (os := os) (X := fun w _ => laidMetH Tryd.prog Rows.filesNamesRow.laid w) false (World.laidAll Tryd.prog os Rows.filesNamesRow.laid) #[.slice none 0 0] 8 (World.laidAll_os _ _ _) (World.shaped_of_ZipB (by kernel_rfl) (by kernel_rfl)) (by kernel_rfl) (by kernel_rfl) (by kernel_rfl) (by rw [MakeChecks.laidMetH_plain _ _ _ (by kernel_rfl)]; exact laidMet_laidAll _ (by kernel_rfl) (by kernel_rfl))) ?_
  intro W base args ds gs before hval0 hW hcnd _ hL _
  have hval : ∀ (j : Nat) t v, Tryd.f8.params[j]? = some t → args[j]? = some v → Value.okWide Tryd.prog W .any base t v := hval0
  have hW' := hW
  obtain ⟨p, q, hA0, hV, rfl, hfz, hnd⟩ := hW
  have hA : DataW.TrodAll enc Tryd.prog W 0 (fun _ => true) true Tryd.f8.params.toList args.toList ds p := hA0
  rw [Tryd.params8] at hA hval
  obtain ⟨v0, vs0, d0, ds0, p0, q0, hargs, rfl, rfl, h0, r0⟩ := trodAll_cons hA
  obtain ⟨rfl, rfl, rfl⟩ := trodAll_nil r0
  obtain rfl : args = #[v0] := by cases args; simp_all
  obtain ⟨rfl, rfl⟩ := trodVars_none hV
  have k0 := h0
  have lt0 : ∀ x ∈ p0, x.block < W.heap.size := by obtain ⟨m, hm⟩ := k0; exact DataW.trod_lt m _ _ _ hm
  obtain ⟨LA0, Ll0, Lc0, rfl, Lm0, Lr0⟩ := openStrs4 (hval 0 26 v0 rfl rfl) h0
  clear hA0 hval0
  refine (walk LA0 Ll0 Lc0 W Lm0 Lr0).mono fun e W' ⟨he, bel⟩ => ?_
  subst he
  exact ⟨_, rfl, _, _, _, [], _, [], hW', trodAll_mk1 (shut_bool Tryd.underlying4 _), (trodAll_cons_mk (Below.trod laidOut (by kernel_rfl) (of_decide_eq_true (by kernel_rfl)) k0 bel lt0) trodAll_mk0), rfl, bel.frame _, fun h => by cases h⟩
theorem over : Rows.filesNamesRow.holds Tryd.pinned (OpenSpec.ofChange Rows.filesNamesSpec) :=
  OpenClaim.holds_of_wide 8 Tryd.f8 rfl rfl rfl rfl rfl rfl rfl ⟨rfl, rfl, rfl, rfl, rfl⟩ rfl rfl rfl rfl rfl (by kernel_rfl) Tryd.func8 (by kernel_rfl)
    (of_decide_eq_true (by kernel_rfl)) (by unfold Func.isWrapper; first | (rw [if_pos (by decide +kernel)]; kernel_rfl) | (rw [if_neg (by decide +kernel)]; exact ⟨rfl, rfl⟩))
    (fun os started H enc _ => lifted os started H enc)
set_option maxRecDepth 100000 in
/-- The statement. -/
theorem proved : Rows.FilesNamesCardSaid :=
  Claim7.holds_tied_plain_at .later [] [.data, .pinned] true _ false over (fun _ h => by cases h) (by kernel_rfl) (fun _ h => by cases h) filesNames_row_tie rfl ⟨rfl, rfl⟩ (by kernel_rfl) rfl
    (fun f fn hf hfn => by
      obtain rfl : f = 8 := Option.some.inj (hf.symm.trans (by kernel_rfl))
      obtain rfl : fn = Tryd.f8 := Option.some.inj (hfn.symm.trans Tryd.func8)
      refine ⟨by kernel_rfl, fun j t ht => ?_⟩
      rw [Tryd.params8] at ht
      match j, ht with
      | 0, ht =>
        obtain rfl : t = 26 := by simpa using ht.symm
        exact (by kernel_rfl : Tryd.pinned.checked.prog.wantsStandIn 26 = false)
      | j + 1, ht => simp at ht)
    (by kernel_rfl)
end Go.Proofs.YtgkhgjihjbjfnaaDoor.lawFNam
