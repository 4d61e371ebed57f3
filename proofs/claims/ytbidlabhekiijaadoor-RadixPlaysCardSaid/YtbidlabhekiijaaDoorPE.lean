/- Package frames: Load and Store. -/
import Derived.Test.YtbidlabhekiijaaDoorPD
namespace Go.Proofs.YtbidlabhekiijaaDoor
open Go.RowKit
set_option linter.unusedVariables false

theorem Tab.alloc {w : World} (h : Tab w) (o : Obj) : Tab (w.alloc o) := h.below ((Below.refl _ w).alloc (Nat.le_refl _) o) h.pos
theorem Tab.drew {w : World} (h : Tab w) : Tab w.drew := h

/-- The three cells that word makes. -/
theorem word_cells (v : World) (a k : Int) (f : Value) : Blk (((v.alloc (.cells #[.int .i64 a] 3)).alloc (.cells #[.int .i64 k] 3)).alloc (.cells #[f] 111)) v.heap.size 3 #[.int .i64 a] ∧
    Blk (((v.alloc (.cells #[.int .i64 a] 3)).alloc (.cells #[.int .i64 k] 3)).alloc (.cells #[f] 111)) (v.heap.size + 1) 3 #[.int .i64 k] ∧
    Blk (((v.alloc (.cells #[.int .i64 a] 3)).alloc (.cells #[.int .i64 k] 3)).alloc (.cells #[f] 111)) (v.heap.size + 1 + 1) 111 #[f] := by
  have k1 := ((Blk.new v 3 #[.int .i64 a]).alloc (.cells #[.int .i64 k] 3)).alloc (.cells #[f] 111)
  have k2 := (Blk.new (v.alloc (.cells #[.int .i64 a] 3)) 3 #[.int .i64 k]).alloc (.cells #[f] 111)
  have k3 := Blk.new ((v.alloc (.cells #[.int .i64 a] 3)).alloc (.cells #[.int .i64 k] 3)) 111 #[f]
  simp only [World.size_alloc] at k2 k3
  exact ⟨k1, k2, k3⟩

theorem wdE_far {H : List Int} {s a k : Int} (h : askE H s ≠ 0) : wdE H s a k = askE H s := by unfold wdE; rw [if_neg h]
theorem wdE_no {H : List Int} {s a k : Int} (h : askE H s = 0) (hn : wid k = 0 ∨ inn a (wid k) 64 = false) : wdE H s a k = if wid k = 0 then 1 else 14 := by
  unfold wdE
  rw [if_pos h]
  rcases hn with h1 | h1
  · rw [if_pos h1, if_pos h1]
  · rw [h1]; simp
theorem wd_cases (a k : Int) : (wid k = 0 ∨ inn a (wid k) 64 = false) ∨ ∃ n W : Nat, a = n ∧ wid k = W ∧ n + W ≤ 64 ∧ 1 ≤ W ∧ W ≤ 8 := by
  by_cases h : wid k = 0 ∨ inn a (wid k) 64 = false
  · exact .inl h
  · have hr := wid_range k
    have hi : inn a (wid k) 64 = true := by
      cases h' : inn a (wid k) 64
      · exact absurd (.inr h') h
      · rfl
    rw [inn_iff] at hi
    have h0 : wid k ≠ 0 := fun e => h (.inl e)
    exact .inr ⟨a.toNat, (wid k).toNat, by omega, by omega, by omega, by omega, by omega⟩

set_option maxHeartbeats 800000 in
theorem pclo_load {w : World} {p h g : Nat} {X : Pol} (a : Pl w p h g X) (k n W c : Nat) (hk : k < X.H.length) (hw : n + W ≤ 64) (h1 : 1 ≤ W) (e1 e2 : Nat) (kd : Int) (hkd : (Lit.int .i64 kd).wf = true) (hW : wid kd = W) (u : Value)
    (hb : Blk w e1 3 #[.int .i64 kd]) (hc : Blk w e2 24 #[u]) (hT : Tab w) :
    Calls Tryd.prog 71 #[.slice (some ⟨g, 64 * k + n, none⟩) W c, .pointer (some ⟨e1, 0, none⟩), .pointer (some ⟨e2, 0, none⟩)] w fun e w' =>
      e = .returned (.int .i64 0) ∧ w' = w.setCell ⟨e2, 0, none⟩ (.int .u64 (readV kd ((X.S[k]'(a.at_S hk)).extract n (n + W)))) := by
  have hcv := run_string_word (P := Tryd.prog) w 69 9 5 g k n W c 5 X.S a.all (a.at_S hk) hw Tryd.underlying69 Tryd.underlying5 Tryd.underlying9 a.byt
  have h6 := a.all _ (List.getElem_mem (a.at_S hk))
  have hsz : ((X.S[k]'(a.at_S hk)).extract n (n + W)).size = W := ext_size h6 hw
  have hr := read_any kd ((X.S[k]'(a.at_S hk)).extract n (n + W)) w hkd (by omega) hT
  rw [readE_in (by omega) (by omega)] at hr
  have c1 := hb.at_ 0 _ rfl
  have c2 := hc.at_ 0 _ rfl
  have f2 := hc.frozen 0
  generalize readV kd ((X.S[k]'(a.at_S hk)).extract n (n + W)) = V at *
  generalize (X.S[k]'(a.at_S hk)).extract n (n + W) = x at *
  have HR := Lib.hid hr
  clear a hb hc hr hsz h6 hT hW
  go_enter Tryd.func71, Tryd.ntmps71
  go_wp2_with (go_at_call 72; refine HR.out.mono ?_; rintro e w4 ⟨rfl, rfl⟩)
  go_ret
  exact ⟨rfl, rfl⟩

theorem pword_load_any {v : World} {p h g : Nat} {X : Pol} (a : Pl v p h g X) (s at_ kd : Int) (hat : (Lit.int .i64 at_).wf = true) (hkd : (Lit.int .i64 kd).wf = true) (hT : Tab v) (e1 e2 : Nat)
    (k1 : Blk v e1 3 #[.int .i64 kd]) (k2 : Blk v e2 24 #[.int .u64 0]) :
    Calls Tryd.prog 68 #[.pointer (some ⟨p, 0, none⟩), .int .i64 s, .int .i64 at_, .int .i64 kd, .func (.func 71) #[] #[.pointer (some ⟨e1, 0, none⟩), .pointer (some ⟨e2, 0, none⟩)]] v fun e w' =>
      e = .returned (.int .i64 (wdE X.H s at_ kd)) ∧ But (· = e2) v w' ∧ w'.cell? ⟨e2, 0, none⟩ = some (.int .u64 (ldV X.H X.S s at_ kd)) := by
  refine pword_load_of _ s at_ kd e1 e2 v _ _ (Lib.hid ?_)
  obtain ⟨w1, w2, w3⟩ := word_cells v at_ kd (.func (.func 71) #[] #[.pointer (some ⟨e1, 0, none⟩), .pointer (some ⟨e2, 0, none⟩)])
  have a3 := ((a.alloc (.cells #[.int .i64 at_] 3)).alloc (.cells #[.int .i64 kd] 3)).alloc (.cells #[.func (.func 71) #[] #[.pointer (some ⟨e1, 0, none⟩), .pointer (some ⟨e2, 0, none⟩)]] 111)
  have k13 := ((k1.alloc (.cells #[.int .i64 at_] 3)).alloc (.cells #[.int .i64 kd] 3)).alloc (.cells #[.func (.func 71) #[] #[.pointer (some ⟨e1, 0, none⟩), .pointer (some ⟨e2, 0, none⟩)]] 111)
  have k23 := ((k2.alloc (.cells #[.int .i64 at_] 3)).alloc (.cells #[.int .i64 kd] 3)).alloc (.cells #[.func (.func 71) #[] #[.pointer (some ⟨e1, 0, none⟩), .pointer (some ⟨e2, 0, none⟩)]] 111)
  have t3 := ((hT.alloc (.cells #[.int .i64 at_] 3)).alloc (.cells #[.int .i64 kd] 3)).alloc (.cells #[.func (.func 71) #[] #[.pointer (some ⟨e1, 0, none⟩), .pointer (some ⟨e2, 0, none⟩)]] 111)
  have b3 := (((But.refl (· = e2) v).alloc (.cells #[.int .i64 at_] 3)).alloc (.cells #[.int .i64 kd] 3)).alloc (.cells #[.func (.func 71) #[] #[.pointer (some ⟨e1, 0, none⟩), .pointer (some ⟨e2, 0, none⟩)]] 111)
  generalize ((v.alloc (.cells #[.int .i64 at_] 3)).alloc (.cells #[.int .i64 kd] 3)).alloc (.cells #[.func (.func 71) #[] #[.pointer (some ⟨e1, 0, none⟩), .pointer (some ⟨e2, 0, none⟩)]] 111) = u at *
  by_cases h0 : askE X.H s = 0
  · obtain ⟨k, rfl, hk, hx⟩ := askE_zero h0
    rcases wd_cases at_ kd with hno | ⟨n, W, rfl, hW, hw, h1, h8⟩
    · have e := wdE_no (H := X.H) (s := k) (a := at_) h0 hno
      have e' : ldV X.H X.S k at_ kd = 0 := by unfold ldV; rw [if_neg (by rw [e]; split <;> decide)]
      rw [e, e']
      exact pwith_word a3 k hk hx _ _ _ _ _ (Lib.hid ((pclo_word_no g k _ _ _ kd at_ hkd hat (w2.at_ 0 _ rfl) (w1.at_ 0 _ rfl) t3 hno).mono fun e w' ⟨he, hw⟩ => by subst hw; exact ⟨he, b3, k23.at_ 0 _ rfl⟩))
    · have hi : inn (n : Int) (wid kd) 64 = true := by rw [inn_iff]; omega
      have e : wdE X.H k n kd = 0 := by unfold wdE; rw [if_pos h0, if_neg (by omega), if_pos hi]
      have h6 := a.all _ (List.getElem_mem (a.at_S hk))
      have e' : ldV X.H X.S k n kd = readV kd ((X.S[k]'(a.at_S hk)).extract n (n + W)) := by
        unfold ldV partS
        rw [if_pos e]
        simp only [Int.toNat_natCast, List.getD, List.getElem?_eq_getElem (a.at_S hk), Option.getD_some, h6]
        rw [if_pos (show inn (n : Int) (wid kd) ((64 : Nat) : Int) = true from hi), hW, Int.toNat_natCast]
      rw [e, e']
      refine pwith_word a3 k hk hx _ _ _ 0 _ (Lib.hid (pclo_word_load g k n W hw h1 h8 _ _ _ e1 e2 kd hkd hW (w2.at_ 0 _ rfl) (w1.at_ 0 _ rfl) (w3.at_ 0 _ rfl) t3 0 _ (Lib.hid ?_)))
      refine (pclo_load a3.drew k n W _ hk hw h1 e1 e2 kd hkd hW _ k13.drew k23.drew t3.drew).mono fun e w' ⟨he, hw'⟩ => ?_
      subst hw'
      exact ⟨he, b3.drew.setCell (p := ⟨e2, 0, none⟩) (.inl rfl) _, (k23.drew.set_ 0 _).at_ 0 _ (by simp)⟩
  · have e := wdE_far (a := at_) (k := kd) h0
    have e' : ldV X.H X.S s at_ kd = 0 := by unfold ldV; rw [if_neg (by rw [e]; exact h0)]
    rw [e, e']
    exact (pwith_no a3 s _ _ rfl h0).mono fun e w' ⟨he, hw⟩ => by subst hw; exact ⟨he, b3, k23.at_ 0 _ rfl⟩

set_option maxHeartbeats 400000 in
theorem pload_any {w : World} {p h g : Nat} {X : Pol} (a : Pl w p h g X) (s at_ kd : Int) (hat : (Lit.int .i64 at_).wf = true) (hkd : (Lit.int .i64 kd).wf = true) (hT : Tab w) :
    Calls Tryd.prog 63 #[.pointer (some ⟨p, 0, none⟩), .int .i64 s, .int .i64 at_, .int .i64 kd] w fun e w' => e = .returned (.tuple #[.int .u64 (ldV X.H X.S s at_ kd), .int .i64 (wdE X.H s at_ kd)]) ∧ Below w.heap.size w w' := by
  have hmf : ∀ (fn : Fn) (first cap : Array Value) (w : World), (Instr.makeFunc fn first cap).run Tryd.prog w = .ok (.func fn first cap) w := fun _ _ _ _ => rfl
  have a2 := (a.alloc (.cells #[.int .i64 kd] 3)).alloc (.cells #[.int .u64 0] 24)
  have t2 := (hT.alloc (.cells #[.int .i64 kd] 3)).alloc (.cells #[.int .u64 0] 24)
  have k1 := (Blk.new w 3 #[.int .i64 kd]).alloc (.cells #[.int .u64 0] 24)
  have k2 := Blk.new (w.alloc (.cells #[.int .i64 kd] 3)) 24 #[.int .u64 0]
  simp only [World.size_alloc] at k2
  have hB := ((Below.refl w.heap.size w).alloc (Nat.le_refl _) (.cells #[.int .i64 kd] 3)).alloc (by simp) (.cells #[.int .u64 0] 24)
  have HU := Lib.hid (pword_load_any a2 s at_ kd hat hkd t2 _ _ k1 k2)
  have HB := Lib.hid hB
  clear a a2 t2 k1 k2 hB hT
  go_enter Tryd.func63, Tryd.ntmps63
  go_wp2_with (go_at_call 68; refine HU.out.mono ?_; rintro e w4 ⟨rfl, hb, hc⟩)
  go_ret2
  exact ⟨rfl, HB.out.trans (hb.below HB.out.size (fun j e => by omega))⟩

set_option maxHeartbeats 400000 in
theorem pload_nil (s at_ kd : Int) (w : World) : Calls Tryd.prog 63 #[.pointer none, .int .i64 s, .int .i64 at_, .int .i64 kd] w fun e w' => e = .returned (.tuple #[.int .u64 0, .int .i64 1]) ∧ Below w.heap.size w w' := by
  have hmf : ∀ (fn : Fn) (first cap : Array Value) (w : World), (Instr.makeFunc fn first cap).run Tryd.prog w = .ok (.func fn first cap) w := fun _ _ _ _ => rfl
  have k2 := Blk.new (w.alloc (.cells #[.int .i64 kd] 3)) 24 #[.int .u64 0]
  simp only [World.size_alloc] at k2
  have hB := ((Below.refl w.heap.size w).alloc (Nat.le_refl _) (.cells #[.int .i64 kd] 3)).alloc (by simp) (.cells #[.int .u64 0] 24)
  have HU := Lib.hid (pword_load_of none s at_ kd w.heap.size (w.heap.size + 1) ((w.alloc (.cells #[.int .i64 kd] 3)).alloc (.cells #[.int .u64 0] 24)) 1
    (fun w' => Below ((w.alloc (.cells #[.int .i64 kd] 3)).alloc (.cells #[.int .u64 0] 24)).heap.size ((w.alloc (.cells #[.int .i64 kd] 3)).alloc (.cells #[.int .u64 0] 24)) w') (Lib.hid ((pwith_nil s _ _).mono fun e w' ⟨he, hw⟩ => by
      subst hw
      exact ⟨he, (((Below.refl _ _).alloc (Nat.le_refl _) _).alloc (by simp) _).alloc (by simp <;> omega) _⟩)))
  have HB := Lib.hid hB
  have HK := Lib.hid k2
  clear hB k2
  go_enter Tryd.func63, Tryd.ntmps63
  go_wp2_with (go_at_call 68; refine HU.out.mono ?_; rintro e w4 ⟨rfl, hb⟩; have c4 := (HK.out.below hb HK.out.lt).at_ 0 _ rfl; have HB4 := Lib.hid hb; clear hb)
  go_ret2
  exact ⟨rfl, HB.out.trans (HB4.out.mono HB.out.size)⟩

set_option maxHeartbeats 800000 in
theorem pclo_store {w : World} {p h g : Nat} {X : Pol} (a : Pl w p h g X) (k n W c : Nat) (hkS : k < X.S.length) (hw : n + W ≤ 64) (h1 : 1 ≤ W) (e1 e2 : Nat) (kd x : Int) (hkd : (Lit.int .i64 kd).wf = true) (hx : (Lit.int .u64 x).wf = true) (hW : wid kd = W)
    (hb : Blk w e1 3 #[.int .i64 kd]) (hc : Blk w e2 24 #[.int .u64 x]) (hT : Tab w) :
    Calls Tryd.prog 69 #[.slice (some ⟨g, 64 * k + n, none⟩) W c, .pointer (some ⟨e1, 0, none⟩), .pointer (some ⟨e2, 0, none⟩)] w fun e w' =>
      e = .returned (.int .i64 0) ∧ But (· = g) w w' ∧ Pl w' p h g { X with S := X.S.set k (putAt (X.S[k]'hkS) n (mkb (putL x.toNat W))) } := by
  have h6 := a.all _ (List.getElem_mem hkS)
  have hr := bytes_any kd x w hkd hx hT
  rw [hW, Int.toNat_natCast] at hr
  have c1 := hb.at_ 0 _ rfl
  have c2 := hc.at_ 0 _ rfl
  have hs : (mkb (putL x.toNat W)).size = W := by rw [mkb_size, putL_length]
  have hps : (putAt (X.S[k]'hkS) n (mkb (putL x.toNat W))).size = 64 := by rw [putAt_size (by omega), h6]
  generalize mkb (putL x.toNat W) = y at *
  have HR := Lib.hid hr
  have HA := Lib.hid a
  have HS := Lib.hid hs
  have HP := Lib.hid (And.intro h6 hps)
  clear a hb hc hr h6 hT hW hs hps
  go_enter Tryd.func69, Tryd.ntmps69
  go_wp2_with (first
    | (go_at_call 70; refine HR.out.mono ?_; rintro e w4 ⟨rfl, hb4⟩; have HA4 := Lib.hid (HA.out.on hb4); have HB4 := Lib.hid hb4; clear hb4)
    | (refine wpList_copy_word rfl (.tmp 5) (.tmp 8) _ _ rfl 5 Tryd.underlying69 sizeU8 g k n W c 5 X.S y rfl rfl HS.out hw HA4.out.all hkS HA4.out.byt ?_
       intro w5 hb5 hg5
       have HB5 := Lib.hid hb5
       have HG5 := Lib.hid hg5
       clear hb5 hg5))
  go_ret
  exact ⟨rfl, (But.of_below (S := (· = g)) HB4.out).grown HG5.out (fun j e => by injection e with e; exact .inl e.symm), HA4.out.setS HB5.out HG5.out (by simp) (HA4.out.all.set_ HP.out.2)⟩

theorem pword_store_any {v : World} {p h g : Nat} {X : Pol} (a : Pl v p h g X) (s at_ kd x : Int) (hat : (Lit.int .i64 at_).wf = true) (hkd : (Lit.int .i64 kd).wf = true) (hx0 : (Lit.int .u64 x).wf = true) (hT : Tab v) (e1 e2 : Nat)
    (k1 : Blk v e1 3 #[.int .i64 kd]) (k2 : Blk v e2 24 #[.int .u64 x]) :
    Calls Tryd.prog 68 #[.pointer (some ⟨p, 0, none⟩), .int .i64 s, .int .i64 at_, .int .i64 kd, .func (.func 69) #[] #[.pointer (some ⟨e1, 0, none⟩), .pointer (some ⟨e2, 0, none⟩)]] v fun e w' =>
      e = .returned (.int .i64 (wdE X.H s at_ kd)) ∧ But (· = g) v w' ∧ Pl w' p h g (X.stX s at_ kd x) := by
  refine pword_store_of _ s at_ kd e1 e2 v _ _ (Lib.hid ?_)
  obtain ⟨w1, w2, w3⟩ := word_cells v at_ kd (.func (.func 69) #[] #[.pointer (some ⟨e1, 0, none⟩), .pointer (some ⟨e2, 0, none⟩)])
  have a3 := ((a.alloc (.cells #[.int .i64 at_] 3)).alloc (.cells #[.int .i64 kd] 3)).alloc (.cells #[.func (.func 69) #[] #[.pointer (some ⟨e1, 0, none⟩), .pointer (some ⟨e2, 0, none⟩)]] 111)
  have k13 := ((k1.alloc (.cells #[.int .i64 at_] 3)).alloc (.cells #[.int .i64 kd] 3)).alloc (.cells #[.func (.func 69) #[] #[.pointer (some ⟨e1, 0, none⟩), .pointer (some ⟨e2, 0, none⟩)]] 111)
  have k23 := ((k2.alloc (.cells #[.int .i64 at_] 3)).alloc (.cells #[.int .i64 kd] 3)).alloc (.cells #[.func (.func 69) #[] #[.pointer (some ⟨e1, 0, none⟩), .pointer (some ⟨e2, 0, none⟩)]] 111)
  have t3 := ((hT.alloc (.cells #[.int .i64 at_] 3)).alloc (.cells #[.int .i64 kd] 3)).alloc (.cells #[.func (.func 69) #[] #[.pointer (some ⟨e1, 0, none⟩), .pointer (some ⟨e2, 0, none⟩)]] 111)
  have b3 := (((But.refl (· = g) v).alloc (.cells #[.int .i64 at_] 3)).alloc (.cells #[.int .i64 kd] 3)).alloc (.cells #[.func (.func 69) #[] #[.pointer (some ⟨e1, 0, none⟩), .pointer (some ⟨e2, 0, none⟩)]] 111)
  generalize ((v.alloc (.cells #[.int .i64 at_] 3)).alloc (.cells #[.int .i64 kd] 3)).alloc (.cells #[.func (.func 69) #[] #[.pointer (some ⟨e1, 0, none⟩), .pointer (some ⟨e2, 0, none⟩)]] 111) = u at *
  by_cases h0 : askE X.H s = 0
  · obtain ⟨k, rfl, hk, hx⟩ := askE_zero h0
    rcases wd_cases at_ kd with hno | ⟨n, W, rfl, hW, hw, h1, h8⟩
    · have e := wdE_no (H := X.H) (s := k) (a := at_) h0 hno
      have e' : X.stX k at_ kd x = X := by unfold Pol.stX; rw [if_neg (by rw [e]; split <;> decide)]
      rw [e, e']
      exact pwith_word a3 k hk hx _ _ _ _ _ (Lib.hid ((pclo_word_no g k _ _ _ kd at_ hkd hat (w2.at_ 0 _ rfl) (w1.at_ 0 _ rfl) t3 hno).mono fun e w' ⟨he, hw⟩ => by subst hw; exact ⟨he, b3, a3⟩))
    · have hi : inn (n : Int) (wid kd) 64 = true := by rw [inn_iff]; omega
      have e : wdE X.H k n kd = 0 := by unfold wdE; rw [if_pos h0, if_neg (by omega), if_pos hi]
      have h6 := a.all _ (List.getElem_mem (a.at_S hk))
      have e' : X.stX k n kd x = { X with S := X.S.set k (putAt (X.S[k]'(a.at_S hk)) n (mkb (putL x.toNat W))) } := by
        unfold Pol.stX
        rw [if_pos e]
        simp only [Int.toNat_natCast, List.getD, List.getElem?_eq_getElem (a.at_S hk), Option.getD_some, hW]
        rw [setS_in h6 h1 h8 hw]
      rw [e, e']
      refine pwith_word a3 k hk hx _ _ _ 0 _ (Lib.hid (pclo_word_store g k n W hw h1 h8 _ _ _ e1 e2 kd hkd hW (w2.at_ 0 _ rfl) (w1.at_ 0 _ rfl) (w3.at_ 0 _ rfl) t3 0 _ (Lib.hid ?_)))
      exact (pclo_store a3.drew k n W _ (a.at_S hk) hw h1 e1 e2 kd x hkd hx0 hW k13.drew k23.drew t3.drew).mono fun e w' ⟨he, hb', ha'⟩ => ⟨he, b3.drew.trans hb', ha'⟩
  · have e := wdE_far (a := at_) (k := kd) h0
    have e' : X.stX s at_ kd x = X := by unfold Pol.stX; rw [if_neg (by rw [e]; exact h0)]
    rw [e, e']
    exact (pwith_no a3 s _ _ rfl h0).mono fun e w' ⟨he, hw⟩ => by subst hw; exact ⟨he, b3, a3⟩

set_option maxHeartbeats 400000 in
theorem pstore_any {w : World} {p h g : Nat} {X : Pol} (a : Pl w p h g X) (s at_ kd x : Int) (hat : (Lit.int .i64 at_).wf = true) (hkd : (Lit.int .i64 kd).wf = true) (hx : (Lit.int .u64 x).wf = true) (hT : Tab w) :
    Calls Tryd.prog 60 #[.pointer (some ⟨p, 0, none⟩), .int .i64 s, .int .i64 at_, .int .i64 kd, .int .u64 x] w fun e w' => e = .returned (.int .i64 (wdE X.H s at_ kd)) ∧ But (· = g) w w' ∧ Pl w' p h g (X.stX s at_ kd x) := by
  have hmf : ∀ (fn : Fn) (first cap : Array Value) (w : World), (Instr.makeFunc fn first cap).run Tryd.prog w = .ok (.func fn first cap) w := fun _ _ _ _ => rfl
  have a2 := (a.alloc (.cells #[.int .i64 kd] 3)).alloc (.cells #[.int .u64 x] 24)
  have t2 := (hT.alloc (.cells #[.int .i64 kd] 3)).alloc (.cells #[.int .u64 x] 24)
  have k1 := (Blk.new w 3 #[.int .i64 kd]).alloc (.cells #[.int .u64 x] 24)
  have k2 := Blk.new (w.alloc (.cells #[.int .i64 kd] 3)) 24 #[.int .u64 x]
  simp only [World.size_alloc] at k2
  have hB := ((But.refl (· = g) w).alloc (.cells #[.int .i64 kd] 3)).alloc (.cells #[.int .u64 x] 24)
  have HU := Lib.hid (pword_store_any a2 s at_ kd x hat hkd hx t2 _ _ k1 k2)
  have HB := Lib.hid hB
  clear a a2 t2 k1 k2 hB hT
  go_enter Tryd.func60, Tryd.ntmps60
  go_wp2_with (go_at_call 68; refine HU.out.mono ?_; rintro e w4 ⟨rfl, hb, ha⟩)
  go_ret
  exact ⟨rfl, HB.out.trans hb, ha⟩
end Go.Proofs.YtbidlabhekiijaaDoor
