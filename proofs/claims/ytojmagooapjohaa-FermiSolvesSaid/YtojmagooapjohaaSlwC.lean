/- Solve: the errors, and the solution with which the solver stops.
Conditions: those written at each theorem. -/
import Derived.Test.YtojmagooapjohaaSlvC
import Derived.Test.YtojmagooapjohaaFermB
import Derived.Defers
import Derived.Recover
import Derived.Laws.Pointers
namespace Go.Proofs.Ytojmagooapjohaa
set_option linter.unusedVariables false
set_option linter.unusedSimpArgs false
set_option maxRecDepth 1000000
open Go.RowKit
open Um Tm Fm

theorem ta_stop (sv : Value) (w : World) : (Instr.typeAssert (.iface 108 (.agg #[sv])) 20 108 true).run Try.prog w = .ok (.tuple #[.agg #[sv], .bool true]) w := by kernel_rfl
theorem catch7 (p : Addr) (x : Value) (g n k : Nat) (older : List PanicEntry) (w : World) (hc : w.cell? p = some x) (hz : w.frozen? p = false) (hp : p.block < w.heap.size) :
    CallsD Try.prog 57 #[.pointer (some p)] (.panicking ({ v := .iface 108 (.agg #[.slice (some ⟨g, 0, none⟩) n k]), recovered := false } :: older)) w fun e u' w' =>
      e = .returned (.tuple #[]) ∧ u' = .panicking ({ v := .iface 108 (.agg #[.slice (some ⟨g, 0, none⟩) n k]), recovered := true } :: older) ∧ w' = (w.alloc (.cells #[.slice (some ⟨g, 0, none⟩) n k] 108)).setCell p (.slice (some ⟨g, 0, none⟩) n k) := by
  have hb : Below w.heap.size w (w.alloc (.cells #[.slice (some ⟨g, 0, none⟩) n k] 108)) := by repeat (first | (with_reducible exact Below.refl _ _) | (with_reducible refine Below.setCell ?_ ?_ _) | (with_reducible refine Below.drew ?_) | (with_reducible refine Below.alloc ?_ ?_ _) | omega | (simp <;> omega))
  have hc2 : (w.alloc (.cells #[.slice (some ⟨g, 0, none⟩) n k] 108)).cell? p = some x := (hb.cell hp).trans hc
  have hz2 : (w.alloc (.cells #[.slice (some ⟨g, 0, none⟩) n k] 108)).frozen? p = false := (World.frozen?_alloc_old w _ p (by omega)).trans hz
  refine callsD_of_wpS Try.func57 rfl fun c₀ cs hu => ?_
  apply wpS_seq
  apply wpS_region
  simp [wpOpsS, go_sem, recoverD, hu, ta_stop, Try.ntmps57, Exit.thenS]
  apply wpS_seq
  apply wpS_region
  simp [wpOpsS, go_sem, Exit.thenS]
  refine wpS_cond (t := true) (by simp [Act.eval, Array.replicate]) ?_
  simp only [if_true]
  apply wpS_region
  simp [wpOpsS, go_sem, hc2, hz2, bodyPostS, results, Try.results57]
/-- the first error of a field, a mass and a source -/
def soR (m : Nat) (M : List Sp) (r0 ma r : Int) : Prop := ∃ r1, ms1 m M r0 ma r1 ∧ ((r1 ≠ 0 ∧ r = r1) ∨ (r1 = 0 ∧ ((AllE 1048576 M ∧ r = 0) ∨ (¬ AllE 1048576 M ∧ r = 1))))
theorem soR_ex (m : Nat) (M : List Sp) (r0 ma : Int) : ∃ r, soR m M r0 ma r := by
  obtain ⟨r1, h1⟩ := ms1_ex m M r0 ma
  by_cases h : r1 = 0
  · by_cases h2 : AllE 1048576 M
    · exact ⟨0, r1, h1, .inr ⟨h, .inl ⟨h2, rfl⟩⟩⟩
    · exact ⟨1, r1, h1, .inr ⟨h, .inr ⟨h2, rfl⟩⟩⟩
  · exact ⟨r1, r1, h1, .inl ⟨h, rfl⟩⟩
set_option maxHeartbeats 1600000 in
theorem solve_e1 (a b c r0 ma r : Int) (ao po : Option Addr) (cap pc : Nat) (L : List Q) (ns : List Int) (M : List Sp) (w : World) (h : LiesO w ao L) (hp : LiesOI w po (fl M)) (hr : numsR a b c L ns r0) (hv : ms1 L.length M r0 ma r) (hne : r ≠ 0) (hlen : L.length ≤ 1000000) (hlm : M.length ≤ 1000000) : Calls Try.prog 24 #[.agg #[.int .i64 a, .int .i64 b, .int .i64 c, .slice ao L.length cap], .int .i64 ma, .slice po M.length pc] w fun e w' => e = .returned (.tuple #[.slice none 0 0, .int .i64 r]) ∧ Below w.heap.size w w' := by
  have H := Lib.hid h
  have HP := Lib.hid hp
  have c1 : ∀ (W : World) (sb : Nat), LiesO W ao L → LiesOI W po (fl M) → W.cell? ⟨sb, 0, none⟩ = some (.slice po M.length pc) → Calls Try.prog 54 #[.agg #[.int .i64 a, .int .i64 b, .int .i64 c, .slice ao L.length cap], .int .i64 ma, .slice (some ⟨sb, 0, none⟩) 1 1] W fun e w' => e = .returned (.tuple #[.slice none 0 0, .int .i64 r]) ∧ Below W.heap.size W w' := fun W sb k1 k2 k3 => start1_bad a b c r0 ma r ao po cap pc sb 0 L ns M W k1 k2 k3 hr hv hne hlen hlm
  have t1 : (r != 0) = true := by simpa using hne
  clear h hp hr hv hne
  go_enter_defers Try.func24, Try.ntmps24
  go_wp2_with (fail)
  refine (c1 _ _ (H.out.later (by repeat (first | (with_reducible exact Below.refl _ _) | (with_reducible refine Below.setCell ?_ ?_ _) | (with_reducible refine Below.drew ?_) | (with_reducible refine Below.alloc ?_ ?_ _) | omega | (simp <;> omega)))) (HP.out.later (by repeat (first | (with_reducible exact Below.refl _ _) | (with_reducible refine Below.setCell ?_ ?_ _) | (with_reducible refine Below.drew ?_) | (with_reducible refine Below.alloc ?_ ?_ _) | omega | (simp <;> omega)))) (by simp [go_sem])).mono ?_
  rintro e w1 ⟨rfl, hw1⟩
  have hc1 := Tail.cells hw1
  have zw10 := Nat.lt_of_lt_of_le (n := w.heap.size) (by simp <;> omega) hw1.size; have zw11 := Nat.lt_of_lt_of_le (n := w.heap.size + 1) (by simp <;> omega) hw1.size
  have k1 : w1.cell? ⟨w.heap.size + 1, 0, none⟩ = some (.slice none 0 0) := (hc1.1 _ _ (by simp <;> omega)).trans (by simp [go_sem])
  have k2 : w1.frozen? ⟨w.heap.size + 1, 0, none⟩ = false := (hc1.2 _ _ (by simp <;> omega)).trans (by simp [go_sem])
  go_wp2
  refine ⟨.tuple #[.slice none 0 0, .int .i64 r], ?_, rfl, by repeat (first | (with_reducible exact Below.refl _ _) | (with_reducible refine Below.setCell ?_ ?_ _) | (with_reducible refine Below.drew ?_) | (with_reducible refine Below.alloc ?_ ?_ _) | (with_reducible refine Below.trans ?_ (Below.mono hw1 ?_)) | (with_reducible exact hw1.size) | omega | (simp <;> omega) | (simp <;> (have s := hw1.size; omega)) | (have s0 := hw1.size; (try simp at s0); (try simp); omega))⟩
  have k3 : (w1.setCell ⟨w.heap.size + 1, 0, none⟩ (.slice none 0 0)).cell? ⟨w.heap.size + 1, 0, none⟩ = some (.slice none 0 0) := World.cell?_setCell_same w1 _ _ k1
  simp [results, Try.results24, go_sem, k3]
set_option maxHeartbeats 1600000 in
theorem solve_e2 (a b c ma : Int) (ao po : Option Addr) (cap pc n : Nat) (L : List Q) (ns : List Int) (M : List Sp) (w : World) (h : LiesO w ao L) (hp : LiesOI w po (fl M)) (hr : numsR a b c L ns 0) (hv : ms1 L.length M 0 ma 0) (hF : Fld7 a b c L n) (hlen : L.length ≤ 1000000) (hlm : M.length ≤ 1000000) (hb : ¬ AllE 1048576 M) : Calls Try.prog 24 #[.agg #[.int .i64 a, .int .i64 b, .int .i64 c, .slice ao L.length cap], .int .i64 ma, .slice po M.length pc] w fun e w' => e = .returned (.tuple #[.slice none 0 0, .int .i64 1]) ∧ Below w.heap.size w w' := by
  have H := Lib.hid h
  have HP := Lib.hid hp
  have c1 : ∀ (W : World) (sb : Nat), LiesO W ao L → LiesOI W po (fl M) → W.cell? ⟨sb, 0, none⟩ = some (.slice po M.length pc) → Calls Try.prog 54 #[.agg #[.int .i64 a, .int .i64 b, .int .i64 c, .slice ao L.length cap], .int .i64 ma, .slice (some ⟨sb, 0, none⟩) 1 1] W fun e w' => RetH W.heap.size n (row (arms a b c L L.length)) e w' ∧ Below W.heap.size W w' := fun W sb k1 k2 k3 => start1_ok a b c 0 ma ao po cap pc sb 0 L ns M W k1 k2 k3 hr hv n hF hlm
  have c2 : ∀ W : World, LiesOI W po (fl M) → Calls Try.prog 56 #[.slice po M.length pc, .int .i64 1048576] W fun e w' => e = .returned (.bool false) ∧ Below W.heap.size W w' := fun W k => isWithin7_any 1048576 po M pc W false k (by decide) (by decide) hlm (.inr ⟨hb, rfl⟩)
  clear h hp hr hv hF hb
  go_enter_defers Try.func24, Try.ntmps24
  go_wp2_with (fail)
  refine (c1 _ _ (H.out.later (by repeat (first | (with_reducible exact Below.refl _ _) | (with_reducible refine Below.setCell ?_ ?_ _) | (with_reducible refine Below.drew ?_) | (with_reducible refine Below.alloc ?_ ?_ _) | omega | (simp <;> omega)))) (HP.out.later (by repeat (first | (with_reducible exact Below.refl _ _) | (with_reducible refine Below.setCell ?_ ?_ _) | (with_reducible refine Below.drew ?_) | (with_reducible refine Below.alloc ?_ ?_ _) | omega | (simp <;> omega)))) (by simp [go_sem])).mono ?_
  rintro e w1 ⟨⟨g, vs, rfl, hH, hg⟩, hw1⟩
  have hc1 := Tail.cells hw1
  have zw10 := Nat.lt_of_lt_of_le (n := w.heap.size) (by simp <;> omega) hw1.size; have zw11 := Nat.lt_of_lt_of_le (n := w.heap.size + 1) (by simp <;> omega) hw1.size
  have k1 : w1.cell? ⟨w.heap.size + 1, 0, none⟩ = some (.slice none 0 0) := (hc1.1 _ _ (by simp <;> omega)).trans (by simp [go_sem])
  have k2 : w1.frozen? ⟨w.heap.size + 1, 0, none⟩ = false := (hc1.2 _ _ (by simp <;> omega)).trans (by simp [go_sem])
  have B1 : Below w.heap.size w w1 := by repeat (first | (with_reducible exact Below.refl _ _) | (with_reducible refine Below.setCell ?_ ?_ _) | (with_reducible refine Below.drew ?_) | (with_reducible refine Below.alloc ?_ ?_ _) | (with_reducible refine Below.trans ?_ (Below.mono hw1 ?_)) | (with_reducible exact hw1.size) | omega | (simp <;> omega) | (simp <;> (have s := hw1.size; omega)) | (have s0 := hw1.size; (try simp at s0); (try simp); omega))
  clear hc1 hH hg hw1
  go_wp2_with (fail)
  refine (c2 _ (HP.out.later B1)).mono ?_
  rintro e w2 ⟨rfl, hw2⟩
  have hc2 := Tail.cells hw2
  have k3 : w2.cell? ⟨w.heap.size + 1, 0, none⟩ = some (.slice none 0 0) := (hc2.1 _ _ zw11).trans k1
  have k4 : w2.frozen? ⟨w.heap.size + 1, 0, none⟩ = false := (hc2.2 _ _ zw11).trans k2
  clear hc2 k1 k2
  go_wp2
  refine ⟨.tuple #[.slice none 0 0, .int .i64 1], ?_, rfl, by repeat (first | (with_reducible exact Below.refl _ _) | (with_reducible refine Below.setCell ?_ ?_ _) | (with_reducible refine Below.drew ?_) | (with_reducible refine Below.alloc ?_ ?_ _) | (with_reducible refine Below.trans ?_ (Below.mono hw2 ?_)) | (with_reducible refine Below.trans ?_ (Below.mono B1 ?_)) | (with_reducible exact hw2.size) | (with_reducible exact B1.size) | omega | (simp <;> omega) | (simp <;> (have s := hw2.size; omega)) | (simp <;> (have s := B1.size; omega)) | (have s0 := hw2.size; (try simp at s0); have s1 := B1.size; (try simp at s1); (try simp); omega))⟩
  have k5 : (w2.setCell ⟨w.heap.size + 1, 0, none⟩ (.slice none 0 0)).cell? ⟨w.heap.size + 1, 0, none⟩ = some (.slice none 0 0) := World.cell?_setCell_same w2 _ _ k3
  simp [results, Try.results24, go_sem, k5]
theorem src_bd {n : Nat} {M : List Sp} (hn : M.length = n) (h : AllE 1048576 M) : ∀ s, s < n → Bd 1048576 (at0 M s) := fun s hs => by
  have hx := List.getElem?_eq_getElem (show s < M.length by omega)
  rw [at0_of hx]
  exact h _ _ hx
theorem src_mul {n : Nat} {M : List Sp} (hn : M.length = n) (h : AllE 1048576 M) : mulL 65536 M = tab n (fun s => smS 65536 (at0 M s)) ∧ ∀ s, s < n → Bd 68719476736 (at0 (tab n (fun s => smS 65536 (at0 M s))) s) := by
  have hb : ∀ s, s < n → Bd 68719476736 (smS 65536 (at0 M s)) := fun s hs => by
    obtain ⟨⟨a1, a2⟩, ⟨b1, b2⟩, ⟨c1, c2⟩, d1, d2⟩ := src_bd hn h s hs
    unfold smS Bd
    dsimp only
    refine ⟨⟨?_, ?_⟩, ⟨?_, ?_⟩, ⟨?_, ?_⟩, ?_, ?_⟩ <;> omega
  refine ⟨?_, fun s hs => by rw [at0_tab _ hs]; exact hb s hs⟩
  unfold mulL
  rw [hn]
  exact tab_congr fun s hs => bd_w (hb s hs) (by decide)
/-- the solution that is found -/
def RetSo (m : Nat) (ma : Int) (n : Nat) (A : List Arm) (M : List Sp) (e : Ending) (w' : World) : Prop := ∃ (g k : Nat) (X : List Sp), e = .returned (.tuple #[.slice (some ⟨g, 0, none⟩) n k, .int .i64 0]) ∧ LiesI w' g 0 (fl (rdL n X)) ∧ m ≤ g ∧ Inv (4 * ma) n A (tab n (fun s => smS 65536 (at0 M s))) X ∧ ∀ s, s < n → at0 (cor ma n A (tab n (fun s => smS 65536 (at0 M s))) X) s = zs
theorem src_sq {n : Nat} (hn : n ≤ 16) {f : Nat → Sp} (h : ∀ s, s < n → Bd 68719476736 (f s)) : sqF f n ≤ 549755813888 * 549755813888 := by
  have := sq_of_bd n h
  have h2 : (n : Int) * (4 * (68719476736 * 68719476736)) ≤ 16 * (4 * (68719476736 * 68719476736)) := Int.mul_le_mul_of_nonneg_right (by omega) (by decide)
  omega
set_option maxHeartbeats 3200000 in
theorem solve_ok (a b c ma : Int) (ao po : Option Addr) (cap pc n : Nat) (L : List Q) (ns : List Int) (M : List Sp) (w : World) (h : LiesO w ao L) (hp : LiesOI w po (fl M)) (hr : numsR a b c L ns 0) (hv : ms1 L.length M 0 ma 0) (hF : Fld7 a b c L n) (hlen : L.length ≤ 1000000) (hlm : M.length ≤ 1000000) (hb : AllE 1048576 M) (hO : One4 L) : Calls Try.prog 24 #[.agg #[.int .i64 a, .int .i64 b, .int .i64 c, .slice ao L.length cap], .int .i64 ma, .slice po M.length pc] w fun e w' => RetSo w.heap.size ma n (arms a b c L L.length) M e w' ∧ Below w.heap.size w w' := by
  have hpos := hF.pos
  have hll := hF.l
  have hMl := (ms1_ok hv).2.1
  have hma := (ms1_ok hv).2.2.2
  have hn : M.length = n := by omega
  obtain ⟨pb, po2, rfl, hP⟩ := lies_some hp (List.getElem?_eq_getElem (show 0 < M.length by omega))
  have H := Lib.hid h
  have HP := Lib.hid hP
  obtain ⟨em, bm⟩ := src_mul hn hb
  have c1 : ∀ (W : World) (sb : Nat), LiesO W ao L → LiesI W pb po2 (fl M) → W.cell? ⟨sb, 0, none⟩ = some (.slice (some ⟨pb, po2, none⟩) n pc) → Calls Try.prog 54 #[.agg #[.int .i64 a, .int .i64 b, .int .i64 c, .slice ao L.length cap], .int .i64 ma, .slice (some ⟨sb, 0, none⟩) 1 1] W fun e w' => RetH W.heap.size n (row (arms a b c L L.length)) e w' ∧ Below W.heap.size W w' := fun W sb k1 k2 k3 => start1_ok a b c 0 ma ao (some ⟨pb, po2, none⟩) cap pc sb 0 L ns M W k1 (.inr ⟨pb, po2, rfl, k2⟩) (by rw [hn]; exact k3) hr hv n hF hlm
  have c2 : ∀ W : World, LiesI W pb po2 (fl M) → Calls Try.prog 56 #[.slice (some ⟨pb, po2, none⟩) n pc, .int .i64 1048576] W fun e w' => e = .returned (.bool true) ∧ Below W.heap.size W w' := fun W k => by
    have := isWithin7_any 1048576 (some ⟨pb, po2, none⟩) M pc W true (.inr ⟨pb, po2, rfl, k⟩) (by decide) (by decide) hlm (.inl ⟨hb, rfl⟩)
    rwa [hn] at this
  have c3 : ∀ W : World, LiesI W pb po2 (fl M) → Calls Try.prog 59 #[.int .i64 65536, .slice (some ⟨pb, po2, none⟩) n pc] W fun e w' => GotV W.heap.size n (tab n (fun s => smS 65536 (at0 M s))) e w' ∧ Below W.heap.size W w' := fun W k => by
    have := multiple_any 65536 pb po2 pc M W k (by omega) hlm
    rw [em, hn] at this
    exact this.mono fun e w' ⟨⟨g, k, e1, e2, e3⟩, hw⟩ => ⟨⟨g, k, by rw [e1, tab_len], e2, e3⟩, hw⟩
  have c4 : ∀ (W : World) (base g bb k : Nat) (vs : Nat → Value), Hp W base g n vs (row (arms a b c L L.length)) → LiesI W bb 0 (fl (tab n (fun s => smS 65536 (at0 M s)))) → Calls Try.prog 58 #[.slice (some ⟨g, 0, none⟩) n n, .int .i64 ma, .slice (some ⟨bb, 0, none⟩) n k] W fun e w' => RetP W.heap.size ma n (arms a b c L L.length) (tab n (fun s => smS 65536 (at0 M s))) e w' ∧ Below W.heap.size W w' := fun W base g bb k vs h1 h2 => solve7_any a b c ma L base g n n bb 0 k vs _ W hF hma h1 h2 (tab_len _ _) hO (src_sq hpos.2 bm) (fun s hs => bd_le (bm s hs) (by decide))
  rw [hn]
  generalize hBe : tab n (fun s => smS 65536 (at0 M s)) = B at *
  have HE := Lib.hid hBe
  clear hBe
  generalize arms a b c L L.length = A at *
  have hmf : ∀ (fn : Fn) (first cap : Array Value) (w : World), (Instr.makeFunc fn first cap).run Try.prog w = .ok (.func fn first cap) w := fun _ _ _ _ => rfl
  clear h hp hP hr hv hF hb hO hpos hll hMl hma hn em bm hlen hlm
  go_enter_defers Try.func24, Try.ntmps24
  go_wp2_with (fail)
  refine (c1 _ _ (H.out.later (by repeat (first | (with_reducible exact Below.refl _ _) | (with_reducible refine Below.setCell ?_ ?_ _) | (with_reducible refine Below.drew ?_) | (with_reducible refine Below.alloc ?_ ?_ _) | omega | (simp <;> omega)))) (HP.out.later (by repeat (first | (with_reducible exact Below.refl _ _) | (with_reducible refine Below.setCell ?_ ?_ _) | (with_reducible refine Below.drew ?_) | (with_reducible refine Below.alloc ?_ ?_ _) | omega | (simp <;> omega)))) (by simp [go_sem])).mono ?_
  rintro e w1 ⟨⟨g, vs, rfl, hH, hg⟩, hw1⟩
  have hc1 := Tail.cells hw1
  have zw10 := Nat.lt_of_lt_of_le (n := w.heap.size) (by simp <;> omega) hw1.size; have zw11 := Nat.lt_of_lt_of_le (n := w.heap.size + 1) (by simp <;> omega) hw1.size
  have k1 : w1.cell? ⟨w.heap.size + 1, 0, none⟩ = some (.slice none 0 0) := (hc1.1 _ _ (by simp <;> omega)).trans (by simp [go_sem])
  have k2 : w1.frozen? ⟨w.heap.size + 1, 0, none⟩ = false := (hc1.2 _ _ (by simp <;> omega)).trans (by simp [go_sem])
  have B1 : Below w.heap.size w w1 := by repeat (first | (with_reducible exact Below.refl _ _) | (with_reducible refine Below.setCell ?_ ?_ _) | (with_reducible refine Below.drew ?_) | (with_reducible refine Below.alloc ?_ ?_ _) | (with_reducible refine Below.trans ?_ (Below.mono hw1 ?_)) | (with_reducible exact hw1.size) | omega | (simp <;> omega) | (simp <;> (have s := hw1.size; omega)) | (have s0 := hw1.size; (try simp at s0); (try simp); omega))
  have HH1 := Lib.hid hH
  clear hc1 hH hg hw1
  go_wp2_with (fail)
  refine (c2 _ (HP.out.later B1)).mono ?_
  rintro e w2 ⟨rfl, hw2⟩
  have hc2 := Tail.cells hw2
  have k3 : w2.cell? ⟨w.heap.size + 1, 0, none⟩ = some (.slice none 0 0) := (hc2.1 _ _ zw11).trans k1
  have k4 : w2.frozen? ⟨w.heap.size + 1, 0, none⟩ = false := (hc2.2 _ _ zw11).trans k2
  have zw21 := Nat.lt_of_lt_of_le zw11 hw2.size
  have B2 : Below w.heap.size w w2 := B1.trans (hw2.mono B1.size)
  have HH2 := Lib.hid (HH1.out.later hw2)
  clear hc2 k1 k2 hw2 B1 HH1
  go_wp2_with (fail)
  refine (c3 _ (HP.out.later B2)).mono ?_
  rintro e w3 ⟨⟨g3, j3, rfl, hb3, hg3⟩, hw3⟩
  have hc3 := Tail.cells hw3
  have k5 : w3.cell? ⟨w.heap.size + 1, 0, none⟩ = some (.slice none 0 0) := (hc3.1 _ _ zw21).trans k3
  have k6 : w3.frozen? ⟨w.heap.size + 1, 0, none⟩ = false := (hc3.2 _ _ zw21).trans k4
  have zw31 := Nat.lt_of_lt_of_le zw21 hw3.size
  have B3 : Below w.heap.size w w3 := B2.trans (hw3.mono B2.size)
  have HH3 := Lib.hid (HH2.out.later hw3)
  have HB3 := Lib.hid hb3
  clear hc3 k3 k4 hw3 B2 HH2 hb3 hg3
  go_wp2_with (fail)
  refine (c4 _ _ _ _ _ _ HH3.out HB3.out.h).mono ?_
  rintro e w4 ⟨⟨g4, j4, X, rfl, hb4, hg4, hI, hz⟩, hw4⟩
  have hc4 := Tail.cells hw4
  have k7 : w4.cell? ⟨w.heap.size + 1, 0, none⟩ = some (.slice none 0 0) := (hc4.1 _ _ zw31).trans k5
  have k8 : w4.frozen? ⟨w.heap.size + 1, 0, none⟩ = false := (hc4.2 _ _ zw31).trans k6
  have zw41 := Nat.lt_of_lt_of_le zw31 hw4.size
  have B4 : Below w.heap.size w w4 := B3.trans (hw4.mono B3.size)
  have hg4' : w.heap.size + 1 < g4 := by omega
  have HX4 := Lib.hid hb4
  clear hc4 k5 k6 hw4 B3 HH3 HB3 hb4
  go_wp2
  refine leaves_cons (f := 57) (args := #[.pointer (some ⟨w.heap.size + 1, 0, none⟩)]) (by simp) (by simp [go_sem]) ?_
  refine (catch7 ⟨w.heap.size + 1, 0, none⟩ _ g4 n j4 [] w4 k7 k8 zw41).mono ?_
  rintro e u' w5 ⟨rfl, rfl, rfl⟩
  have ba : Below w4.heap.size w4 (w4.alloc (.cells #[.slice (some ⟨g4, 0, none⟩) n j4] 108)) := by repeat (first | (with_reducible exact Below.refl _ _) | (with_reducible refine Below.setCell ?_ ?_ _) | (with_reducible refine Below.drew ?_) | (with_reducible refine Below.alloc ?_ ?_ _) | omega | (simp <;> omega))
  have k9 : (w4.alloc (.cells #[.slice (some ⟨g4, 0, none⟩) n j4] 108)).cell? ⟨w.heap.size + 1, 0, none⟩ = some (.slice none 0 0) := (ba.cell zw41).trans k7
  have k10 : ((w4.alloc (.cells #[.slice (some ⟨g4, 0, none⟩) n j4] 108)).setCell ⟨w.heap.size + 1, 0, none⟩ (.slice (some ⟨g4, 0, none⟩) n j4)).cell? ⟨w.heap.size + 1, 0, none⟩ = some (.slice (some ⟨g4, 0, none⟩) n j4) := World.cell?_setCell_same _ _ _ k9
  have hx5 : LiesI ((w4.alloc (.cells #[.slice (some ⟨g4, 0, none⟩) n j4] 108)).setCell ⟨w.heap.size + 1, 0, none⟩ (.slice (some ⟨g4, 0, none⟩) n j4)) g4 0 (fl (rdL n X)) := liesI_grown (HX4.out.later ba) (grown_setCell _ ⟨w.heap.size + 1, 0, none⟩ (.slice (some ⟨g4, 0, none⟩) n j4)) (by simp; omega)
  refine ⟨.tuple #[.slice (some ⟨g4, 0, none⟩) n j4, .int .i64 0], ?_, ⟨g4, j4, X, rfl, hx5, by omega, by rw [HE.out]; exact hI, by rw [HE.out]; exact hz⟩, by repeat (first | (with_reducible exact Below.refl _ _) | (with_reducible refine Below.setCell ?_ ?_ _) | (with_reducible refine Below.drew ?_) | (with_reducible refine Below.alloc ?_ ?_ _) | (with_reducible refine Below.trans ?_ (Below.mono B4 ?_)) | (with_reducible exact B4.size) | omega | (simp <;> omega) | (simp <;> (have s := B4.size; omega)) | (have s0 := B4.size; (try simp at s0); (try simp); omega))⟩
  simp [results, Try.results24, go_sem, k10]
end Go.Proofs.Ytojmagooapjohaa
