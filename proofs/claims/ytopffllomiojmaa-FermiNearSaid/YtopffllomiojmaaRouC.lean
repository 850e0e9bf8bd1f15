/- Hop, Apply, Dagger and Twice, as the document's answers give them.
Conditions: the lists lie in memory as it is written at each theorem. -/
import Derived.Test.YtopffllomiojmaaRopC
import Derived.Test.YtopffllomiojmaaFermB
import Derived.Deep.RegionHeld3
namespace Go.Proofs.Ytopffllomiojmaa
set_option linter.unusedVariables false
set_option linter.unusedSimpArgs false
set_option maxRecDepth 1000000
open Go.RowKit
open Um Tm Fm

def RetL7 (m n : Nat) (M : List Sp) (e : Ending) (w' : World) : Prop := ∃ g k : Nat, e = .returned (.tuple #[.slice (some ⟨g, 0, none⟩) n k, .int .i64 0]) ∧ LiesI w' g 0 (fl M) ∧ m ≤ g
set_option maxHeartbeats 1600000 in
theorem refHopO_bad (a b c r0 r : Int) (ao po : Option Addr) (cap pc : Nat) (L : List Q) (ns : List Int) (M : List Sp) (w : World) (h : LiesO w ao L) (hp : LiesOI w po (fl M)) (hr : numsR a b c L ns r0) (hv : vS L.length M r0 r) (hne : r ≠ 0) (hlen : L.length ≤ 1000000) (hlm : M.length ≤ 1000000) : Calls Try.prog 20 #[.agg #[.int .i64 a, .int .i64 b, .int .i64 c, .slice ao L.length cap], .slice po M.length pc] w fun e w' => e = .returned (.tuple #[.slice none 0 0, .int .i64 r]) ∧ Below w.heap.size w w' := by
  have H := Lib.hid h
  have HP := Lib.hid hp
  have v1 : ∀ W : World, LiesO W ao L → LiesOI W po (fl M) → Calls Try.prog 22 #[.agg #[.int .i64 a, .int .i64 b, .int .i64 c, .slice ao L.length cap], .slice po M.length pc] W fun e w' => e = .returned (.int .i64 r) ∧ Below W.heap.size W w' := fun W h h2 => refValidate7_any a b c r0 r ao po cap pc L ns M W h h2 hr hv hlen hlm
  have t1 : (r != 0) = true := by simpa using hne
  clear h hp hr hv hne
  go_enter Try.func20, Try.ntmps20
  go_wp2_with ((with_reducible refine (v1 _ (H.out.later (by repeat (first | (with_reducible exact Below.refl _ _) | (with_reducible refine Below.setCell ?_ ?_ _) | (with_reducible refine Below.drew ?_) | (with_reducible refine Below.alloc ?_ ?_ _) | omega | (simp <;> omega)))) (HP.out.later (by repeat (first | (with_reducible exact Below.refl _ _) | (with_reducible refine Below.setCell ?_ ?_ _) | (with_reducible refine Below.drew ?_) | (with_reducible refine Below.alloc ?_ ?_ _) | omega | (simp <;> omega))))).mono ?_); rintro e w1 ⟨rfl, hw1⟩)
  go_ret2
  exact ⟨rfl, by repeat (first | (with_reducible exact Below.refl _ _) | (with_reducible refine Below.setCell ?_ ?_ _) | (with_reducible refine Below.drew ?_) | (with_reducible refine Below.alloc ?_ ?_ _) | (with_reducible refine Below.trans ?_ (Below.mono hw1 ?_)) | (with_reducible exact hw1.size) | omega | (simp <;> omega) | (simp <;> (have s := hw1.size; omega)) | (have s0 := hw1.size; (try simp at s0); (try simp); omega))⟩
set_option maxHeartbeats 1600000 in
theorem refHopO_ok (a b c : Int) (ao po : Option Addr) (cap pc : Nat) (L : List Q) (ns : List Int) (M : List Sp) (w : World) (h : LiesO w ao L) (hp : LiesOI w po (fl M)) (hr : numsR a b c L ns 0) (hv : vS L.length M 0 0) (n : Nat) (hF : Fld7 a b c L n) : Calls Try.prog 20 #[.agg #[.int .i64 a, .int .i64 b, .int .i64 c, .slice ao L.length cap], .slice po M.length pc] w fun e w' => RetL7 w.heap.size n (hopL n (arms a b c L L.length) M) e w' ∧ Below w.heap.size w w' := by
  have hps := hF.pos
  have hll := hF.l
  have hM := (vS_ok hv).2.1
  have hmn : M.length = n := by omega
  obtain ⟨bl, off, rfl, hL⟩ := hF.lies h
  obtain ⟨pb, po2, rfl, hP⟩ := lies_some hp (List.getElem?_eq_getElem (show 0 < M.length by omega))
  have HL := Lib.hid hL
  have HP := Lib.hid hP
  have v1 : ∀ W : World, Lies W bl off L → LiesI W pb po2 (fl M) → Calls Try.prog 22 #[.agg #[.int .i64 a, .int .i64 b, .int .i64 c, .slice (some ⟨bl, off, none⟩) L.length cap], .slice (some ⟨pb, po2, none⟩) M.length pc] W fun e w' => e = .returned (.int .i64 0) ∧ Below W.heap.size W w' := fun W h1 h2 => refValidate7_any a b c 0 0 (some ⟨bl, off, none⟩) (some ⟨pb, po2, none⟩) cap pc L ns M W (.inr ⟨bl, off, rfl, h1⟩) (.inr ⟨pb, po2, rfl, h2⟩) hr hv (by omega) (by omega)
  have c3 := fun (W : World) (h1 : Lies W bl off L) (h2 : LiesI W pb po2 (fl M)) => refHop_any a b c bl off cap pb po2 pc n L M W hF h1 h2 hmn
  rw [hmn] at v1 ⊢
  clear h hp hr hv hF hL hP hM hll hmn
  go_enter Try.func20, Try.ntmps20
  go_wp2_with (first | ((with_reducible refine (v1 _ (HL.out.later (by repeat (first | (with_reducible exact Below.refl _ _) | (with_reducible refine Below.setCell ?_ ?_ _) | (with_reducible refine Below.drew ?_) | (with_reducible refine Below.alloc ?_ ?_ _) | omega | (simp <;> omega)))) (HP.out.later (by repeat (first | (with_reducible exact Below.refl _ _) | (with_reducible refine Below.setCell ?_ ?_ _) | (with_reducible refine Below.drew ?_) | (with_reducible refine Below.alloc ?_ ?_ _) | omega | (simp <;> omega))))).mono ?_); clear v1; rintro e w1 ⟨rfl, hw1⟩; have hc1 := Tail.cells hw1; have zw10 := Nat.lt_of_lt_of_le (n := w.heap.size) (by simp <;> omega) hw1.size) | ((with_reducible refine (c3 _ (HL.out.later (by repeat (first | (with_reducible exact Below.refl _ _) | (with_reducible refine Below.setCell ?_ ?_ _) | (with_reducible refine Below.drew ?_) | (with_reducible refine Below.alloc ?_ ?_ _) | (with_reducible refine Below.trans ?_ (Below.mono hw1 ?_)) | (with_reducible exact hw1.size) | omega | (simp <;> omega) | (simp <;> (have s := hw1.size; omega)) | (have s0 := hw1.size; (try simp at s0); (try simp); omega)))) (HP.out.later (by repeat (first | (with_reducible exact Below.refl _ _) | (with_reducible refine Below.setCell ?_ ?_ _) | (with_reducible refine Below.drew ?_) | (with_reducible refine Below.alloc ?_ ?_ _) | (with_reducible refine Below.trans ?_ (Below.mono hw1 ?_)) | (with_reducible exact hw1.size) | omega | (simp <;> omega) | (simp <;> (have s := hw1.size; omega)) | (have s0 := hw1.size; (try simp at s0); (try simp); omega))))).mono ?_); clear c3; rintro e w3 ⟨⟨g3, k3, rfl, hb3, hg3⟩, hw3⟩; have HB3 := Lib.hid hb3; clear hb3))
  go_ret2
  exact ⟨⟨g3, k3, rfl, HB3.out.liesI, by have := hw1.size; simp at this; omega⟩, by repeat (first | (with_reducible exact Below.refl _ _) | (with_reducible refine Below.setCell ?_ ?_ _) | (with_reducible refine Below.drew ?_) | (with_reducible refine Below.alloc ?_ ?_ _) | (with_reducible refine Below.trans ?_ (Below.mono hw3 ?_)) | (with_reducible refine Below.trans ?_ (Below.mono hw1 ?_)) | (with_reducible exact hw3.size) | (with_reducible exact hw1.size) | omega | (simp <;> omega) | (simp <;> (have s := hw3.size; omega)) | (simp <;> (have s := hw1.size; omega)) | (have s0 := hw3.size; (try simp at s0); have s1 := hw1.size; (try simp at s1); (try simp); omega))⟩
set_option maxHeartbeats 1600000 in
theorem refApplyO_bad (a b c r0 ma r : Int) (ao po : Option Addr) (cap pc : Nat) (L : List Q) (ns : List Int) (M : List Sp) (w : World) (h : LiesO w ao L) (hp : LiesOI w po (fl M)) (hr : numsR a b c L ns r0) (hv : ms1 L.length M r0 ma r) (hne : r ≠ 0) (hlen : L.length ≤ 1000000) (hlm : M.length ≤ 1000000) : Calls Try.prog 29 #[.agg #[.int .i64 a, .int .i64 b, .int .i64 c, .slice ao L.length cap], .int .i64 ma, .slice po M.length pc] w fun e w' => e = .returned (.tuple #[.slice none 0 0, .int .i64 r]) ∧ Below w.heap.size w w' := by
  have H := Lib.hid h
  have HP := Lib.hid hp
  have v1 : ∀ (sb : Nat) (W : World), LiesO W ao L → LiesOI W po (fl M) → W.cell? ⟨sb, 0, none⟩ = some (.slice po M.length pc) → Calls Try.prog 64 #[.agg #[.int .i64 a, .int .i64 b, .int .i64 c, .slice ao L.length cap], .int .i64 ma, .slice (some ⟨sb, 0, none⟩) 1 1] W fun e w' => e = .returned (.int .i64 r) ∧ Below W.heap.size W w' := fun sb W h h2 h3 => massive1_any a b c r0 ma r ao po cap pc sb 0 L ns M W h h2 h3 hr hv hlen hlm
  have t1 : (r != 0) = true := by simpa using hne
  clear h hp hr hv hne
  go_enter Try.func29, Try.ntmps29
  go_wp2_with ((with_reducible refine (v1 _ _ (H.out.later (by repeat (first | (with_reducible exact Below.refl _ _) | (with_reducible refine Below.setCell ?_ ?_ _) | (with_reducible refine Below.drew ?_) | (with_reducible refine Below.alloc ?_ ?_ _) | omega | (simp <;> omega)))) (HP.out.later (by repeat (first | (with_reducible exact Below.refl _ _) | (with_reducible refine Below.setCell ?_ ?_ _) | (with_reducible refine Below.drew ?_) | (with_reducible refine Below.alloc ?_ ?_ _) | omega | (simp <;> omega)))) (by simp [go_sem])).mono ?_); rintro e w1 ⟨rfl, hw1⟩)
  go_ret2
  exact ⟨rfl, by repeat (first | (with_reducible exact Below.refl _ _) | (with_reducible refine Below.setCell ?_ ?_ _) | (with_reducible refine Below.drew ?_) | (with_reducible refine Below.alloc ?_ ?_ _) | (with_reducible refine Below.trans ?_ (Below.mono hw1 ?_)) | (with_reducible exact hw1.size) | omega | (simp <;> omega) | (simp <;> (have s := hw1.size; omega)) | (have s0 := hw1.size; (try simp at s0); (try simp); omega))⟩
set_option maxHeartbeats 3200000 in
theorem refApplyO_ok (a b c ma : Int) (ao po : Option Addr) (cap pc : Nat) (L : List Q) (ns : List Int) (M : List Sp) (w : World) (h : LiesO w ao L) (hp : LiesOI w po (fl M)) (hr : numsR a b c L ns 0) (hv : ms1 L.length M 0 ma 0) (n : Nat) (hF : Fld7 a b c L n) : Calls Try.prog 29 #[.agg #[.int .i64 a, .int .i64 b, .int .i64 c, .slice ao L.length cap], .int .i64 ma, .slice po M.length pc] w fun e w' => RetL7 w.heap.size n (opL 1 ma n (arms a b c L L.length) M) e w' ∧ Below w.heap.size w w' := by
  have hps := hF.pos
  have hll := hF.l
  have hM := (ms1_ok hv).2.1
  have hmn : M.length = n := by omega
  obtain ⟨bl, off, rfl, hL⟩ := hF.lies h
  obtain ⟨pb, po2, rfl, hP⟩ := lies_some hp (List.getElem?_eq_getElem (show 0 < M.length by omega))
  have HL := Lib.hid hL
  have HP := Lib.hid hP
  have hma := (ms1_ok hv).2.2.2
  have v1 : ∀ (sb : Nat) (W : World), Lies W bl off L → LiesI W pb po2 (fl M) → W.cell? ⟨sb, 0, none⟩ = some (.slice (some ⟨pb, po2, none⟩) M.length pc) → Calls Try.prog 64 #[.agg #[.int .i64 a, .int .i64 b, .int .i64 c, .slice (some ⟨bl, off, none⟩) L.length cap], .int .i64 ma, .slice (some ⟨sb, 0, none⟩) 1 1] W fun e w' => e = .returned (.int .i64 0) ∧ Below W.heap.size W w' := fun sb W h1 h2 h3 => massive1_any a b c 0 ma 0 (some ⟨bl, off, none⟩) (some ⟨pb, po2, none⟩) cap pc sb 0 L ns M W (.inr ⟨bl, off, rfl, h1⟩) (.inr ⟨pb, po2, rfl, h2⟩) h3 hr hv (by omega) (by omega)
  have c3 := fun (W : World) (h1 : Lies W bl off L) (h2 : LiesI W pb po2 (fl M)) => operator_any a b c ma 1 bl off cap pb po2 pc n L M W hF hma h1 h2 hmn
  rw [hmn] at v1 ⊢
  clear h hp hr hv hF hL hP hM hll hmn hma
  go_enter Try.func29, Try.ntmps29
  go_wp2_with (first | ((with_reducible refine (v1 _ _ (HL.out.later (by repeat (first | (with_reducible exact Below.refl _ _) | (with_reducible refine Below.setCell ?_ ?_ _) | (with_reducible refine Below.drew ?_) | (with_reducible refine Below.alloc ?_ ?_ _) | omega | (simp <;> omega)))) (HP.out.later (by repeat (first | (with_reducible exact Below.refl _ _) | (with_reducible refine Below.setCell ?_ ?_ _) | (with_reducible refine Below.drew ?_) | (with_reducible refine Below.alloc ?_ ?_ _) | omega | (simp <;> omega)))) (by simp [go_sem])).mono ?_); clear v1; rintro e w1 ⟨rfl, hw1⟩; have hc1 := Tail.cells hw1; have zw10 := Nat.lt_of_lt_of_le (n := w.heap.size) (by simp <;> omega) hw1.size) | ((with_reducible refine (c3 _ (HL.out.later (by repeat (first | (with_reducible exact Below.refl _ _) | (with_reducible refine Below.setCell ?_ ?_ _) | (with_reducible refine Below.drew ?_) | (with_reducible refine Below.alloc ?_ ?_ _) | (with_reducible refine Below.trans ?_ (Below.mono hw1 ?_)) | (with_reducible exact hw1.size) | omega | (simp <;> omega) | (simp <;> (have s := hw1.size; omega)) | (have s0 := hw1.size; (try simp at s0); (try simp); omega)))) (HP.out.later (by repeat (first | (with_reducible exact Below.refl _ _) | (with_reducible refine Below.setCell ?_ ?_ _) | (with_reducible refine Below.drew ?_) | (with_reducible refine Below.alloc ?_ ?_ _) | (with_reducible refine Below.trans ?_ (Below.mono hw1 ?_)) | (with_reducible exact hw1.size) | omega | (simp <;> omega) | (simp <;> (have s := hw1.size; omega)) | (have s0 := hw1.size; (try simp at s0); (try simp); omega))))).mono ?_); clear c3; rintro e w3 ⟨⟨g3, k3, rfl, hb3, hg3⟩, hw3⟩; have HB3 := Lib.hid hb3; clear hb3))
  go_ret2
  exact ⟨⟨g3, k3, rfl, HB3.out, by have := hw1.size; simp at this; omega⟩, by repeat (first | (with_reducible exact Below.refl _ _) | (with_reducible refine Below.setCell ?_ ?_ _) | (with_reducible refine Below.drew ?_) | (with_reducible refine Below.alloc ?_ ?_ _) | (with_reducible refine Below.trans ?_ (Below.mono hw3 ?_)) | (with_reducible refine Below.trans ?_ (Below.mono hw1 ?_)) | (with_reducible exact hw3.size) | (with_reducible exact hw1.size) | omega | (simp <;> omega) | (simp <;> (have s := hw3.size; omega)) | (simp <;> (have s := hw1.size; omega)) | (have s0 := hw3.size; (try simp at s0); have s1 := hw1.size; (try simp at s1); (try simp); omega))⟩
set_option maxHeartbeats 1600000 in
theorem refDaggerO_bad (a b c r0 ma r : Int) (ao po : Option Addr) (cap pc : Nat) (L : List Q) (ns : List Int) (M : List Sp) (w : World) (h : LiesO w ao L) (hp : LiesOI w po (fl M)) (hr : numsR a b c L ns r0) (hv : ms1 L.length M r0 ma r) (hne : r ≠ 0) (hlen : L.length ≤ 1000000) (hlm : M.length ≤ 1000000) : Calls Try.prog 31 #[.agg #[.int .i64 a, .int .i64 b, .int .i64 c, .slice ao L.length cap], .int .i64 ma, .slice po M.length pc] w fun e w' => e = .returned (.tuple #[.slice none 0 0, .int .i64 r]) ∧ Below w.heap.size w w' := by
  have H := Lib.hid h
  have HP := Lib.hid hp
  have v1 : ∀ (sb : Nat) (W : World), LiesO W ao L → LiesOI W po (fl M) → W.cell? ⟨sb, 0, none⟩ = some (.slice po M.length pc) → Calls Try.prog 64 #[.agg #[.int .i64 a, .int .i64 b, .int .i64 c, .slice ao L.length cap], .int .i64 ma, .slice (some ⟨sb, 0, none⟩) 1 1] W fun e w' => e = .returned (.int .i64 r) ∧ Below W.heap.size W w' := fun sb W h h2 h3 => massive1_any a b c r0 ma r ao po cap pc sb 0 L ns M W h h2 h3 hr hv hlen hlm
  have t1 : (r != 0) = true := by simpa using hne
  clear h hp hr hv hne
  go_enter Try.func31, Try.ntmps31
  go_wp2_with ((with_reducible refine (v1 _ _ (H.out.later (by repeat (first | (with_reducible exact Below.refl _ _) | (with_reducible refine Below.setCell ?_ ?_ _) | (with_reducible refine Below.drew ?_) | (with_reducible refine Below.alloc ?_ ?_ _) | omega | (simp <;> omega)))) (HP.out.later (by repeat (first | (with_reducible exact Below.refl _ _) | (with_reducible refine Below.setCell ?_ ?_ _) | (with_reducible refine Below.drew ?_) | (with_reducible refine Below.alloc ?_ ?_ _) | omega | (simp <;> omega)))) (by simp [go_sem])).mono ?_); rintro e w1 ⟨rfl, hw1⟩)
  go_ret2
  exact ⟨rfl, by repeat (first | (with_reducible exact Below.refl _ _) | (with_reducible refine Below.setCell ?_ ?_ _) | (with_reducible refine Below.drew ?_) | (with_reducible refine Below.alloc ?_ ?_ _) | (with_reducible refine Below.trans ?_ (Below.mono hw1 ?_)) | (with_reducible exact hw1.size) | omega | (simp <;> omega) | (simp <;> (have s := hw1.size; omega)) | (have s0 := hw1.size; (try simp at s0); (try simp); omega))⟩
set_option maxHeartbeats 3200000 in
theorem refDaggerO_ok (a b c ma : Int) (ao po : Option Addr) (cap pc : Nat) (L : List Q) (ns : List Int) (M : List Sp) (w : World) (h : LiesO w ao L) (hp : LiesOI w po (fl M)) (hr : numsR a b c L ns 0) (hv : ms1 L.length M 0 ma 0) (n : Nat) (hF : Fld7 a b c L n) : Calls Try.prog 31 #[.agg #[.int .i64 a, .int .i64 b, .int .i64 c, .slice ao L.length cap], .int .i64 ma, .slice po M.length pc] w fun e w' => RetL7 w.heap.size n (opL (-1) ma n (arms a b c L L.length) M) e w' ∧ Below w.heap.size w w' := by
  have hps := hF.pos
  have hll := hF.l
  have hM := (ms1_ok hv).2.1
  have hmn : M.length = n := by omega
  obtain ⟨bl, off, rfl, hL⟩ := hF.lies h
  obtain ⟨pb, po2, rfl, hP⟩ := lies_some hp (List.getElem?_eq_getElem (show 0 < M.length by omega))
  have HL := Lib.hid hL
  have HP := Lib.hid hP
  have hma := (ms1_ok hv).2.2.2
  have v1 : ∀ (sb : Nat) (W : World), Lies W bl off L → LiesI W pb po2 (fl M) → W.cell? ⟨sb, 0, none⟩ = some (.slice (some ⟨pb, po2, none⟩) M.length pc) → Calls Try.prog 64 #[.agg #[.int .i64 a, .int .i64 b, .int .i64 c, .slice (some ⟨bl, off, none⟩) L.length cap], .int .i64 ma, .slice (some ⟨sb, 0, none⟩) 1 1] W fun e w' => e = .returned (.int .i64 0) ∧ Below W.heap.size W w' := fun sb W h1 h2 h3 => massive1_any a b c 0 ma 0 (some ⟨bl, off, none⟩) (some ⟨pb, po2, none⟩) cap pc sb 0 L ns M W (.inr ⟨bl, off, rfl, h1⟩) (.inr ⟨pb, po2, rfl, h2⟩) h3 hr hv (by omega) (by omega)
  have c3 := fun (W : World) (h1 : Lies W bl off L) (h2 : LiesI W pb po2 (fl M)) => operator_any a b c ma (-1) bl off cap pb po2 pc n L M W hF hma h1 h2 hmn
  rw [hmn] at v1 ⊢
  clear h hp hr hv hF hL hP hM hll hmn hma
  go_enter Try.func31, Try.ntmps31
  go_wp2_with (first | ((with_reducible refine (v1 _ _ (HL.out.later (by repeat (first | (with_reducible exact Below.refl _ _) | (with_reducible refine Below.setCell ?_ ?_ _) | (with_reducible refine Below.drew ?_) | (with_reducible refine Below.alloc ?_ ?_ _) | omega | (simp <;> omega)))) (HP.out.later (by repeat (first | (with_reducible exact Below.refl _ _) | (with_reducible refine Below.setCell ?_ ?_ _) | (with_reducible refine Below.drew ?_) | (with_reducible refine Below.alloc ?_ ?_ _) | omega | (simp <;> omega)))) (by simp [go_sem])).mono ?_); clear v1; rintro e w1 ⟨rfl, hw1⟩; have hc1 := Tail.cells hw1; have zw10 := Nat.lt_of_lt_of_le (n := w.heap.size) (by simp <;> omega) hw1.size) | ((with_reducible refine (c3 _ (HL.out.later (by repeat (first | (with_reducible exact Below.refl _ _) | (with_reducible refine Below.setCell ?_ ?_ _) | (with_reducible refine Below.drew ?_) | (with_reducible refine Below.alloc ?_ ?_ _) | (with_reducible refine Below.trans ?_ (Below.mono hw1 ?_)) | (with_reducible exact hw1.size) | omega | (simp <;> omega) | (simp <;> (have s := hw1.size; omega)) | (have s0 := hw1.size; (try simp at s0); (try simp); omega)))) (HP.out.later (by repeat (first | (with_reducible exact Below.refl _ _) | (with_reducible refine Below.setCell ?_ ?_ _) | (with_reducible refine Below.drew ?_) | (with_reducible refine Below.alloc ?_ ?_ _) | (with_reducible refine Below.trans ?_ (Below.mono hw1 ?_)) | (with_reducible exact hw1.size) | omega | (simp <;> omega) | (simp <;> (have s := hw1.size; omega)) | (have s0 := hw1.size; (try simp at s0); (try simp); omega))))).mono ?_); clear c3; rintro e w3 ⟨⟨g3, k3, rfl, hb3, hg3⟩, hw3⟩; have HB3 := Lib.hid hb3; clear hb3))
  go_ret2
  exact ⟨⟨g3, k3, rfl, HB3.out, by have := hw1.size; simp at this; omega⟩, by repeat (first | (with_reducible exact Below.refl _ _) | (with_reducible refine Below.setCell ?_ ?_ _) | (with_reducible refine Below.drew ?_) | (with_reducible refine Below.alloc ?_ ?_ _) | (with_reducible refine Below.trans ?_ (Below.mono hw3 ?_)) | (with_reducible refine Below.trans ?_ (Below.mono hw1 ?_)) | (with_reducible exact hw3.size) | (with_reducible exact hw1.size) | omega | (simp <;> omega) | (simp <;> (have s := hw3.size; omega)) | (simp <;> (have s := hw1.size; omega)) | (have s0 := hw3.size; (try simp at s0); have s1 := hw1.size; (try simp at s1); (try simp); omega))⟩
set_option maxHeartbeats 1600000 in
theorem refTwiceO_bad (a b c r0 ma r : Int) (ao po : Option Addr) (cap pc : Nat) (L : List Q) (ns : List Int) (M : List Sp) (w : World) (h : LiesO w ao L) (hp : LiesOI w po (fl M)) (hr : numsR a b c L ns r0) (hv : ms1 L.length M r0 ma r) (hne : r ≠ 0) (hlen : L.length ≤ 1000000) (hlm : M.length ≤ 1000000) : Calls Try.prog 33 #[.agg #[.int .i64 a, .int .i64 b, .int .i64 c, .slice ao L.length cap], .int .i64 ma, .slice po M.length pc] w fun e w' => e = .returned (.tuple #[.slice none 0 0, .int .i64 r]) ∧ Below w.heap.size w w' := by
  have H := Lib.hid h
  have HP := Lib.hid hp
  have v1 : ∀ (sb : Nat) (W : World), LiesO W ao L → LiesOI W po (fl M) → W.cell? ⟨sb, 0, none⟩ = some (.slice po M.length pc) → Calls Try.prog 64 #[.agg #[.int .i64 a, .int .i64 b, .int .i64 c, .slice ao L.length cap], .int .i64 ma, .slice (some ⟨sb, 0, none⟩) 1 1] W fun e w' => e = .returned (.int .i64 r) ∧ Below W.heap.size W w' := fun sb W h h2 h3 => massive1_any a b c r0 ma r ao po cap pc sb 0 L ns M W h h2 h3 hr hv hlen hlm
  have t1 : (r != 0) = true := by simpa using hne
  clear h hp hr hv hne
  go_enter Try.func33, Try.ntmps33
  go_wp2_with ((with_reducible refine (v1 _ _ (H.out.later (by repeat (first | (with_reducible exact Below.refl _ _) | (with_reducible refine Below.setCell ?_ ?_ _) | (with_reducible refine Below.drew ?_) | (with_reducible refine Below.alloc ?_ ?_ _) | omega | (simp <;> omega)))) (HP.out.later (by repeat (first | (with_reducible exact Below.refl _ _) | (with_reducible refine Below.setCell ?_ ?_ _) | (with_reducible refine Below.drew ?_) | (with_reducible refine Below.alloc ?_ ?_ _) | omega | (simp <;> omega)))) (by simp [go_sem])).mono ?_); rintro e w1 ⟨rfl, hw1⟩)
  go_ret2
  exact ⟨rfl, by repeat (first | (with_reducible exact Below.refl _ _) | (with_reducible refine Below.setCell ?_ ?_ _) | (with_reducible refine Below.drew ?_) | (with_reducible refine Below.alloc ?_ ?_ _) | (with_reducible refine Below.trans ?_ (Below.mono hw1 ?_)) | (with_reducible exact hw1.size) | omega | (simp <;> omega) | (simp <;> (have s := hw1.size; omega)) | (have s0 := hw1.size; (try simp at s0); (try simp); omega))⟩
set_option maxHeartbeats 3200000 in
theorem refTwiceO_ok (a b c ma : Int) (ao po : Option Addr) (cap pc : Nat) (L : List Q) (ns : List Int) (M : List Sp) (w : World) (h : LiesO w ao L) (hp : LiesOI w po (fl M)) (hr : numsR a b c L ns 0) (hv : ms1 L.length M 0 ma 0) (n : Nat) (hF : Fld7 a b c L n) : Calls Try.prog 33 #[.agg #[.int .i64 a, .int .i64 b, .int .i64 c, .slice ao L.length cap], .int .i64 ma, .slice po M.length pc] w fun e w' => RetL7 w.heap.size n (opL (-1) ma n (arms a b c L L.length) (opL 1 ma n (arms a b c L L.length) M)) e w' ∧ Below w.heap.size w w' := by
  have hps := hF.pos
  have hll := hF.l
  have hM := (ms1_ok hv).2.1
  have hmn : M.length = n := by omega
  obtain ⟨bl, off, rfl, hL⟩ := hF.lies h
  obtain ⟨pb, po2, rfl, hP⟩ := lies_some hp (List.getElem?_eq_getElem (show 0 < M.length by omega))
  have HL := Lib.hid hL
  have HP := Lib.hid hP
  have hma := (ms1_ok hv).2.2.2
  have v1 : ∀ (sb : Nat) (W : World), Lies W bl off L → LiesI W pb po2 (fl M) → W.cell? ⟨sb, 0, none⟩ = some (.slice (some ⟨pb, po2, none⟩) M.length pc) → Calls Try.prog 64 #[.agg #[.int .i64 a, .int .i64 b, .int .i64 c, .slice (some ⟨bl, off, none⟩) L.length cap], .int .i64 ma, .slice (some ⟨sb, 0, none⟩) 1 1] W fun e w' => e = .returned (.int .i64 0) ∧ Below W.heap.size W w' := fun sb W h1 h2 h3 => massive1_any a b c 0 ma 0 (some ⟨bl, off, none⟩) (some ⟨pb, po2, none⟩) cap pc sb 0 L ns M W (.inr ⟨bl, off, rfl, h1⟩) (.inr ⟨pb, po2, rfl, h2⟩) h3 hr hv (by omega) (by omega)
  have c3 := fun (W : World) (h1 : Lies W bl off L) (h2 : LiesI W pb po2 (fl M)) => operator_any a b c ma 1 bl off cap pb po2 pc n L M W hF hma h1 h2 hmn
  have c4 := fun (W : World) (g1 k1 : Nat) (h1 : Lies W bl off L) (h2 : LiesI W g1 0 (fl (opL 1 ma n (arms a b c L L.length) M))) => operator_any a b c ma (-1) bl off cap g1 0 k1 n L (opL 1 ma n (arms a b c L L.length) M) W hF hma h1 h2 (opL_len _ _ _ _ _)
  rw [hmn] at v1 ⊢
  clear h hp hr hv hF hL hP hM hll hmn hma
  generalize opL (-1) ma n (arms a b c L L.length) (opL 1 ma n (arms a b c L L.length) M) = Y2 at *
  generalize opL 1 ma n (arms a b c L L.length) M = Y1 at *
  go_enter Try.func33, Try.ntmps33
  go_wp2_with ((with_reducible refine (v1 _ _ (HL.out.later (by repeat (first | (with_reducible exact Below.refl _ _) | (with_reducible refine Below.setCell ?_ ?_ _) | (with_reducible refine Below.drew ?_) | (with_reducible refine Below.alloc ?_ ?_ _) | omega | (simp <;> omega)))) (HP.out.later (by repeat (first | (with_reducible exact Below.refl _ _) | (with_reducible refine Below.setCell ?_ ?_ _) | (with_reducible refine Below.drew ?_) | (with_reducible refine Below.alloc ?_ ?_ _) | omega | (simp <;> omega)))) (by simp [go_sem])).mono ?_); clear v1; rintro e w1 ⟨rfl, hw1⟩; have hc1 := Tail.cells hw1; have zw10 := Nat.lt_of_lt_of_le (n := w.heap.size) (by simp <;> omega) hw1.size)
  have HW1 := Lib.hid (show Below w.heap.size w w1 by repeat (first | (with_reducible exact Below.refl _ _) | (with_reducible refine Below.setCell ?_ ?_ _) | (with_reducible refine Below.drew ?_) | (with_reducible refine Below.alloc ?_ ?_ _) | (with_reducible refine Below.trans ?_ (Below.mono hw1 ?_)) | (with_reducible exact hw1.size) | omega | (simp <;> omega) | (simp <;> (have s := hw1.size; omega)) | (have s0 := hw1.size; (try simp at s0); (try simp); omega)))
  have f0 : w1.cell? ⟨w.heap.size, 0, none⟩ = some (.int .i64 a) := (hc1.1 _ _ (by simp <;> omega)).trans (by simp [go_sem])
  have f1 : w1.cell? ⟨w.heap.size, 1, none⟩ = some (.int .i64 b) := (hc1.1 _ _ (by simp <;> omega)).trans (by simp [go_sem])
  have f2 : w1.cell? ⟨w.heap.size, 2, none⟩ = some (.int .i64 c) := (hc1.1 _ _ (by simp <;> omega)).trans (by simp [go_sem])
  have f3 : w1.cell? ⟨w.heap.size, 3, none⟩ = some (.slice (some ⟨bl, off, none⟩) L.length cap) := (hc1.1 _ _ (by simp <;> omega)).trans (by simp [go_sem])
  have fl0 := zw10
  clear hc1 hw1 zw10
  go_region_held3 (fun w' => w'.cell? ⟨w.heap.size, 0, none⟩ = some (.int .i64 a) ∧ w'.cell? ⟨w.heap.size, 1, none⟩ = some (.int .i64 b) ∧ w'.cell? ⟨w.heap.size, 2, none⟩ = some (.int .i64 c) ∧ w'.cell? ⟨w.heap.size, 3, none⟩ = some (.slice (some ⟨bl, off, none⟩) L.length cap))
    (first | go_keep | (refine ⟨?_, ?_, ?_, ?_⟩ <;> assumption))
    (first | ((with_reducible refine (c3 _ (HL.out.later (show Below w.heap.size w _ by have hh := HW1.out; repeat (first | (with_reducible exact Below.refl _ _) | (with_reducible refine Below.setCell ?_ ?_ _) | (with_reducible refine Below.drew ?_) | (with_reducible refine Below.alloc ?_ ?_ _) | (with_reducible refine Below.trans ?_ (Below.mono hh ?_)) | (with_reducible exact hh.size) | omega | (simp <;> omega) | (simp <;> (have s := hh.size; omega)) | (have s0 := hh.size; (try simp at s0); (try simp); omega)))) (HP.out.later (show Below w.heap.size w _ by have hh := HW1.out; repeat (first | (with_reducible exact Below.refl _ _) | (with_reducible refine Below.setCell ?_ ?_ _) | (with_reducible refine Below.drew ?_) | (with_reducible refine Below.alloc ?_ ?_ _) | (with_reducible refine Below.trans ?_ (Below.mono hh ?_)) | (with_reducible exact hh.size) | omega | (simp <;> omega) | (simp <;> (have s := hh.size; omega)) | (have s0 := hh.size; (try simp at s0); (try simp); omega))))).mono ?_); clear c3; rintro e w3 ⟨⟨g3, k3, rfl, hb3, hg3⟩, hw3⟩; have HB3 := Lib.hid hb3; have HW3 := Lib.hid (show Below w.heap.size w w3 by have hh := HW1.out; repeat (first | (with_reducible exact Below.refl _ _) | (with_reducible refine Below.setCell ?_ ?_ _) | (with_reducible refine Below.drew ?_) | (with_reducible refine Below.alloc ?_ ?_ _) | (with_reducible refine Below.trans ?_ (Below.mono hw3 ?_)) | (with_reducible refine Below.trans ?_ (Below.mono hh ?_)) | (with_reducible exact hw3.size) | (with_reducible exact hh.size) | omega | (simp <;> omega) | (simp <;> (have s := hw3.size; omega)) | (simp <;> (have s := hh.size; omega)) | (have s0 := hw3.size; (try simp at s0); have s1 := hh.size; (try simp at s1); (try simp); omega))); have g0 := ((Tail.cells hw3).1 _ 0 (by simp <;> omega)).trans (by simpa using f0); have g1 := ((Tail.cells hw3).1 _ 1 (by simp <;> omega)).trans (by simpa using f1); have g2 := ((Tail.cells hw3).1 _ 2 (by simp <;> omega)).trans (by simpa using f2); have g3' := ((Tail.cells hw3).1 _ 3 (by simp <;> omega)).trans (by simpa using f3); have fl3 : w.heap.size < w3.heap.size := Nat.lt_of_lt_of_le fl0 (by have := hw3.size; simpa using this); clear hb3) | ((with_reducible refine (c4 _ _ _ (HL.out.later HW3.out) HB3.out).mono ?_); clear c4; rintro e w4 ⟨⟨g4, k4, rfl, hb4, hg4⟩, hw4⟩; have HB4 := Lib.hid hb4; have j0 := ((Tail.cells hw4).1 _ 0 fl3).trans g0; have j1 := ((Tail.cells hw4).1 _ 1 fl3).trans g1; have j2 := ((Tail.cells hw4).1 _ 2 fl3).trans g2; have j3 := ((Tail.cells hw4).1 _ 3 fl3).trans g3'; clear hb4))
  go_wp2
  go_ret2
  have hs3 := HW3.out.size
  have hh := HW3.out
  exact ⟨⟨g4, k4, rfl, HB4.out, by omega⟩, by repeat (first | (with_reducible exact Below.refl _ _) | (with_reducible refine Below.setCell ?_ ?_ _) | (with_reducible refine Below.drew ?_) | (with_reducible refine Below.alloc ?_ ?_ _) | (with_reducible refine Below.trans ?_ (Below.mono hw4 ?_)) | (with_reducible refine Below.trans ?_ (Below.mono hh ?_)) | (with_reducible exact hw4.size) | (with_reducible exact hh.size) | omega | (simp <;> omega) | (simp <;> (have s := hw4.size; omega)) | (simp <;> (have s := hh.size; omega)) | (have s0 := hw4.size; (try simp at s0); have s1 := hh.size; (try simp at s1); (try simp); omega))⟩
end Go.Proofs.Ytopffllomiojmaa
