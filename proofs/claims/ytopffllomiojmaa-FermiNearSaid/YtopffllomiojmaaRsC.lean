/- What is left of a source: remainders, residuals and checks, as the program finds them.
Conditions: the lists lie in memory as it is written at each theorem. -/
import Derived.Test.YtopffllomiojmaaFermB
namespace Go.Proofs.Ytopffllomiojmaa
set_option linter.unusedVariables false
set_option linter.unusedSimpArgs false
set_option maxRecDepth 1000000
open Go.RowKit
open Um Tm Fm

/-- how large an entry of a source may be -/
def sE : Int := 1048576
/-- the first error of a field, two vectors, a mass and a source -/
def rmR (m : Nat) (M N : List Sp) (r0 ma r : Int) : Prop := ∃ r1, ms2 m M N r0 ma r1 ∧ ((r1 ≠ 0 ∧ r = r1) ∨ (r1 = 0 ∧ ((AllE sE N ∧ r = 0) ∨ (¬ AllE sE N ∧ r = 1))))
theorem rmR_ex (m : Nat) (M N : List Sp) (r0 ma : Int) : ∃ r, rmR m M N r0 ma r := by
  obtain ⟨r1, h1⟩ := ms2_ex m M N r0 ma
  by_cases h : r1 = 0
  · by_cases h2 : AllE sE N
    · exact ⟨0, r1, h1, .inr ⟨h, .inl ⟨h2, rfl⟩⟩⟩
    · exact ⟨1, r1, h1, .inr ⟨h, .inr ⟨h2, rfl⟩⟩⟩
  · exact ⟨r1, r1, h1, .inl ⟨h, rfl⟩⟩
theorem rmR_ok {m : Nat} {M N : List Sp} {r0 ma : Int} (h : rmR m M N r0 ma 0) : ms2 m M N r0 ma 0 ∧ AllE sE N := by
  obtain ⟨r1, h1, ⟨h2, h3⟩ | ⟨rfl, ⟨h3, _⟩ | ⟨_, h3⟩⟩⟩ := h
  · exact absurd h3.symm h2
  · exact ⟨h1, h3⟩
  · cases h3
/-- what is left -/
def remL (ma : Int) (n : Nat) (A : List Arm) (M N : List Sp) : List Sp := axp (-1) N (opL 1 ma n A M)
theorem remL_len (ma : Int) (n : Nat) (A : List Arm) (M N : List Sp) : (remL ma n A M N).length = N.length := axp_len _ _ _
set_option maxHeartbeats 3200000 in
theorem remainder_bad (a b c r0 ma r : Int) (ao po qo : Option Addr) (cap pc qc : Nat) (L : List Q) (ns : List Int) (M N : List Sp) (w : World) (h : LiesO w ao L) (hp : LiesOI w po (fl M)) (hq : LiesOI w qo (fl N)) (hr : numsR a b c L ns r0) (hv : rmR L.length M N r0 ma r) (hne : r ≠ 0) (hlen : L.length ≤ 1000000) (hlm : M.length ≤ 1000000) (hln : N.length ≤ 1000000) : Calls Try.prog 79 #[.agg #[.int .i64 a, .int .i64 b, .int .i64 c, .slice ao L.length cap], .int .i64 ma, .slice po M.length pc, .slice qo N.length qc] w fun e w' => e = .returned (.tuple #[.slice none 0 0, .int .i64 r]) ∧ Below w.heap.size w w' := by
  have H := Lib.hid h
  have HP := Lib.hid hp
  have HQ := Lib.hid hq
  obtain ⟨r1, h1, hc⟩ := hv
  rcases hc with ⟨h2, rfl⟩ | ⟨rfl, ⟨_, h3⟩ | ⟨h3, rfl⟩⟩
  · have c1 : ∀ (sb : Nat) (W : World), LiesO W ao L → LiesOI W po (fl M) → LiesOI W qo (fl N) → W.cell? ⟨sb, 0, none⟩ = some (.slice po M.length pc) → W.cell? ⟨sb, 0 + 1, none⟩ = some (.slice qo N.length qc) → Calls Try.prog 62 #[.agg #[.int .i64 a, .int .i64 b, .int .i64 c, .slice ao L.length cap], .int .i64 ma, .slice (some ⟨sb, 0, none⟩) 2 2] W fun e w' => e = .returned (.tuple #[.slice none 0 0, .int .i64 r]) ∧ Below W.heap.size W w' := fun sb W k1 k2 k3 k4 k5 => start2_bad a b c r0 ma r ao po qo cap pc qc sb 0 L ns M N W k1 k2 k3 k4 k5 hr h1 hne hlen hlm hln
    have t1 : (r != 0) = true := by simpa using hne
    clear h hp hq hr h1 h2 hne
    go_enter Try.func79, Try.ntmps79
    go_wp2_with ((with_reducible refine (c1 _ _ (H.out.later (by repeat (first | (with_reducible exact Below.refl _ _) | (with_reducible refine Below.setCell ?_ ?_ _) | (with_reducible refine Below.drew ?_) | (with_reducible refine Below.alloc ?_ ?_ _) | omega | (simp <;> omega)))) (HP.out.later (by repeat (first | (with_reducible exact Below.refl _ _) | (with_reducible refine Below.setCell ?_ ?_ _) | (with_reducible refine Below.drew ?_) | (with_reducible refine Below.alloc ?_ ?_ _) | omega | (simp <;> omega)))) (HQ.out.later (by repeat (first | (with_reducible exact Below.refl _ _) | (with_reducible refine Below.setCell ?_ ?_ _) | (with_reducible refine Below.drew ?_) | (with_reducible refine Below.alloc ?_ ?_ _) | omega | (simp <;> omega)))) (by simp [go_sem]) (by simp [go_sem])).mono ?_); clear c1; rintro e w1 ⟨rfl, hw1⟩)
    go_ret2
    exact ⟨rfl, by repeat (first | (with_reducible exact Below.refl _ _) | (with_reducible refine Below.setCell ?_ ?_ _) | (with_reducible refine Below.drew ?_) | (with_reducible refine Below.alloc ?_ ?_ _) | (with_reducible refine Below.trans ?_ (Below.mono hw1 ?_)) | (with_reducible exact hw1.size) | omega | (simp <;> omega) | (simp <;> (have s := hw1.size; omega)) | (have s0 := hw1.size; (try simp at s0); (try simp); omega))⟩
  · exact absurd h3 hne
  · obtain ⟨rfl, hM, _, hN, _, him⟩ := ms2_ok h1
    obtain ⟨n, hF⟩ := fld7 hr
    have c1 : ∀ (sb : Nat) (W : World), LiesO W ao L → LiesOI W po (fl M) → LiesOI W qo (fl N) → W.cell? ⟨sb, 0, none⟩ = some (.slice po M.length pc) → W.cell? ⟨sb, 0 + 1, none⟩ = some (.slice qo N.length qc) → Calls Try.prog 62 #[.agg #[.int .i64 a, .int .i64 b, .int .i64 c, .slice ao L.length cap], .int .i64 ma, .slice (some ⟨sb, 0, none⟩) 2 2] W fun e w' => RetH W.heap.size n (row (arms a b c L L.length)) e w' ∧ Below W.heap.size W w' := fun sb W k1 k2 k3 k4 k5 => start2_ok a b c 0 ma ao po qo cap pc qc sb 0 L ns M N W k1 k2 k3 k4 k5 hr h1 n hF hlm hln
    have c2 := fun (W : World) (k1 : LiesOI W qo (fl N)) => isWithin7_any 1048576 qo N qc W false k1 (by decide) (by decide) hln (.inr ⟨h3, rfl⟩)
    clear h hp hq hr h1 hne h3 hF him hM hN
    go_enter Try.func79, Try.ntmps79
    go_wp2_with (first | ((with_reducible refine (c1 _ _ (H.out.later (by repeat (first | (with_reducible exact Below.refl _ _) | (with_reducible refine Below.setCell ?_ ?_ _) | (with_reducible refine Below.drew ?_) | (with_reducible refine Below.alloc ?_ ?_ _) | omega | (simp <;> omega)))) (HP.out.later (by repeat (first | (with_reducible exact Below.refl _ _) | (with_reducible refine Below.setCell ?_ ?_ _) | (with_reducible refine Below.drew ?_) | (with_reducible refine Below.alloc ?_ ?_ _) | omega | (simp <;> omega)))) (HQ.out.later (by repeat (first | (with_reducible exact Below.refl _ _) | (with_reducible refine Below.setCell ?_ ?_ _) | (with_reducible refine Below.drew ?_) | (with_reducible refine Below.alloc ?_ ?_ _) | omega | (simp <;> omega)))) (by simp [go_sem]) (by simp [go_sem])).mono ?_); clear c1; rintro e w1 ⟨⟨g, vs, rfl, hH, hg⟩, hw1⟩; clear hH) | ((with_reducible refine (c2 _ (HQ.out.later (by repeat (first | (with_reducible exact Below.refl _ _) | (with_reducible refine Below.setCell ?_ ?_ _) | (with_reducible refine Below.drew ?_) | (with_reducible refine Below.alloc ?_ ?_ _) | (with_reducible refine Below.trans ?_ (Below.mono hw1 ?_)) | (with_reducible exact hw1.size) | omega | (simp <;> omega) | (simp <;> (have s := hw1.size; omega)) | (have s0 := hw1.size; (try simp at s0); (try simp); omega))))).mono ?_); clear c2; rintro e w2 ⟨rfl, hw2⟩))
    go_ret2
    exact ⟨rfl, by repeat (first | (with_reducible exact Below.refl _ _) | (with_reducible refine Below.setCell ?_ ?_ _) | (with_reducible refine Below.drew ?_) | (with_reducible refine Below.alloc ?_ ?_ _) | (with_reducible refine Below.trans ?_ (Below.mono hw2 ?_)) | (with_reducible refine Below.trans ?_ (Below.mono hw1 ?_)) | (with_reducible exact hw2.size) | (with_reducible exact hw1.size) | omega | (simp <;> omega) | (simp <;> (have s := hw2.size; omega)) | (simp <;> (have s := hw1.size; omega)) | (have s0 := hw2.size; (try simp at s0); have s1 := hw1.size; (try simp at s1); (try simp); omega))⟩
set_option maxHeartbeats 3200000 in
theorem remainder_ok (a b c ma : Int) (ao po qo : Option Addr) (cap pc qc n : Nat) (L : List Q) (ns : List Int) (M N : List Sp) (w : World) (h : LiesO w ao L) (hp : LiesOI w po (fl M)) (hq : LiesOI w qo (fl N)) (hr : numsR a b c L ns 0) (hv : rmR L.length M N 0 ma 0) (hF : Fld7 a b c L n) (hlm : M.length ≤ 1000000) (hln : N.length ≤ 1000000) : Calls Try.prog 79 #[.agg #[.int .i64 a, .int .i64 b, .int .i64 c, .slice ao L.length cap], .int .i64 ma, .slice po M.length pc, .slice qo N.length qc] w fun e w' => RetV7 w.heap.size n (remL ma n (arms a b c L L.length) M N) e w' ∧ Below w.heap.size w w' := by
  obtain ⟨h1, h3⟩ := rmR_ok hv
  obtain ⟨-, hM, _, hN, _, him⟩ := ms2_ok h1
  have hps := hF.pos
  have hll := hF.l
  have hmn : M.length = n := by omega
  have hnn : N.length = n := by omega
  obtain ⟨pb, po2, rfl, hP⟩ := lies_some hp (List.getElem?_eq_getElem (show 0 < M.length by omega))
  obtain ⟨qb, qo2, rfl, hQ⟩ := lies_some hq (List.getElem?_eq_getElem (show 0 < N.length by omega))
  have H := Lib.hid h
  have HP := Lib.hid hP
  have HQ := Lib.hid hQ
  have c1 : ∀ (sb : Nat) (W : World), LiesO W ao L → LiesI W pb po2 (fl M) → LiesI W qb qo2 (fl N) → W.cell? ⟨sb, 0, none⟩ = some (.slice (some ⟨pb, po2, none⟩) M.length pc) → W.cell? ⟨sb, 0 + 1, none⟩ = some (.slice (some ⟨qb, qo2, none⟩) N.length qc) → Calls Try.prog 62 #[.agg #[.int .i64 a, .int .i64 b, .int .i64 c, .slice ao L.length cap], .int .i64 ma, .slice (some ⟨sb, 0, none⟩) 2 2] W fun e w' => RetH W.heap.size n (row (arms a b c L L.length)) e w' ∧ Below W.heap.size W w' := fun sb W k1 k2 k3 k4 k5 => start2_ok a b c 0 ma ao (some ⟨pb, po2, none⟩) (some ⟨qb, qo2, none⟩) cap pc qc sb 0 L ns M N W k1 (.inr ⟨pb, po2, rfl, k2⟩) (.inr ⟨qb, qo2, rfl, k3⟩) k4 k5 hr h1 n hF hlm hln
  have c2 : ∀ W : World, LiesI W qb qo2 (fl N) → Calls Try.prog 54 #[.slice (some ⟨qb, qo2, none⟩) N.length qc, .int .i64 1048576] W fun e w' => e = .returned (.bool true) ∧ Below W.heap.size W w' := fun (W : World) k1 => isWithin7_any 1048576 (some ⟨qb, qo2, none⟩) N qc W true (.inr ⟨qb, qo2, rfl, k1⟩) (by decide) (by decide) hln (.inl ⟨h3, rfl⟩)
  have c3 := fun (W : World) (base g gc : Nat) (vs : Nat → Value) (k1 : Hp W base g n vs (row (arms a b c L L.length))) (k2 : LiesI W pb po2 (fl M)) => apply7_any a b c ma L base g n gc pb po2 pc vs M W hF him k1 k2 hmn
  have c4 : ∀ (W : World) (g1 k1 : Nat), LiesI W qb qo2 (fl N) → LiesI W g1 0 (fl (opL 1 ma n (arms a b c L L.length) M)) → Calls Try.prog 99 #[.slice (some ⟨qb, qo2, none⟩) n qc, .slice (some ⟨g1, 0, none⟩) n k1] W fun e w' => (∃ g k : Nat, e = .returned (.slice (some ⟨g, 0, none⟩) n k) ∧ IBox w' g (fl (remL ma n (arms a b c L L.length) M N)) ∧ W.heap.size ≤ g) ∧ Below W.heap.size W w' := fun W g1 k1 h1 h2 => by
    have := minus_any qb qo2 qc g1 0 k1 N (opL 1 ma n (arms a b c L L.length) M) W h1 h2 (by rw [opL_len]; omega) (by rw [opL_len, hnn]) (by rw [opL_len]; omega)
    rw [opL_len] at this
    exact this.mono fun e w' ⟨⟨g', k, he, hb, hg⟩, hw⟩ => ⟨⟨g', k, by rw [he, axp_len, hnn], hb, hg⟩, hw⟩
  rw [hmn, hnn] at c1 ⊢
  rw [hnn] at c2
  generalize remL ma n (arms a b c L L.length) M N = X at *
  clear h hp hq hr hv h1 h3 hF him hM hN hP hQ hll hmn hnn
  go_enter Try.func79, Try.ntmps79
  go_wp2_with (first | ((with_reducible refine (c1 _ _ (H.out.later (by repeat (first | (with_reducible exact Below.refl _ _) | (with_reducible refine Below.setCell ?_ ?_ _) | (with_reducible refine Below.drew ?_) | (with_reducible refine Below.alloc ?_ ?_ _) | omega | (simp <;> omega)))) (HP.out.later (by repeat (first | (with_reducible exact Below.refl _ _) | (with_reducible refine Below.setCell ?_ ?_ _) | (with_reducible refine Below.drew ?_) | (with_reducible refine Below.alloc ?_ ?_ _) | omega | (simp <;> omega)))) (HQ.out.later (by repeat (first | (with_reducible exact Below.refl _ _) | (with_reducible refine Below.setCell ?_ ?_ _) | (with_reducible refine Below.drew ?_) | (with_reducible refine Below.alloc ?_ ?_ _) | omega | (simp <;> omega)))) (by simp [go_sem]) (by simp [go_sem])).mono ?_); clear c1; rintro e w1 ⟨⟨g, vs, rfl, hH, hg⟩, hw1⟩; have HH := Lib.hid hH; have s1 := hw1.size; simp at s1; clear hH) | ((with_reducible refine (c2 _ (HQ.out.later (by repeat (first | (with_reducible exact Below.refl _ _) | (with_reducible refine Below.setCell ?_ ?_ _) | (with_reducible refine Below.drew ?_) | (with_reducible refine Below.alloc ?_ ?_ _) | (with_reducible refine Below.trans ?_ (Below.mono hw1 ?_)) | (with_reducible exact hw1.size) | omega | (simp <;> omega) | (simp <;> (have s := hw1.size; omega)) | (have s0 := hw1.size; (try simp at s0); (try simp); omega))))).mono ?_); clear c2; rintro e w2 ⟨rfl, hw2⟩))
  go_wp2_with ((with_reducible refine (c3 _ _ _ _ _ (HH.out.later hw2) (HP.out.later (by repeat (first | (with_reducible exact Below.refl _ _) | (with_reducible refine Below.setCell ?_ ?_ _) | (with_reducible refine Below.drew ?_) | (with_reducible refine Below.alloc ?_ ?_ _) | (with_reducible refine Below.trans ?_ (Below.mono hw2 ?_)) | (with_reducible refine Below.trans ?_ (Below.mono hw1 ?_)) | (with_reducible exact hw2.size) | (with_reducible exact hw1.size) | omega | (simp <;> omega) | (simp <;> (have s := hw2.size; omega)) | (simp <;> (have s := hw1.size; omega)) | (have s0 := hw2.size; (try simp at s0); have s1 := hw1.size; (try simp at s1); (try simp); omega))))).mono ?_); clear c3; rintro e w3 ⟨⟨g3, k3, rfl, hb3, hg3⟩, hw3⟩; have HB3 := Lib.hid hb3.liesI; clear hb3)
  go_wp2_with ((with_reducible refine (c4 _ _ _ (HQ.out.later (by repeat (first | (with_reducible exact Below.refl _ _) | (with_reducible refine Below.setCell ?_ ?_ _) | (with_reducible refine Below.drew ?_) | (with_reducible refine Below.alloc ?_ ?_ _) | (with_reducible refine Below.trans ?_ (Below.mono hw3 ?_)) | (with_reducible refine Below.trans ?_ (Below.mono hw2 ?_)) | (with_reducible refine Below.trans ?_ (Below.mono hw1 ?_)) | (with_reducible exact hw3.size) | (with_reducible exact hw2.size) | (with_reducible exact hw1.size) | omega | (simp <;> omega) | (simp <;> (have s := hw3.size; omega)) | (simp <;> (have s := hw2.size; omega)) | (simp <;> (have s := hw1.size; omega)) | (have s0 := hw3.size; (try simp at s0); have s1 := hw2.size; (try simp at s1); have s2 := hw1.size; (try simp at s2); (try simp); omega)))) HB3.out).mono ?_); clear c4; rintro e w4 ⟨⟨g4, k4, rfl, hb4, hg4⟩, hw4⟩; have HB4 := Lib.hid hb4; clear hb4)
  go_ret2
  exact ⟨⟨g4, k4, rfl, HB4.out, by have := hw2.size; have := hw3.size; omega⟩, by repeat (first | (with_reducible exact Below.refl _ _) | (with_reducible refine Below.setCell ?_ ?_ _) | (with_reducible refine Below.drew ?_) | (with_reducible refine Below.alloc ?_ ?_ _) | (with_reducible refine Below.trans ?_ (Below.mono hw4 ?_)) | (with_reducible refine Below.trans ?_ (Below.mono hw3 ?_)) | (with_reducible refine Below.trans ?_ (Below.mono hw2 ?_)) | (with_reducible refine Below.trans ?_ (Below.mono hw1 ?_)) | (with_reducible exact hw4.size) | (with_reducible exact hw3.size) | (with_reducible exact hw2.size) | (with_reducible exact hw1.size) | omega | (simp <;> omega) | (simp <;> (have s := hw4.size; omega)) | (simp <;> (have s := hw3.size; omega)) | (simp <;> (have s := hw2.size; omega)) | (simp <;> (have s := hw1.size; omega)) | (have s0 := hw4.size; (try simp at s0); have s1 := hw3.size; (try simp at s1); have s2 := hw2.size; (try simp at s2); have s3 := hw1.size; (try simp at s3); (try simp); omega))⟩
/-- what Residual answers where there is no error before: too large, or the vector and its square -/
def RetR7 (m n : Nat) (X : List Sp) (v : Int) (e : Ending) (w' : World) : Prop := ∃ g k : Nat, e = .returned (.tuple #[.slice (some ⟨g, 0, none⟩) n k, .int .i64 v, .int .i64 0]) ∧ LiesI w' g 0 (fl X) ∧ m ≤ g
set_option maxHeartbeats 1600000 in
theorem residual_bad (a b c r0 ma r : Int) (ao po qo : Option Addr) (cap pc qc : Nat) (L : List Q) (ns : List Int) (M N : List Sp) (w : World) (h : LiesO w ao L) (hp : LiesOI w po (fl M)) (hq : LiesOI w qo (fl N)) (hr : numsR a b c L ns r0) (hv : rmR L.length M N r0 ma r) (hne : r ≠ 0) (hlen : L.length ≤ 1000000) (hlm : M.length ≤ 1000000) (hln : N.length ≤ 1000000) : Calls Try.prog 42 #[.agg #[.int .i64 a, .int .i64 b, .int .i64 c, .slice ao L.length cap], .int .i64 ma, .slice po M.length pc, .slice qo N.length qc] w fun e w' => e = .returned (.tuple #[.slice none 0 0, .int .i64 0, .int .i64 r]) ∧ Below w.heap.size w w' := by
  have H := Lib.hid h
  have HP := Lib.hid hp
  have HQ := Lib.hid hq
  have c1 := fun (W : World) (h1 : LiesO W ao L) (h2 : LiesOI W po (fl M)) (h3 : LiesOI W qo (fl N)) => remainder_bad a b c r0 ma r ao po qo cap pc qc L ns M N W h1 h2 h3 hr hv hne hlen hlm hln
  have t1 : (r != 0) = true := by simpa using hne
  clear h hp hq hr hv hne
  go_enter Try.func42, Try.ntmps42
  go_wp2_with ((with_reducible refine (c1 _ (H.out.later (by repeat (first | (with_reducible exact Below.refl _ _) | (with_reducible refine Below.setCell ?_ ?_ _) | (with_reducible refine Below.drew ?_) | (with_reducible refine Below.alloc ?_ ?_ _) | omega | (simp <;> omega)))) (HP.out.later (by repeat (first | (with_reducible exact Below.refl _ _) | (with_reducible refine Below.setCell ?_ ?_ _) | (with_reducible refine Below.drew ?_) | (with_reducible refine Below.alloc ?_ ?_ _) | omega | (simp <;> omega)))) (HQ.out.later (by repeat (first | (with_reducible exact Below.refl _ _) | (with_reducible refine Below.setCell ?_ ?_ _) | (with_reducible refine Below.drew ?_) | (with_reducible refine Below.alloc ?_ ?_ _) | omega | (simp <;> omega))))).mono ?_); clear c1; rintro e w1 ⟨rfl, hw1⟩)
  go_ret3
  exact ⟨rfl, by repeat (first | (with_reducible exact Below.refl _ _) | (with_reducible refine Below.setCell ?_ ?_ _) | (with_reducible refine Below.drew ?_) | (with_reducible refine Below.alloc ?_ ?_ _) | (with_reducible refine Below.trans ?_ (Below.mono hw1 ?_)) | (with_reducible exact hw1.size) | omega | (simp <;> omega) | (simp <;> (have s := hw1.size; omega)) | (have s0 := hw1.size; (try simp at s0); (try simp); omega))⟩
set_option maxHeartbeats 1600000 in
theorem residual_large (a b c ma : Int) (ao po qo : Option Addr) (cap pc qc n : Nat) (L : List Q) (ns : List Int) (M N : List Sp) (w : World) (h : LiesO w ao L) (hp : LiesOI w po (fl M)) (hq : LiesOI w qo (fl N)) (hr : numsR a b c L ns 0) (hv : rmR L.length M N 0 ma 0) (hF : Fld7 a b c L n) (hlm : M.length ≤ 1000000) (hln : N.length ≤ 1000000) (hx : ¬ AllE mE (remL ma n (arms a b c L L.length) M N)) : Calls Try.prog 42 #[.agg #[.int .i64 a, .int .i64 b, .int .i64 c, .slice ao L.length cap], .int .i64 ma, .slice po M.length pc, .slice qo N.length qc] w fun e w' => e = .returned (.tuple #[.slice none 0 0, .int .i64 0, .int .i64 3]) ∧ Below w.heap.size w w' := by
  have H := Lib.hid h
  have HP := Lib.hid hp
  have HQ := Lib.hid hq
  have hps := hF.pos
  have c1 := fun (W : World) (h1 : LiesO W ao L) (h2 : LiesOI W po (fl M)) (h3 : LiesOI W qo (fl N)) => remainder_ok a b c ma ao po qo cap pc qc n L ns M N W h1 h2 h3 hr hv hF hlm hln
  have hxl : (remL ma n (arms a b c L L.length) M N).length = n := by
    have h1 := (ms2_ok (rmR_ok hv).1).2.2.2.1
    have := hF.l
    rw [remL_len]; omega
  generalize remL ma n (arms a b c L L.length) M N = X at *
  have c2 : ∀ (W : World) (g k : Nat), LiesI W g 0 (fl X) → Calls Try.prog 54 #[.slice (some ⟨g, 0, none⟩) n k, .int .i64 268435456] W fun e w' => e = .returned (.bool false) ∧ Below W.heap.size W w' := fun W g k h1 => by
    have := isWithin7_any 268435456 (some ⟨g, 0, none⟩) X k W false (.inr ⟨g, 0, rfl, h1⟩) (by decide) (by decide) (by omega) (.inr ⟨hx, rfl⟩)
    rwa [hxl] at this
  clear h hp hq hr hv hF hx hxl
  go_enter Try.func42, Try.ntmps42
  go_wp2_with (first | ((with_reducible refine (c1 _ (H.out.later (by repeat (first | (with_reducible exact Below.refl _ _) | (with_reducible refine Below.setCell ?_ ?_ _) | (with_reducible refine Below.drew ?_) | (with_reducible refine Below.alloc ?_ ?_ _) | omega | (simp <;> omega)))) (HP.out.later (by repeat (first | (with_reducible exact Below.refl _ _) | (with_reducible refine Below.setCell ?_ ?_ _) | (with_reducible refine Below.drew ?_) | (with_reducible refine Below.alloc ?_ ?_ _) | omega | (simp <;> omega)))) (HQ.out.later (by repeat (first | (with_reducible exact Below.refl _ _) | (with_reducible refine Below.setCell ?_ ?_ _) | (with_reducible refine Below.drew ?_) | (with_reducible refine Below.alloc ?_ ?_ _) | omega | (simp <;> omega))))).mono ?_); clear c1; rintro e w1 ⟨⟨g, k, rfl, hb, hg⟩, hw1⟩; have HB := Lib.hid hb.liesI; clear hb) | ((with_reducible refine (c2 _ _ _ HB.out).mono ?_); clear c2; rintro e w2 ⟨rfl, hw2⟩))
  go_ret3
  exact ⟨rfl, by repeat (first | (with_reducible exact Below.refl _ _) | (with_reducible refine Below.setCell ?_ ?_ _) | (with_reducible refine Below.drew ?_) | (with_reducible refine Below.alloc ?_ ?_ _) | (with_reducible refine Below.trans ?_ (Below.mono hw2 ?_)) | (with_reducible refine Below.trans ?_ (Below.mono hw1 ?_)) | (with_reducible exact hw2.size) | (with_reducible exact hw1.size) | omega | (simp <;> omega) | (simp <;> (have s := hw2.size; omega)) | (simp <;> (have s := hw1.size; omega)) | (have s0 := hw2.size; (try simp at s0); have s1 := hw1.size; (try simp at s1); (try simp); omega))⟩
set_option maxHeartbeats 1600000 in
theorem residual_ok (a b c ma : Int) (ao po qo : Option Addr) (cap pc qc n : Nat) (L : List Q) (ns : List Int) (M N : List Sp) (w : World) (h : LiesO w ao L) (hp : LiesOI w po (fl M)) (hq : LiesOI w qo (fl N)) (hr : numsR a b c L ns 0) (hv : rmR L.length M N 0 ma 0) (hF : Fld7 a b c L n) (hlm : M.length ≤ 1000000) (hln : N.length ≤ 1000000) (hx : AllE mE (remL ma n (arms a b c L L.length) M N)) : Calls Try.prog 42 #[.agg #[.int .i64 a, .int .i64 b, .int .i64 c, .slice ao L.length cap], .int .i64 ma, .slice po M.length pc, .slice qo N.length qc] w fun e w' => RetR7 w.heap.size n (remL ma n (arms a b c L L.length) M N) (wrap64 (dotL (remL ma n (arms a b c L L.length) M N) (remL ma n (arms a b c L L.length) M N))) e w' ∧ Below w.heap.size w w' := by
  have H := Lib.hid h
  have HP := Lib.hid hp
  have HQ := Lib.hid hq
  have hps := hF.pos
  have c1 := fun (W : World) (h1 : LiesO W ao L) (h2 : LiesOI W po (fl M)) (h3 : LiesOI W qo (fl N)) => remainder_ok a b c ma ao po qo cap pc qc n L ns M N W h1 h2 h3 hr hv hF hlm hln
  have hxl : (remL ma n (arms a b c L L.length) M N).length = n := by
    have h1 := (ms2_ok (rmR_ok hv).1).2.2.2.1
    have := hF.l
    rw [remL_len]; omega
  generalize remL ma n (arms a b c L L.length) M N = X at *
  have c2 : ∀ (W : World) (g k : Nat), LiesI W g 0 (fl X) → Calls Try.prog 54 #[.slice (some ⟨g, 0, none⟩) n k, .int .i64 268435456] W fun e w' => e = .returned (.bool true) ∧ Below W.heap.size W w' := fun W g k h1 => by
    have := isWithin7_any 268435456 (some ⟨g, 0, none⟩) X k W true (.inr ⟨g, 0, rfl, h1⟩) (by decide) (by decide) (by omega) (.inl ⟨hx, rfl⟩)
    rwa [hxl] at this
  have c3 : ∀ (W : World) (g k : Nat), LiesI W g 0 (fl X) → Calls Try.prog 67 #[.slice (some ⟨g, 0, none⟩) n k, .slice (some ⟨g, 0, none⟩) n k] W fun e w' => e = .returned (.int .i64 (wrap64 (dotL X X))) ∧ Below W.heap.size W w' := fun W g k h1 => by
    have := dot7_any (some ⟨g, 0, none⟩) (some ⟨g, 0, none⟩) k k X X W (.inr ⟨g, 0, rfl, h1⟩) (.inr ⟨g, 0, rfl, h1⟩) rfl (by omega)
    rwa [hxl] at this
  generalize wrap64 (dotL X X) = v at *
  clear h hp hq hr hv hF hx hxl
  go_enter Try.func42, Try.ntmps42
  go_wp2_with (first | ((with_reducible refine (c1 _ (H.out.later (by repeat (first | (with_reducible exact Below.refl _ _) | (with_reducible refine Below.setCell ?_ ?_ _) | (with_reducible refine Below.drew ?_) | (with_reducible refine Below.alloc ?_ ?_ _) | omega | (simp <;> omega)))) (HP.out.later (by repeat (first | (with_reducible exact Below.refl _ _) | (with_reducible refine Below.setCell ?_ ?_ _) | (with_reducible refine Below.drew ?_) | (with_reducible refine Below.alloc ?_ ?_ _) | omega | (simp <;> omega)))) (HQ.out.later (by repeat (first | (with_reducible exact Below.refl _ _) | (with_reducible refine Below.setCell ?_ ?_ _) | (with_reducible refine Below.drew ?_) | (with_reducible refine Below.alloc ?_ ?_ _) | omega | (simp <;> omega))))).mono ?_); clear c1; rintro e w1 ⟨⟨g, k, rfl, hb, hg⟩, hw1⟩; have HB := Lib.hid hb.liesI; clear hb; have s1 := hw1.size; simp at s1; simp at hg) | ((with_reducible refine (c2 _ _ _ HB.out).mono ?_); clear c2; rintro e w2 ⟨rfl, hw2⟩) | ((with_reducible refine (c3 _ _ _ (HB.out.later hw2)).mono ?_); clear c3; rintro e w3 ⟨rfl, hw3⟩))
  go_ret3
  exact ⟨⟨g, k, rfl, (HB.out.later hw2).later hw3, by omega⟩, by repeat (first | (with_reducible exact Below.refl _ _) | (with_reducible refine Below.setCell ?_ ?_ _) | (with_reducible refine Below.drew ?_) | (with_reducible refine Below.alloc ?_ ?_ _) | (with_reducible refine Below.trans ?_ (Below.mono hw3 ?_)) | (with_reducible refine Below.trans ?_ (Below.mono hw2 ?_)) | (with_reducible refine Below.trans ?_ (Below.mono hw1 ?_)) | (with_reducible exact hw3.size) | (with_reducible exact hw2.size) | (with_reducible exact hw1.size) | omega | (simp <;> omega) | (simp <;> (have s := hw3.size; omega)) | (simp <;> (have s := hw2.size; omega)) | (simp <;> (have s := hw1.size; omega)) | (have s0 := hw3.size; (try simp at s0); have s1 := hw2.size; (try simp at s1); have s2 := hw1.size; (try simp at s2); (try simp); omega))⟩
end Go.Proofs.Ytopffllomiojmaa
