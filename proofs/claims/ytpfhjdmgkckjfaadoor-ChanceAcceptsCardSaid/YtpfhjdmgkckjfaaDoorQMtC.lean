/- Metropolis of the program: the field behind a proposed turn.
Conditions: those written at each theorem. -/
import Derived.Test.YtpfhjdmgkckjfaaDoorQProC
import Derived.Test.YtpfhjdmgkckjfaaDoorQCpdC
namespace Go.Proofs.YtpfhjdmgkckjfaaDoor
set_option linter.unusedVariables false
set_option linter.unusedSimpArgs false
set_option maxRecDepth 1000000
open Go.RowKit
open Um Tm Cm

set_option maxHeartbeats 6400000 in
theorem met_bad (a b c p0 p1 p2 p3 p4 l x d r : Int) (ao : Option Addr) (cap : Nat) (L : List Q) (w : World)
    (hm : LiesO w ao L) (hr : r ≠ 0)
    (c1 : ∀ (W : World) (_ : LiesO W ao L), Calls Tryd.prog 19 #[.agg #[.int .i64 a, .int .i64 b, .int .i64 c, .slice ao L.length cap], .agg #[.int .i64 p0, .int .i64 p1, .int .i64 p2, .int .i64 p3, .int .i64 p4], .int .i64 l] W fun e w' => e = .returned (.int .i64 r) ∧ Below W.heap.size W w') : Calls Tryd.prog 11 #[.agg #[.int .i64 a, .int .i64 b, .int .i64 c, .slice ao L.length cap], .agg #[.int .i64 p0, .int .i64 p1, .int .i64 p2, .int .i64 p3, .int .i64 p4], .int .i64 l, .int .i64 x, .int .i64 d] w fun e w' => e = .returned (.tuple #[.agg #[.int .i64 0, .int .i64 0, .int .i64 0, .slice none 0 0], .bool false, .int .i64 r]) ∧ Below w.heap.size w w' := by
  have h0' : (r != 0) = true := by simpa using hr
  have h0'' : (r == 0) = false := by simpa using hr
  have H0 := Lib.hid hm
  clear hm hr
  go_enter Tryd.func11, Tryd.ntmps11
  go_wp2_with (fail)
  refine (c1 _ (H0.out.later ba3)).mono ?_
  rintro e w1 ⟨rfl, hw1⟩
  have bw1 : Below w.heap.size w w1 := bel3 hw1
  have F1 := Lib.hid (FW.n3a.later hw1)
  have E1 := Lib.hid (C5.n3b.later hw1)
  have Z1 := Lib.hid (FW.n3c.later hw1)
  have H1 := Lib.hid (H0.out.later bw1)
  have HB1 := Lib.hid bw1
  clear hw1 bw1 H0
  clear H1
  clear F1
  clear E1
  obtain ⟨z1_0, z1_1, z1_2, z1_3, z1_4, z1_5⟩ := Z1.out
  go_wp2
  refine bodyPost_ret (v := .tuple #[.agg #[.int .i64 0, .int .i64 0, .int .i64 0, .slice none 0 0], .bool false, .int .i64 r]) ?_ rfl ⟨rfl, ?_⟩
  · simp [results, Tryd.results11, go_sem, z1_0, z1_1, z1_2, z1_3, z1_5]
  · have hb := HB1.out
    repeat (first | (with_reducible exact Below.refl _ _) | (with_reducible refine Below.setCell ?_ ?_ _) | (with_reducible refine Below.drew ?_) | (with_reducible refine Below.alloc ?_ ?_ _) | (with_reducible refine Below.trans ?_ (Below.mono hb ?_)) | (with_reducible exact hb.size) | omega | (simp <;> omega) | (simp <;> (have s := hb.size; omega)) | (have s0 := hb.size; (try simp at s0); (try simp); omega))
set_option maxHeartbeats 6400000 in
theorem met_turn (a b c p0 p1 p2 p3 p4 l x d : Int) (ao : Option Addr) (cap : Nat) (L : List Q) (w : World)
    (hm : LiesO w ao L) (hx : ¬ (0 ≤ x ∧ x < 24))
    (c1 : ∀ (W : World) (_ : LiesO W ao L), Calls Tryd.prog 19 #[.agg #[.int .i64 a, .int .i64 b, .int .i64 c, .slice ao L.length cap], .agg #[.int .i64 p0, .int .i64 p1, .int .i64 p2, .int .i64 p3, .int .i64 p4], .int .i64 l] W fun e w' => e = .returned (.int .i64 0) ∧ Below W.heap.size W w') : Calls Tryd.prog 11 #[.agg #[.int .i64 a, .int .i64 b, .int .i64 c, .slice ao L.length cap], .agg #[.int .i64 p0, .int .i64 p1, .int .i64 p2, .int .i64 p3, .int .i64 p4], .int .i64 l, .int .i64 x, .int .i64 d] w fun e w' => e = .returned (.tuple #[.agg #[.int .i64 0, .int .i64 0, .int .i64 0, .slice none 0 0], .bool false, .int .i64 1]) ∧ Below w.heap.size w w' := by
  have k1 := fun W => isVal_any x false W (.inr ⟨hx, rfl⟩)
  have H0 := Lib.hid hm
  clear hm hx
  go_enter Tryd.func11, Tryd.ntmps11
  go_wp2_with (fail)
  refine (c1 _ (H0.out.later ba3)).mono ?_
  rintro e w1 ⟨rfl, hw1⟩
  have bw1 : Below w.heap.size w w1 := bel3 hw1
  have F1 := Lib.hid (FW.n3a.later hw1)
  have E1 := Lib.hid (C5.n3b.later hw1)
  have Z1 := Lib.hid (FW.n3c.later hw1)
  have H1 := Lib.hid (H0.out.later bw1)
  have HB1 := Lib.hid bw1
  clear hw1 bw1 H0
  clear H1
  clear F1
  clear E1
  go_wp2_with (fail)
  refine (k1 _).mono ?_
  rintro e w2 ⟨rfl, hw2⟩
  have bw2 : Below w1.heap.size w1 w2 := hw2
  have Z2 := Lib.hid (Z1.out.later bw2)
  have HB2 := Lib.hid (HB1.out.trans (bw2.mono HB1.out.size))
  clear hw2 bw2 Z1 HB1
  obtain ⟨z2_0, z2_1, z2_2, z2_3, z2_4, z2_5⟩ := Z2.out
  go_wp2
  refine bodyPost_ret (v := .tuple #[.agg #[.int .i64 0, .int .i64 0, .int .i64 0, .slice none 0 0], .bool false, .int .i64 1]) ?_ rfl ⟨rfl, ?_⟩
  · simp [results, Tryd.results11, go_sem, z2_0, z2_1, z2_2, z2_3, z2_5]
  · have hb := HB2.out
    repeat (first | (with_reducible exact Below.refl _ _) | (with_reducible refine Below.setCell ?_ ?_ _) | (with_reducible refine Below.drew ?_) | (with_reducible refine Below.alloc ?_ ?_ _) | (with_reducible refine Below.trans ?_ (Below.mono hb ?_)) | (with_reducible exact hb.size) | omega | (simp <;> omega) | (simp <;> (have s := hb.size; omega)) | (have s0 := hb.size; (try simp at s0); (try simp); omega))
set_option maxHeartbeats 6400000 in
theorem met_big (a b c p0 p1 p2 p3 p4 l x d be af : Int) (bl off cap : Nat) (v : Q) (L : List Q) (w : World)
    (hm : Lies w bl off L) (hst : StA w) (hx : 0 ≤ x ∧ x < 24) (hd0 : ¬ d < 0) (hd : d ≥ be)
    (c1 : ∀ (W : World) (_ : Lies W bl off L), Calls Tryd.prog 19 #[.agg #[.int .i64 a, .int .i64 b, .int .i64 c, .slice (some ⟨bl, off, none⟩) L.length cap], .agg #[.int .i64 p0, .int .i64 p1, .int .i64 p2, .int .i64 p3, .int .i64 p4], .int .i64 l] W fun e w' => e = .returned (.int .i64 0) ∧ Below W.heap.size W w')
    (cP : ∀ (W : World) (_ : Lies W bl off L) (_ : StA W), Calls Tryd.prog 27 #[.agg #[.int .i64 a, .int .i64 b, .int .i64 c, .slice (some ⟨bl, off, none⟩) L.length cap], .agg #[.int .i64 p0, .int .i64 p1, .int .i64 p2, .int .i64 p3, .int .i64 p4], .int .i64 l, .int .i64 x] W fun e w' => e = .returned (.tuple #[.agg #[.int .i64 v.a, .int .i64 v.b, .int .i64 v.c, .int .i64 v.d, .int .i64 v.n, .int .i64 be, .int .i64 af], .int .i64 0]) ∧ Below W.heap.size W w') : Calls Tryd.prog 11 #[.agg #[.int .i64 a, .int .i64 b, .int .i64 c, .slice (some ⟨bl, off, none⟩) L.length cap], .agg #[.int .i64 p0, .int .i64 p1, .int .i64 p2, .int .i64 p3, .int .i64 p4], .int .i64 l, .int .i64 x, .int .i64 d] w fun e w' => e = .returned (.tuple #[.agg #[.int .i64 0, .int .i64 0, .int .i64 0, .slice none 0 0], .bool false, .int .i64 1]) ∧ Below w.heap.size w w' := by
  have k1 := fun W => isVal_any x true W (.inl ⟨hx.1, hx.2, rfl⟩)
  have H0 := Lib.hid hm
  have S0 := Lib.hid hst
  clear hm hst hx
  go_enter Tryd.func11, Tryd.ntmps11
  go_wp2_with (fail)
  refine (c1 _ (H0.out.later ba3)).mono ?_
  rintro e w1 ⟨rfl, hw1⟩
  have bw1 : Below w.heap.size w w1 := bel3 hw1
  have F1 := Lib.hid (FW.n3a.later hw1)
  have E1 := Lib.hid (C5.n3b.later hw1)
  have Z1 := Lib.hid (FW.n3c.later hw1)
  have H1 := Lib.hid (H0.out.later bw1)
  have S1 := Lib.hid (S0.out.later bw1)
  have HB1 := Lib.hid bw1
  clear hw1 bw1 H0 S0
  go_wp2_with (fail)
  refine (k1 _).mono ?_
  rintro e w2 ⟨rfl, hw2⟩
  have bw2 : Below w1.heap.size w1 w2 := hw2
  have H2 := Lib.hid (H1.out.later bw2)
  have S2 := Lib.hid (S1.out.later bw2)
  have F2 := Lib.hid (F1.out.later bw2)
  have E2 := Lib.hid (E1.out.later bw2)
  have Z2 := Lib.hid (Z1.out.later bw2)
  have HB2 := Lib.hid (HB1.out.trans (bw2.mono HB1.out.size))
  clear hw2 bw2 H1 S1 F1 E1 Z1 HB1
  obtain ⟨f2_0, f2_1, f2_2, f2_3, f2_4, f2_5⟩ := F2.out
  obtain ⟨e2_0, e2_1, e2_2, e2_3, e2_4, e2_5, e2_6⟩ := E2.out
  go_wp2_with (fail)
  refine (cP _ (H2.out) (S2.out)).mono ?_
  rintro e w3 ⟨rfl, hw3⟩
  clear f2_0 f2_1 f2_2 f2_3 f2_4 f2_5 e2_0 e2_1 e2_2 e2_3 e2_4 e2_5 e2_6
  have bw3 : Below w2.heap.size w2 w3 := hw3
  have H3 := Lib.hid (H2.out.later bw3)
  have S3 := Lib.hid (S2.out.later bw3)
  have F3 := Lib.hid (F2.out.later bw3)
  have E3 := Lib.hid (E2.out.later bw3)
  have Z3 := Lib.hid (Z2.out.later bw3)
  have HB3 := Lib.hid (HB2.out.trans (bw3.mono HB2.out.size))
  clear hw3 bw3 H2 S2 F2 E2 Z2 HB2
  clear E3
  clear S3
  clear F3
  clear H3
  obtain ⟨z3_0, z3_1, z3_2, z3_3, z3_4, z3_5⟩ := Z3.out
  go_wp2
  refine bodyPost_ret (v := .tuple #[.agg #[.int .i64 0, .int .i64 0, .int .i64 0, .slice none 0 0], .bool false, .int .i64 1]) ?_ rfl ⟨rfl, ?_⟩
  · simp [results, Tryd.results11, go_sem, z3_0, z3_1, z3_2, z3_3, z3_5]
  · have hb := HB3.out
    repeat (first | (with_reducible exact Below.refl _ _) | (with_reducible refine Below.setCell ?_ ?_ _) | (with_reducible refine Below.drew ?_) | (with_reducible refine Below.alloc ?_ ?_ _) | (with_reducible refine Below.trans ?_ (Below.mono hb ?_)) | (with_reducible exact hb.size) | omega | (simp <;> omega) | (simp <;> (have s := hb.size; omega)) | (have s0 := hb.size; (try simp at s0); (try simp); omega))
set_option maxHeartbeats 6400000 in
theorem met_no (a b c p0 p1 p2 p3 p4 l x d be af : Int) (bl off cap n : Nat) (v : Q) (L : List Q) (w : World)
    (hm : Lies w bl off L) (hst : StA w) (hx : 0 ≤ x ∧ x < 24) (hl : l = n) (hn : n < L.length) (hlen : L.length ≤ 100) (hd0 : ¬ d < 0) (hd : ¬ d ≥ be) (ha : ¬ d < af)
    (c1 : ∀ (W : World) (_ : Lies W bl off L), Calls Tryd.prog 19 #[.agg #[.int .i64 a, .int .i64 b, .int .i64 c, .slice (some ⟨bl, off, none⟩) L.length cap], .agg #[.int .i64 p0, .int .i64 p1, .int .i64 p2, .int .i64 p3, .int .i64 p4], .int .i64 l] W fun e w' => e = .returned (.int .i64 0) ∧ Below W.heap.size W w')
    (cP : ∀ (W : World) (_ : Lies W bl off L) (_ : StA W), Calls Tryd.prog 27 #[.agg #[.int .i64 a, .int .i64 b, .int .i64 c, .slice (some ⟨bl, off, none⟩) L.length cap], .agg #[.int .i64 p0, .int .i64 p1, .int .i64 p2, .int .i64 p3, .int .i64 p4], .int .i64 l, .int .i64 x] W fun e w' => e = .returned (.tuple #[.agg #[.int .i64 v.a, .int .i64 v.b, .int .i64 v.c, .int .i64 v.d, .int .i64 v.n, .int .i64 be, .int .i64 af], .int .i64 0]) ∧ Below W.heap.size W w') : Calls Tryd.prog 11 #[.agg #[.int .i64 a, .int .i64 b, .int .i64 c, .slice (some ⟨bl, off, none⟩) L.length cap], .agg #[.int .i64 p0, .int .i64 p1, .int .i64 p2, .int .i64 p3, .int .i64 p4], .int .i64 l, .int .i64 x, .int .i64 d] w fun e w' => (∃ g gk : Nat, e = .returned (.tuple #[.agg #[.int .i64 a, .int .i64 b, .int .i64 c, .slice (some ⟨g, 0, none⟩) L.length gk], .bool false, .int .i64 0]) ∧ LBox w' g (L) ∧ w.heap.size ≤ g) ∧ Below w.heap.size w w' := by
  have cC := fun (W : World) (k : Lies W bl off L) => copied5_any a b c bl off cap L W k (by omega) hlen
  have cA := fun (W : World) => accepts_any v be af d false W (.inr ⟨ha, rfl⟩)
  have hxx : L[n]? = some L[n] := List.getElem?_eq_getElem hn
  have HX := Lib.hid hxx
  have k1 := fun W => isVal_any x true W (.inl ⟨hx.1, hx.2, rfl⟩)
  have H0 := Lib.hid hm
  have S0 := Lib.hid hst
  clear hm hst hx
  subst hl
  have i1 : (n : Int) < (L.length : Int) := by omega
  clear hxx
  generalize L[n] = xq at *
  go_enter Tryd.func11, Tryd.ntmps11
  go_wp2_with (fail)
  refine (c1 _ (H0.out.later ba3)).mono ?_
  rintro e w1 ⟨rfl, hw1⟩
  have bw1 : Below w.heap.size w w1 := bel3 hw1
  have F1 := Lib.hid (FW.n3a.later hw1)
  have E1 := Lib.hid (C5.n3b.later hw1)
  have Z1 := Lib.hid (FW.n3c.later hw1)
  have H1 := Lib.hid (H0.out.later bw1)
  have S1 := Lib.hid (S0.out.later bw1)
  have HB1 := Lib.hid bw1
  clear hw1 bw1 H0 S0
  go_wp2_with (fail)
  refine (k1 _).mono ?_
  rintro e w2 ⟨rfl, hw2⟩
  have bw2 : Below w1.heap.size w1 w2 := hw2
  have H2 := Lib.hid (H1.out.later bw2)
  have S2 := Lib.hid (S1.out.later bw2)
  have F2 := Lib.hid (F1.out.later bw2)
  have E2 := Lib.hid (E1.out.later bw2)
  have Z2 := Lib.hid (Z1.out.later bw2)
  have HB2 := Lib.hid (HB1.out.trans (bw2.mono HB1.out.size))
  clear hw2 bw2 H1 S1 F1 E1 Z1 HB1
  obtain ⟨f2_0, f2_1, f2_2, f2_3, f2_4, f2_5⟩ := F2.out
  obtain ⟨e2_0, e2_1, e2_2, e2_3, e2_4, e2_5, e2_6⟩ := E2.out
  go_wp2_with (fail)
  refine (cP _ (H2.out) (S2.out)).mono ?_
  rintro e w3 ⟨rfl, hw3⟩
  clear f2_0 f2_1 f2_2 f2_3 f2_4 f2_5 e2_0 e2_1 e2_2 e2_3 e2_4 e2_5 e2_6
  have bw3 : Below w2.heap.size w2 w3 := hw3
  have H3 := Lib.hid (H2.out.later bw3)
  have S3 := Lib.hid (S2.out.later bw3)
  have F3 := Lib.hid (F2.out.later bw3)
  have E3 := Lib.hid (E2.out.later bw3)
  have Z3 := Lib.hid (Z2.out.later bw3)
  have HB3 := Lib.hid (HB2.out.trans (bw3.mono HB2.out.size))
  clear hw3 bw3 H2 S2 F2 E2 Z2 HB2
  clear E3
  clear S3
  obtain ⟨f3_0, f3_1, f3_2, f3_3, f3_4, f3_5⟩ := F3.out
  go_wp2_with (fail)
  refine (cC _ (H3.out.later ba1)).mono ?_
  rintro e w4 ⟨⟨g, gk, rfl, hG, hge⟩, hw4⟩
  have hgz := Z3.out.lt
  have hgg : w.heap.size + 1 + 1 < g := Nat.lt_of_lt_of_le hgz (Nat.le_trans (by simp) hge)
  have hgo0 := hG.lt
  have Q4 := Lib.hid ((ABx.news (w := w3) (T := 77) #[.int .i64 v.a, .int .i64 v.b, .int .i64 v.c, .int .i64 v.d, .int .i64 v.n, .int .i64 be, .int .i64 af]).later hw4)
  clear hgz hge
  clear f3_0 f3_1 f3_2 f3_3 f3_4 f3_5
  have bw4 : Below w3.heap.size w3 w4 := bel1 hw4
  have H4 := Lib.hid (H3.out.later bw4)
  have F4 := Lib.hid (F3.out.later bw4)
  have Z4 := Lib.hid (Z3.out.later bw4)
  have HB4 := Lib.hid (HB3.out.trans (bw4.mono HB3.out.size))
  have G4 := Lib.hid hG
  clear hG
  clear hw4 bw4 H3 F3 Z3 HB3
  clear H4
  clear F4
  have q0 : w4.cell? ⟨w3.heap.size, 0, none⟩ = some (.int .i64 v.a) := Q4.out.cell 0
  have q1 : w4.cell? ⟨w3.heap.size, 1, none⟩ = some (.int .i64 v.b) := Q4.out.cell 1
  have q2 : w4.cell? ⟨w3.heap.size, 2, none⟩ = some (.int .i64 v.c) := Q4.out.cell 2
  have q3 : w4.cell? ⟨w3.heap.size, 3, none⟩ = some (.int .i64 v.d) := Q4.out.cell 3
  have q4 : w4.cell? ⟨w3.heap.size, 4, none⟩ = some (.int .i64 v.n) := Q4.out.cell 4
  have q5 : w4.cell? ⟨w3.heap.size, 5, none⟩ = some (.int .i64 be) := Q4.out.cell 5
  have q6 : w4.cell? ⟨w3.heap.size, 6, none⟩ = some (.int .i64 af) := Q4.out.cell 6
  have ql : w3.heap.size < w4.heap.size := Q4.out.lt
  go_wp2_with (fail)
  refine (cA _).mono ?_
  rintro e w5 ⟨rfl, hw5⟩
  clear q0 q1 q2 q3 q4 q5 q6 ql
  have bw5 : Below w4.heap.size w4 w5 := bel1 hw5
  have O5 := Lib.hid (FW.n1.later hw5)
  have Z5 := Lib.hid (Z4.out.later bw5)
  have G5 := Lib.hid (G4.out.later bw5)
  have Q5 := Lib.hid (Q4.out.later bw5)
  have HB5 := Lib.hid (HB4.out.trans (bw5.mono HB4.out.size))
  clear hw5 bw5 Z4 G4 Q4 HB4
  obtain ⟨o5_0, o5_1, o5_2, o5_3, o5_4, o5_5⟩ := O5.out
  obtain ⟨z5_0, z5_1, z5_2, z5_3, z5_4, z5_5⟩ := Z5.out
  clear Q5
  go_wp2
  have hb := HB5.out
  have GZ := grown_setCells (w.heap.size + 1 + 1) [.int .i64 a, .int .i64 b, .int .i64 c, .slice (some ⟨g, 0, none⟩) L.length gk] 0 w5
  refine bodyPost_ret (v := .tuple #[.agg #[.int .i64 a, .int .i64 b, .int .i64 c, .slice (some ⟨g, 0, none⟩) L.length gk], .bool false, .int .i64 0]) ?_ rfl ⟨⟨g, gk, rfl, G5.out.grown GZ (by simp; omega), by omega⟩, hb.grown GZ hb.size (fun j hj => by cases hj; omega)⟩
  simp [results, Tryd.results11, go_sem, z5_0, z5_1, z5_2, z5_3, z5_5]
set_option maxHeartbeats 6400000 in
theorem met_yes (a b c p0 p1 p2 p3 p4 l x d be af : Int) (bl off cap n : Nat) (v : Q) (L : List Q) (w : World)
    (hm : Lies w bl off L) (hst : StA w) (hx : 0 ≤ x ∧ x < 24) (hl : l = n) (hn : n < L.length) (hlen : L.length ≤ 100) (hd0 : ¬ d < 0) (hd : ¬ d ≥ be) (ha : d < af)
    (c1 : ∀ (W : World) (_ : Lies W bl off L), Calls Tryd.prog 19 #[.agg #[.int .i64 a, .int .i64 b, .int .i64 c, .slice (some ⟨bl, off, none⟩) L.length cap], .agg #[.int .i64 p0, .int .i64 p1, .int .i64 p2, .int .i64 p3, .int .i64 p4], .int .i64 l] W fun e w' => e = .returned (.int .i64 0) ∧ Below W.heap.size W w')
    (cP : ∀ (W : World) (_ : Lies W bl off L) (_ : StA W), Calls Tryd.prog 27 #[.agg #[.int .i64 a, .int .i64 b, .int .i64 c, .slice (some ⟨bl, off, none⟩) L.length cap], .agg #[.int .i64 p0, .int .i64 p1, .int .i64 p2, .int .i64 p3, .int .i64 p4], .int .i64 l, .int .i64 x] W fun e w' => e = .returned (.tuple #[.agg #[.int .i64 v.a, .int .i64 v.b, .int .i64 v.c, .int .i64 v.d, .int .i64 v.n, .int .i64 be, .int .i64 af], .int .i64 0]) ∧ Below W.heap.size W w') : Calls Tryd.prog 11 #[.agg #[.int .i64 a, .int .i64 b, .int .i64 c, .slice (some ⟨bl, off, none⟩) L.length cap], .agg #[.int .i64 p0, .int .i64 p1, .int .i64 p2, .int .i64 p3, .int .i64 p4], .int .i64 l, .int .i64 x, .int .i64 d] w fun e w' => (∃ g gk : Nat, e = .returned (.tuple #[.agg #[.int .i64 a, .int .i64 b, .int .i64 c, .slice (some ⟨g, 0, none⟩) L.length gk], .bool true, .int .i64 0]) ∧ LBox w' g (L.set n v) ∧ w.heap.size ≤ g) ∧ Below w.heap.size w w' := by
  have cC := fun (W : World) (k : Lies W bl off L) => copied5_any a b c bl off cap L W k (by omega) hlen
  have cA := fun (W : World) => accepts_any v be af d true W (.inl ⟨ha, rfl⟩)
  have hxx : L[n]? = some L[n] := List.getElem?_eq_getElem hn
  have HX := Lib.hid hxx
  have k1 := fun W => isVal_any x true W (.inl ⟨hx.1, hx.2, rfl⟩)
  have H0 := Lib.hid hm
  have S0 := Lib.hid hst
  clear hm hst hx
  subst hl
  have i1 : (n : Int) < (L.length : Int) := by omega
  clear hxx
  generalize L[n] = xq at *
  go_enter Tryd.func11, Tryd.ntmps11
  go_wp2_with (fail)
  refine (c1 _ (H0.out.later ba3)).mono ?_
  rintro e w1 ⟨rfl, hw1⟩
  have bw1 : Below w.heap.size w w1 := bel3 hw1
  have F1 := Lib.hid (FW.n3a.later hw1)
  have E1 := Lib.hid (C5.n3b.later hw1)
  have Z1 := Lib.hid (FW.n3c.later hw1)
  have H1 := Lib.hid (H0.out.later bw1)
  have S1 := Lib.hid (S0.out.later bw1)
  have HB1 := Lib.hid bw1
  clear hw1 bw1 H0 S0
  go_wp2_with (fail)
  refine (k1 _).mono ?_
  rintro e w2 ⟨rfl, hw2⟩
  have bw2 : Below w1.heap.size w1 w2 := hw2
  have H2 := Lib.hid (H1.out.later bw2)
  have S2 := Lib.hid (S1.out.later bw2)
  have F2 := Lib.hid (F1.out.later bw2)
  have E2 := Lib.hid (E1.out.later bw2)
  have Z2 := Lib.hid (Z1.out.later bw2)
  have HB2 := Lib.hid (HB1.out.trans (bw2.mono HB1.out.size))
  clear hw2 bw2 H1 S1 F1 E1 Z1 HB1
  obtain ⟨f2_0, f2_1, f2_2, f2_3, f2_4, f2_5⟩ := F2.out
  obtain ⟨e2_0, e2_1, e2_2, e2_3, e2_4, e2_5, e2_6⟩ := E2.out
  go_wp2_with (fail)
  refine (cP _ (H2.out) (S2.out)).mono ?_
  rintro e w3 ⟨rfl, hw3⟩
  clear f2_0 f2_1 f2_2 f2_3 f2_4 f2_5 e2_0 e2_1 e2_2 e2_3 e2_4 e2_5 e2_6
  have bw3 : Below w2.heap.size w2 w3 := hw3
  have H3 := Lib.hid (H2.out.later bw3)
  have S3 := Lib.hid (S2.out.later bw3)
  have F3 := Lib.hid (F2.out.later bw3)
  have E3 := Lib.hid (E2.out.later bw3)
  have Z3 := Lib.hid (Z2.out.later bw3)
  have HB3 := Lib.hid (HB2.out.trans (bw3.mono HB2.out.size))
  clear hw3 bw3 H2 S2 F2 E2 Z2 HB2
  clear E3
  clear S3
  obtain ⟨f3_0, f3_1, f3_2, f3_3, f3_4, f3_5⟩ := F3.out
  go_wp2_with (fail)
  refine (cC _ (H3.out.later ba1)).mono ?_
  rintro e w4 ⟨⟨g, gk, rfl, hG, hge⟩, hw4⟩
  have hgz := Z3.out.lt
  have hgg : w.heap.size + 1 + 1 < g := Nat.lt_of_lt_of_le hgz (Nat.le_trans (by simp) hge)
  have hgo0 := hG.lt
  have Q4 := Lib.hid ((ABx.news (w := w3) (T := 77) #[.int .i64 v.a, .int .i64 v.b, .int .i64 v.c, .int .i64 v.d, .int .i64 v.n, .int .i64 be, .int .i64 af]).later hw4)
  clear hgz hge
  clear f3_0 f3_1 f3_2 f3_3 f3_4 f3_5
  have bw4 : Below w3.heap.size w3 w4 := bel1 hw4
  have H4 := Lib.hid (H3.out.later bw4)
  have F4 := Lib.hid (F3.out.later bw4)
  have Z4 := Lib.hid (Z3.out.later bw4)
  have HB4 := Lib.hid (HB3.out.trans (bw4.mono HB3.out.size))
  have G4 := Lib.hid hG
  clear hG
  clear hw4 bw4 H3 F3 Z3 HB3
  clear H4
  clear F4
  have q0 : w4.cell? ⟨w3.heap.size, 0, none⟩ = some (.int .i64 v.a) := Q4.out.cell 0
  have q1 : w4.cell? ⟨w3.heap.size, 1, none⟩ = some (.int .i64 v.b) := Q4.out.cell 1
  have q2 : w4.cell? ⟨w3.heap.size, 2, none⟩ = some (.int .i64 v.c) := Q4.out.cell 2
  have q3 : w4.cell? ⟨w3.heap.size, 3, none⟩ = some (.int .i64 v.d) := Q4.out.cell 3
  have q4 : w4.cell? ⟨w3.heap.size, 4, none⟩ = some (.int .i64 v.n) := Q4.out.cell 4
  have q5 : w4.cell? ⟨w3.heap.size, 5, none⟩ = some (.int .i64 be) := Q4.out.cell 5
  have q6 : w4.cell? ⟨w3.heap.size, 6, none⟩ = some (.int .i64 af) := Q4.out.cell 6
  have ql : w3.heap.size < w4.heap.size := Q4.out.lt
  go_wp2_with (fail)
  refine (cA _).mono ?_
  rintro e w5 ⟨rfl, hw5⟩
  clear q0 q1 q2 q3 q4 q5 q6 ql
  have bw5 : Below w4.heap.size w4 w5 := bel1 hw5
  have O5 := Lib.hid (FW.n1.later hw5)
  have Z5 := Lib.hid (Z4.out.later bw5)
  have G5 := Lib.hid (G4.out.later bw5)
  have Q5 := Lib.hid (Q4.out.later bw5)
  have HB5 := Lib.hid (HB4.out.trans (bw5.mono HB4.out.size))
  clear hw5 bw5 Z4 G4 Q4 HB4
  obtain ⟨o5_0, o5_1, o5_2, o5_3, o5_4, o5_5⟩ := O5.out
  obtain ⟨z5_0, z5_1, z5_2, z5_3, z5_4, z5_5⟩ := Z5.out
  have q0 : w5.cell? ⟨w3.heap.size, 0, none⟩ = some (.int .i64 v.a) := Q5.out.cell 0
  have q1 : w5.cell? ⟨w3.heap.size, 1, none⟩ = some (.int .i64 v.b) := Q5.out.cell 1
  have q2 : w5.cell? ⟨w3.heap.size, 2, none⟩ = some (.int .i64 v.c) := Q5.out.cell 2
  have q3 : w5.cell? ⟨w3.heap.size, 3, none⟩ = some (.int .i64 v.d) := Q5.out.cell 3
  have q4 : w5.cell? ⟨w3.heap.size, 4, none⟩ = some (.int .i64 v.n) := Q5.out.cell 4
  obtain ⟨l0, l1, l2, l3, l4⟩ := G5.out.at HX.out
  have lf := G5.out.free
  have ll := G5.out.lt
  have n1 : ¬ g = w.heap.size + 1 + 1 := by omega
  have n2 : ¬ w.heap.size + 1 + 1 = g := by omega
  have n3 : ¬ g = w4.heap.size := by omega
  have n4 : ¬ w4.heap.size = g := by omega
  have G1 := grown_setCells g (uc v) (n * 5) w5
  have L1 := G5.out.put n hn v
  have hb := HB5.out
  have hb1 := hb.grown G1 hb.size (fun j hj => by cases hj; omega)
  have GZ := grown_setCells (w.heap.size + 1 + 1) [.int .i64 a, .int .i64 b, .int .i64 c, .slice (some ⟨g, 0, none⟩) L.length gk] 0 (w5.setCells g (n * 5) (uc v))
  have L2 := Lib.hid (L1.grown GZ (by simp; omega))
  have hb2 := Lib.hid (hb1.grown GZ hb1.size (fun j hj => by cases hj; omega))
  clear G1 L1 hb hb1 GZ
  go_wp2
  refine bodyPost_ret (v := .tuple #[.agg #[.int .i64 a, .int .i64 b, .int .i64 c, .slice (some ⟨g, 0, none⟩) L.length gk], .bool true, .int .i64 0]) ?_ rfl ⟨⟨g, gk, rfl, L2.out, by omega⟩, hb2.out⟩
  simp [results, Tryd.results11, go_sem, z5_0, z5_1, z5_2, z5_3, z5_5, n1, n2]
end Go.Proofs.YtpfhjdmgkckjfaaDoor
