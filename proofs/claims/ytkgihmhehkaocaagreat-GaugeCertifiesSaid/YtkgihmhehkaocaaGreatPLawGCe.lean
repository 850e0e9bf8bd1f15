/- GaugeCertifies: which fields are equivalent is what the document says, and the certificate that is returned has small elements and is accepted, for all fields.
Conditions: none. -/
import Derived.Test.YtkgihmhehkaocaaGreatPTopH
import Derived.Test.YtkgihmhehkaocaaGreatPTopD
import Derived.Test.YtkgihmhehkaocaaGreatPTopA
namespace Go.Proofs.YtkgihmhehkaocaaGreat
set_option linter.unusedVariables false
set_option linter.unusedSimpArgs false
set_option maxRecDepth 1000000
open Go.ChangeShapes Go.WideShapes Go.ChangeAt Go.RowKit
open Um Tm

set_option maxHeartbeats 3200000 in
theorem gCe_l1 (a b c a' b' c' : Int) (ao bo : Option Addr) (cap cap' : Nat) (L M : List Q) (w : World) (h : 200 < L.length) : Calls Tryz.prog 3 #[.agg #[.int .i64 a, .int .i64 b, .int .i64 c, .slice ao L.length cap], .agg #[.int .i64 a', .int .i64 b', .int .i64 c', .slice bo M.length cap']] w fun e w' => e = .returned (.bool true) ∧ Below w.heap.size w w' := by
  have kn := sane4_any
  have c0 := fun W : World => long4_any a b c ao cap L true W (.inl ⟨h, rfl⟩)
  go_enter Tryz.func3, Tryz.ntmps3
  go_wp2_with (fail)
  refine (c0 _).mono ?_
  rintro e w1 ⟨rfl, hw1⟩
  have bw1 : Below w.heap.size w w1 := bel2 hw1
  have F1 := Lib.hid (FW.n2a.later hw1)
  have E1 := Lib.hid (FW.n2b.later hw1)
  have HB1 := Lib.hid bw1
  clear hw1 bw1
  go_wp2_with (fail)
  refine (kn _).mono ?_
  rintro e w2 ⟨rfl, hw2⟩
  have bw2 : Below w1.heap.size w1 w2 := hw2
  have F2 := Lib.hid (F1.out.later bw2)
  have E2 := Lib.hid (E1.out.later bw2)
  have HB2 := Lib.hid (HB1.out.trans (bw2.mono HB1.out.size))
  clear hw2 bw2 F1 E1 HB1
  go_wp2
  go_ret
  exact ⟨rfl, HB2.out⟩
set_option maxHeartbeats 3200000 in
theorem gCe_l2 (a b c a' b' c' : Int) (ao bo : Option Addr) (cap cap' : Nat) (L M : List Q) (w : World) (h : L.length ≤ 200) (h2 : 200 < M.length) : Calls Tryz.prog 3 #[.agg #[.int .i64 a, .int .i64 b, .int .i64 c, .slice ao L.length cap], .agg #[.int .i64 a', .int .i64 b', .int .i64 c', .slice bo M.length cap']] w fun e w' => e = .returned (.bool true) ∧ Below w.heap.size w w' := by
  have kn := sane4_any
  have c0 := fun W : World => long4_any a b c ao cap L false W (.inr ⟨h, rfl⟩)
  have d0 := fun W : World => long4_any a' b' c' bo cap' M true W (.inl ⟨h2, rfl⟩)
  go_enter Tryz.func3, Tryz.ntmps3
  go_wp2_with (fail)
  refine (c0 _).mono ?_
  rintro e w1 ⟨rfl, hw1⟩
  have bw1 : Below w.heap.size w w1 := bel2 hw1
  have F1 := Lib.hid (FW.n2a.later hw1)
  have E1 := Lib.hid (FW.n2b.later hw1)
  have HB1 := Lib.hid bw1
  clear hw1 bw1
  obtain ⟨e1_0, e1_1, e1_2, e1_3, e1_4, e1_5⟩ := E1.out
  go_wp2_with (fail)
  refine (d0 _).mono ?_
  rintro e w2 ⟨rfl, hw2⟩
  clear e1_0 e1_1 e1_2 e1_3 e1_4 e1_5
  have bw2 : Below w1.heap.size w1 w2 := hw2
  have F2 := Lib.hid (F1.out.later bw2)
  have E2 := Lib.hid (E1.out.later bw2)
  have HB2 := Lib.hid (HB1.out.trans (bw2.mono HB1.out.size))
  clear hw2 bw2 F1 E1 HB1
  go_wp2_with (fail)
  refine (kn _).mono ?_
  rintro e w3 ⟨rfl, hw3⟩
  have bw3 : Below w2.heap.size w2 w3 := hw3
  have F3 := Lib.hid (F2.out.later bw3)
  have E3 := Lib.hid (E2.out.later bw3)
  have HB3 := Lib.hid (HB2.out.trans (bw3.mono HB2.out.size))
  clear hw3 bw3 F2 E2 HB2
  go_wp2
  go_ret
  exact ⟨rfl, HB3.out⟩
set_option maxHeartbeats 3200000 in
theorem gCe_x (a b c a' b' c' : Int) (ao bo : Option Addr) (cap cap' : Nat) (L M : List Q) (w : World) (k1 : L.length ≤ 200) (k2 : M.length ≤ 200) (hm : LiesO w ao L) (hn : LiesO w bo M)
    (c1 : ∀ (W : World), LiesO W ao L → LiesO W bo M → Calls Tryz.prog 8 #[.agg #[.int .i64 a, .int .i64 b, .int .i64 c, .slice ao L.length cap], .agg #[.int .i64 a', .int .i64 b', .int .i64 c', .slice bo M.length cap']] W fun e w' => False ∧ Below W.heap.size W w') : Calls Tryz.prog 3 #[.agg #[.int .i64 a, .int .i64 b, .int .i64 c, .slice ao L.length cap], .agg #[.int .i64 a', .int .i64 b', .int .i64 c', .slice bo M.length cap']] w fun e w' => e = .returned (.bool true) ∧ Below w.heap.size w w' := by
  have c0 := fun W : World => long4_any a b c ao cap L false W (.inr ⟨k1, rfl⟩)
  have d0 := fun W : World => long4_any a' b' c' bo cap' M false W (.inr ⟨k2, rfl⟩)
  have H0 := Lib.hid hm
  have K0 := Lib.hid hn
  clear hm hn k1 k2
  go_enter Tryz.func3, Tryz.ntmps3
  go_wp2_with (fail)
  refine (c0 _).mono ?_
  rintro e w1 ⟨rfl, hw1⟩
  have bw1 : Below w.heap.size w w1 := bel2 hw1
  have F1 := Lib.hid (FW.n2a.later hw1)
  have E1 := Lib.hid (FW.n2b.later hw1)
  have H1 := Lib.hid (H0.out.later bw1)
  have K1 := Lib.hid (K0.out.later bw1)
  have HB1 := Lib.hid bw1
  clear hw1 bw1 H0 K0
  obtain ⟨e1_0, e1_1, e1_2, e1_3, e1_4, e1_5⟩ := E1.out
  go_wp2_with (fail)
  refine (d0 _).mono ?_
  rintro e w2 ⟨rfl, hw2⟩
  clear e1_0 e1_1 e1_2 e1_3 e1_4 e1_5
  have bw2 : Below w1.heap.size w1 w2 := hw2
  have H2 := Lib.hid (H1.out.later bw2)
  have K2 := Lib.hid (K1.out.later bw2)
  have F2 := Lib.hid (F1.out.later bw2)
  have E2 := Lib.hid (E1.out.later bw2)
  have HB2 := Lib.hid (HB1.out.trans (bw2.mono HB1.out.size))
  clear hw2 bw2 H1 K1 F1 E1 HB1
  obtain ⟨f2_0, f2_1, f2_2, f2_3, f2_4, f2_5⟩ := F2.out
  obtain ⟨e2_0, e2_1, e2_2, e2_3, e2_4, e2_5⟩ := E2.out
  go_wp2_with (fail)
  refine (c1 _ H2.out K2.out).mono ?_
  rintro e w3 ⟨hF, -⟩
  exact hF.elim
set_option maxHeartbeats 6400000 in
theorem gCe_n (a b c a' b' c' r : Int) (ao bo : Option Addr) (cap cap' : Nat) (L M : List Q) (w : World) (k1 : L.length ≤ 200) (k2 : M.length ≤ 200) (hm : LiesO w ao L) (hn : LiesO w bo M)
    (c1 : ∀ (W : World), LiesO W ao L → LiesO W bo M → Calls Tryz.prog 8 #[.agg #[.int .i64 a, .int .i64 b, .int .i64 c, .slice ao L.length cap], .agg #[.int .i64 a', .int .i64 b', .int .i64 c', .slice bo M.length cap']] W fun e w' => e = .returned (.tuple #[.bool false, .int .i64 r]) ∧ Below W.heap.size W w')
    (c2 : ∀ (W : World), LiesO W ao L → LiesO W bo M → Calls Tryz.prog 9 #[.agg #[.int .i64 a, .int .i64 b, .int .i64 c, .slice ao L.length cap], .agg #[.int .i64 a', .int .i64 b', .int .i64 c', .slice bo M.length cap']] W fun e w' => e = .returned (.tuple #[.bool false, .int .i64 r]) ∧ Below W.heap.size W w')
    (c3 : ∀ (W : World), LiesO W ao L → LiesO W bo M → Calls Tryz.prog 10 #[.agg #[.int .i64 a, .int .i64 b, .int .i64 c, .slice ao L.length cap], .agg #[.int .i64 a', .int .i64 b', .int .i64 c', .slice bo M.length cap']] W fun e w' => e = .returned (.tuple #[.agg #[.int .i64 0, .int .i64 0, .int .i64 0, .int .i64 0], .bool false, .int .i64 r]) ∧ Below W.heap.size W w') : Calls Tryz.prog 3 #[.agg #[.int .i64 a, .int .i64 b, .int .i64 c, .slice ao L.length cap], .agg #[.int .i64 a', .int .i64 b', .int .i64 c', .slice bo M.length cap']] w fun e w' => e = .returned (.bool true) ∧ Below w.heap.size w w' := by
  have kn := sane4_any
  have c0 := fun W : World => long4_any a b c ao cap L false W (.inr ⟨k1, rfl⟩)
  have d0 := fun W : World => long4_any a' b' c' bo cap' M false W (.inr ⟨k2, rfl⟩)
  have t1 : (r != r) = false := by simp
  have qz : ∀ W : World, Sem.run Tryz.prog (Op.equalIn 10000 31 (.agg #[.int .i64 0, .int .i64 0, .int .i64 0, .int .i64 0]) (.agg #[.int .i64 0, .int .i64 0, .int .i64 0, .int .i64 0])) W = .ok true W := fun W => by rw [eq4v]; rfl
  have H0 := Lib.hid hm
  have K0 := Lib.hid hn
  clear hm hn k1 k2
  go_enter Tryz.func3, Tryz.ntmps3
  go_wp2_with (fail)
  refine (c0 _).mono ?_
  rintro e w1 ⟨rfl, hw1⟩
  have bw1 : Below w.heap.size w w1 := bel2 hw1
  have F1 := Lib.hid (FW.n2a.later hw1)
  have E1 := Lib.hid (FW.n2b.later hw1)
  have H1 := Lib.hid (H0.out.later bw1)
  have K1 := Lib.hid (K0.out.later bw1)
  have HB1 := Lib.hid bw1
  clear hw1 bw1 H0 K0
  obtain ⟨e1_0, e1_1, e1_2, e1_3, e1_4, e1_5⟩ := E1.out
  go_wp2_with (fail)
  refine (d0 _).mono ?_
  rintro e w2 ⟨rfl, hw2⟩
  clear e1_0 e1_1 e1_2 e1_3 e1_4 e1_5
  have bw2 : Below w1.heap.size w1 w2 := hw2
  have H2 := Lib.hid (H1.out.later bw2)
  have K2 := Lib.hid (K1.out.later bw2)
  have F2 := Lib.hid (F1.out.later bw2)
  have E2 := Lib.hid (E1.out.later bw2)
  have HB2 := Lib.hid (HB1.out.trans (bw2.mono HB1.out.size))
  clear hw2 bw2 H1 K1 F1 E1 HB1
  obtain ⟨f2_0, f2_1, f2_2, f2_3, f2_4, f2_5⟩ := F2.out
  obtain ⟨e2_0, e2_1, e2_2, e2_3, e2_4, e2_5⟩ := E2.out
  go_wp2_with (fail)
  refine (c1 _ (H2.out) (K2.out)).mono ?_
  rintro e w3 ⟨rfl, hw3⟩
  clear f2_0 f2_1 f2_2 f2_3 f2_4 f2_5 e2_0 e2_1 e2_2 e2_3 e2_4 e2_5
  have bw3 : Below w2.heap.size w2 w3 := hw3
  have H3 := Lib.hid (H2.out.later bw3)
  have K3 := Lib.hid (K2.out.later bw3)
  have F3 := Lib.hid (F2.out.later bw3)
  have E3 := Lib.hid (E2.out.later bw3)
  have HB3 := Lib.hid (HB2.out.trans (bw3.mono HB2.out.size))
  clear hw3 bw3 H2 K2 F2 E2 HB2
  obtain ⟨f3_0, f3_1, f3_2, f3_3, f3_4, f3_5⟩ := F3.out
  obtain ⟨e3_0, e3_1, e3_2, e3_3, e3_4, e3_5⟩ := E3.out
  go_wp2_with (fail)
  refine (c2 _ (H3.out) (K3.out)).mono ?_
  rintro e w4 ⟨rfl, hw4⟩
  clear f3_0 f3_1 f3_2 f3_3 f3_4 f3_5 e3_0 e3_1 e3_2 e3_3 e3_4 e3_5
  have bw4 : Below w3.heap.size w3 w4 := hw4
  have H4 := Lib.hid (H3.out.later bw4)
  have K4 := Lib.hid (K3.out.later bw4)
  have F4 := Lib.hid (F3.out.later bw4)
  have E4 := Lib.hid (E3.out.later bw4)
  have HB4 := Lib.hid (HB3.out.trans (bw4.mono HB3.out.size))
  clear hw4 bw4 H3 K3 F3 E3 HB3
  obtain ⟨f4_0, f4_1, f4_2, f4_3, f4_4, f4_5⟩ := F4.out
  obtain ⟨e4_0, e4_1, e4_2, e4_3, e4_4, e4_5⟩ := E4.out
  go_wp2_with (fail)
  refine (c3 _ (H4.out) (K4.out)).mono ?_
  rintro e w5 ⟨rfl, hw5⟩
  clear f4_0 f4_1 f4_2 f4_3 f4_4 f4_5 e4_0 e4_1 e4_2 e4_3 e4_4 e4_5
  have bw5 : Below w4.heap.size w4 w5 := hw5
  have H5 := Lib.hid (H4.out.later bw5)
  have K5 := Lib.hid (K4.out.later bw5)
  have F5 := Lib.hid (F4.out.later bw5)
  have E5 := Lib.hid (E4.out.later bw5)
  have HB5 := Lib.hid (HB4.out.trans (bw5.mono HB4.out.size))
  clear hw5 bw5 H4 K4 F4 E4 HB4
  go_wp2_with (fail)
  refine (kn _).mono ?_
  rintro e w6 ⟨rfl, hw6⟩
  have bw6 : Below w5.heap.size w5 w6 := bel1 hw6
  have H6 := Lib.hid (H5.out.later bw6)
  have K6 := Lib.hid (K5.out.later bw6)
  have F6 := Lib.hid (F5.out.later bw6)
  have E6 := Lib.hid (E5.out.later bw6)
  have HB6 := Lib.hid (HB5.out.trans (bw6.mono HB5.out.size))
  clear hw6 bw6 H5 K5 F5 E5 HB5
  go_wp2
  go_ret
  exact ⟨rfl, HB6.out⟩
set_option maxHeartbeats 6400000 in
theorem gCe_y (a b c a' b' c' : Int) (ao bo : Option Addr) (cap cap' : Nat) (L M : List Q) (w : World) (P : Q → Prop) (k1 : L.length ≤ 200) (k2 : M.length ≤ 200) (hm : LiesO w ao L) (hn : LiesO w bo M) (hP10 : ∀ q, P q → B4 q 10)
    (c1 : ∀ (W : World), LiesO W ao L → LiesO W bo M → Calls Tryz.prog 8 #[.agg #[.int .i64 a, .int .i64 b, .int .i64 c, .slice ao L.length cap], .agg #[.int .i64 a', .int .i64 b', .int .i64 c', .slice bo M.length cap']] W fun e w' => e = .returned (.tuple #[.bool true, .int .i64 0]) ∧ Below W.heap.size W w')
    (c2 : ∀ (W : World), LiesO W ao L → LiesO W bo M → Calls Tryz.prog 9 #[.agg #[.int .i64 a, .int .i64 b, .int .i64 c, .slice ao L.length cap], .agg #[.int .i64 a', .int .i64 b', .int .i64 c', .slice bo M.length cap']] W fun e w' => e = .returned (.tuple #[.bool true, .int .i64 0]) ∧ Below W.heap.size W w')
    (c3 : ∀ (W : World), LiesO W ao L → LiesO W bo M → Calls Tryz.prog 10 #[.agg #[.int .i64 a, .int .i64 b, .int .i64 c, .slice ao L.length cap], .agg #[.int .i64 a', .int .i64 b', .int .i64 c', .slice bo M.length cap']] W fun e w' => (∃ q : Q, e = .returned (.tuple #[.agg #[.int .i64 q.a, .int .i64 q.b, .int .i64 q.c, .int .i64 q.d], .bool true, .int .i64 0]) ∧ Hid (P q)) ∧ Below W.heap.size W w')
    (c4 : ∀ (W : World) (q : Q), P q → LiesO W ao L → LiesO W bo M → Calls Tryz.prog 11 #[.agg #[.int .i64 a, .int .i64 b, .int .i64 c, .slice ao L.length cap], .agg #[.int .i64 a', .int .i64 b', .int .i64 c', .slice bo M.length cap'], .agg #[.int .i64 q.a, .int .i64 q.b, .int .i64 q.c, .int .i64 q.d]] W fun e w' => e = .returned (.int .i64 0) ∧ Below W.heap.size W w') : Calls Tryz.prog 3 #[.agg #[.int .i64 a, .int .i64 b, .int .i64 c, .slice ao L.length cap], .agg #[.int .i64 a', .int .i64 b', .int .i64 c', .slice bo M.length cap']] w fun e w' => e = .returned (.bool true) ∧ Below w.heap.size w w' := by
  have kn := sane4_any
  have c0 := fun W : World => long4_any a b c ao cap L false W (.inr ⟨k1, rfl⟩)
  have d0 := fun W : World => long4_any a' b' c' bo cap' M false W (.inr ⟨k2, rfl⟩)
  have HP := Lib.hid hP10
  clear hP10
  have H0 := Lib.hid hm
  have K0 := Lib.hid hn
  clear hm hn k1 k2
  go_enter Tryz.func3, Tryz.ntmps3
  go_wp2_with (fail)
  refine (c0 _).mono ?_
  rintro e w1 ⟨rfl, hw1⟩
  have bw1 : Below w.heap.size w w1 := bel2 hw1
  have F1 := Lib.hid (FW.n2a.later hw1)
  have E1 := Lib.hid (FW.n2b.later hw1)
  have H1 := Lib.hid (H0.out.later bw1)
  have K1 := Lib.hid (K0.out.later bw1)
  have HB1 := Lib.hid bw1
  clear hw1 bw1 H0 K0
  obtain ⟨e1_0, e1_1, e1_2, e1_3, e1_4, e1_5⟩ := E1.out
  go_wp2_with (fail)
  refine (d0 _).mono ?_
  rintro e w2 ⟨rfl, hw2⟩
  clear e1_0 e1_1 e1_2 e1_3 e1_4 e1_5
  have bw2 : Below w1.heap.size w1 w2 := hw2
  have H2 := Lib.hid (H1.out.later bw2)
  have K2 := Lib.hid (K1.out.later bw2)
  have F2 := Lib.hid (F1.out.later bw2)
  have E2 := Lib.hid (E1.out.later bw2)
  have HB2 := Lib.hid (HB1.out.trans (bw2.mono HB1.out.size))
  clear hw2 bw2 H1 K1 F1 E1 HB1
  obtain ⟨f2_0, f2_1, f2_2, f2_3, f2_4, f2_5⟩ := F2.out
  obtain ⟨e2_0, e2_1, e2_2, e2_3, e2_4, e2_5⟩ := E2.out
  go_wp2_with (fail)
  refine (c1 _ (H2.out) (K2.out)).mono ?_
  rintro e w3 ⟨rfl, hw3⟩
  clear f2_0 f2_1 f2_2 f2_3 f2_4 f2_5 e2_0 e2_1 e2_2 e2_3 e2_4 e2_5
  have bw3 : Below w2.heap.size w2 w3 := hw3
  have H3 := Lib.hid (H2.out.later bw3)
  have K3 := Lib.hid (K2.out.later bw3)
  have F3 := Lib.hid (F2.out.later bw3)
  have E3 := Lib.hid (E2.out.later bw3)
  have HB3 := Lib.hid (HB2.out.trans (bw3.mono HB2.out.size))
  clear hw3 bw3 H2 K2 F2 E2 HB2
  obtain ⟨f3_0, f3_1, f3_2, f3_3, f3_4, f3_5⟩ := F3.out
  obtain ⟨e3_0, e3_1, e3_2, e3_3, e3_4, e3_5⟩ := E3.out
  go_wp2_with (fail)
  refine (c2 _ (H3.out) (K3.out)).mono ?_
  rintro e w4 ⟨rfl, hw4⟩
  clear f3_0 f3_1 f3_2 f3_3 f3_4 f3_5 e3_0 e3_1 e3_2 e3_3 e3_4 e3_5
  have bw4 : Below w3.heap.size w3 w4 := hw4
  have H4 := Lib.hid (H3.out.later bw4)
  have K4 := Lib.hid (K3.out.later bw4)
  have F4 := Lib.hid (F3.out.later bw4)
  have E4 := Lib.hid (E3.out.later bw4)
  have HB4 := Lib.hid (HB3.out.trans (bw4.mono HB3.out.size))
  clear hw4 bw4 H3 K3 F3 E3 HB3
  obtain ⟨f4_0, f4_1, f4_2, f4_3, f4_4, f4_5⟩ := F4.out
  obtain ⟨e4_0, e4_1, e4_2, e4_3, e4_4, e4_5⟩ := E4.out
  go_wp2_with (fail)
  refine (c3 _ (H4.out) (K4.out)).mono ?_
  rintro e w5 ⟨⟨q, rfl, hQ⟩, hw5⟩
  clear f4_0 f4_1 f4_2 f4_3 f4_4 f4_5 e4_0 e4_1 e4_2 e4_3 e4_4 e4_5
  have bw5 : Below w4.heap.size w4 w5 := hw5
  have H5 := Lib.hid (H4.out.later bw5)
  have K5 := Lib.hid (K4.out.later bw5)
  have F5 := Lib.hid (F4.out.later bw5)
  have E5 := Lib.hid (E4.out.later bw5)
  have HB5 := Lib.hid (HB4.out.trans (bw5.mono HB4.out.size))
  clear hw5 bw5 H4 K4 F4 E4 HB4
  go_wp2
  have Q9 := Lib.hid (IBox.new4G (w := w5) (T := 31) (x0 := q.a) (x1 := q.b) (x2 := q.c) (x3 := q.d))
  have F9 := Lib.hid (F5.out.later (ba1 (o := .cells #[.int .i64 q.a, .int .i64 q.b, .int .i64 q.c, .int .i64 q.d] 31)))
  have E9 := Lib.hid (E5.out.later (ba1 (o := .cells #[.int .i64 q.a, .int .i64 q.b, .int .i64 q.c, .int .i64 q.d] 31)))
  have H9 := Lib.hid (H5.out.later (ba1 (o := .cells #[.int .i64 q.a, .int .i64 q.b, .int .i64 q.c, .int .i64 q.d] 31)))
  have K9 := Lib.hid (K5.out.later (ba1 (o := .cells #[.int .i64 q.a, .int .i64 q.b, .int .i64 q.c, .int .i64 q.d] 31)))
  have B9 := Lib.hid (HB5.out.trans ((ba1 (o := .cells #[.int .i64 q.a, .int .i64 q.b, .int .i64 q.c, .int .i64 q.d] 31)).mono HB5.out.size))
  clear F5 E5 H5 K5 HB5 c0 d0 c1 c2 c3
  generalize w5.alloc (.cells #[.int .i64 q.a, .int .i64 q.b, .int .i64 q.c, .int .i64 q.d] 31) = X at *
  generalize w5.heap.size = qb at *
  go_loopw [12] (fun s wr => ∃ k : Nat, k ≤ 4 ∧ s = .int .i64 k ∧ wr = X) (fun s _ => 4 - (intOf s).toNat)
  case atStart => exact ⟨0, by omega, rfl, rfl⟩
  case round =>
    obtain ⟨k, hk, rfl, rfl⟩ := hrel
    by_cases hk4 : k < 4
    · have ik : (k : Int) < 4 := by omega
      have c := Q9.out.at (q4_at q hk4)
      have ql := Q9.out.lt
      obtain ⟨v1, v2⟩ := (HP.out q hQ.out).cmp hk4
      generalize cmp k q = v at *
      go_wp2
      exact ⟨⟨k + 1, by omega, by go_num, trivial⟩, by simp [intOf]; omega⟩
    · obtain rfl : k = 4 := by omega
      obtain ⟨f0, f1, f2, f3, ff, fl⟩ := F9.out
      obtain ⟨g0, g1, g2, g3, gf, gl⟩ := E9.out
      have x0 := Q9.out.at (i := 0) (x := q.a) rfl
      have x1 := Q9.out.at (i := 1) (x := q.b) rfl
      have x2 := Q9.out.at (i := 2) (x := q.c) rfl
      have x3 := Q9.out.at (i := 3) (x := q.d) rfl
      have xl := Q9.out.lt
      go_wp2_with (fail)
      refine (c4 _ q hQ.out H9.out K9.out).mono ?_
      rintro e w8 ⟨rfl, hw8⟩
      have B8 := Lib.hid (B9.out.trans (hw8.mono B9.out.size))
      clear f0 f1 f2 f3 ff fl g0 g1 g2 g3 gf gl x0 x1 x2 x3 xl hw8
      go_wp2_with (fail)
      refine (kn _).mono ?_
      rintro e w9 ⟨rfl, hw9⟩
      have B7 := Lib.hid (B8.out.trans (hw9.mono B8.out.size))
      clear hw9
      go_wp2
      go_ret
      exact ⟨rfl, B7.out⟩
/-- Certificate's elements are small -/
theorem cert_ten (a b c : Int) (ao bo : Option Addr) (cap cap' N : Nat) (L M : List Q) (ms ns : List Int) (hf : fldR a b c L 0) (hf' : fldR a b c M 0) (hS : smR L ms true) (hS' : smR M ns true) (hN : (N : Int) = a * b * c) (B0 : List Q) (hB0 : BasE (lpL a b c N L) (lpL a b c N M) B0) (hne : B0 ≠ []) (W : World) (k1 : LiesO W ao L) (k2 : LiesO W bo M) : Calls Tryz.prog 10 #[.agg #[.int .i64 a, .int .i64 b, .int .i64 c, .slice ao L.length cap], .agg #[.int .i64 a, .int .i64 b, .int .i64 c, .slice bo M.length cap']] W fun e w' => (∃ q : Q, e = .returned (.tuple #[.agg #[.int .i64 q.a, .int .i64 q.b, .int .i64 q.c, .int .i64 q.d], .bool true, .int .i64 0]) ∧ Hid (Ce (lpL a b c N L) (lpL a b c N M) q ∧ B4 q 10)) ∧ Below W.heap.size W w' := by
  have hF : Fl a b c L := ⟨(fldR_ok hf).1, (fldR_ok hf).2.1, (fldR_ok hf).2.2⟩
  have hF' : Fl a b c M := ⟨(fldR_ok hf').1, (fldR_ok hf').2.1, (fldR_ok hf').2.2⟩
  obtain ⟨hX, hX48⟩ := lp_good hF (AllS.num hS) hN
  obtain ⟨hY, -⟩ := lp_good hF' (AllS.num hS') hN
  have hYl : (lpL a b c N M).length = (lpL a b c N L).length := lp_same (by have := hF.n; have := hF'.n; omega)
  refine (cert_ok a b c a b c ao bo cap cap' L M _ _ W k1 k2 hX hY hYl (by omega) (fun W j1 j2 => bw_at a b c ao bo cap cap' N L M ms ns hf hf' hS hS' hN W j1 j2)).mono fun e w' ⟨⟨B, hB, hc⟩, hw⟩ => ⟨?_, hw⟩
  rcases hc with ⟨rfl, _⟩ | ⟨q, B', rfl, he⟩
  · have := hB.one hB0
    exact absurd (List.length_eq_zero_iff.1 (this.symm.trans rfl)) hne
  · have hq := hB.le hX hY hYl (BasE.all_ne hB) q List.mem_cons_self
    refine ⟨q, he, Lib.hid ⟨⟨hB.car hX hY hYl List.mem_cons_self, hB.ne, hq.up⟩, ?_⟩⟩
    obtain ⟨h1, h2, h3, h4⟩ := hq
    constructor <;> omega
theorem gaugeCertifies_walk (a b c : Int) (ao : Option Addr) (L : List Q) (cap : Nat) (a' b' c' : Int) (bo : Option Addr) (M : List Q) (cap' : Nat) (w : World) (_ : L.length ≤ maxLen) (hm : LiesO w ao L) (_ : M.length ≤ maxLen) (hn : LiesO w bo M) : Calls Tryz.prog 3 #[.agg #[.int .i64 a, .int .i64 b, .int .i64 c, .slice ao L.length cap], .agg #[.int .i64 a', .int .i64 b', .int .i64 c', .slice bo M.length cap']] w fun e w' => e = .returned (.bool true) ∧ Below w.heap.size w w' := by
  by_cases h : 200 < L.length
  · exact gCe_l1 a b c a' b' c' ao bo cap cap' L M w h
  by_cases h2 : 200 < M.length
  · exact gCe_l2 a b c a' b' c' ao bo cap cap' L M w (by omega) h2
  obtain ⟨ms, ns, r, hr⟩ := prR_ex a b c L a' b' c' M
  by_cases h0 : r = 0
  case neg =>
    have hb := fun (W : World) (j1 : LiesO W ao L) (j2 : LiesO W bo M) => gaBw_err a b c a' b' c' r ao bo cap cap' L M ms ns W j1 j2 hr h0 (by omega) (by omega)
    exact gCe_n a b c a' b' c' r ao bo cap cap' L M w (by omega) (by omega) hm hn
      (fun W j1 j2 => eqv_bad a b c a' b' c' r ao bo cap cap' L M h0 hb W j1 j2)
      (fun W j1 j2 => refEqv_err a b c a' b' c' r ao bo cap cap' L M W j1 j2 h0 (fun W i1 i2 => pair_err a b c a' b' c' r ao bo cap cap' L M ms ns W i1 i2 hr h0 (by omega) (by omega)))
      (fun W j1 j2 => cert_err a b c a' b' c' r ao bo cap cap' L M W j1 j2 h0 hb)
  subst h0
  obtain ⟨hf, hf', hS, hS'⟩ := prR_ok hr
  by_cases he : a = a' ∧ b = b' ∧ c = c'
  case neg =>
    have hb := fun (W : World) (j1 : LiesO W ao L) (j2 : LiesO W bo M) => gaBw_fit a b c a' b' c' ao bo cap cap' L M ms ns W j1 j2 hr he (by omega) (by omega)
    exact gCe_n a b c a' b' c' 8 ao bo cap cap' L M w (by omega) (by omega) hm hn
      (fun W j1 j2 => eqv_bad a b c a' b' c' 8 ao bo cap cap' L M (by decide) hb W j1 j2)
      (fun W j1 j2 => refEqv_err a b c a' b' c' 8 ao bo cap cap' L M W j1 j2 (by decide) (fun W i1 i2 => pair_ok a b c a' b' c' 8 ao bo cap cap' L M ms ns W i1 i2 hf hf' hS hS' (by omega) (by omega) (.inr ⟨he, rfl⟩)))
      (fun W j1 j2 => cert_err a b c a' b' c' 8 ao bo cap cap' L M W j1 j2 (by decide) hb)
  obtain ⟨rfl, rfl, rfl⟩ := he
  have hz := (fldR_ok hf).1
  obtain ⟨-, -, p3, -⟩ := mul_rng hz.a1 hz.a4 hz.b1 hz.b4 hz.c1 hz.c4
  obtain ⟨N, hN⟩ : ∃ N : Nat, (N : Int) = a * b * c := ⟨(a * b * c).toNat, by omega⟩
  have hF : Fl a b c L := ⟨(fldR_ok hf).1, (fldR_ok hf).2.1, (fldR_ok hf).2.2⟩
  have hF' : Fl a b c M := ⟨(fldR_ok hf').1, (fldR_ok hf').2.1, (fldR_ok hf').2.2⟩
  obtain ⟨hX, hX48⟩ := lp_good hF (AllS.num hS) hN
  obtain ⟨hY, -⟩ := lp_good hF' (AllS.num hS') hN
  have hYl : (lpL a b c N M).length = (lpL a b c N L).length := lp_same (by have := hF.n; have := hF'.n; omega)
  have cE := fun (W : World) (j1 : LiesO W ao L) (j2 : LiesO W bo M) => equiv_ok a b c a b c ao bo cap cap' L M _ _ W j1 j2 (fun W i1 i2 => cert_ok a b c a b c ao bo cap cap' L M _ _ W i1 i2 hX hY hYl (by omega) (fun W j1 j2 => bw_at a b c ao bo cap cap' N L M ms ns hf hf' hS hS' hN W j1 j2))
  by_cases hE : ∃ B, BasE (lpL a b c N L) (lpL a b c N M) B
  case neg =>
    exact gCe_x a b c a b c ao bo cap cap' L M w (by omega) (by omega) hm hn (fun W j1 j2 => (cE W j1 j2).mono fun e w' ⟨⟨B, hB, _⟩, hw⟩ => absurd ⟨B, hB⟩ hE)
  obtain ⟨B0, hB0⟩ := hE
  have hp1 := fld_pos1 hf
  have hp2 := fld_pos1 hf'
  have cR : ∀ W : World, LiesO W ao L → LiesO W bo M → Calls Tryz.prog 9 #[.agg #[.int .i64 a, .int .i64 b, .int .i64 c, .slice ao L.length cap], .agg #[.int .i64 a, .int .i64 b, .int .i64 c, .slice bo M.length cap']] W fun e w' => e = .returned (.tuple #[.bool (decide (0 < (B0.length : Int))), .int .i64 0]) ∧ Below W.heap.size W w' := fun W j1 j2 => by
    obtain ⟨b1, o1, rfl, m1⟩ := liesO_one j1 hp1
    obtain ⟨b2, o2, rfl, m2⟩ := liesO_one j2 hp2
    refine (refEqv_ok a b c a b c b1 o1 b2 o2 cap cap' L M _ _ W m1 m2 hX hY hYl (by omega)
      (fun W i1 i2 => pair_ok a b c a b c 0 _ _ cap cap' L M ms ns W i1 i2 hf hf' hS hS' (by omega) (by omega) (.inl ⟨⟨rfl, rfl, rfl⟩, rfl⟩))
      (fun W i1 => refLp_ok a b c b1 o1 cap N L W i1 hf (AllS.num hS) hN)
      (fun W i1 => refLp_ok a b c b2 o2 cap' N M W i1 hf' (AllS.num hS') hN)).mono fun e w' ⟨⟨R, hR, he⟩, hw⟩ => ⟨by rw [he, drE_dim hX hY hYl hR hB0], hw⟩
  by_cases hne : B0 = []
  · subst hne
    have hno : ¬ ∃ q, carP (lpL a b c N L) (lpL a b c N M) q ∧ ¬ Z4 q := fun ⟨q, h1, h2⟩ => h2 (hB0.nil hX hY hYl h1)
    exact gCe_n a b c a b c 0 ao bo cap cap' L M w (by omega) (by omega) hm hn
      (fun W j1 j2 => eqv_good a b c ao bo cap cap' N L M ms ns hf hf' hS hS' hN false (.inr ⟨hno, rfl⟩) W j1 j2)
      cR (fun W j1 j2 => cert_not a b c ao bo cap cap' N L M ms ns hf hf' hS hS' hN hno W j1 j2)
  · have hyes : ∃ q, carP (lpL a b c N L) (lpL a b c N M) q ∧ ¬ Z4 q := by
      cases B0 with
      | nil => exact absurd rfl hne
      | cons q B => exact ⟨q, hB0.car hX hY hYl List.mem_cons_self, hB0.ne⟩
    have hlen : decide (0 < (B0.length : Int)) = true := by
      have := List.length_pos_iff.2 hne
      simp; omega
    rw [hlen] at cR
    refine gCe_y a b c a b c ao bo cap cap' L M w (fun q => Ce (lpL a b c N L) (lpL a b c N M) q ∧ B4 q 10) (by omega) (by omega) hm hn (fun q h => h.2)
      (fun W j1 j2 => eqv_good a b c ao bo cap cap' N L M ms ns hf hf' hS hS' hN true (.inl ⟨hyes, rfl⟩) W j1 j2)
      cR (fun W j1 j2 => cert_ten a b c ao bo cap cap' N L M ms ns hf hf' hS hS' hN B0 hB0 hne W j1 j2) (fun W q h j1 j2 => ?_)
    obtain ⟨b1, o1, rfl, m1⟩ := liesO_one j1 hp1
    obtain ⟨b2, o2, rfl, m2⟩ := liesO_one j2 hp2
    exact refCk_ok a b c b1 o1 b2 o2 cap cap' N L M ms ns q 0 W m1 m2 hf hf' hS hS' hN (.inr (.inr (.inl ⟨h.1.2.2, h.1.2.1, h.1.1, rfl⟩)))

/-! ### The statement of the law GaugeCertifies, out of its walk -/
set_option maxRecDepth 100000 in
theorem gaugeCertifies_lifted (os : Os) (started : os.Started) (H : Type) (enc : TypeId × Value → H) :
    ReturnsInHanded {} Tryz.checked os 3 .any (Rows.gaugeCertifiesSpec.pre6 enc Tryz.prog Tryz.f3 Rows.gaugeCertifiesRow.domain false) (Rows.gaugeCertifiesSpec.post enc Tryz.prog Tryz.f3 false true false false) := by
  refine returnsInHanded_of_change (C := Tryz.checked) own started (by kernel_rfl) Tryz.func3
    (ChangeSpec.witness6 (enc := enc) (C := Tryz.checked) false ⟨#[], #[.agg #[.int .i64 0, .int .i64 0, .int .i64 0, .slice none 0 0], .agg #[.int .i64 0, .int .i64 0, .int .i64 0, .slice none 0 0]], []⟩ 8 (by kernel_rfl) (by kernel_rfl) (by kernel_rfl) (by kernel_rfl)) ?_
  intro W base args ds gs before hval0 hW hcnd _
  have hval : ∀ (j : Nat) t v, Tryz.f3.params[j]? = some t → args[j]? = some v → Value.okWide Tryz.prog W .any base t v := hval0
  have hW' := hW
  obtain ⟨p, q, hA0, hV, rfl, hfz, hnd⟩ := hW
  have hA : DataW.TrodAll enc Tryz.prog W 0 (fun _ => true) true Tryz.f3.params.toList args.toList ds p := hA0
  rw [Tryz.params3] at hA hval
  obtain ⟨v0, vs0, d0, ds0, p0, q0, hargs, rfl, rfl, h0, r0⟩ := trodAll_cons hA
  obtain ⟨v1, vs1, d1, ds1, p1, q1, rfl, rfl, rfl, h1, r1⟩ := trodAll_cons r0
  obtain ⟨rfl, rfl, rfl⟩ := trodAll_nil r1
  obtain rfl : args = #[v0, v1] := by cases args; simp_all
  obtain ⟨rfl, rfl⟩ := trodVars_none hV
  have k0 := h0
  have lt0 : ∀ x ∈ p0, x.block < W.heap.size := by obtain ⟨m, hm⟩ := k0; exact DataW.trod_lt m _ _ _ hm
  obtain ⟨x0, y0, z0, ao0, L0, cap0, rfl, hl0, hm0⟩ := open_field (hval 0 25 v0 rfl rfl) h0
  have k1 := h1
  have lt1 : ∀ x ∈ p1, x.block < W.heap.size := by obtain ⟨m, hm⟩ := k1; exact DataW.trod_lt m _ _ _ hm
  obtain ⟨x1, y1, z1, ao1, L1, cap1, rfl, hl1, hm1⟩ := open_field (hval 1 25 v1 rfl rfl) h1
  clear hA0 hval0
  refine (gaugeCertifies_walk x0 y0 z0 ao0 L0 cap0 x1 y1 z1 ao1 L1 cap1 W hl0 hm0 hl1 hm1).mono fun e W' ⟨he, bel⟩ => ?_
  subst he
  exact ⟨_, rfl, _, _, _, [], _, [], hW', trodAll_mk1 (shut_bool Tryz.underlying4 _), (trodAll_cons_mk (Below.trod laidOut (by kernel_rfl) (of_decide_eq_true (by kernel_rfl)) k0 bel lt0) (trodAll_cons_mk (Below.trod laidOut (by kernel_rfl) (of_decide_eq_true (by kernel_rfl)) k1 bel lt1) trodAll_mk0)), rfl, bel.frame _, fun h => by cases h⟩

theorem gaugeCertifies_jf9 : (Rows.gaugeCertifiesRow.inPlace == Tryz.prog.inPlace 3) = true := by kernel_rfl
theorem gaugeCertifies_jf10 : (Rows.gaugeCertifiesRow.unfollowed == Tryz.prog.unfollowed 3) = true := by kernel_rfl
theorem gaugeCertifies_jf11 : (Rows.gaugeCertifiesRow.recurses == Tryz.prog.recurses 3) = true := by kernel_rfl
theorem gaugeCertifies_jf12 : (Rows.gaugeCertifiesRow.named == Tryz.prog.varsNamed 3) = true := by kernel_rfl
theorem gaugeCertifies_facts : joinedFacts Tryz.prog 3 Tryz.f3 Rows.gaugeCertifiesSpec Rows.gaugeCertifiesRow = true := by
  unfold joinedFacts
  exact (band (band (band (band (band (band (band (band (band (band (band (band (band (band (band (band (band (band (band (band (band (band (band (band (band (band (band (band (band (band (band (by kernel_rfl) jf1) jf2) (by kernel_rfl)) (by kernel_rfl)) (by kernel_rfl)) jf6) (by kernel_rfl)) jf8) gaugeCertifies_jf9) gaugeCertifies_jf10) gaugeCertifies_jf11) gaugeCertifies_jf12) (by kernel_rfl)) (by kernel_rfl)) (by kernel_rfl)) (by kernel_rfl)) (by kernel_rfl)) (by kernel_rfl)) (by kernel_rfl)) (by kernel_rfl)) (by kernel_rfl)) (by kernel_rfl)) (by kernel_rfl)) jf24) jf25) jf26) jf27) (by kernel_rfl)) (by kernel_rfl)) (by kernel_rfl)) (by kernel_rfl))

theorem gaugeCertifies_over : Rows.gaugeCertifiesRow.holds Tryz.pinned (OpenSpec.ofChange Rows.gaugeCertifiesSpec) :=
  OpenClaim.holds_of_wide 3 Tryz.f3 rfl rfl rfl rfl rfl rfl rfl ⟨rfl, rfl, rfl, rfl, rfl⟩ rfl rfl rfl rfl rfl (by kernel_rfl) Tryz.func3 gaugeCertifies_facts
    (of_decide_eq_true (by kernel_rfl)) (by unfold Func.isWrapper; first | (rw [if_pos (by decide +kernel)]; kernel_rfl) | (rw [if_neg (by decide +kernel)]; exact ⟨rfl, rfl⟩))
    (fun os started H enc _ => gaugeCertifies_lifted os started H enc)

theorem gaugeCertifies_holds : Rows.GaugeCertifiesSaid := gaugeCertifies_over
#print axioms gaugeCertifies_holds

end Go.Proofs.YtkgihmhehkaocaaGreat
