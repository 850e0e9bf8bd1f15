/- GaugeFreedom: how many quaternions commute with all loops of a field is what the document says, and a small transformation does not change it, for all fields and lists of units.
Conditions: none. -/
import Derived.Test.YtkgihmhehkaocaaGreatPTopH
import Derived.Test.YtkgihmhehkaocaaGreatPTopD
import Derived.Test.YtkgihmhehkaocaaGreatPTopA
import Derived.Test.YtkgihmhehkaocaaGreatPHwC
namespace Go.Proofs.YtkgihmhehkaocaaGreat
set_option linter.unusedVariables false
set_option linter.unusedSimpArgs false
set_option maxRecDepth 1000000
open Go.ChangeShapes Go.WideShapes Go.ChangeAt Go.RowKit
open Um Tm

set_option maxHeartbeats 3200000 in
theorem gFr_l1 (a b c : Int) (ao go : Option Addr) (cap gc : Nat) (L G : List Q) (w : World) (h : 200 < L.length) : Calls Tryz.prog 4 #[.agg #[.int .i64 a, .int .i64 b, .int .i64 c, .slice ao L.length cap], .slice go G.length gc] w fun e w' => e = .returned (.bool true) ∧ Below w.heap.size w w' := by
  have kn := sane4_any
  have c0 := fun W : World => long4_any a b c ao cap L true W (.inl ⟨h, rfl⟩)
  go_enter Tryz.func4, Tryz.ntmps4
  go_wp2_with (fail)
  refine (c0 _).mono ?_
  rintro e w1 ⟨rfl, hw1⟩
  have bw1 : Below w.heap.size w w1 := bel1 hw1
  have F1 := Lib.hid (FW.n1.later hw1)
  have HB1 := Lib.hid bw1
  clear hw1 bw1
  go_wp2_with (fail)
  refine (kn _).mono ?_
  rintro e w2 ⟨rfl, hw2⟩
  have bw2 : Below w1.heap.size w1 w2 := hw2
  have F2 := Lib.hid (F1.out.later bw2)
  have HB2 := Lib.hid (HB1.out.trans (bw2.mono HB1.out.size))
  clear hw2 bw2 F1 HB1
  go_wp2
  go_ret
  exact ⟨rfl, HB2.out⟩
set_option maxHeartbeats 3200000 in
theorem gFr_l2 (a b c : Int) (ao go : Option Addr) (cap gc : Nat) (L G : List Q) (w : World) (h : L.length ≤ 200) (h3 : 100 < G.length) : Calls Tryz.prog 4 #[.agg #[.int .i64 a, .int .i64 b, .int .i64 c, .slice ao L.length cap], .slice go G.length gc] w fun e w' => e = .returned (.bool true) ∧ Below w.heap.size w w' := by
  have i1 : (G.length : Int) > 100 := by omega
  have kn := sane4_any
  have c0 := fun W : World => long4_any a b c ao cap L false W (.inr ⟨h, rfl⟩)
  go_enter Tryz.func4, Tryz.ntmps4
  go_wp2_with (fail)
  refine (c0 _).mono ?_
  rintro e w1 ⟨rfl, hw1⟩
  have bw1 : Below w.heap.size w w1 := bel1 hw1
  have F1 := Lib.hid (FW.n1.later hw1)
  have HB1 := Lib.hid bw1
  clear hw1 bw1
  go_wp2_with (fail)
  refine (kn _).mono ?_
  rintro e w2 ⟨rfl, hw2⟩
  have bw2 : Below w1.heap.size w1 w2 := hw2
  have F2 := Lib.hid (F1.out.later bw2)
  have HB2 := Lib.hid (HB1.out.trans (bw2.mono HB1.out.size))
  clear hw2 bw2 F1 HB1
  go_wp2
  go_ret
  exact ⟨rfl, HB2.out⟩
set_option maxHeartbeats 3200000 in
theorem gFr_x (a b c : Int) (ao go : Option Addr) (cap gc : Nat) (L G : List Q) (w : World) (k1 : L.length ≤ 200) (k3 : G.length ≤ 100) (hm : LiesO w ao L)
    (c1 : ∀ (W : World), LiesO W ao L → Calls Tryz.prog 12 #[.agg #[.int .i64 a, .int .i64 b, .int .i64 c, .slice ao L.length cap]] W fun e w' => False ∧ Below W.heap.size W w') : Calls Tryz.prog 4 #[.agg #[.int .i64 a, .int .i64 b, .int .i64 c, .slice ao L.length cap], .slice go G.length gc] w fun e w' => e = .returned (.bool true) ∧ Below w.heap.size w w' := by
  have c0 := fun W : World => long4_any a b c ao cap L false W (.inr ⟨k1, rfl⟩)
  have i1 : ¬ (G.length : Int) > 100 := by omega
  have H0 := Lib.hid hm
  clear hm k1 k3
  go_enter Tryz.func4, Tryz.ntmps4
  go_wp2_with (fail)
  refine (c0 _).mono ?_
  rintro e w1 ⟨rfl, hw1⟩
  have bw1 : Below w.heap.size w w1 := bel1 hw1
  have F1 := Lib.hid (FW.n1.later hw1)
  have H1 := Lib.hid (H0.out.later bw1)
  have HB1 := Lib.hid bw1
  clear hw1 bw1 H0
  obtain ⟨f1_0, f1_1, f1_2, f1_3, f1_4, f1_5⟩ := F1.out
  go_wp2_with (fail)
  refine (c1 _ (H1.out)).mono ?_
  rintro e w2 ⟨hF, -⟩
  exact hF.elim
set_option maxHeartbeats 6400000 in
theorem gFr_e (a b c n5 r r4 : Int) (ao go : Option Addr) (cap gc : Nat) (L G : List Q) (w : World) (k1 : L.length ≤ 200) (k3 : G.length ≤ 100) (hm : LiesO w ao L) (hg : LiesO w go G) (h0 : r ≠ 0)
    (c1 : ∀ (W : World), LiesO W ao L → Calls Tryz.prog 12 #[.agg #[.int .i64 a, .int .i64 b, .int .i64 c, .slice ao L.length cap]] W fun e w' => e = .returned (.tuple #[.int .i64 n5, .int .i64 r]) ∧ Below W.heap.size W w')
    (c2 : ∀ (W : World), LiesO W ao L → Calls Tryz.prog 13 #[.agg #[.int .i64 a, .int .i64 b, .int .i64 c, .slice ao L.length cap]] W fun e w' => e = .returned (.tuple #[.int .i64 n5, .int .i64 r]) ∧ Below W.heap.size W w')
    (c3 : ∀ (W : World), LiesO W ao L → LiesO W go G → Calls Tryz.prog 14 #[.agg #[.int .i64 a, .int .i64 b, .int .i64 c, .slice ao L.length cap], .slice go G.length gc] W fun e w' => AnyF r4 e ∧ Below W.heap.size W w') : Calls Tryz.prog 4 #[.agg #[.int .i64 a, .int .i64 b, .int .i64 c, .slice ao L.length cap], .slice go G.length gc] w fun e w' => e = .returned (.bool true) ∧ Below w.heap.size w w' := by
  have kn := sane4_any
  have c0 := fun W : World => long4_any a b c ao cap L false W (.inr ⟨k1, rfl⟩)
  have i1 : ¬ (G.length : Int) > 100 := by omega
  have H0 := Lib.hid hm
  have G0 := Lib.hid hg
  have t2 : (n5 != n5) = false := by simp
  have t3 : (n5 == n5) = true := by simp
  have t0 : (r != 0) = true := by simpa using h0
  have t4 : (r != r) = false := by simp
  clear h0
  clear hm hg k1 k3
  go_enter Tryz.func4, Tryz.ntmps4
  go_wp2_with (fail)
  refine (c0 _).mono ?_
  rintro e w1 ⟨rfl, hw1⟩
  have bw1 : Below w.heap.size w w1 := bel1 hw1
  have F1 := Lib.hid (FW.n1.later hw1)
  have H1 := Lib.hid (H0.out.later bw1)
  have G1 := Lib.hid (G0.out.later bw1)
  have HB1 := Lib.hid bw1
  clear hw1 bw1 H0 G0
  obtain ⟨f1_0, f1_1, f1_2, f1_3, f1_4, f1_5⟩ := F1.out
  go_wp2_with (fail)
  refine (c1 _ (H1.out)).mono ?_
  rintro e w2 ⟨rfl, hw2⟩
  clear f1_0 f1_1 f1_2 f1_3 f1_4 f1_5
  have bw2 : Below w1.heap.size w1 w2 := hw2
  have H2 := Lib.hid (H1.out.later bw2)
  have G2 := Lib.hid (G1.out.later bw2)
  have F2 := Lib.hid (F1.out.later bw2)
  have HB2 := Lib.hid (HB1.out.trans (bw2.mono HB1.out.size))
  clear hw2 bw2 H1 G1 F1 HB1
  obtain ⟨f2_0, f2_1, f2_2, f2_3, f2_4, f2_5⟩ := F2.out
  go_wp2_with (fail)
  refine (c2 _ (H2.out)).mono ?_
  rintro e w3 ⟨rfl, hw3⟩
  clear f2_0 f2_1 f2_2 f2_3 f2_4 f2_5
  have bw3 : Below w2.heap.size w2 w3 := hw3
  have H3 := Lib.hid (H2.out.later bw3)
  have G3 := Lib.hid (G2.out.later bw3)
  have F3 := Lib.hid (F2.out.later bw3)
  have HB3 := Lib.hid (HB2.out.trans (bw3.mono HB2.out.size))
  clear hw3 bw3 H2 G2 F2 HB2
  obtain ⟨f3_0, f3_1, f3_2, f3_3, f3_4, f3_5⟩ := F3.out
  go_wp2_with (fail)
  refine (c3 _ (H3.out) (G3.out)).mono ?_
  rintro e w4 ⟨⟨x4, y4, z4, s4, m4, j4, rfl⟩, hw4⟩
  clear f3_0 f3_1 f3_2 f3_3 f3_4 f3_5
  have bw4 : Below w3.heap.size w3 w4 := hw4
  have H4 := Lib.hid (H3.out.later bw4)
  have G4 := Lib.hid (G3.out.later bw4)
  have F4 := Lib.hid (F3.out.later bw4)
  have HB4 := Lib.hid (HB3.out.trans (bw4.mono HB3.out.size))
  clear hw4 bw4 H3 G3 F3 HB3
  go_wp2_with (fail)
  refine (kn _).mono ?_
  rintro e w5 ⟨rfl, hw5⟩
  have bw5 : Below w4.heap.size w4 w5 := bel1 hw5
  have H5 := Lib.hid (H4.out.later bw5)
  have G5 := Lib.hid (G4.out.later bw5)
  have F5 := Lib.hid (F4.out.later bw5)
  have HB5 := Lib.hid (HB4.out.trans (bw5.mono HB4.out.size))
  clear hw5 bw5 H4 G4 F4 HB4
  go_wp2
  go_ret
  exact ⟨rfl, HB5.out⟩
set_option maxHeartbeats 6400000 in
theorem gFr_t (a b c n5 r4 : Int) (ao go : Option Addr) (cap gc : Nat) (L G : List Q) (w : World) (k1 : L.length ≤ 200) (k3 : G.length ≤ 100) (hm : LiesO w ao L) (hg : LiesO w go G) (h0 : r4 ≠ 0)
    (c1 : ∀ (W : World), LiesO W ao L → Calls Tryz.prog 12 #[.agg #[.int .i64 a, .int .i64 b, .int .i64 c, .slice ao L.length cap]] W fun e w' => e = .returned (.tuple #[.int .i64 n5, .int .i64 0]) ∧ Below W.heap.size W w')
    (c2 : ∀ (W : World), LiesO W ao L → Calls Tryz.prog 13 #[.agg #[.int .i64 a, .int .i64 b, .int .i64 c, .slice ao L.length cap]] W fun e w' => e = .returned (.tuple #[.int .i64 n5, .int .i64 0]) ∧ Below W.heap.size W w')
    (c3 : ∀ (W : World), LiesO W ao L → LiesO W go G → Calls Tryz.prog 14 #[.agg #[.int .i64 a, .int .i64 b, .int .i64 c, .slice ao L.length cap], .slice go G.length gc] W fun e w' => AnyF r4 e ∧ Below W.heap.size W w') : Calls Tryz.prog 4 #[.agg #[.int .i64 a, .int .i64 b, .int .i64 c, .slice ao L.length cap], .slice go G.length gc] w fun e w' => e = .returned (.bool true) ∧ Below w.heap.size w w' := by
  have kn := sane4_any
  have c0 := fun W : World => long4_any a b c ao cap L false W (.inr ⟨k1, rfl⟩)
  have i1 : ¬ (G.length : Int) > 100 := by omega
  have H0 := Lib.hid hm
  have G0 := Lib.hid hg
  have t2 : (n5 != n5) = false := by simp
  have t3 : (n5 == n5) = true := by simp
  have t0 : (r4 != 0) = true := by simpa using h0
  clear h0
  clear hm hg k1 k3
  go_enter Tryz.func4, Tryz.ntmps4
  go_wp2_with (fail)
  refine (c0 _).mono ?_
  rintro e w1 ⟨rfl, hw1⟩
  have bw1 : Below w.heap.size w w1 := bel1 hw1
  have F1 := Lib.hid (FW.n1.later hw1)
  have H1 := Lib.hid (H0.out.later bw1)
  have G1 := Lib.hid (G0.out.later bw1)
  have HB1 := Lib.hid bw1
  clear hw1 bw1 H0 G0
  obtain ⟨f1_0, f1_1, f1_2, f1_3, f1_4, f1_5⟩ := F1.out
  go_wp2_with (fail)
  refine (c1 _ (H1.out)).mono ?_
  rintro e w2 ⟨rfl, hw2⟩
  clear f1_0 f1_1 f1_2 f1_3 f1_4 f1_5
  have bw2 : Below w1.heap.size w1 w2 := hw2
  have H2 := Lib.hid (H1.out.later bw2)
  have G2 := Lib.hid (G1.out.later bw2)
  have F2 := Lib.hid (F1.out.later bw2)
  have HB2 := Lib.hid (HB1.out.trans (bw2.mono HB1.out.size))
  clear hw2 bw2 H1 G1 F1 HB1
  obtain ⟨f2_0, f2_1, f2_2, f2_3, f2_4, f2_5⟩ := F2.out
  go_wp2_with (fail)
  refine (c2 _ (H2.out)).mono ?_
  rintro e w3 ⟨rfl, hw3⟩
  clear f2_0 f2_1 f2_2 f2_3 f2_4 f2_5
  have bw3 : Below w2.heap.size w2 w3 := hw3
  have H3 := Lib.hid (H2.out.later bw3)
  have G3 := Lib.hid (G2.out.later bw3)
  have F3 := Lib.hid (F2.out.later bw3)
  have HB3 := Lib.hid (HB2.out.trans (bw3.mono HB2.out.size))
  clear hw3 bw3 H2 G2 F2 HB2
  obtain ⟨f3_0, f3_1, f3_2, f3_3, f3_4, f3_5⟩ := F3.out
  go_wp2_with (fail)
  refine (c3 _ (H3.out) (G3.out)).mono ?_
  rintro e w4 ⟨⟨x4, y4, z4, s4, m4, j4, rfl⟩, hw4⟩
  clear f3_0 f3_1 f3_2 f3_3 f3_4 f3_5
  have bw4 : Below w3.heap.size w3 w4 := hw4
  have H4 := Lib.hid (H3.out.later bw4)
  have G4 := Lib.hid (G3.out.later bw4)
  have F4 := Lib.hid (F3.out.later bw4)
  have HB4 := Lib.hid (HB3.out.trans (bw4.mono HB3.out.size))
  clear hw4 bw4 H3 G3 F3 HB3
  go_wp2_with (fail)
  refine (kn _).mono ?_
  rintro e w5 ⟨rfl, hw5⟩
  have bw5 : Below w4.heap.size w4 w5 := bel1 hw5
  have H5 := Lib.hid (H4.out.later bw5)
  have G5 := Lib.hid (G4.out.later bw5)
  have F5 := Lib.hid (F4.out.later bw5)
  have HB5 := Lib.hid (HB4.out.trans (bw5.mono HB4.out.size))
  clear hw5 bw5 H4 G4 F4 HB4
  go_wp2
  go_ret
  exact ⟨rfl, HB5.out⟩
set_option maxHeartbeats 6400000 in
theorem gFr_s (a b c n5 : Int) (ao go : Option Addr) (cap gc : Nat) (L G : List Q) (w : World) (k1 : L.length ≤ 200) (k3 : G.length ≤ 100) (hm : LiesO w ao L) (hg : LiesO w go G) (k4 : ¬ N12L G)
    (c1 : ∀ (W : World), LiesO W ao L → Calls Tryz.prog 12 #[.agg #[.int .i64 a, .int .i64 b, .int .i64 c, .slice ao L.length cap]] W fun e w' => e = .returned (.tuple #[.int .i64 n5, .int .i64 0]) ∧ Below W.heap.size W w')
    (c2 : ∀ (W : World), LiesO W ao L → Calls Tryz.prog 13 #[.agg #[.int .i64 a, .int .i64 b, .int .i64 c, .slice ao L.length cap]] W fun e w' => e = .returned (.tuple #[.int .i64 n5, .int .i64 0]) ∧ Below W.heap.size W w')
    (c3 : ∀ (W : World), LiesO W ao L → LiesO W go G → Calls Tryz.prog 14 #[.agg #[.int .i64 a, .int .i64 b, .int .i64 c, .slice ao L.length cap], .slice go G.length gc] W fun e w' => AnyF 0 e ∧ Below W.heap.size W w') : Calls Tryz.prog 4 #[.agg #[.int .i64 a, .int .i64 b, .int .i64 c, .slice ao L.length cap], .slice go G.length gc] w fun e w' => e = .returned (.bool true) ∧ Below w.heap.size w w' := by
  have kn := sane4_any
  have c0 := fun W : World => long4_any a b c ao cap L false W (.inr ⟨k1, rfl⟩)
  have i1 : ¬ (G.length : Int) > 100 := by omega
  have H0 := Lib.hid hm
  have G0 := Lib.hid hg
  have t2 : (n5 != n5) = false := by simp
  have t3 : (n5 == n5) = true := by simp
  have cs := fun (W : World) (h : LiesO W go G) => small4_any go gc G false W h (by omega) (.inr ⟨k4, rfl⟩)
  clear hm hg k1 k3 k4
  go_enter Tryz.func4, Tryz.ntmps4
  go_wp2_with (fail)
  refine (c0 _).mono ?_
  rintro e w1 ⟨rfl, hw1⟩
  have bw1 : Below w.heap.size w w1 := bel1 hw1
  have F1 := Lib.hid (FW.n1.later hw1)
  have H1 := Lib.hid (H0.out.later bw1)
  have G1 := Lib.hid (G0.out.later bw1)
  have HB1 := Lib.hid bw1
  clear hw1 bw1 H0 G0
  obtain ⟨f1_0, f1_1, f1_2, f1_3, f1_4, f1_5⟩ := F1.out
  go_wp2_with (fail)
  refine (c1 _ (H1.out)).mono ?_
  rintro e w2 ⟨rfl, hw2⟩
  clear f1_0 f1_1 f1_2 f1_3 f1_4 f1_5
  have bw2 : Below w1.heap.size w1 w2 := hw2
  have H2 := Lib.hid (H1.out.later bw2)
  have G2 := Lib.hid (G1.out.later bw2)
  have F2 := Lib.hid (F1.out.later bw2)
  have HB2 := Lib.hid (HB1.out.trans (bw2.mono HB1.out.size))
  clear hw2 bw2 H1 G1 F1 HB1
  obtain ⟨f2_0, f2_1, f2_2, f2_3, f2_4, f2_5⟩ := F2.out
  go_wp2_with (fail)
  refine (c2 _ (H2.out)).mono ?_
  rintro e w3 ⟨rfl, hw3⟩
  clear f2_0 f2_1 f2_2 f2_3 f2_4 f2_5
  have bw3 : Below w2.heap.size w2 w3 := hw3
  have H3 := Lib.hid (H2.out.later bw3)
  have G3 := Lib.hid (G2.out.later bw3)
  have F3 := Lib.hid (F2.out.later bw3)
  have HB3 := Lib.hid (HB2.out.trans (bw3.mono HB2.out.size))
  clear hw3 bw3 H2 G2 F2 HB2
  obtain ⟨f3_0, f3_1, f3_2, f3_3, f3_4, f3_5⟩ := F3.out
  go_wp2_with (fail)
  refine (c3 _ (H3.out) (G3.out)).mono ?_
  rintro e w4 ⟨⟨x4, y4, z4, s4, m4, j4, rfl⟩, hw4⟩
  clear f3_0 f3_1 f3_2 f3_3 f3_4 f3_5
  have bw4 : Below w3.heap.size w3 w4 := hw4
  have H4 := Lib.hid (H3.out.later bw4)
  have G4 := Lib.hid (G3.out.later bw4)
  have F4 := Lib.hid (F3.out.later bw4)
  have HB4 := Lib.hid (HB3.out.trans (bw4.mono HB3.out.size))
  clear hw4 bw4 H3 G3 F3 HB3
  go_wp2_with (fail)
  refine (cs _ (G4.out.later ba1)).mono ?_
  rintro e w5 ⟨rfl, hw5⟩
  have bw5 : Below w4.heap.size w4 w5 := bel1 hw5
  have H5 := Lib.hid (H4.out.later bw5)
  have G5 := Lib.hid (G4.out.later bw5)
  have F5 := Lib.hid (F4.out.later bw5)
  have HB5 := Lib.hid (HB4.out.trans (bw5.mono HB4.out.size))
  clear hw5 bw5 H4 G4 F4 HB4
  go_wp2_with (fail)
  refine (kn _).mono ?_
  rintro e w6 ⟨rfl, hw6⟩
  have bw6 : Below w5.heap.size w5 w6 := hw6
  have H6 := Lib.hid (H5.out.later bw6)
  have G6 := Lib.hid (G5.out.later bw6)
  have F6 := Lib.hid (F5.out.later bw6)
  have HB6 := Lib.hid (HB5.out.trans (bw6.mono HB5.out.size))
  clear hw6 bw6 H5 G5 F5 HB5
  go_wp2
  go_ret
  exact ⟨rfl, HB6.out⟩
set_option maxHeartbeats 6400000 in
theorem gFr_g (a b c n5 : Int) (ao go : Option Addr) (cap gc : Nat) (L G : List Q) (w : World) (T : List Q) (k1 : L.length ≤ 200) (k3 : G.length ≤ 100) (hm : LiesO w ao L) (hg : LiesO w go G) (k4 : N12L G)
    (c1 : ∀ (W : World), LiesO W ao L → Calls Tryz.prog 12 #[.agg #[.int .i64 a, .int .i64 b, .int .i64 c, .slice ao L.length cap]] W fun e w' => e = .returned (.tuple #[.int .i64 n5, .int .i64 0]) ∧ Below W.heap.size W w')
    (c2 : ∀ (W : World), LiesO W ao L → Calls Tryz.prog 13 #[.agg #[.int .i64 a, .int .i64 b, .int .i64 c, .slice ao L.length cap]] W fun e w' => e = .returned (.tuple #[.int .i64 n5, .int .i64 0]) ∧ Below W.heap.size W w')
    (c3 : ∀ (W : World), LiesO W ao L → LiesO W go G → Calls Tryz.prog 14 #[.agg #[.int .i64 a, .int .i64 b, .int .i64 c, .slice ao L.length cap], .slice go G.length gc] W fun e w' => RetTf a b c L.length T e w' ∧ Below W.heap.size W w')
    (c4 : ∀ (W : World) (g k : Nat), LBox W g T → Calls Tryz.prog 12 #[.agg #[.int .i64 a, .int .i64 b, .int .i64 c, .slice (some ⟨g, 0, none⟩) L.length k]] W fun e w' => e = .returned (.tuple #[.int .i64 n5, .int .i64 0]) ∧ Below W.heap.size W w') : Calls Tryz.prog 4 #[.agg #[.int .i64 a, .int .i64 b, .int .i64 c, .slice ao L.length cap], .slice go G.length gc] w fun e w' => e = .returned (.bool true) ∧ Below w.heap.size w w' := by
  have kn := sane4_any
  have c0 := fun W : World => long4_any a b c ao cap L false W (.inr ⟨k1, rfl⟩)
  have i1 : ¬ (G.length : Int) > 100 := by omega
  have H0 := Lib.hid hm
  have G0 := Lib.hid hg
  have t2 : (n5 != n5) = false := by simp
  have t3 : (n5 == n5) = true := by simp
  have cs := fun (W : World) (h : LiesO W go G) => small4_any go gc G true W h (by omega) (.inl ⟨k4, rfl⟩)
  clear hm hg k1 k3 k4
  go_enter Tryz.func4, Tryz.ntmps4
  go_wp2_with (fail)
  refine (c0 _).mono ?_
  rintro e w1 ⟨rfl, hw1⟩
  have bw1 : Below w.heap.size w w1 := bel1 hw1
  have F1 := Lib.hid (FW.n1.later hw1)
  have H1 := Lib.hid (H0.out.later bw1)
  have G1 := Lib.hid (G0.out.later bw1)
  have HB1 := Lib.hid bw1
  clear hw1 bw1 H0 G0
  obtain ⟨f1_0, f1_1, f1_2, f1_3, f1_4, f1_5⟩ := F1.out
  go_wp2_with (fail)
  refine (c1 _ (H1.out)).mono ?_
  rintro e w2 ⟨rfl, hw2⟩
  clear f1_0 f1_1 f1_2 f1_3 f1_4 f1_5
  have bw2 : Below w1.heap.size w1 w2 := hw2
  have H2 := Lib.hid (H1.out.later bw2)
  have G2 := Lib.hid (G1.out.later bw2)
  have F2 := Lib.hid (F1.out.later bw2)
  have HB2 := Lib.hid (HB1.out.trans (bw2.mono HB1.out.size))
  clear hw2 bw2 H1 G1 F1 HB1
  obtain ⟨f2_0, f2_1, f2_2, f2_3, f2_4, f2_5⟩ := F2.out
  go_wp2_with (fail)
  refine (c2 _ (H2.out)).mono ?_
  rintro e w3 ⟨rfl, hw3⟩
  clear f2_0 f2_1 f2_2 f2_3 f2_4 f2_5
  have bw3 : Below w2.heap.size w2 w3 := hw3
  have H3 := Lib.hid (H2.out.later bw3)
  have G3 := Lib.hid (G2.out.later bw3)
  have F3 := Lib.hid (F2.out.later bw3)
  have HB3 := Lib.hid (HB2.out.trans (bw3.mono HB2.out.size))
  clear hw3 bw3 H2 G2 F2 HB2
  obtain ⟨f3_0, f3_1, f3_2, f3_3, f3_4, f3_5⟩ := F3.out
  go_wp2_with (fail)
  refine (c3 _ (H3.out) (G3.out)).mono ?_
  rintro e w4 ⟨⟨gT, kT, rfl, hbT⟩, hw4⟩
  clear f3_0 f3_1 f3_2 f3_3 f3_4 f3_5
  have bw4 : Below w3.heap.size w3 w4 := hw4
  have H4 := Lib.hid (H3.out.later bw4)
  have G4 := Lib.hid (G3.out.later bw4)
  have F4 := Lib.hid (F3.out.later bw4)
  have HB4 := Lib.hid (HB3.out.trans (bw4.mono HB3.out.size))
  have TT4 := Lib.hid hbT
  clear hbT
  clear hw4 bw4 H3 G3 F3 HB3
  go_wp2_with (fail)
  refine (cs _ (G4.out.later ba1)).mono ?_
  rintro e w5 ⟨rfl, hw5⟩
  have bw5 : Below w4.heap.size w4 w5 := bel1 hw5
  have TF5 := Lib.hid (FW.n1.later hw5)
  have H5 := Lib.hid (H4.out.later bw5)
  have G5 := Lib.hid (G4.out.later bw5)
  have F5 := Lib.hid (F4.out.later bw5)
  have TT5 := Lib.hid (TT4.out.later bw5)
  have HB5 := Lib.hid (HB4.out.trans (bw5.mono HB4.out.size))
  clear hw5 bw5 H4 G4 F4 TT4 HB4
  obtain ⟨tf5_0, tf5_1, tf5_2, tf5_3, tf5_4, tf5_5⟩ := TF5.out
  go_wp2_with (fail)
  refine (c4 _ _ _ (TT5.out)).mono ?_
  rintro e w6 ⟨rfl, hw6⟩
  clear tf5_0 tf5_1 tf5_2 tf5_3 tf5_4 tf5_5
  have bw6 : Below w5.heap.size w5 w6 := hw6
  have H6 := Lib.hid (H5.out.later bw6)
  have G6 := Lib.hid (G5.out.later bw6)
  have F6 := Lib.hid (F5.out.later bw6)
  have TT6 := Lib.hid (TT5.out.later bw6)
  have TF6 := Lib.hid (TF5.out.later bw6)
  have HB6 := Lib.hid (HB5.out.trans (bw6.mono HB5.out.size))
  clear hw6 bw6 H5 G5 F5 TT5 TF5 HB5
  go_wp2_with (fail)
  refine (kn _).mono ?_
  rintro e w7 ⟨rfl, hw7⟩
  have bw7 : Below w6.heap.size w6 w7 := hw7
  have H7 := Lib.hid (H6.out.later bw7)
  have G7 := Lib.hid (G6.out.later bw7)
  have F7 := Lib.hid (F6.out.later bw7)
  have TT7 := Lib.hid (TT6.out.later bw7)
  have TF7 := Lib.hid (TF6.out.later bw7)
  have HB7 := Lib.hid (HB6.out.trans (bw7.mono HB6.out.size))
  clear hw7 bw7 H6 G6 F6 TT6 TF6 HB6
  go_wp2
  go_ret
  exact ⟨rfl, HB7.out⟩
theorem gaugeFreedom_walk (a b c : Int) (ao : Option Addr) (L : List Q) (cap : Nat) (go : Option Addr) (G : List Q) (gc : Nat) (w : World) (_ : L.length ≤ maxLen) (hm : LiesO w ao L) (_ : G.length ≤ maxLen) (hg : LiesO w go G) : Calls Tryz.prog 4 #[.agg #[.int .i64 a, .int .i64 b, .int .i64 c, .slice ao L.length cap], .slice go G.length gc] w fun e w' => e = .returned (.bool true) ∧ Below w.heap.size w w' := by
  by_cases h : 200 < L.length
  · exact gFr_l1 a b c ao go cap gc L G w h
  by_cases h3 : 100 < G.length
  · exact gFr_l2 a b c ao go cap gc L G w (by omega) h3
  obtain ⟨r4, c4⟩ := trf_any a b c ao go cap gc L G (by omega) (by omega)
  obtain ⟨ms, r, hr⟩ := numsR_exG a b c L
  by_cases z : r = 0
  case neg =>
    have hp : prR a b c L ms a b c L ms r := by
      rcases hr with ⟨h1, h2, _⟩ | ⟨h1, ⟨_, h2⟩ | ⟨h2, h3⟩⟩
      · exact .inl ⟨h1, h2⟩
      · exact absurd h2 z
      · exact .inr (.inr ⟨h1, h1, false, false, h2, h2, by rw [h3]; rfl⟩)
    exact gFr_e a b c 0 r r4 ao go cap gc L G w (by omega) (by omega) hm hg z
      (fun W k1 => free_err a b c r ao cap L W k1 z (fun W j1 j2 => gaBw_err a b c a b c r ao ao cap cap L L ms ms W j1 j2 hp z (by omega) (by omega)))
      (fun W k1 => refFree_err a b c r ao cap L ms W k1 hr z (by omega)) c4
  subst z
  obtain ⟨hf, hS0, hF, N, hN⟩ := numsR_okG hr
  have hS : smR L ms true := by
    rcases hr with ⟨_, h2, _⟩ | ⟨_, ⟨h2, _⟩ | ⟨_, h3⟩⟩
    · exact absurd rfl h2
    · exact h2
    · exact absurd h3 (by decide)
  obtain ⟨hX, hX48⟩ := lp_good hF hS0 hN
  have hp1 := fld_pos1 hf
  by_cases hE : ∃ B, BasE (lpL a b c N L) (lpL a b c N L) B
  case neg =>
    exact gFr_x a b c ao go cap gc L G w (by omega) (by omega) hm (fun W k1 => (free_at a b c ao cap N L ms hf hS hN W k1).mono fun e w' ⟨⟨B, hB, he⟩, hw⟩ => absurd ⟨B, hB⟩ hE)
  obtain ⟨B0, hB0⟩ := hE
  have c1 : ∀ W : World, LiesO W ao L → Calls Tryz.prog 12 #[.agg #[.int .i64 a, .int .i64 b, .int .i64 c, .slice ao L.length cap]] W fun e w' => e = .returned (.tuple #[.int .i64 (B0.length : Int), .int .i64 0]) ∧ Below W.heap.size W w' := fun W k1 => (free_at a b c ao cap N L ms hf hS hN W k1).mono fun e w' ⟨⟨B, hB, he⟩, hw⟩ => ⟨by rw [he, hB.one hB0], hw⟩
  have c2 : ∀ W : World, LiesO W ao L → Calls Tryz.prog 13 #[.agg #[.int .i64 a, .int .i64 b, .int .i64 c, .slice ao L.length cap]] W fun e w' => e = .returned (.tuple #[.int .i64 (B0.length : Int), .int .i64 0]) ∧ Below W.heap.size W w' := fun W k1 => by
    obtain ⟨b1, o1, rfl, m1⟩ := liesO_one k1 hp1
    exact (refFree_ok a b c b1 o1 cap N L ms W m1 hf hS hN hX (by omega) (by omega)).mono fun e w' ⟨⟨R, hR, he⟩, hw⟩ => ⟨by rw [he, drE_dim hX hX rfl hR hB0], hw⟩
  by_cases z4 : r4 = 0
  case neg => exact gFr_t a b c B0.length r4 ao go cap gc L G w (by omega) (by omega) hm hg z4 c1 c2 c4
  subst z4
  by_cases h4 : N12L G
  case neg => exact gFr_s a b c B0.length ao go cap gc L G w (by omega) (by omega) hm hg h4 c1 c2 c4
  obtain ⟨r2, hr2⟩ := gaR_ex a b c L G
  by_cases z2 : r2 = 0
  case neg =>
    have c4' : ∀ W : World, LiesO W ao L → LiesO W go G → Calls Tryz.prog 14 #[.agg #[.int .i64 a, .int .i64 b, .int .i64 c, .slice ao L.length cap], .slice go G.length gc] W fun e w' => AnyF r2 e ∧ Below W.heap.size W w' := fun W k1 k2 => (gaT_bad a b c r2 ao go cap gc L G W k1 k2 hr2 z2 (by omega) (by omega)).mono fun e w' ⟨e1, hw⟩ => ⟨⟨_, _, _, _, _, _, e1⟩, hw⟩
    exact gFr_t a b c B0.length r2 ao go cap gc L G w (by omega) (by omega) hm hg z2 c1 c2 c4'
  subst z2
  have hz := hF.z
  have hnn := hF.n
  obtain ⟨-, -, p3, -⟩ := mul_rng hz.a1 hz.a4 hz.b1 hz.b4 hz.c1 hz.c4
  have hgn := (gaR_ok hr2).2.1
  have hG : AllS G := fun i x hx => ⟨((gaR_ok hr2).2.2 i x hx).1, (h4 i x hx).2⟩
  have hgN : G.length = N := by omega
  have hT := AllS.tf hz hnn hgn hS0 hG
  have hl2 : (tfL a b c L G).length = L.length := tfL_len _ _ _ _ _
  have hfl2 : fldR a b c (tfL a b c L G) 0 := fldR_small hz (by rw [hl2]; exact hnn) hT
  obtain ⟨ns2, hq2⟩ := smR_all hT
  have s0 : Sm2 (lk G 0) := hG.lk (by omega) (by omega)
  have e5 := lp_tf hF hN hgN hS0 hG
  have c3 : ∀ W : World, LiesO W ao L → LiesO W go G → Calls Tryz.prog 14 #[.agg #[.int .i64 a, .int .i64 b, .int .i64 c, .slice ao L.length cap], .slice go G.length gc] W fun e w' => RetTf a b c L.length (tfL a b c L G) e w' ∧ Below W.heap.size W w' := fun W k1 k2 => by
    obtain ⟨b1, o1, rfl, m1⟩ := liesO_one k1 (by omega)
    obtain ⟨b2, o2, rfl, m2⟩ := liesO_one k2 (by omega)
    exact gaT_lim a b c b1 o1 b2 o2 cap gc L G W m1 m2 hr2 hT.lim
  have c6 : ∀ (W : World) (g k : Nat), LBox W g (tfL a b c L G) → Calls Tryz.prog 12 #[.agg #[.int .i64 a, .int .i64 b, .int .i64 c, .slice (some ⟨g, 0, none⟩) L.length k]] W fun e w' => e = .returned (.tuple #[.int .i64 (B0.length : Int), .int .i64 0]) ∧ Below W.heap.size W w' := fun W g k k1 => by
    have := free_at a b c (some ⟨g, 0, none⟩) k N (tfL a b c L G) ns2 hfl2 hq2 hN W (.inr ⟨g, 0, rfl, k1.h⟩)
    rw [hl2] at this
    refine this.mono fun e w' ⟨⟨B, hB, he⟩, hw⟩ => ⟨?_, hw⟩
    rw [e5] at hB
    rw [he, free_same hX s0 hB0 hB]
  exact gFr_g a b c B0.length ao go cap gc L G w (tfL a b c L G) (by omega) (by omega) hm hg h4 c1 c2 c3 c6

/-! ### The statement of the law GaugeFreedom, out of its walk -/
set_option maxRecDepth 100000 in
theorem gaugeFreedom_lifted (os : Os) (started : os.Started) (H : Type) (enc : TypeId × Value → H) :
    ReturnsInHanded {} Tryz.checked os 4 .any (Rows.gaugeFreedomSpec.pre6 enc Tryz.prog Tryz.f4 Rows.gaugeFreedomRow.domain false) (Rows.gaugeFreedomSpec.post enc Tryz.prog Tryz.f4 false true false false) := by
  refine returnsInHanded_of_change (C := Tryz.checked) own started (by kernel_rfl) Tryz.func4
    (ChangeSpec.witness6 (enc := enc) (C := Tryz.checked) false ⟨#[], #[.agg #[.int .i64 0, .int .i64 0, .int .i64 0, .slice none 0 0], .slice none 0 0], []⟩ 8 (by kernel_rfl) (by kernel_rfl) (by kernel_rfl) (by kernel_rfl)) ?_
  intro W base args ds gs before hval0 hW hcnd _
  have hval : ∀ (j : Nat) t v, Tryz.f4.params[j]? = some t → args[j]? = some v → Value.okWide Tryz.prog W .any base t v := hval0
  have hW' := hW
  obtain ⟨p, q, hA0, hV, rfl, hfz, hnd⟩ := hW
  have hA : DataW.TrodAll enc Tryz.prog W 0 (fun _ => true) true Tryz.f4.params.toList args.toList ds p := hA0
  rw [Tryz.params4] at hA hval
  obtain ⟨v0, vs0, d0, ds0, p0, q0, hargs, rfl, rfl, h0, r0⟩ := trodAll_cons hA
  obtain ⟨v1, vs1, d1, ds1, p1, q1, rfl, rfl, rfl, h1, r1⟩ := trodAll_cons r0
  obtain ⟨rfl, rfl, rfl⟩ := trodAll_nil r1
  obtain rfl : args = #[v0, v1] := by cases args; simp_all
  obtain ⟨rfl, rfl⟩ := trodVars_none hV
  have k0 := h0
  have lt0 : ∀ x ∈ p0, x.block < W.heap.size := by obtain ⟨m, hm⟩ := k0; exact DataW.trod_lt m _ _ _ hm
  obtain ⟨x0, y0, z0, ao0, L0, cap0, rfl, hl0, hm0⟩ := open_field (hval 0 25 v0 rfl rfl) h0
  have k1 := h1
  have lt1 : ∀ x ∈ p1, x.block < W.heap.size := by obtain ⟨m, hm⟩ := k1; exact DataW.trod_lt m _ _ _ hm
  obtain ⟨ao1, L1, cap1, rfl, hl1, hm1⟩ := open_units (hval 1 23 v1 rfl rfl) h1
  clear hA0 hval0
  refine (gaugeFreedom_walk x0 y0 z0 ao0 L0 cap0 ao1 L1 cap1 W hl0 hm0 hl1 hm1).mono fun e W' ⟨he, bel⟩ => ?_
  subst he
  exact ⟨_, rfl, _, _, _, [], _, [], hW', trodAll_mk1 (shut_bool Tryz.underlying4 _), (trodAll_cons_mk (Below.trod laidOut (by kernel_rfl) (of_decide_eq_true (by kernel_rfl)) k0 bel lt0) (trodAll_cons_mk (Below.trod laidOut (by kernel_rfl) (of_decide_eq_true (by kernel_rfl)) k1 bel lt1) trodAll_mk0)), rfl, bel.frame _, fun h => by cases h⟩

theorem gaugeFreedom_jf9 : (Rows.gaugeFreedomRow.inPlace == Tryz.prog.inPlace 4) = true := by kernel_rfl
theorem gaugeFreedom_jf10 : (Rows.gaugeFreedomRow.unfollowed == Tryz.prog.unfollowed 4) = true := by kernel_rfl
theorem gaugeFreedom_jf11 : (Rows.gaugeFreedomRow.recurses == Tryz.prog.recurses 4) = true := by kernel_rfl
theorem gaugeFreedom_jf12 : (Rows.gaugeFreedomRow.named == Tryz.prog.varsNamed 4) = true := by kernel_rfl
theorem gaugeFreedom_facts : joinedFacts Tryz.prog 4 Tryz.f4 Rows.gaugeFreedomSpec Rows.gaugeFreedomRow = true := by
  unfold joinedFacts
  exact (band (band (band (band (band (band (band (band (band (band (band (band (band (band (band (band (band (band (band (band (band (band (band (band (band (band (band (band (band (band (band (by kernel_rfl) jf1) jf2) (by kernel_rfl)) (by kernel_rfl)) (by kernel_rfl)) jf6) (by kernel_rfl)) jf8) gaugeFreedom_jf9) gaugeFreedom_jf10) gaugeFreedom_jf11) gaugeFreedom_jf12) (by kernel_rfl)) (by kernel_rfl)) (by kernel_rfl)) (by kernel_rfl)) (by kernel_rfl)) (by kernel_rfl)) (by kernel_rfl)) (by kernel_rfl)) (by kernel_rfl)) (by kernel_rfl)) (by kernel_rfl)) jf24) jf25) jf26) jf27) (by kernel_rfl)) (by kernel_rfl)) (by kernel_rfl)) (by kernel_rfl))

theorem gaugeFreedom_over : Rows.gaugeFreedomRow.holds Tryz.pinned (OpenSpec.ofChange Rows.gaugeFreedomSpec) :=
  OpenClaim.holds_of_wide 4 Tryz.f4 rfl rfl rfl rfl rfl rfl rfl ⟨rfl, rfl, rfl, rfl, rfl⟩ rfl rfl rfl rfl rfl (by kernel_rfl) Tryz.func4 gaugeFreedom_facts
    (of_decide_eq_true (by kernel_rfl)) (by unfold Func.isWrapper; first | (rw [if_pos (by decide +kernel)]; kernel_rfl) | (rw [if_neg (by decide +kernel)]; exact ⟨rfl, rfl⟩))
    (fun os started H enc _ => gaugeFreedom_lifted os started H enc)

theorem gaugeFreedom_holds : Rows.GaugeFreedomSaid := gaugeFreedom_over
#print axioms gaugeFreedom_holds

end Go.Proofs.YtkgihmhehkaocaaGreat
