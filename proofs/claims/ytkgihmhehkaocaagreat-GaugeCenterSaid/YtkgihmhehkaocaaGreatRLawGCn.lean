/- GaugeCenter: the field with opposite links at one end of a direction is what the document says, its plaquettes are those of the field, and what goes around changes its sign, for all fields and directions.
Conditions: none. -/
import Derived.Test.YtkgihmhehkaocaaGreatRCnD
import Derived.Test.YtkgihmhehkaocaaGreatRMcP
import Derived.Test.YtkgihmhehkaocaaGreatRLqA
import Derived.Test.YtkgihmhehkaocaaGreatRSameU4
import Derived.Test.YtkgihmhehkaocaaGreatRGauG
import Derived.Test.YtkgihmhehkaocaaGreatRTopD
namespace Go.Proofs.YtkgihmhehkaocaaGreat
set_option linter.unusedVariables false
set_option linter.unusedSimpArgs false
set_option maxRecDepth 1000000
open Go.ChangeShapes Go.WideShapes Go.ChangeAt Go.RowKit
open Um Tm Lm

set_option maxHeartbeats 3200000 in
theorem gCn_l (a b c d : Int) (ao : Option Addr) (cap : Nat) (L : List Q) (w : World) (h : 200 < L.length) : Calls Tryz.prog 5 #[.agg #[.int .i64 a, .int .i64 b, .int .i64 c, .slice ao L.length cap], .int .i64 d] w fun e w' => e = .returned (.bool true) ∧ Below w.heap.size w w' := by
  have kn := sane4_any
  have c0 := fun W : World => long4_any a b c ao cap L true W (.inl ⟨h, rfl⟩)
  go_enter Tryz.func5, Tryz.ntmps5
  go_wp2_with (fail)
  refine (c0 _).mono ?_
  rintro e w1 ⟨rfl, hw1⟩
  have bw1 : Below w.heap.size w w1 := bel1 hw1
  have F1 := Lib.hid (FW.n1.later hw1)
  have HB1 := Lib.hid bw1
  clear hw1 bw1
  go_wp2_with (fail)
  refine (kn _).mono ?_
  rintro e w2 ⟨rfl, hw2⟩
  have bw2 : Below w1.heap.size w1 w2 := hw2
  have F2 := Lib.hid (F1.out.later bw2)
  have HB2 := Lib.hid (HB1.out.trans (bw2.mono HB1.out.size))
  clear hw2 bw2 F1 HB1
  go_wp2
  go_ret
  exact ⟨rfl, HB2.out⟩
set_option maxHeartbeats 3200000 in
theorem gCn_e (a b c d r : Int) (ao : Option Addr) (cap : Nat) (L : List Q) (w : World) (k1 : L.length ≤ 200) (hm : LiesO w ao L) (h0 : r ≠ 0)
    (c1 : ∀ (W : World), LiesO W ao L → Calls Tryz.prog 16 #[.agg #[.int .i64 a, .int .i64 b, .int .i64 c, .slice ao L.length cap], .int .i64 d] W fun e w' => e = .returned (.tuple #[.agg #[.int .i64 0, .int .i64 0, .int .i64 0, .slice none 0 0], .int .i64 r]) ∧ Below W.heap.size W w')
    (c2 : ∀ (W : World), LiesO W ao L → Calls Tryz.prog 17 #[.agg #[.int .i64 a, .int .i64 b, .int .i64 c, .slice ao L.length cap], .int .i64 d] W fun e w' => e = .returned (.tuple #[.agg #[.int .i64 0, .int .i64 0, .int .i64 0, .slice none 0 0], .int .i64 r]) ∧ Below W.heap.size W w') : Calls Tryz.prog 5 #[.agg #[.int .i64 a, .int .i64 b, .int .i64 c, .slice ao L.length cap], .int .i64 d] w fun e w' => e = .returned (.bool true) ∧ Below w.heap.size w w' := by
  have kn := sane4_any
  have c0 := fun W : World => long4_any a b c ao cap L false W (.inr ⟨k1, rfl⟩)
  have t1 : (r != r) = false := by simp
  have t2 : (r != 0) = true := by simpa using h0
  have sf : ∀ W : World, Calls Tryz.prog 18 #[.agg #[.int .i64 0, .int .i64 0, .int .i64 0, .slice none 0 0], .agg #[.int .i64 0, .int .i64 0, .int .i64 0, .slice none 0 0]] W fun e w' => e = .returned (.bool true) ∧ Below W.heap.size W w' := fun W => sameF4_any 0 0 0 none none 0 0 [] W (.inl rfl) (.inl rfl) (by simp)
  clear h0
  have H0 := Lib.hid hm
  clear hm k1
  go_enter Tryz.func5, Tryz.ntmps5
  go_wp2_with (fail)
  refine (c0 _).mono ?_
  rintro e w1 ⟨rfl, hw1⟩
  have bw1 : Below w.heap.size w w1 := bel1 hw1
  have F1 := Lib.hid (FW.n1.later hw1)
  have H1 := Lib.hid (H0.out.later bw1)
  have HB1 := Lib.hid bw1
  clear hw1 bw1 H0
  obtain ⟨f1_0, f1_1, f1_2, f1_3, f1_4, f1_5⟩ := F1.out
  go_wp2_with (fail)
  refine (c1 _ (H1.out)).mono ?_
  rintro e w2 ⟨rfl, hw2⟩
  clear f1_0 f1_1 f1_2 f1_3 f1_4 f1_5
  have bw2 : Below w1.heap.size w1 w2 := hw2
  have H2 := Lib.hid (H1.out.later bw2)
  have F2 := Lib.hid (F1.out.later bw2)
  have HB2 := Lib.hid (HB1.out.trans (bw2.mono HB1.out.size))
  clear hw2 bw2 H1 F1 HB1
  obtain ⟨f2_0, f2_1, f2_2, f2_3, f2_4, f2_5⟩ := F2.out
  go_wp2_with (fail)
  refine (c2 _ (H2.out.later ba1)).mono ?_
  rintro e w3 ⟨rfl, hw3⟩
  clear f2_0 f2_1 f2_2 f2_3 f2_4 f2_5
  have bw3 : Below w2.heap.size w2 w3 := bel1 hw3
  have A3 := Lib.hid (FW.n1.later hw3)
  have H3 := Lib.hid (H2.out.later bw3)
  have F3 := Lib.hid (F2.out.later bw3)
  have HB3 := Lib.hid (HB2.out.trans (bw3.mono HB2.out.size))
  clear hw3 bw3 H2 F2 HB2
  obtain ⟨a3_0, a3_1, a3_2, a3_3, a3_4, a3_5⟩ := A3.out
  go_wp2_with (fail)
  refine (sf _).mono ?_
  rintro e w4 ⟨rfl, hw4⟩
  clear a3_0 a3_1 a3_2 a3_3 a3_4 a3_5
  have bw4 : Below w3.heap.size w3 w4 := bel1 hw4
  have B4 := Lib.hid (FW.n1.later hw4)
  have H4 := Lib.hid (H3.out.later bw4)
  have F4 := Lib.hid (F3.out.later bw4)
  have A4 := Lib.hid (A3.out.later bw4)
  have HB4 := Lib.hid (HB3.out.trans (bw4.mono HB3.out.size))
  clear hw4 bw4 H3 F3 A3 HB3
  go_wp2_with (fail)
  refine (kn _).mono ?_
  rintro e w5 ⟨rfl, hw5⟩
  have bw5 : Below w4.heap.size w4 w5 := hw5
  have H5 := Lib.hid (H4.out.later bw5)
  have F5 := Lib.hid (F4.out.later bw5)
  have A5 := Lib.hid (A4.out.later bw5)
  have B5 := Lib.hid (B4.out.later bw5)
  have HB5 := Lib.hid (HB4.out.trans (bw5.mono HB4.out.size))
  clear hw5 bw5 H4 F4 A4 B4 HB4
  go_wp2
  go_ret
  exact ⟨rfl, HB5.out⟩
set_option maxHeartbeats 6400000 in
theorem gCn_g (a b c d z1 z2 : Int) (ao : Option Addr) (cap : Nat) (L : List Q) (w : World) (k1 : L.length ≤ 200) (hm : LiesO w ao L) (T P : List Q) (hz1 : -(1099511627776 : Int) ≤ z1 ∧ z1 ≤ 1099511627776)
    (c1 : ∀ (W : World), LiesO W ao L → Calls Tryz.prog 16 #[.agg #[.int .i64 a, .int .i64 b, .int .i64 c, .slice ao L.length cap], .int .i64 d] W fun e w' => RetTf a b c L.length T e w' ∧ Below W.heap.size W w')
    (c2 : ∀ (W : World), LiesO W ao L → Calls Tryz.prog 17 #[.agg #[.int .i64 a, .int .i64 b, .int .i64 c, .slice ao L.length cap], .int .i64 d] W fun e w' => RetTf a b c L.length T e w' ∧ Below W.heap.size W w')
    (s1 : ∀ (W : World) (g k g' k' : Nat), LBox W g T → LBox W g' T → Calls Tryz.prog 18 #[.agg #[.int .i64 a, .int .i64 b, .int .i64 c, .slice (some ⟨g, 0, none⟩) L.length k], .agg #[.int .i64 a, .int .i64 b, .int .i64 c, .slice (some ⟨g', 0, none⟩) L.length k']] W fun e w' => e = .returned (.bool true) ∧ Below W.heap.size W w')
    (c3 : ∀ (W : World), LiesO W ao L → Calls Tryz.prog 19 #[.agg #[.int .i64 a, .int .i64 b, .int .i64 c, .slice ao L.length cap]] W fun e w' => (∃ g k : Nat, e = .returned (.tuple #[.slice (some ⟨g, 0, none⟩) P.length k, .int .i64 0]) ∧ Lies w' g 0 P) ∧ Below W.heap.size W w')
    (c4 : ∀ (W : World) (g k : Nat), LBox W g T → Calls Tryz.prog 19 #[.agg #[.int .i64 a, .int .i64 b, .int .i64 c, .slice (some ⟨g, 0, none⟩) L.length k]] W fun e w' => (∃ g k : Nat, e = .returned (.tuple #[.slice (some ⟨g, 0, none⟩) P.length k, .int .i64 0]) ∧ Lies w' g 0 P) ∧ Below W.heap.size W w')
    (c5 : ∀ (W : World), LiesO W ao L → Calls Tryz.prog 20 #[.agg #[.int .i64 a, .int .i64 b, .int .i64 c, .slice ao L.length cap], .int .i64 d] W fun e w' => e = .returned (.tuple #[.agg #[.int .i64 z1, .int .i64 z2], .int .i64 0]) ∧ Below W.heap.size W w')
    (c6 : ∀ (W : World) (g k : Nat), LBox W g T → Calls Tryz.prog 20 #[.agg #[.int .i64 a, .int .i64 b, .int .i64 c, .slice (some ⟨g, 0, none⟩) L.length k], .int .i64 d] W fun e w' => e = .returned (.tuple #[.agg #[.int .i64 (-z1), .int .i64 z2], .int .i64 0]) ∧ Below W.heap.size W w')
    (s2 : ∀ (W : World) (g k g' k' : Nat), Lies W g 0 P → Lies W g' 0 P → Calls Tryz.prog 21 #[.slice (some ⟨g, 0, none⟩) P.length k, .slice (some ⟨g', 0, none⟩) P.length k'] W fun e w' => e = .returned (.bool true) ∧ Below W.heap.size W w') : Calls Tryz.prog 5 #[.agg #[.int .i64 a, .int .i64 b, .int .i64 c, .slice ao L.length cap], .int .i64 d] w fun e w' => e = .returned (.bool true) ∧ Below w.heap.size w w' := by
  have kn := sane4_any
  have c0 := fun W : World => long4_any a b c ao cap L false W (.inr ⟨k1, rfl⟩)
  have nw : IntKind.i64.wrap z1 = z1 := IntWalk.i64_in _ (by omega)
  have nw2 : IntKind.i64.wrap (- -z1) = z1 := by rw [Int.neg_neg]; exact nw
  have t3 : (z1 == z1) = true := by simp
  have t4 : (z2 == z2) = true := by simp
  clear hz1
  have H0 := Lib.hid hm
  clear hm k1
  go_enter Tryz.func5, Tryz.ntmps5
  go_wp2_with (fail)
  refine (c0 _).mono ?_
  rintro e w1 ⟨rfl, hw1⟩
  have bw1 : Below w.heap.size w w1 := bel1 hw1
  have F1 := Lib.hid (FW.n1.later hw1)
  have H1 := Lib.hid (H0.out.later bw1)
  have HB1 := Lib.hid bw1
  clear hw1 bw1 H0
  obtain ⟨f1_0, f1_1, f1_2, f1_3, f1_4, f1_5⟩ := F1.out
  go_wp2_with (fail)
  refine (c1 _ (H1.out)).mono ?_
  rintro e w2 ⟨⟨g1, k1, rfl, hb1⟩, hw2⟩
  clear f1_0 f1_1 f1_2 f1_3 f1_4 f1_5
  have bw2 : Below w1.heap.size w1 w2 := hw2
  have H2 := Lib.hid (H1.out.later bw2)
  have F2 := Lib.hid (F1.out.later bw2)
  have HB2 := Lib.hid (HB1.out.trans (bw2.mono HB1.out.size))
  have TA2 := Lib.hid hb1
  clear hb1
  clear hw2 bw2 H1 F1 HB1
  obtain ⟨f2_0, f2_1, f2_2, f2_3, f2_4, f2_5⟩ := F2.out
  go_wp2_with (fail)
  refine (c2 _ (H2.out.later ba1)).mono ?_
  rintro e w3 ⟨⟨g2, k2, rfl, hb2⟩, hw3⟩
  clear f2_0 f2_1 f2_2 f2_3 f2_4 f2_5
  have bw3 : Below w2.heap.size w2 w3 := bel1 hw3
  have A3 := Lib.hid (FW.n1.later hw3)
  have H3 := Lib.hid (H2.out.later bw3)
  have F3 := Lib.hid (F2.out.later bw3)
  have TA3 := Lib.hid (TA2.out.later bw3)
  have HB3 := Lib.hid (HB2.out.trans (bw3.mono HB2.out.size))
  have TC3 := Lib.hid hb2
  clear hb2
  clear hw3 bw3 H2 F2 TA2 HB2
  obtain ⟨a3_0, a3_1, a3_2, a3_3, a3_4, a3_5⟩ := A3.out
  go_wp2_with (fail)
  refine (s1 _ _ _ _ _ (TA3.out.later ba1) (TC3.out.later ba1)).mono ?_
  rintro e w4 ⟨rfl, hw4⟩
  clear a3_0 a3_1 a3_2 a3_3 a3_4 a3_5
  have bw4 : Below w3.heap.size w3 w4 := bel1 hw4
  have B4 := Lib.hid (FW.n1.later hw4)
  have H4 := Lib.hid (H3.out.later bw4)
  have F4 := Lib.hid (F3.out.later bw4)
  have TA4 := Lib.hid (TA3.out.later bw4)
  have A4 := Lib.hid (A3.out.later bw4)
  have TC4 := Lib.hid (TC3.out.later bw4)
  have HB4 := Lib.hid (HB3.out.trans (bw4.mono HB3.out.size))
  clear hw4 bw4 H3 F3 TA3 A3 TC3 HB3
  obtain ⟨f4_0, f4_1, f4_2, f4_3, f4_4, f4_5⟩ := F4.out
  go_wp2_with (fail)
  refine (c3 _ (H4.out)).mono ?_
  rintro e w5 ⟨⟨g3, k3, rfl, hb3⟩, hw5⟩
  clear f4_0 f4_1 f4_2 f4_3 f4_4 f4_5
  have bw5 : Below w4.heap.size w4 w5 := hw5
  have H5 := Lib.hid (H4.out.later bw5)
  have F5 := Lib.hid (F4.out.later bw5)
  have TA5 := Lib.hid (TA4.out.later bw5)
  have A5 := Lib.hid (A4.out.later bw5)
  have TC5 := Lib.hid (TC4.out.later bw5)
  have B5 := Lib.hid (B4.out.later bw5)
  have HB5 := Lib.hid (HB4.out.trans (bw5.mono HB4.out.size))
  have X5 := Lib.hid hb3
  clear hb3
  clear hw5 bw5 H4 F4 TA4 A4 TC4 B4 HB4
  obtain ⟨a5_0, a5_1, a5_2, a5_3, a5_4, a5_5⟩ := A5.out
  go_wp2_with (fail)
  refine (c4 _ _ _ (TA5.out)).mono ?_
  rintro e w6 ⟨⟨g4, k4, rfl, hb4⟩, hw6⟩
  clear a5_0 a5_1 a5_2 a5_3 a5_4 a5_5
  have bw6 : Below w5.heap.size w5 w6 := hw6
  have H6 := Lib.hid (H5.out.later bw6)
  have F6 := Lib.hid (F5.out.later bw6)
  have TA6 := Lib.hid (TA5.out.later bw6)
  have A6 := Lib.hid (A5.out.later bw6)
  have TC6 := Lib.hid (TC5.out.later bw6)
  have B6 := Lib.hid (B5.out.later bw6)
  have X6 := Lib.hid (X5.out.later bw6)
  have HB6 := Lib.hid (HB5.out.trans (bw6.mono HB5.out.size))
  have Y6 := Lib.hid hb4
  clear hb4
  clear hw6 bw6 H5 F5 TA5 A5 TC5 B5 X5 HB5
  obtain ⟨f6_0, f6_1, f6_2, f6_3, f6_4, f6_5⟩ := F6.out
  go_wp2_with (fail)
  refine (c5 _ (H6.out)).mono ?_
  rintro e w7 ⟨rfl, hw7⟩
  clear f6_0 f6_1 f6_2 f6_3 f6_4 f6_5
  have bw7 : Below w6.heap.size w6 w7 := hw7
  have H7 := Lib.hid (H6.out.later bw7)
  have F7 := Lib.hid (F6.out.later bw7)
  have TA7 := Lib.hid (TA6.out.later bw7)
  have A7 := Lib.hid (A6.out.later bw7)
  have TC7 := Lib.hid (TC6.out.later bw7)
  have B7 := Lib.hid (B6.out.later bw7)
  have X7 := Lib.hid (X6.out.later bw7)
  have Y7 := Lib.hid (Y6.out.later bw7)
  have HB7 := Lib.hid (HB6.out.trans (bw7.mono HB6.out.size))
  clear hw7 bw7 H6 F6 TA6 A6 TC6 B6 X6 Y6 HB6
  obtain ⟨a7_0, a7_1, a7_2, a7_3, a7_4, a7_5⟩ := A7.out
  go_wp2_with (fail)
  refine (c6 _ _ _ (TA7.out.later ba1)).mono ?_
  rintro e w8 ⟨rfl, hw8⟩
  clear a7_0 a7_1 a7_2 a7_3 a7_4 a7_5
  have bw8 : Below w7.heap.size w7 w8 := bel1 hw8
  have U8 := Lib.hid (C2.n1.later hw8)
  have H8 := Lib.hid (H7.out.later bw8)
  have F8 := Lib.hid (F7.out.later bw8)
  have TA8 := Lib.hid (TA7.out.later bw8)
  have A8 := Lib.hid (A7.out.later bw8)
  have TC8 := Lib.hid (TC7.out.later bw8)
  have B8 := Lib.hid (B7.out.later bw8)
  have X8 := Lib.hid (X7.out.later bw8)
  have Y8 := Lib.hid (Y7.out.later bw8)
  have HB8 := Lib.hid (HB7.out.trans (bw8.mono HB7.out.size))
  clear hw8 bw8 H7 F7 TA7 A7 TC7 B7 X7 Y7 HB7
  go_wp2_with (fail)
  refine (s2 _ _ _ _ _ (X8.out.later ba1) (Y8.out.later ba1)).mono ?_
  rintro e w9 ⟨rfl, hw9⟩
  have bw9 : Below w8.heap.size w8 w9 := bel1 hw9
  have V9 := Lib.hid (C2.n1.later hw9)
  have H9 := Lib.hid (H8.out.later bw9)
  have F9 := Lib.hid (F8.out.later bw9)
  have TA9 := Lib.hid (TA8.out.later bw9)
  have A9 := Lib.hid (A8.out.later bw9)
  have TC9 := Lib.hid (TC8.out.later bw9)
  have B9 := Lib.hid (B8.out.later bw9)
  have X9 := Lib.hid (X8.out.later bw9)
  have Y9 := Lib.hid (Y8.out.later bw9)
  have U9 := Lib.hid (U8.out.later bw9)
  have HB9 := Lib.hid (HB8.out.trans (bw9.mono HB8.out.size))
  clear hw9 bw9 H8 F8 TA8 A8 TC8 B8 X8 Y8 U8 HB8
  obtain ⟨u9_0, u9_1, u9_2, u9_3⟩ := U9.out
  obtain ⟨v9_0, v9_1, v9_2, v9_3⟩ := V9.out
  go_wp2_with (fail)
  refine (kn _).mono ?_
  rintro e w10 ⟨rfl, hw10⟩
  clear u9_0 u9_1 u9_2 u9_3 v9_0 v9_1 v9_2 v9_3
  have bw10 : Below w9.heap.size w9 w10 := hw10
  have H10 := Lib.hid (H9.out.later bw10)
  have F10 := Lib.hid (F9.out.later bw10)
  have TA10 := Lib.hid (TA9.out.later bw10)
  have A10 := Lib.hid (A9.out.later bw10)
  have TC10 := Lib.hid (TC9.out.later bw10)
  have B10 := Lib.hid (B9.out.later bw10)
  have X10 := Lib.hid (X9.out.later bw10)
  have Y10 := Lib.hid (Y9.out.later bw10)
  have U10 := Lib.hid (U9.out.later bw10)
  have V10 := Lib.hid (V9.out.later bw10)
  have HB10 := Lib.hid (HB9.out.trans (bw10.mono HB9.out.size))
  clear hw10 bw10 H9 F9 TA9 A9 TC9 B9 X9 Y9 U9 V9 HB9
  go_wp2
  go_ret
  exact ⟨rfl, HB10.out⟩
theorem center_okA (a b c d : Int) (bl off cap N : Nat) (L : List Q) (w : World) (hl : Lies w bl off L) (hF : Fl a b c L) (hN : (N : Int) = a * b * c) (hd : 0 ≤ d ∧ d ≤ 2) : Calls Tryz.prog 16 #[.agg #[.int .i64 a, .int .i64 b, .int .i64 c, .slice (some ⟨bl, off, none⟩) L.length cap], .int .i64 d] w fun e w' => RetTf a b c L.length (cenL a b c d L) e w' ∧ Below w.heap.size w w' := by
  have : d = 0 ∨ d = 1 ∨ d = 2 := by omega
  rcases this with rfl | rfl | rfl
  · exact center_ok0 a b c bl off cap N L w hl hF hN
  · exact center_ok1 a b c bl off cap N L w hl hF hN
  · exact center_ok2 a b c bl off cap N L w hl hF hN
theorem refCenter_okA (a b c d : Int) (bl off cap N : Nat) (L : List Q) (w : World) (hl : Lies w bl off L) (hF : Fl a b c L) (hN : (N : Int) = a * b * c) (hd : 0 ≤ d ∧ d ≤ 2) : Calls Tryz.prog 17 #[.agg #[.int .i64 a, .int .i64 b, .int .i64 c, .slice (some ⟨bl, off, none⟩) L.length cap], .int .i64 d] w fun e w' => RetTf a b c L.length (cenL a b c d L) e w' ∧ Below w.heap.size w w' := by
  have : d = 0 ∨ d = 1 ∨ d = 2 := by omega
  rcases this with rfl | rfl | rfl
  · exact refCenter_ok0 a b c bl off cap N L w hl hF hN
  · exact refCenter_ok1 a b c bl off cap N L w hl hF hN
  · exact refCenter_ok2 a b c bl off cap N L w hl hF hN
/-- the path around in a direction -/
def pthD (a b c d : Int) : List Int := List.replicate (if d = 0 then a.toNat else if d = 1 then b.toNat else c.toNat) (d + 1)
theorem pthD_steps {a b c d : Int} (hd : 0 ≤ d ∧ d ≤ 2) : ∀ t ∈ pthD a b c d, IsStep t := rep_steps _ ⟨by omega, by omega, by omega⟩
theorem pthD_len {a b c d : Int} (hz : Sz a b c) : (pthD a b c d).length ≤ 8 := by
  obtain ⟨a1, a4, b1, b4, c1, c4, hp⟩ := hz
  unfold pthD
  rw [List.length_replicate]
  split
  · omega
  · split <;> omega
theorem polyakov_okA (a b c d : Int) (bl off cap N : Nat) (L : List Q) (w : World) (hl : Lies w bl off L) (hF : Fl a b c L) (hN : (N : Int) = a * b * c) (hd : 0 ≤ d ∧ d ≤ 2) : Calls Tryz.prog 20 #[.agg #[.int .i64 a, .int .i64 b, .int .i64 c, .slice (some ⟨bl, off, none⟩) L.length cap], .int .i64 d] w fun e w' => e = .returned (.tuple #[.agg #[.int .i64 ((meanR (tl a b c L (pthD a b c d) N))).1, .int .i64 ((meanR (tl a b c L (pthD a b c d) N))).2], .int .i64 0]) ∧ Below w.heap.size w w' := by
  have : d = 0 ∨ d = 1 ∨ d = 2 := by omega
  rcases this with rfl | rfl | rfl
  · exact polyakov_ok0 a b c bl off cap N L w hl hF hN
  · exact polyakov_ok1 a b c bl off cap N L w hl hF hN
  · exact polyakov_ok2 a b c bl off cap N L w hl hF hN
theorem gaugeCenter_walk (a b c : Int) (ao : Option Addr) (L : List Q) (cap : Nat) (d : Int) (w : World) (_ : L.length ≤ maxLen) (hm : LiesO w ao L) : Calls Tryz.prog 5 #[.agg #[.int .i64 a, .int .i64 b, .int .i64 c, .slice ao L.length cap], .int .i64 d] w fun e w' => e = .returned (.bool true) ∧ Below w.heap.size w w' := by
  by_cases h : 200 < L.length
  · exact gCn_l a b c d ao cap L w h
  obtain ⟨r, hr⟩ := fldR_ex a b c L
  by_cases z : r = 0
  case neg =>
    exact gCn_e a b c d r ao cap L w (by omega) hm z (fun W k1 => center_bad a b c d r ao cap L W k1 hr z (by omega)) (fun W k1 => refCenter_bad a b c d r ao cap L W k1 hr z (by omega))
  subst z
  by_cases hd : 0 ≤ d ∧ d ≤ 2
  case neg =>
    exact gCn_e a b c d 1 ao cap L w (by omega) hm (by decide) (fun W k1 => center_arg a b c d ao cap L W k1 hr hd (by omega)) (fun W k1 => refCenter_arg a b c d ao cap L W k1 hr hd (by omega))
  have hF : Fl a b c L := ⟨(fldR_ok hr).1, (fldR_ok hr).2.1, (fldR_ok hr).2.2⟩
  have hz := hF.z
  have hnn := hF.n
  have hp16 := hz.p
  obtain ⟨-, -, p3, -⟩ := mul_rng hz.a1 hz.a4 hz.b1 hz.b4 hz.c1 hz.c4
  obtain ⟨N, hN⟩ : ∃ N : Nat, (N : Int) = a * b * c := ⟨(a * b * c).toNat, by omega⟩
  have hp := fld_pos hr
  have hF2 : Fl a b c (cenL a b c d L) := cen_Fl hF
  have hl2 : (cenL a b c d L).length = L.length := cenL_len _ _ _ _ _
  have hPl : (pqs a b c L (3 * N)).length = 3 * N := pqs_len _ _ _ _ _
  have hPc : pqs a b c (cenL a b c d L) (3 * N) = pqs a b c L (3 * N) := by rw [← pqs_plqs, pqs_cen hF hd.1 hd.2 hN, pqs_plqs]
  have hTc : meanR (tl a b c (cenL a b c d L) (pthD a b c d) N) = ngR (meanR (tl a b c L (pthD a b c d) N)) := by rw [tl_cen hF hd.1 hd.2 hN (pthD_steps hd) rfl, meanR_ng]
  have hbn := meanR_bnd (tl_rt hF hN (pthD_steps hd) (pthD_len hz)) ⟨by decide, by decide⟩ (by simp [tl]; omega)
  refine gCn_g a b c d (meanR (tl a b c L (pthD a b c d) N)).1 (meanR (tl a b c L (pthD a b c d) N)).2 ao cap L w (by omega) hm (cenL a b c d L) (pqs a b c L (3 * N)) hbn ?_ ?_ ?_ ?_ ?_ ?_ ?_ ?_
  · intro W k1
    obtain ⟨b1, o1, rfl, m1⟩ := liesO_some k1 hp
    exact center_okA a b c d b1 o1 cap N L W m1 hF hN hd
  · intro W k1
    obtain ⟨b1, o1, rfl, m1⟩ := liesO_some k1 hp
    exact refCenter_okA a b c d b1 o1 cap N L W m1 hF hN hd
  · intro W g k g' k' l1 l2
    have := sameF4_any a b c (some ⟨g, 0, none⟩) (some ⟨g', 0, none⟩) k k' (cenL a b c d L) W (.inr ⟨g, 0, rfl, l1.h⟩) (.inr ⟨g', 0, rfl, l2.h⟩) (by rw [hl2]; omega)
    rw [hl2] at this
    exact this
  · intro W k1
    obtain ⟨b1, o1, rfl, m1⟩ := liesO_some k1 hp
    rw [hPl]
    exact (plaquettes_lies a b c b1 o1 cap N L W m1 hF hN).mono fun e w' ⟨g, k, e1, e2, hw⟩ => ⟨⟨g, k, e1, e2⟩, hw⟩
  · intro W g k l1
    rw [hPl]
    have := plaquettes_lies a b c g 0 k N (cenL a b c d L) W l1.h hF2 hN
    rw [hl2, hPc] at this
    exact this.mono fun e w' ⟨g, k, e1, e2, hw⟩ => ⟨⟨g, k, e1, e2⟩, hw⟩
  · intro W k1
    obtain ⟨b1, o1, rfl, m1⟩ := liesO_some k1 hp
    exact polyakov_okA a b c d b1 o1 cap N L W m1 hF hN hd
  · intro W g k l1
    have := polyakov_okA a b c d g 0 k N (cenL a b c d L) W l1.h hF2 hN hd
    rw [hl2, hTc] at this
    exact this
  · intro W g k g' k' l1 l2
    exact sameU4_any (some ⟨g, 0, none⟩) (some ⟨g', 0, none⟩) k k' (pqs a b c L (3 * N)) W (.inr ⟨g, 0, rfl, l1⟩) (.inr ⟨g', 0, rfl, l2⟩) (by rw [hPl]; omega)

/-! ### The statement of the law GaugeCenter, out of its walk -/
set_option maxRecDepth 100000 in
theorem gaugeCenter_lifted (os : Os) (started : os.Started) (H : Type) (enc : TypeId × Value → H) :
    ReturnsInHanded {} Tryz.checked os 5 .any (Rows.gaugeCenterSpec.pre6 enc Tryz.prog Tryz.f5 Rows.gaugeCenterRow.domain false) (Rows.gaugeCenterSpec.post enc Tryz.prog Tryz.f5 false true false false) := by
  refine returnsInHanded_of_change (C := Tryz.checked) own started (by kernel_rfl) Tryz.func5
    (ChangeSpec.witness6 (enc := enc) (C := Tryz.checked) false ⟨#[], #[.agg #[.int .i64 0, .int .i64 0, .int .i64 0, .slice none 0 0], .int .i64 0], []⟩ 8 (by kernel_rfl) (by kernel_rfl) (by kernel_rfl) (by kernel_rfl)) ?_
  intro W base args ds gs before hval0 hW hcnd _
  have hval : ∀ (j : Nat) t v, Tryz.f5.params[j]? = some t → args[j]? = some v → Value.okWide Tryz.prog W .any base t v := hval0
  have hW' := hW
  obtain ⟨p, q, hA0, hV, rfl, hfz, hnd⟩ := hW
  have hA : DataW.TrodAll enc Tryz.prog W 0 (fun _ => true) true Tryz.f5.params.toList args.toList ds p := hA0
  rw [Tryz.params5] at hA hval
  obtain ⟨v0, vs0, d0, ds0, p0, q0, hargs, rfl, rfl, h0, r0⟩ := trodAll_cons hA
  obtain ⟨v1, vs1, d1, ds1, p1, q1, rfl, rfl, rfl, h1, r1⟩ := trodAll_cons r0
  obtain ⟨rfl, rfl, rfl⟩ := trodAll_nil r1
  obtain rfl : args = #[v0, v1] := by cases args; simp_all
  obtain ⟨rfl, rfl⟩ := trodVars_none hV
  have k0 := h0
  have lt0 : ∀ x ∈ p0, x.block < W.heap.size := by obtain ⟨m, hm⟩ := k0; exact DataW.trod_lt m _ _ _ hm
  obtain ⟨x0, y0, z0, ao0, L0, cap0, rfl, hl0, hm0⟩ := open_field (hval 0 25 v0 rfl rfl) h0
  have k1 := h1
  have lt1 : ∀ x ∈ p1, x.block < W.heap.size := by obtain ⟨m, hm⟩ := k1; exact DataW.trod_lt m _ _ _ hm
  obtain ⟨x1, e1, -, -, -⟩ := open_int Tryz.underlying3 (hval 1 3 v1 rfl rfl) h1
  subst e1
  clear hA0 hval0
  refine (gaugeCenter_walk x0 y0 z0 ao0 L0 cap0 x1 W hl0 hm0).mono fun e W' ⟨he, bel⟩ => ?_
  subst he
  exact ⟨_, rfl, _, _, _, [], _, [], hW', trodAll_mk1 (shut_bool Tryz.underlying4 _), (trodAll_cons_mk (Below.trod laidOut (by kernel_rfl) (of_decide_eq_true (by kernel_rfl)) k0 bel lt0) (trodAll_cons_mk (Below.trod laidOut (by kernel_rfl) (of_decide_eq_true (by kernel_rfl)) k1 bel lt1) trodAll_mk0)), rfl, bel.frame _, fun h => by cases h⟩

theorem gaugeCenter_jf9 : (Rows.gaugeCenterRow.inPlace == Tryz.prog.inPlace 5) = true := by kernel_rfl
theorem gaugeCenter_jf10 : (Rows.gaugeCenterRow.unfollowed == Tryz.prog.unfollowed 5) = true := by kernel_rfl
theorem gaugeCenter_jf11 : (Rows.gaugeCenterRow.recurses == Tryz.prog.recurses 5) = true := by kernel_rfl
theorem gaugeCenter_jf12 : (Rows.gaugeCenterRow.named == Tryz.prog.varsNamed 5) = true := by kernel_rfl
theorem gaugeCenter_facts : joinedFacts Tryz.prog 5 Tryz.f5 Rows.gaugeCenterSpec Rows.gaugeCenterRow = true := by
  unfold joinedFacts
  exact (band (band (band (band (band (band (band (band (band (band (band (band (band (band (band (band (band (band (band (band (band (band (band (band (band (band (band (band (band (band (band (by kernel_rfl) jf1) jf2) (by kernel_rfl)) (by kernel_rfl)) (by kernel_rfl)) jf6) (by kernel_rfl)) jf8) gaugeCenter_jf9) gaugeCenter_jf10) gaugeCenter_jf11) gaugeCenter_jf12) (by kernel_rfl)) (by kernel_rfl)) (by kernel_rfl)) (by kernel_rfl)) (by kernel_rfl)) (by kernel_rfl)) (by kernel_rfl)) (by kernel_rfl)) (by kernel_rfl)) (by kernel_rfl)) (by kernel_rfl)) jf24) jf25) jf26) jf27) (by kernel_rfl)) (by kernel_rfl)) (by kernel_rfl)) (by kernel_rfl))

theorem gaugeCenter_over : Rows.gaugeCenterRow.holds Tryz.pinned (OpenSpec.ofChange Rows.gaugeCenterSpec) :=
  OpenClaim.holds_of_wide 5 Tryz.f5 rfl rfl rfl rfl rfl rfl rfl ⟨rfl, rfl, rfl, rfl, rfl⟩ rfl rfl rfl rfl rfl (by kernel_rfl) Tryz.func5 gaugeCenter_facts
    (of_decide_eq_true (by kernel_rfl)) (by unfold Func.isWrapper; first | (rw [if_pos (by decide +kernel)]; kernel_rfl) | (rw [if_neg (by decide +kernel)]; exact ⟨rfl, rfl⟩))
    (fun os started H enc _ => gaugeCenter_lifted os started H enc)

theorem gaugeCenter_holds : Rows.GaugeCenterSaid := gaugeCenter_over
#print axioms gaugeCenter_holds

end Go.Proofs.YtkgihmhehkaocaaGreat
