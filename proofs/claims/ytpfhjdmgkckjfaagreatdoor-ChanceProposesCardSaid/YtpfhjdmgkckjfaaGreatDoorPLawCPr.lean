/- ChanceProposes: what becomes of a proposed turn is what the document says, for all fields, weights, links, turns and draws.
Conditions: none. -/
import Derived.Test.YtpfhjdmgkckjfaaGreatDoorPMtR
import Derived.Test.YtpfhjdmgkckjfaaGreatDoorPCopB
import Derived.Test.YtpfhjdmgkckjfaaGreatDoorPSameU4
import Derived.Test.YtpfhjdmgkckjfaaGreatDoorPAryC
import Derived.Test.YtpfhjdmgkckjfaaGreatDoorPSane5
import Derived.Test.YtpfhjdmgkckjfaaGreatDoorPCpdC
import Derived.Test.YtpfhjdmgkckjfaaGreatDoorPOpen4
import Derived.Test.YtpfhjdmgkckjfaaGreatDoorPCloC
import Derived.Test.YtpfhjdmgkckjfaaGreatDoorPDist
import Derived.ChangeKeysEq
namespace Go.Proofs.YtpfhjdmgkckjfaaGreatDoor
set_option linter.unusedVariables false
set_option linter.unusedSimpArgs false
set_option maxRecDepth 1000000
open Go.ChangeShapes Go.WideShapes Go.ChangeAt Go.RowKit
open Um Tm Cm
open Go.Sort

set_option maxHeartbeats 3200000 in
theorem cPr_l (a b c p0 p1 p2 p3 p4 l x y : Int) (ao : Option Addr) (cap : Nat) (L : List Q) (w : World) (h : 200 < L.length) : Calls Tryz.prog 6 #[.agg #[.int .i64 a, .int .i64 b, .int .i64 c, .slice ao L.length cap], .agg #[.int .i64 p0, .int .i64 p1, .int .i64 p2, .int .i64 p3, .int .i64 p4], .agg #[.int .i64 l, .int .i64 x, .int .i64 y]] w fun e w' => e = .returned (.bool true) ∧ Below w.heap.size w w' := by
  have kn := sane5_any
  have c0 := fun W : World => long5_any a b c ao cap L true W (.inl ⟨h, rfl⟩)
  go_enter Tryz.func6, Tryz.ntmps6
  go_wp2_with (fail)
  refine (c0 _).mono ?_
  rintro e w1 ⟨rfl, hw1⟩
  have bw1 : Below w.heap.size w w1 := bel3 hw1
  have F1 := Lib.hid (FW.n3a.later hw1)
  have E1 := Lib.hid (C5.n3b.later hw1)
  have X1 := Lib.hid (C3.n3c.later hw1)
  have HB1 := Lib.hid bw1
  clear hw1 bw1
  go_wp2_with (fail)
  refine (kn _).mono ?_
  rintro e w2 ⟨rfl, hw2⟩
  have bw2 : Below w1.heap.size w1 w2 := hw2
  have F2 := Lib.hid (F1.out.later bw2)
  have E2 := Lib.hid (E1.out.later bw2)
  have X2 := Lib.hid (X1.out.later bw2)
  have HB2 := Lib.hid (HB1.out.trans (bw2.mono HB1.out.size))
  clear hw2 bw2 F1 E1 X1 HB1
  go_wp2
  go_ret
  exact ⟨rfl, HB2.out⟩
set_option maxHeartbeats 12800000 in
theorem cPr_e (a b c p0 p1 p2 p3 p4 l x y q : Int) (ao : Option Addr) (cap : Nat) (L : List Q) (w : World) (k1 : L.length ≤ 200) (hm : LiesO w ao L) (hst : StA w)
    (c7 : ∀ (W : World), LiesO W ao L → Calls Tryz.prog 17 #[.agg #[.int .i64 a, .int .i64 b, .int .i64 c, .slice ao L.length cap]] W fun e w' => (∃ g k : Nat, e = .returned (.agg #[.int .i64 a, .int .i64 b, .int .i64 c, .slice (some ⟨g, 0, none⟩) L.length k]) ∧ Lies w' g 0 L) ∧ Below W.heap.size W w')
    (c1 : ∀ (W : World) (g k : Nat), Lies W g 0 L → StA W → Calls Tryz.prog 25 #[.agg #[.int .i64 a, .int .i64 b, .int .i64 c, .slice (some ⟨g, 0, none⟩) L.length k], .agg #[.int .i64 p0, .int .i64 p1, .int .i64 p2, .int .i64 p3, .int .i64 p4], .int .i64 l, .int .i64 x, .int .i64 y] W fun e w' => e = .returned (.tuple #[.agg #[.int .i64 0, .int .i64 0, .int .i64 0, .slice none 0 0], .bool false, .int .i64 q]) ∧ Below W.heap.size W w')
    (c2 : ∀ (W : World), LiesO W ao L → Calls Tryz.prog 26 #[.agg #[.int .i64 a, .int .i64 b, .int .i64 c, .slice ao L.length cap], .agg #[.int .i64 p0, .int .i64 p1, .int .i64 p2, .int .i64 p3, .int .i64 p4], .int .i64 l, .int .i64 x, .int .i64 y] W fun e w' => e = .returned (.tuple #[.agg #[.int .i64 0, .int .i64 0, .int .i64 0, .slice none 0 0], .bool false, .int .i64 q]) ∧ Below W.heap.size W w')
    (c3 : ∀ (W : World), Calls Tryz.prog 20 #[.agg #[.int .i64 0, .int .i64 0, .int .i64 0, .slice none 0 0], .agg #[.int .i64 0, .int .i64 0, .int .i64 0, .slice none 0 0]] W fun e w' => e = .returned (.bool true) ∧ Below W.heap.size W w')
    (c4 : ∀ (W : World) (g k : Nat), Lies W g 0 L → LiesO W ao L → Calls Tryz.prog 20 #[.agg #[.int .i64 a, .int .i64 b, .int .i64 c, .slice (some ⟨g, 0, none⟩) L.length k], .agg #[.int .i64 a, .int .i64 b, .int .i64 c, .slice ao L.length cap]] W fun e w' => e = .returned (.bool true) ∧ Below W.heap.size W w') : Calls Tryz.prog 6 #[.agg #[.int .i64 a, .int .i64 b, .int .i64 c, .slice ao L.length cap], .agg #[.int .i64 p0, .int .i64 p1, .int .i64 p2, .int .i64 p3, .int .i64 p4], .agg #[.int .i64 l, .int .i64 x, .int .i64 y]] w fun e w' => e = .returned (.bool true) ∧ Below w.heap.size w w' := by
  have kn := sane5_any
  have c0 := fun W : World => long5_any a b c ao cap L false W (.inr ⟨k1, rfl⟩)
  have t1 : (q == q) = true := by simp
  have H0 := Lib.hid hm
  have S0 := Lib.hid hst
  clear hm hst k1
  go_enter Tryz.func6, Tryz.ntmps6
  go_wp2_with (fail)
  refine (c0 _).mono ?_
  rintro e w1 ⟨rfl, hw1⟩
  have bw1 : Below w.heap.size w w1 := bel3 hw1
  have F1 := Lib.hid (FW.n3a.later hw1)
  have E1 := Lib.hid (C5.n3b.later hw1)
  have X1 := Lib.hid (C3.n3c.later hw1)
  have H1 := Lib.hid (H0.out.later bw1)
  have S1 := Lib.hid (S0.out.later bw1)
  have HB1 := Lib.hid bw1
  clear hw1 bw1 H0 S0
  obtain ⟨f1_0, f1_1, f1_2, f1_3, f1_4, f1_5⟩ := F1.out
  go_wp2_with (fail)
  refine (c7 _ (H1.out)).mono ?_
  rintro e w2 ⟨⟨g, k, rfl, hG⟩, hw2⟩
  clear f1_0 f1_1 f1_2 f1_3 f1_4 f1_5
  have bw2 : Below w1.heap.size w1 w2 := hw2
  have H2 := Lib.hid (H1.out.later bw2)
  have S2 := Lib.hid (S1.out.later bw2)
  have F2 := Lib.hid (F1.out.later bw2)
  have E2 := Lib.hid (E1.out.later bw2)
  have X2 := Lib.hid (X1.out.later bw2)
  have HB2 := Lib.hid (HB1.out.trans (bw2.mono HB1.out.size))
  have G2 := Lib.hid hG
  clear hG
  clear hw2 bw2 H1 S1 F1 E1 X1 HB1
  obtain ⟨f2_0, f2_1, f2_2, f2_3, f2_4, f2_5⟩ := F2.out
  obtain ⟨e2_0, e2_1, e2_2, e2_3, e2_4, e2_5, e2_6⟩ := E2.out
  obtain ⟨x2_0, x2_1, x2_2, x2_3, x2_4⟩ := X2.out
  go_wp2_with (fail)
  refine (c1 _ _ _ (G2.out.later ba1) (S2.out.later ba1)).mono ?_
  rintro e w3 ⟨rfl, hw3⟩
  clear f2_0 f2_1 f2_2 f2_3 f2_4 f2_5 e2_0 e2_1 e2_2 e2_3 e2_4 e2_5 e2_6 x2_0 x2_1 x2_2 x2_3 x2_4
  have bw3 : Below w2.heap.size w2 w3 := bel1 hw3
  have O3 := Lib.hid (FW.n1.later hw3)
  have H3 := Lib.hid (H2.out.later bw3)
  have S3 := Lib.hid (S2.out.later bw3)
  have F3 := Lib.hid (F2.out.later bw3)
  have E3 := Lib.hid (E2.out.later bw3)
  have X3 := Lib.hid (X2.out.later bw3)
  have G3 := Lib.hid (G2.out.later bw3)
  have HB3 := Lib.hid (HB2.out.trans (bw3.mono HB2.out.size))
  clear hw3 bw3 H2 S2 F2 E2 X2 G2 HB2
  obtain ⟨f3_0, f3_1, f3_2, f3_3, f3_4, f3_5⟩ := F3.out
  obtain ⟨e3_0, e3_1, e3_2, e3_3, e3_4, e3_5, e3_6⟩ := E3.out
  obtain ⟨x3_0, x3_1, x3_2, x3_3, x3_4⟩ := X3.out
  go_wp2_with (fail)
  refine (c2 _ (H3.out.later ba1)).mono ?_
  rintro e w4 ⟨rfl, hw4⟩
  clear f3_0 f3_1 f3_2 f3_3 f3_4 f3_5 e3_0 e3_1 e3_2 e3_3 e3_4 e3_5 e3_6 x3_0 x3_1 x3_2 x3_3 x3_4
  have bw4 : Below w3.heap.size w3 w4 := bel1 hw4
  have P4 := Lib.hid (FW.n1.later hw4)
  have H4 := Lib.hid (H3.out.later bw4)
  have S4 := Lib.hid (S3.out.later bw4)
  have F4 := Lib.hid (F3.out.later bw4)
  have E4 := Lib.hid (E3.out.later bw4)
  have X4 := Lib.hid (X3.out.later bw4)
  have G4 := Lib.hid (G3.out.later bw4)
  have O4 := Lib.hid (O3.out.later bw4)
  have HB4 := Lib.hid (HB3.out.trans (bw4.mono HB3.out.size))
  clear hw4 bw4 H3 S3 F3 E3 X3 G3 O3 HB3
  obtain ⟨p4_0, p4_1, p4_2, p4_3, p4_4, p4_5⟩ := P4.out
  go_wp2_with (fail)
  refine (c3 _).mono ?_
  rintro e w5 ⟨rfl, hw5⟩
  clear p4_0 p4_1 p4_2 p4_3 p4_4 p4_5
  have bw5 : Below w4.heap.size w4 w5 := bel1 hw5
  have Y5 := Lib.hid (FW.n1.later hw5)
  have H5 := Lib.hid (H4.out.later bw5)
  have S5 := Lib.hid (S4.out.later bw5)
  have F5 := Lib.hid (F4.out.later bw5)
  have E5 := Lib.hid (E4.out.later bw5)
  have X5 := Lib.hid (X4.out.later bw5)
  have G5 := Lib.hid (G4.out.later bw5)
  have O5 := Lib.hid (O4.out.later bw5)
  have P5 := Lib.hid (P4.out.later bw5)
  have HB5 := Lib.hid (HB4.out.trans (bw5.mono HB4.out.size))
  clear hw5 bw5 H4 S4 F4 E4 X4 G4 O4 P4 HB4
  obtain ⟨o5_0, o5_1, o5_2, o5_3, o5_4, o5_5⟩ := O5.out
  obtain ⟨f5_0, f5_1, f5_2, f5_3, f5_4, f5_5⟩ := F5.out
  go_wp2_with (fail)
  refine (c4 _ _ _ (G5.out) (H5.out)).mono ?_
  rintro e w6 ⟨rfl, hw6⟩
  clear o5_0 o5_1 o5_2 o5_3 o5_4 o5_5 f5_0 f5_1 f5_2 f5_3 f5_4 f5_5
  have bw6 : Below w5.heap.size w5 w6 := hw6
  have H6 := Lib.hid (H5.out.later bw6)
  have S6 := Lib.hid (S5.out.later bw6)
  have F6 := Lib.hid (F5.out.later bw6)
  have E6 := Lib.hid (E5.out.later bw6)
  have X6 := Lib.hid (X5.out.later bw6)
  have G6 := Lib.hid (G5.out.later bw6)
  have O6 := Lib.hid (O5.out.later bw6)
  have P6 := Lib.hid (P5.out.later bw6)
  have Y6 := Lib.hid (Y5.out.later bw6)
  have HB6 := Lib.hid (HB5.out.trans (bw6.mono HB5.out.size))
  clear hw6 bw6 H5 S5 F5 E5 X5 G5 O5 P5 Y5 HB5
  go_wp2_with (fail)
  refine (kn _).mono ?_
  rintro e w7 ⟨rfl, hw7⟩
  have bw7 : Below w6.heap.size w6 w7 := hw7
  have H7 := Lib.hid (H6.out.later bw7)
  have S7 := Lib.hid (S6.out.later bw7)
  have F7 := Lib.hid (F6.out.later bw7)
  have E7 := Lib.hid (E6.out.later bw7)
  have X7 := Lib.hid (X6.out.later bw7)
  have G7 := Lib.hid (G6.out.later bw7)
  have O7 := Lib.hid (O6.out.later bw7)
  have P7 := Lib.hid (P6.out.later bw7)
  have Y7 := Lib.hid (Y6.out.later bw7)
  have HB7 := Lib.hid (HB6.out.trans (bw7.mono HB6.out.size))
  clear hw7 bw7 H6 S6 F6 E6 X6 G6 O6 P6 Y6 HB6
  go_wp2
  go_ret
  exact ⟨rfl, HB7.out⟩
set_option maxHeartbeats 25600000 in
theorem cPr_g (a b c p0 p1 p2 p3 p4 l x y : Int) (ao : Option Addr) (cap : Nat) (L : List Q) (w : World) (r : Bool) (T : List Q) (k1 : L.length ≤ 200) (hm : LiesO w ao L) (hst : StA w)
    (c7 : ∀ (W : World), LiesO W ao L → Calls Tryz.prog 17 #[.agg #[.int .i64 a, .int .i64 b, .int .i64 c, .slice ao L.length cap]] W fun e w' => (∃ g k : Nat, e = .returned (.agg #[.int .i64 a, .int .i64 b, .int .i64 c, .slice (some ⟨g, 0, none⟩) L.length k]) ∧ Lies w' g 0 L) ∧ Below W.heap.size W w')
    (c1 : ∀ (W : World) (g k : Nat), Lies W g 0 L → StA W → Calls Tryz.prog 25 #[.agg #[.int .i64 a, .int .i64 b, .int .i64 c, .slice (some ⟨g, 0, none⟩) L.length k], .agg #[.int .i64 p0, .int .i64 p1, .int .i64 p2, .int .i64 p3, .int .i64 p4], .int .i64 l, .int .i64 x, .int .i64 y] W fun e w' => (∃ g gk : Nat, e = .returned (.tuple #[.agg #[.int .i64 a, .int .i64 b, .int .i64 c, .slice (some ⟨g, 0, none⟩) L.length gk], .bool r, .int .i64 0]) ∧ Lies w' g 0 T) ∧ Below W.heap.size W w')
    (c2 : ∀ (W : World), LiesO W ao L → Calls Tryz.prog 26 #[.agg #[.int .i64 a, .int .i64 b, .int .i64 c, .slice ao L.length cap], .agg #[.int .i64 p0, .int .i64 p1, .int .i64 p2, .int .i64 p3, .int .i64 p4], .int .i64 l, .int .i64 x, .int .i64 y] W fun e w' => (∃ g gk : Nat, e = .returned (.tuple #[.agg #[.int .i64 a, .int .i64 b, .int .i64 c, .slice (some ⟨g, 0, none⟩) L.length gk], .bool r, .int .i64 0]) ∧ Lies w' g 0 T) ∧ Below W.heap.size W w')
    (c3 : ∀ (W : World) (g k g1 k1 : Nat), Lies W g 0 T → Lies W g1 0 T → Calls Tryz.prog 20 #[.agg #[.int .i64 a, .int .i64 b, .int .i64 c, .slice (some ⟨g, 0, none⟩) L.length k], .agg #[.int .i64 a, .int .i64 b, .int .i64 c, .slice (some ⟨g1, 0, none⟩) L.length k1]] W fun e w' => e = .returned (.bool true) ∧ Below W.heap.size W w')
    (c4 : ∀ (W : World) (g k : Nat), Lies W g 0 L → LiesO W ao L → Calls Tryz.prog 20 #[.agg #[.int .i64 a, .int .i64 b, .int .i64 c, .slice (some ⟨g, 0, none⟩) L.length k], .agg #[.int .i64 a, .int .i64 b, .int .i64 c, .slice ao L.length cap]] W fun e w' => e = .returned (.bool true) ∧ Below W.heap.size W w') : Calls Tryz.prog 6 #[.agg #[.int .i64 a, .int .i64 b, .int .i64 c, .slice ao L.length cap], .agg #[.int .i64 p0, .int .i64 p1, .int .i64 p2, .int .i64 p3, .int .i64 p4], .agg #[.int .i64 l, .int .i64 x, .int .i64 y]] w fun e w' => e = .returned (.bool true) ∧ Below w.heap.size w w' := by
  have kn := sane5_any
  have c0 := fun W : World => long5_any a b c ao cap L false W (.inr ⟨k1, rfl⟩)
  have t1 : (r == r) = true := by simp
  have H0 := Lib.hid hm
  have S0 := Lib.hid hst
  clear hm hst k1
  go_enter Tryz.func6, Tryz.ntmps6
  go_wp2_with (fail)
  refine (c0 _).mono ?_
  rintro e w1 ⟨rfl, hw1⟩
  have bw1 : Below w.heap.size w w1 := bel3 hw1
  have F1 := Lib.hid (FW.n3a.later hw1)
  have E1 := Lib.hid (C5.n3b.later hw1)
  have X1 := Lib.hid (C3.n3c.later hw1)
  have H1 := Lib.hid (H0.out.later bw1)
  have S1 := Lib.hid (S0.out.later bw1)
  have HB1 := Lib.hid bw1
  clear hw1 bw1 H0 S0
  obtain ⟨f1_0, f1_1, f1_2, f1_3, f1_4, f1_5⟩ := F1.out
  go_wp2_with (fail)
  refine (c7 _ (H1.out)).mono ?_
  rintro e w2 ⟨⟨g, k, rfl, hG⟩, hw2⟩
  clear f1_0 f1_1 f1_2 f1_3 f1_4 f1_5
  have bw2 : Below w1.heap.size w1 w2 := hw2
  have H2 := Lib.hid (H1.out.later bw2)
  have S2 := Lib.hid (S1.out.later bw2)
  have F2 := Lib.hid (F1.out.later bw2)
  have E2 := Lib.hid (E1.out.later bw2)
  have X2 := Lib.hid (X1.out.later bw2)
  have HB2 := Lib.hid (HB1.out.trans (bw2.mono HB1.out.size))
  have G2 := Lib.hid hG
  clear hG
  clear hw2 bw2 H1 S1 F1 E1 X1 HB1
  obtain ⟨f2_0, f2_1, f2_2, f2_3, f2_4, f2_5⟩ := F2.out
  obtain ⟨e2_0, e2_1, e2_2, e2_3, e2_4, e2_5, e2_6⟩ := E2.out
  obtain ⟨x2_0, x2_1, x2_2, x2_3, x2_4⟩ := X2.out
  go_wp2_with (fail)
  refine (c1 _ _ _ (G2.out.later ba1) (S2.out.later ba1)).mono ?_
  rintro e w3 ⟨⟨g1, gk1, rfl, hP⟩, hw3⟩
  clear f2_0 f2_1 f2_2 f2_3 f2_4 f2_5 e2_0 e2_1 e2_2 e2_3 e2_4 e2_5 e2_6 x2_0 x2_1 x2_2 x2_3 x2_4
  have bw3 : Below w2.heap.size w2 w3 := bel1 hw3
  have O3 := Lib.hid (FW.n1.later hw3)
  have H3 := Lib.hid (H2.out.later bw3)
  have S3 := Lib.hid (S2.out.later bw3)
  have F3 := Lib.hid (F2.out.later bw3)
  have E3 := Lib.hid (E2.out.later bw3)
  have X3 := Lib.hid (X2.out.later bw3)
  have G3 := Lib.hid (G2.out.later bw3)
  have HB3 := Lib.hid (HB2.out.trans (bw3.mono HB2.out.size))
  have U3 := Lib.hid hP
  clear hP
  clear hw3 bw3 H2 S2 F2 E2 X2 G2 HB2
  obtain ⟨f3_0, f3_1, f3_2, f3_3, f3_4, f3_5⟩ := F3.out
  obtain ⟨e3_0, e3_1, e3_2, e3_3, e3_4, e3_5, e3_6⟩ := E3.out
  obtain ⟨x3_0, x3_1, x3_2, x3_3, x3_4⟩ := X3.out
  go_wp2_with (fail)
  refine (c2 _ (H3.out.later ba1)).mono ?_
  rintro e w4 ⟨⟨g2, gk2, rfl, hP⟩, hw4⟩
  clear f3_0 f3_1 f3_2 f3_3 f3_4 f3_5 e3_0 e3_1 e3_2 e3_3 e3_4 e3_5 e3_6 x3_0 x3_1 x3_2 x3_3 x3_4
  have bw4 : Below w3.heap.size w3 w4 := bel1 hw4
  have P4 := Lib.hid (FW.n1.later hw4)
  have H4 := Lib.hid (H3.out.later bw4)
  have S4 := Lib.hid (S3.out.later bw4)
  have F4 := Lib.hid (F3.out.later bw4)
  have E4 := Lib.hid (E3.out.later bw4)
  have X4 := Lib.hid (X3.out.later bw4)
  have G4 := Lib.hid (G3.out.later bw4)
  have O4 := Lib.hid (O3.out.later bw4)
  have U4 := Lib.hid (U3.out.later bw4)
  have HB4 := Lib.hid (HB3.out.trans (bw4.mono HB3.out.size))
  have V4 := Lib.hid hP
  clear hP
  clear hw4 bw4 H3 S3 F3 E3 X3 G3 O3 U3 HB3
  obtain ⟨p4_0, p4_1, p4_2, p4_3, p4_4, p4_5⟩ := P4.out
  go_wp2_with (fail)
  refine (c3 _ _ _ _ _ (U4.out.later ba1) (V4.out.later ba1)).mono ?_
  rintro e w5 ⟨rfl, hw5⟩
  clear p4_0 p4_1 p4_2 p4_3 p4_4 p4_5
  have bw5 : Below w4.heap.size w4 w5 := bel1 hw5
  have Y5 := Lib.hid (FW.n1.later hw5)
  have H5 := Lib.hid (H4.out.later bw5)
  have S5 := Lib.hid (S4.out.later bw5)
  have F5 := Lib.hid (F4.out.later bw5)
  have E5 := Lib.hid (E4.out.later bw5)
  have X5 := Lib.hid (X4.out.later bw5)
  have G5 := Lib.hid (G4.out.later bw5)
  have O5 := Lib.hid (O4.out.later bw5)
  have U5 := Lib.hid (U4.out.later bw5)
  have P5 := Lib.hid (P4.out.later bw5)
  have V5 := Lib.hid (V4.out.later bw5)
  have HB5 := Lib.hid (HB4.out.trans (bw5.mono HB4.out.size))
  clear hw5 bw5 H4 S4 F4 E4 X4 G4 O4 U4 P4 V4 HB4
  obtain ⟨o5_0, o5_1, o5_2, o5_3, o5_4, o5_5⟩ := O5.out
  obtain ⟨f5_0, f5_1, f5_2, f5_3, f5_4, f5_5⟩ := F5.out
  go_wp2_with (fail)
  refine (c4 _ _ _ (G5.out) (H5.out)).mono ?_
  rintro e w6 ⟨rfl, hw6⟩
  clear o5_0 o5_1 o5_2 o5_3 o5_4 o5_5 f5_0 f5_1 f5_2 f5_3 f5_4 f5_5
  have bw6 : Below w5.heap.size w5 w6 := hw6
  have H6 := Lib.hid (H5.out.later bw6)
  have S6 := Lib.hid (S5.out.later bw6)
  have F6 := Lib.hid (F5.out.later bw6)
  have E6 := Lib.hid (E5.out.later bw6)
  have X6 := Lib.hid (X5.out.later bw6)
  have G6 := Lib.hid (G5.out.later bw6)
  have O6 := Lib.hid (O5.out.later bw6)
  have U6 := Lib.hid (U5.out.later bw6)
  have P6 := Lib.hid (P5.out.later bw6)
  have V6 := Lib.hid (V5.out.later bw6)
  have Y6 := Lib.hid (Y5.out.later bw6)
  have HB6 := Lib.hid (HB5.out.trans (bw6.mono HB5.out.size))
  clear hw6 bw6 H5 S5 F5 E5 X5 G5 O5 U5 P5 V5 Y5 HB5
  go_wp2_with (fail)
  refine (kn _).mono ?_
  rintro e w7 ⟨rfl, hw7⟩
  have bw7 : Below w6.heap.size w6 w7 := hw7
  have H7 := Lib.hid (H6.out.later bw7)
  have S7 := Lib.hid (S6.out.later bw7)
  have F7 := Lib.hid (F6.out.later bw7)
  have E7 := Lib.hid (E6.out.later bw7)
  have X7 := Lib.hid (X6.out.later bw7)
  have G7 := Lib.hid (G6.out.later bw7)
  have O7 := Lib.hid (O6.out.later bw7)
  have U7 := Lib.hid (U6.out.later bw7)
  have P7 := Lib.hid (P6.out.later bw7)
  have V7 := Lib.hid (V6.out.later bw7)
  have Y7 := Lib.hid (Y6.out.later bw7)
  have HB7 := Lib.hid (HB6.out.trans (bw7.mono HB6.out.size))
  clear hw7 bw7 H6 S6 F6 E6 X6 G6 O6 U6 P6 V6 Y6 HB6
  go_wp2
  go_ret
  exact ⟨rfl, HB7.out⟩
theorem chanceProposes_walk (a b c : Int) (ao : Option Addr) (L : List Q) (cap : Nat) (p0 p1 p2 p3 p4 l x y : Int) (w : World) (_ : L.length ≤ maxLen) (hm : LiesO w ao L) (hnil : ao = none → cap = 0) (hst : StA w) : Calls Tryz.prog 6 #[.agg #[.int .i64 a, .int .i64 b, .int .i64 c, .slice ao L.length cap], .agg #[.int .i64 p0, .int .i64 p1, .int .i64 p2, .int .i64 p3, .int .i64 p4], .agg #[.int .i64 l, .int .i64 x, .int .i64 y]] w fun e w' => e = .returned (.bool true) ∧ Below w.heap.size w w' := by
  by_cases h : 200 < L.length
  · exact cPr_l a b c p0 p1 p2 p3 p4 l x y ao cap L w h
  have c7 := fun (W : World) (h1 : LiesO W ao L) => (refCopy4_any a b c ao cap L W h1 hnil (by omega)).mono fun e w' ⟨g, k, he, hl, hb⟩ => And.intro (⟨g, k, he, hl⟩ : ∃ g k : Nat, e = Ending.returned (.agg #[.int .i64 a, .int .i64 b, .int .i64 c, .slice (some ⟨g, 0, none⟩) L.length k]) ∧ Lies w' g 0 L) hb
  have c4 := fun (W : World) (g k : Nat) (h1 : Lies W g 0 L) (h2 : LiesO W ao L) => sameF4_any a b c (some ⟨g, 0, none⟩) ao k cap L W (.inr ⟨g, 0, rfl, h1⟩) h2 (by omega)
  have sf : ∀ W : World, Calls Tryz.prog 20 #[.agg #[.int .i64 0, .int .i64 0, .int .i64 0, .slice none 0 0], .agg #[.int .i64 0, .int .i64 0, .int .i64 0, .slice none 0 0]] W fun e w' => e = .returned (.bool true) ∧ Below W.heap.size W w' := fun W => sameF4_any 0 0 0 none none 0 0 [] W (.inl rfl) (.inl rfl) (by simp)
  obtain ⟨r, hr⟩ := clR_ex a b c L [p0, p1, p2, p3, p4] l
  by_cases z : r = 0
  · subst z
    obtain ⟨hF, hWO, l0, l1, l2⟩ := clR_ok hr
    have hL48 := hF.le
    have hls : (wsK a b c L [p0, p1, p2, p3, p4] l (thr a b c l) 24).length = 24 := wsK_len a b c L [p0, p1, p2, p3, p4] l (thr a b c l) 24
    have hA := R24.of hls
    have hget := fun (k : Nat) (hk : k < 24) => (show ((wsK a b c L [p0, p1, p2, p3, p4] l (thr a b c l) 24).map vi).toArray[k]? = some (Value.int .i64 (wprod a b c L [p0, p1, p2, p3, p4] l (small (k : Int)) (thr a b c l))) from by rw [List.getElem?_toArray, List.getElem?_map, wsK_get a b c l L [p0, p1, p2, p3, p4] (thr a b c l) k hk]; rfl)
    obtain ⟨bl, off, rfl, m1⟩ := lies_of5 hm (by omega)
    have lof : ∀ W : World, LiesO W (some ⟨bl, off, none⟩) L → Lies W bl off L := fun W h => by
      obtain ⟨b1, o1, e, m⟩ := lies_of5 h (by omega)
      simp only [Option.some.injEq, Addr.mk.injEq, and_true] at e
      rw [e.1, e.2]
      exact m
    obtain ⟨n, rfl⟩ := Int.eq_ofNat_of_zero_le l0
    have hn : n < L.length := by omega
    obtain ⟨j, hj, hlk0⟩ := hF.s L[n] (List.getElem_mem hn)
    have hlk : L[n]? = some (small (j : Int)) := by rw [List.getElem?_eq_getElem hn, hlk0]
    have cl := fun (g o k : Nat) (W : World) (k1 : Lies W g o L) => checkLink_any a b c p0 p1 p2 p3 p4 n 0 (some ⟨g, o, none⟩) k L W (.inr ⟨g, o, rfl, k1⟩) hr (by omega)
    have cg := fun (W : World) (k1 : Lies W bl off L) => refGiven_any a b c p0 p1 p2 p3 p4 n 0 (some ⟨bl, off, none⟩) cap L W (.inr ⟨bl, off, rfl, k1⟩) hr (by omega)
    have cx := fun (W : World) (k1 : Lies W bl off L) => refWeightsX_of (cap := cap) hF hWO l0 l2 W k1
    by_cases hx : 0 ≤ x ∧ x < 24
    · obtain ⟨t, rfl⟩ := Int.eq_ofNat_of_zero_le hx.1
      obtain ⟨m, hm24, hmul⟩ := smul_all t (by omega) j hj
      have cP := fun (g o k : Nat) (W : World) (k1 : Lies W g o L) (k2 : StA W) => proposal_ok a b c p0 p1 p2 p3 p4 n t g o k t j m n L W k1 k2 hF hWO rfl hn rfl (by omega) hj hlk hm24 hmul
      have hbw := wg_of hF hWO l0 l1 j hj
      by_cases hd : 0 ≤ y ∧ y < wprod a b c L [p0, p1, p2, p3, p4] n (small (j : Int)) (thr a b c n)
      · by_cases ha : y < wprod a b c L [p0, p1, p2, p3, p4] n (small (m : Int)) (thr a b c n)
        · refine cPr_g a b c p0 p1 p2 p3 p4 n t y (some ⟨bl, off, none⟩) cap L w true (L.set n (small (m : Int))) (by omega) hm hst c7 ?_ ?_ ?_ c4
          · intro W g k k1 k2
            refine (met_yes a b c p0 p1 p2 p3 p4 n t y _ _ g 0 k n (small (m : Int)) L W k1 k2 hx rfl hn (by omega) (by omega) (by omega) ha (cl g 0 k) (cP g 0 k)).mono ?_
            rintro e w' ⟨⟨g1, gk, he, hl, -⟩, hb⟩
            exact ⟨⟨g1, gk, he, hl.h⟩, hb⟩
          · intro W k1
            refine (refMet_yes a b c p0 p1 p2 p3 p4 n t y _ _ bl off cap n j t m L W (lof W k1) _ hA hx rfl hn hj hlk (hget j hj) hbw hd rfl hm24 hmul (hget m hm24) (by omega) ha cg cx).mono ?_
            rintro e w' ⟨⟨g1, gk, he, hl, -⟩, hb⟩
            exact ⟨⟨g1, gk, he, hl.h⟩, hb⟩
          · intro W g k g1 k1 h1 h2
            have hTl : (L.set n (small (m : Int))).length = L.length := List.length_set
            have := sameF4_any a b c (some ⟨g, 0, none⟩) (some ⟨g1, 0, none⟩) k k1 (L.set n (small (m : Int))) W (.inr ⟨g, 0, rfl, h1⟩) (.inr ⟨g1, 0, rfl, h2⟩) (by omega)
            rw [hTl] at this
            exact this
        · refine cPr_g a b c p0 p1 p2 p3 p4 n t y (some ⟨bl, off, none⟩) cap L w false L (by omega) hm hst c7 ?_ ?_ ?_ c4
          · intro W g k k1 k2
            refine (met_no a b c p0 p1 p2 p3 p4 n t y _ _ g 0 k n (small (m : Int)) L W k1 k2 hx rfl hn (by omega) (by omega) (by omega) ha (cl g 0 k) (cP g 0 k)).mono ?_
            rintro e w' ⟨⟨g1, gk, he, hl, -⟩, hb⟩
            exact ⟨⟨g1, gk, he, hl.h⟩, hb⟩
          · intro W k1
            refine (refMet_no a b c p0 p1 p2 p3 p4 n t y _ _ bl off cap n j t m L W (lof W k1) _ hA hx rfl hn hj hlk (hget j hj) hbw hd rfl hm24 hmul (hget m hm24) (by omega) ha cg cx).mono ?_
            rintro e w' ⟨⟨g1, gk, he, hl, -⟩, hb⟩
            exact ⟨⟨g1, gk, he, hl.h⟩, hb⟩
          · intro W g k g1 k1 h1 h2
            exact sameF4_any a b c (some ⟨g, 0, none⟩) (some ⟨g1, 0, none⟩) k k1 L W (.inr ⟨g, 0, rfl, h1⟩) (.inr ⟨g1, 0, rfl, h2⟩) (by omega)
      · refine cPr_e a b c p0 p1 p2 p3 p4 n t y 1 (some ⟨bl, off, none⟩) cap L w (by omega) hm hst c7 ?_ (fun W k1 => refMet_draw a b c p0 p1 p2 p3 p4 n t y _ bl off cap n j L W (lof W k1) _ hA hx rfl hn hj hlk (hget j hj) hbw hd cg cx) sf c4
        intro W g k k1 k2
        by_cases hy0 : y < 0
        · exact met_neg a b c p0 p1 p2 p3 p4 n t y _ _ g 0 k (small (m : Int)) L W k1 k2 hx hy0 (cl g 0 k) (cP g 0 k)
        · exact met_big a b c p0 p1 p2 p3 p4 n t y _ _ g 0 k (small (m : Int)) L W k1 k2 hx hy0 (by omega) (cl g 0 k) (cP g 0 k)
    · exact cPr_e a b c p0 p1 p2 p3 p4 n x y 1 (some ⟨bl, off, none⟩) cap L w (by omega) hm hst c7 (fun W g k k1 _ => met_turn a b c p0 p1 p2 p3 p4 n x y (some ⟨g, 0, none⟩) k L W (.inr ⟨g, 0, rfl, k1⟩) hx (fun W k1 => checkLink_any a b c p0 p1 p2 p3 p4 n 0 (some ⟨g, 0, none⟩) k L W k1 hr (by omega))) (fun W k1 => refMet_turn a b c p0 p1 p2 p3 p4 n x y bl off cap L W (lof W k1) _ hA hx cg cx) sf c4
  · refine cPr_e a b c p0 p1 p2 p3 p4 l x y r ao cap L w (by omega) hm hst c7 ?_ (fun W k1 => refMet_bad a b c p0 p1 p2 p3 p4 l x y r ao cap L W k1 z (fun W k1 => refGiven_any a b c p0 p1 p2 p3 p4 l r ao cap L W k1 hr (by omega))) sf c4
    intro W g k k1 k2
    exact met_bad a b c p0 p1 p2 p3 p4 l x y r (some ⟨g, 0, none⟩) k L W (.inr ⟨g, 0, rfl, k1⟩) z (fun W k1 => checkLink_any a b c p0 p1 p2 p3 p4 l r (some ⟨g, 0, none⟩) k L W k1 hr (by omega))

/-! ### The statement of the law ChanceProposes, out of its walk -/
set_option maxRecDepth 100000 in
theorem chanceProposes_lifted (os : Os) (started : os.Started) (H : Type) (enc : TypeId × Value → H) :
    ReturnsInHanded {} Tryz.checked os 6 .any (fun w args => (Rows.chanceProposesSpec.pre enc Tryz.prog Tryz.f6 [] false w args ∧ laidMetH Tryz.prog Rows.chanceProposesRow.laid w) ∧ sizedMet enc Tryz.prog Tryz.f6 (OpenSpec.ofChange Rows.chanceProposesSpec) false w args) (Rows.chanceProposesSpec.post enc Tryz.prog Tryz.f6 false true false false) := by
  refine returnsInHanded_of_change_and (C := Tryz.checked) (X := fun w _ => laidMetH Tryz.prog Rows.chanceProposesRow.laid w) (fun _ _ _ hh h => h.of_heap hh) own started (by kernel_rfl) Tryz.func6
    (ChangeSpec.witness_shaped (enc := enc) (C := Tryz.checked) (os := os) (X := fun w _ => laidMetH Tryz.prog Rows.chanceProposesRow.laid w) false (World.doorLaid Tryz.prog 17 os) #[.agg #[.int .i64 0, .int .i64 0, .int .i64 0, .slice none 0 0], .agg #[.int .i64 0, .int .i64 0, .int .i64 0, .int .i64 0, .int .i64 0], .agg #[.int .i64 0, .int .i64 0, .int .i64 0]] 8 rfl (World.shaped_of_RefB (by kernel_rfl) (by kernel_rfl)) (by kernel_rfl) (by kernel_rfl) (by kernel_rfl) (laidMetH_of_parts3 (fuel := 8) (laidMet_of_run' 8 (by kernel_rfl) (by kernel_rfl)) (by kernel_rfl) (by kernel_rfl))) ?_
  intro W base args ds gs before hval0 hW _ _ hL _
  have hval : ∀ (j : Nat) t v, Tryz.f6.params[j]? = some t → args[j]? = some v → Value.okWide Tryz.prog W .any base t v := hval0
  have hW' := hW
  obtain ⟨p, q, hA0, hV, rfl, hfz, hnd⟩ := hW
  have hA : DataW.TrodAll enc Tryz.prog W 0 (fun _ => true) true Tryz.f6.params.toList args.toList ds p := hA0
  rw [Tryz.params6] at hA hval
  obtain ⟨v0, vs0, d0, ds0, p0, q0, hargs, rfl, rfl, h0, r0⟩ := trodAll_cons hA
  obtain ⟨v1, vs1, d1, ds1, p1, q1, rfl, rfl, rfl, h1, r1⟩ := trodAll_cons r0
  obtain ⟨v2, vs2, d2, ds2, p2, q2, rfl, rfl, rfl, h2, r2⟩ := trodAll_cons r1
  obtain ⟨rfl, rfl, rfl⟩ := trodAll_nil r2
  obtain rfl : args = #[v0, v1, v2] := by cases args; simp_all
  obtain ⟨rfl, rfl⟩ := trodVars_none hV
  have k0 := h0
  have lt0 : ∀ x ∈ p0, x.block < W.heap.size := by obtain ⟨m, hm⟩ := k0; exact DataW.trod_lt m _ _ _ hm
  obtain ⟨x0, y0, z0, ao0, L0, cap0, rfl, hl0, hm0, hnil0⟩ := open_fieldN (hval 0 25 v0 rfl rfl) h0
  have k1 := h1
  have lt1 : ∀ x ∈ p1, x.block < W.heap.size := by obtain ⟨m, hm⟩ := k1; exact DataW.trod_lt m _ _ _ hm
  obtain ⟨x1, y1, z1, u1, v1, rfl⟩ := open_w5 (hval 1 26 v1 rfl rfl) h1
  have k2 := h2
  have lt2 : ∀ x ∈ p2, x.block < W.heap.size := by obtain ⟨m, hm⟩ := k2; exact DataW.trod_lt m _ _ _ hm
  obtain ⟨x2, y2, z2, rfl⟩ := open_at5 (hval 2 36 v2 rfl rfl) h2
  clear hA0 hval0
  refine (chanceProposes_walk x0 y0 z0 ao0 L0 cap0 x1 y1 z1 u1 v1 x2 y2 z2 W hl0 hm0 hnil0 (sta_of_laid hL)).mono fun e W' ⟨he, bel⟩ => ?_
  subst he
  exact ⟨_, rfl, _, _, _, [], _, [], hW', trodAll_mk1 (shut_bool Tryz.underlying4 _), (trodAll_cons_mk (Below.trod laidOut (by kernel_rfl) (of_decide_eq_true (by kernel_rfl)) k0 bel lt0) (trodAll_cons_mk (Below.trod laidOut (by kernel_rfl) (of_decide_eq_true (by kernel_rfl)) k1 bel lt1) (trodAll_cons_mk (Below.trod laidOut (by kernel_rfl) (of_decide_eq_true (by kernel_rfl)) k2 bel lt2) trodAll_mk0))), rfl, bel.frame _, fun h => by cases h⟩

theorem chanceProposes_jf9 : (Rows.chanceProposesRow.inPlace == Tryz.prog.inPlace 6) = true := by kernel_rfl
theorem chanceProposes_jf10 : (Rows.chanceProposesRow.unfollowed == Tryz.prog.unfollowed 6) = true := by kernel_rfl
theorem chanceProposes_jf11 : (Rows.chanceProposesRow.recurses == Tryz.prog.recurses 6) = true := by kernel_rfl
theorem chanceProposes_jf12 : (Rows.chanceProposesRow.named == Tryz.prog.varsNamed 6) = true := by kernel_rfl
theorem chanceProposes_facts : joinedFacts Tryz.prog 6 Tryz.f6 Rows.chanceProposesSpec Rows.chanceProposesRow = true := by
  unfold joinedFacts
  exact (band (band (band (band (band (band (band (band (band (band (band (band (band (band (band (band (band (band (band (band (band (band (band (band (band (band (band (band (band (band (band (by kernel_rfl) jf1) jf2) (by kernel_rfl)) (by kernel_rfl)) (by kernel_rfl)) jf6) (by kernel_rfl)) jf8) chanceProposes_jf9) chanceProposes_jf10) chanceProposes_jf11) chanceProposes_jf12) (by kernel_rfl)) (by kernel_rfl)) (by kernel_rfl)) (by kernel_rfl)) (by kernel_rfl)) (by kernel_rfl)) (by kernel_rfl)) (by kernel_rfl)) (by kernel_rfl)) (by kernel_rfl)) (by kernel_rfl)) jf24) jf25) jf26) jf27) (by kernel_rfl)) (by kernel_rfl)) (by kernel_rfl)) (by kernel_rfl))

theorem chanceProposes_over : Rows.chanceProposesRow.holds Tryz.pinned (OpenSpec.ofChange Rows.chanceProposesSpec) :=
  OpenClaim.holds_of_wide 6 Tryz.f6 rfl rfl rfl rfl rfl rfl rfl ⟨rfl, rfl, rfl, rfl, rfl⟩ rfl rfl rfl rfl rfl (by kernel_rfl) Tryz.func6 chanceProposes_facts
    (of_decide_eq_true (by kernel_rfl)) (by unfold Func.isWrapper; first | (rw [if_pos (by decide +kernel)]; kernel_rfl) | (rw [if_neg (by decide +kernel)]; exact ⟨rfl, rfl⟩))
    (fun os started H enc _ => chanceProposes_lifted os started H enc)

theorem chanceProposes_holds : Rows.ChanceProposesCardSaid :=
  Claim7.holds_tied_plain_at .later [] [.data] true (true, "53c1b5e1e7764523c431423f857e3b43d4884bb98fa3eac6047523bbb346dfed") false
    chanceProposes_over (fun _ h => by cases h) (by kernel_rfl) (fun _ h => by cases h) chanceProposes_row_tie rfl ⟨rfl, rfl⟩ (by kernel_rfl) rfl
    (fun f fn hf hfn => by
      obtain rfl : f = 6 := Option.some.inj ((show Tryz.prog.funcNamed "plaquette/plaquettelaw05.ChanceProposes" = some 6 by kernel_rfl).symm.trans hf) |>.symm
      obtain rfl : fn = Tryz.f6 := (Option.some.inj (Tryz.func6.symm.trans hfn)).symm
      exact ⟨by kernel_rfl, fun j t ht => by
        rw [Tryz.params6] at ht
        have hm : t ∈ [25, 26, 36] := by simpa using Array.mem_of_getElem? ht
        have hall : ([25, 26, 36].all fun u => !Tryz.prog.wantsStandIn u) = true := by kernel_rfl
        exact (show Tryz.prog.wantsStandIn t = false by simpa using List.all_eq_true.1 hall t hm)⟩)
    (by kernel_rfl)
#print axioms chanceProposes_holds

end Go.Proofs.YtpfhjdmgkckjfaaGreatDoor
