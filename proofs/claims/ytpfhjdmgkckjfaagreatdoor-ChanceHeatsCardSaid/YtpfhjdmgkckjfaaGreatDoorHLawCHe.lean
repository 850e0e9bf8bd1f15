/- ChanceHeats: the new value of a link by a draw is what the document says, no other link changes, nor do the weights of this one, for all fields, weights, links and draws.
Conditions: none. -/
import Derived.Test.YtpfhjdmgkckjfaaGreatDoorHHbR
import Derived.Test.YtpfhjdmgkckjfaaGreatDoorHCopB
import Derived.Test.YtpfhjdmgkckjfaaGreatDoorHSameU4
import Derived.Test.YtpfhjdmgkckjfaaGreatDoorHEq24
import Derived.Test.YtpfhjdmgkckjfaaGreatDoorHSane5
import Derived.Test.YtpfhjdmgkckjfaaGreatDoorHOpen4
import Derived.Test.YtpfhjdmgkckjfaaGreatDoorHGbC
import Derived.Test.YtpfhjdmgkckjfaaGreatDoorHEqU
import Derived.ChangeKeysEq
namespace Go.Proofs.YtpfhjdmgkckjfaaGreatDoor
set_option linter.unusedVariables false
set_option linter.unusedSimpArgs false
set_option maxRecDepth 1000000
open Go.ChangeShapes Go.WideShapes Go.ChangeAt Go.RowKit
open Um Tm Cm
open Go.Sort

set_option maxHeartbeats 3200000 in
theorem cHe_l (a b c p0 p1 p2 p3 p4 l x y : Int) (ao : Option Addr) (cap : Nat) (L : List Q) (w : World) (h : 200 < L.length) : Calls Tryz.prog 4 #[.agg #[.int .i64 a, .int .i64 b, .int .i64 c, .slice ao L.length cap], .agg #[.int .i64 p0, .int .i64 p1, .int .i64 p2, .int .i64 p3, .int .i64 p4], .agg #[.int .i64 l, .int .i64 x, .int .i64 y]] w fun e w' => e = .returned (.bool true) ∧ Below w.heap.size w w' := by
  have kn := sane5_any
  have c0 := fun W : World => long5_any a b c ao cap L true W (.inl ⟨h, rfl⟩)
  go_enter Tryz.func4, Tryz.ntmps4
  go_wp2_with (fail)
  refine (c0 _).mono ?_
  rintro e w1 ⟨rfl, hw1⟩
  have bw1 : Below w.heap.size w w1 := bel3 hw1
  have F1 := Lib.hid (FW.n3a.later hw1)
  have E1 := Lib.hid (C5.n3b.later hw1)
  have X1 := Lib.hid (C3.n3c.later hw1)
  have HB1 := Lib.hid bw1
  clear hw1 bw1
  go_wp2_with (fail)
  refine (kn _).mono ?_
  rintro e w2 ⟨rfl, hw2⟩
  have bw2 : Below w1.heap.size w1 w2 := hw2
  have F2 := Lib.hid (F1.out.later bw2)
  have E2 := Lib.hid (E1.out.later bw2)
  have X2 := Lib.hid (X1.out.later bw2)
  have HB2 := Lib.hid (HB1.out.trans (bw2.mono HB1.out.size))
  clear hw2 bw2 F1 E1 X1 HB1
  go_wp2
  go_ret
  exact ⟨rfl, HB2.out⟩
set_option maxHeartbeats 12800000 in
theorem cHe_e (a b c p0 p1 p2 p3 p4 l x y q : Int) (ao : Option Addr) (cap : Nat) (L : List Q) (w : World) (k1 : L.length ≤ 200) (hm : LiesO w ao L) (hst : StA w) (hq : q ≠ 0)
    (c7 : ∀ (W : World), LiesO W ao L → Calls Tryz.prog 17 #[.agg #[.int .i64 a, .int .i64 b, .int .i64 c, .slice ao L.length cap]] W fun e w' => (∃ g k : Nat, e = .returned (.agg #[.int .i64 a, .int .i64 b, .int .i64 c, .slice (some ⟨g, 0, none⟩) L.length k]) ∧ Lies w' g 0 L) ∧ Below W.heap.size W w')
    (c1 : ∀ (W : World) (g k : Nat), Lies W g 0 L → StA W → Calls Tryz.prog 18 #[.agg #[.int .i64 a, .int .i64 b, .int .i64 c, .slice (some ⟨g, 0, none⟩) L.length k], .agg #[.int .i64 p0, .int .i64 p1, .int .i64 p2, .int .i64 p3, .int .i64 p4], .int .i64 l, .int .i64 x] W fun e w' => e = .returned (.tuple #[.agg #[.int .i64 0, .int .i64 0, .int .i64 0, .slice none 0 0], .int .i64 0, .int .i64 q]) ∧ Below W.heap.size W w')
    (c2 : ∀ (W : World), LiesO W ao L → Calls Tryz.prog 19 #[.agg #[.int .i64 a, .int .i64 b, .int .i64 c, .slice ao L.length cap], .agg #[.int .i64 p0, .int .i64 p1, .int .i64 p2, .int .i64 p3, .int .i64 p4], .int .i64 l, .int .i64 x] W fun e w' => e = .returned (.tuple #[.agg #[.int .i64 0, .int .i64 0, .int .i64 0, .slice none 0 0], .int .i64 0, .int .i64 q]) ∧ Below W.heap.size W w')
    (c3 : ∀ (W : World), Calls Tryz.prog 20 #[.agg #[.int .i64 0, .int .i64 0, .int .i64 0, .slice none 0 0], .agg #[.int .i64 0, .int .i64 0, .int .i64 0, .slice none 0 0]] W fun e w' => e = .returned (.bool true) ∧ Below W.heap.size W w')
    (c4 : ∀ (W : World) (g k : Nat), Lies W g 0 L → LiesO W ao L → Calls Tryz.prog 20 #[.agg #[.int .i64 a, .int .i64 b, .int .i64 c, .slice (some ⟨g, 0, none⟩) L.length k], .agg #[.int .i64 a, .int .i64 b, .int .i64 c, .slice ao L.length cap]] W fun e w' => e = .returned (.bool true) ∧ Below W.heap.size W w') : Calls Tryz.prog 4 #[.agg #[.int .i64 a, .int .i64 b, .int .i64 c, .slice ao L.length cap], .agg #[.int .i64 p0, .int .i64 p1, .int .i64 p2, .int .i64 p3, .int .i64 p4], .agg #[.int .i64 l, .int .i64 x, .int .i64 y]] w fun e w' => e = .returned (.bool true) ∧ Below w.heap.size w w' := by
  have kn := sane5_any
  have c0 := fun W : World => long5_any a b c ao cap L false W (.inr ⟨k1, rfl⟩)
  have t1 : (q != q) = false := by simp
  have t2 : (q == 0) = false := by simpa using hq
  have t3 : (q != 0) = true := by simpa using hq
  have H0 := Lib.hid hm
  have S0 := Lib.hid hst
  clear hm hst k1
  go_enter Tryz.func4, Tryz.ntmps4
  go_wp2_with (fail)
  refine (c0 _).mono ?_
  rintro e w1 ⟨rfl, hw1⟩
  have bw1 : Below w.heap.size w w1 := bel3 hw1
  have F1 := Lib.hid (FW.n3a.later hw1)
  have E1 := Lib.hid (C5.n3b.later hw1)
  have X1 := Lib.hid (C3.n3c.later hw1)
  have H1 := Lib.hid (H0.out.later bw1)
  have S1 := Lib.hid (S0.out.later bw1)
  have HB1 := Lib.hid bw1
  clear hw1 bw1 H0 S0
  obtain ⟨f1_0, f1_1, f1_2, f1_3, f1_4, f1_5⟩ := F1.out
  go_wp2_with (fail)
  refine (c7 _ (H1.out)).mono ?_
  rintro e w2 ⟨⟨g, k, rfl, hG⟩, hw2⟩
  clear f1_0 f1_1 f1_2 f1_3 f1_4 f1_5
  have bw2 : Below w1.heap.size w1 w2 := hw2
  have H2 := Lib.hid (H1.out.later bw2)
  have S2 := Lib.hid (S1.out.later bw2)
  have F2 := Lib.hid (F1.out.later bw2)
  have E2 := Lib.hid (E1.out.later bw2)
  have X2 := Lib.hid (X1.out.later bw2)
  have HB2 := Lib.hid (HB1.out.trans (bw2.mono HB1.out.size))
  have G2 := Lib.hid hG
  clear hG
  clear hw2 bw2 H1 S1 F1 E1 X1 HB1
  obtain ⟨f2_0, f2_1, f2_2, f2_3, f2_4, f2_5⟩ := F2.out
  obtain ⟨e2_0, e2_1, e2_2, e2_3, e2_4, e2_5, e2_6⟩ := E2.out
  obtain ⟨x2_0, x2_1, x2_2, x2_3, x2_4⟩ := X2.out
  go_wp2_with (fail)
  refine (c1 _ _ _ (G2.out.later ba1) (S2.out.later ba1)).mono ?_
  rintro e w3 ⟨rfl, hw3⟩
  clear f2_0 f2_1 f2_2 f2_3 f2_4 f2_5 e2_0 e2_1 e2_2 e2_3 e2_4 e2_5 e2_6 x2_0 x2_1 x2_2 x2_3 x2_4
  have bw3 : Below w2.heap.size w2 w3 := bel1 hw3
  have O3 := Lib.hid (FW.n1.later hw3)
  have H3 := Lib.hid (H2.out.later bw3)
  have S3 := Lib.hid (S2.out.later bw3)
  have F3 := Lib.hid (F2.out.later bw3)
  have E3 := Lib.hid (E2.out.later bw3)
  have X3 := Lib.hid (X2.out.later bw3)
  have G3 := Lib.hid (G2.out.later bw3)
  have HB3 := Lib.hid (HB2.out.trans (bw3.mono HB2.out.size))
  clear hw3 bw3 H2 S2 F2 E2 X2 G2 HB2
  obtain ⟨f3_0, f3_1, f3_2, f3_3, f3_4, f3_5⟩ := F3.out
  obtain ⟨e3_0, e3_1, e3_2, e3_3, e3_4, e3_5, e3_6⟩ := E3.out
  obtain ⟨x3_0, x3_1, x3_2, x3_3, x3_4⟩ := X3.out
  go_wp2_with (fail)
  refine (c2 _ (H3.out.later ba1)).mono ?_
  rintro e w4 ⟨rfl, hw4⟩
  clear f3_0 f3_1 f3_2 f3_3 f3_4 f3_5 e3_0 e3_1 e3_2 e3_3 e3_4 e3_5 e3_6 x3_0 x3_1 x3_2 x3_3 x3_4
  have bw4 : Below w3.heap.size w3 w4 := bel1 hw4
  have P4 := Lib.hid (FW.n1.later hw4)
  have H4 := Lib.hid (H3.out.later bw4)
  have S4 := Lib.hid (S3.out.later bw4)
  have F4 := Lib.hid (F3.out.later bw4)
  have E4 := Lib.hid (E3.out.later bw4)
  have X4 := Lib.hid (X3.out.later bw4)
  have G4 := Lib.hid (G3.out.later bw4)
  have O4 := Lib.hid (O3.out.later bw4)
  have HB4 := Lib.hid (HB3.out.trans (bw4.mono HB3.out.size))
  clear hw4 bw4 H3 S3 F3 E3 X3 G3 O3 HB3
  obtain ⟨p4_0, p4_1, p4_2, p4_3, p4_4, p4_5⟩ := P4.out
  go_wp2_with (fail)
  refine (c3 _).mono ?_
  rintro e w5 ⟨rfl, hw5⟩
  clear p4_0 p4_1 p4_2 p4_3 p4_4 p4_5
  have bw5 : Below w4.heap.size w4 w5 := bel1 hw5
  have Y5 := Lib.hid (FW.n1.later hw5)
  have H5 := Lib.hid (H4.out.later bw5)
  have S5 := Lib.hid (S4.out.later bw5)
  have F5 := Lib.hid (F4.out.later bw5)
  have E5 := Lib.hid (E4.out.later bw5)
  have X5 := Lib.hid (X4.out.later bw5)
  have G5 := Lib.hid (G4.out.later bw5)
  have O5 := Lib.hid (O4.out.later bw5)
  have P5 := Lib.hid (P4.out.later bw5)
  have HB5 := Lib.hid (HB4.out.trans (bw5.mono HB4.out.size))
  clear hw5 bw5 H4 S4 F4 E4 X4 G4 O4 P4 HB4
  obtain ⟨o5_0, o5_1, o5_2, o5_3, o5_4, o5_5⟩ := O5.out
  obtain ⟨f5_0, f5_1, f5_2, f5_3, f5_4, f5_5⟩ := F5.out
  go_wp2_with (fail)
  refine (c4 _ _ _ (G5.out) (H5.out)).mono ?_
  rintro e w6 ⟨rfl, hw6⟩
  clear o5_0 o5_1 o5_2 o5_3 o5_4 o5_5 f5_0 f5_1 f5_2 f5_3 f5_4 f5_5
  have bw6 : Below w5.heap.size w5 w6 := hw6
  have H6 := Lib.hid (H5.out.later bw6)
  have S6 := Lib.hid (S5.out.later bw6)
  have F6 := Lib.hid (F5.out.later bw6)
  have E6 := Lib.hid (E5.out.later bw6)
  have X6 := Lib.hid (X5.out.later bw6)
  have G6 := Lib.hid (G5.out.later bw6)
  have O6 := Lib.hid (O5.out.later bw6)
  have P6 := Lib.hid (P5.out.later bw6)
  have Y6 := Lib.hid (Y5.out.later bw6)
  have HB6 := Lib.hid (HB5.out.trans (bw6.mono HB5.out.size))
  clear hw6 bw6 H5 S5 F5 E5 X5 G5 O5 P5 Y5 HB5
  go_wp2_with (fail)
  refine (kn _).mono ?_
  rintro e w7 ⟨rfl, hw7⟩
  have bw7 : Below w6.heap.size w6 w7 := hw7
  have H7 := Lib.hid (H6.out.later bw7)
  have S7 := Lib.hid (S6.out.later bw7)
  have F7 := Lib.hid (F6.out.later bw7)
  have E7 := Lib.hid (E6.out.later bw7)
  have X7 := Lib.hid (X6.out.later bw7)
  have G7 := Lib.hid (G6.out.later bw7)
  have O7 := Lib.hid (O6.out.later bw7)
  have P7 := Lib.hid (P6.out.later bw7)
  have Y7 := Lib.hid (Y6.out.later bw7)
  have HB7 := Lib.hid (HB6.out.trans (bw7.mono HB6.out.size))
  clear hw7 bw7 H6 S6 F6 E6 X6 G6 O6 P6 Y6 HB6
  go_wp2
  go_ret
  exact ⟨rfl, HB7.out⟩
set_option maxHeartbeats 25600000 in
theorem cHe_g (a b c p0 p1 p2 p3 p4 l x y : Int) (ao : Option Addr) (cap : Nat) (L : List Q) (w : World) (m : Nat) (T : List Q) (A : Array Value) (hA : R24 A) (k1 : L.length ≤ 200) (hm : LiesO w ao L) (hst : StA w)
    (qE : ∀ W : World, Sem.run Tryz.prog (Op.equalIn 10000 29 (.agg A) (.agg A)) W = .ok true W)
    (c7 : ∀ (W : World), LiesO W ao L → Calls Tryz.prog 17 #[.agg #[.int .i64 a, .int .i64 b, .int .i64 c, .slice ao L.length cap]] W fun e w' => (∃ g k : Nat, e = .returned (.agg #[.int .i64 a, .int .i64 b, .int .i64 c, .slice (some ⟨g, 0, none⟩) L.length k]) ∧ Lies w' g 0 L) ∧ Below W.heap.size W w')
    (c1 : ∀ (W : World) (g k : Nat), Lies W g 0 L → StA W → Calls Tryz.prog 18 #[.agg #[.int .i64 a, .int .i64 b, .int .i64 c, .slice (some ⟨g, 0, none⟩) L.length k], .agg #[.int .i64 p0, .int .i64 p1, .int .i64 p2, .int .i64 p3, .int .i64 p4], .int .i64 l, .int .i64 x] W fun e w' => (∃ g gk : Nat, e = .returned (.tuple #[.agg #[.int .i64 a, .int .i64 b, .int .i64 c, .slice (some ⟨g, 0, none⟩) L.length gk], .int .i64 m, .int .i64 0]) ∧ Lies w' g 0 T) ∧ Below W.heap.size W w')
    (c2 : ∀ (W : World), LiesO W ao L → Calls Tryz.prog 19 #[.agg #[.int .i64 a, .int .i64 b, .int .i64 c, .slice ao L.length cap], .agg #[.int .i64 p0, .int .i64 p1, .int .i64 p2, .int .i64 p3, .int .i64 p4], .int .i64 l, .int .i64 x] W fun e w' => (∃ g gk : Nat, e = .returned (.tuple #[.agg #[.int .i64 a, .int .i64 b, .int .i64 c, .slice (some ⟨g, 0, none⟩) L.length gk], .int .i64 m, .int .i64 0]) ∧ Lies w' g 0 T) ∧ Below W.heap.size W w')
    (c3 : ∀ (W : World) (g k g1 k1 : Nat), Lies W g 0 T → Lies W g1 0 T → Calls Tryz.prog 20 #[.agg #[.int .i64 a, .int .i64 b, .int .i64 c, .slice (some ⟨g, 0, none⟩) L.length k], .agg #[.int .i64 a, .int .i64 b, .int .i64 c, .slice (some ⟨g1, 0, none⟩) L.length k1]] W fun e w' => e = .returned (.bool true) ∧ Below W.heap.size W w')
    (c4 : ∀ (W : World) (g k : Nat), Lies W g 0 L → LiesO W ao L → Calls Tryz.prog 20 #[.agg #[.int .i64 a, .int .i64 b, .int .i64 c, .slice (some ⟨g, 0, none⟩) L.length k], .agg #[.int .i64 a, .int .i64 b, .int .i64 c, .slice ao L.length cap]] W fun e w' => e = .returned (.bool true) ∧ Below W.heap.size W w')
    (c5 : ∀ (W : World), LiesO W ao L → StA W → Calls Tryz.prog 13 #[.agg #[.int .i64 a, .int .i64 b, .int .i64 c, .slice ao L.length cap], .agg #[.int .i64 p0, .int .i64 p1, .int .i64 p2, .int .i64 p3, .int .i64 p4], .int .i64 l] W fun e w' => e = .returned (.tuple #[.agg A, .int .i64 0]) ∧ Below W.heap.size W w')
    (c6 : ∀ (W : World) (g k : Nat), Lies W g 0 T → StA W → Calls Tryz.prog 13 #[.agg #[.int .i64 a, .int .i64 b, .int .i64 c, .slice (some ⟨g, 0, none⟩) L.length k], .agg #[.int .i64 p0, .int .i64 p1, .int .i64 p2, .int .i64 p3, .int .i64 p4], .int .i64 l] W fun e w' => e = .returned (.tuple #[.agg A, .int .i64 0]) ∧ Below W.heap.size W w') : Calls Tryz.prog 4 #[.agg #[.int .i64 a, .int .i64 b, .int .i64 c, .slice ao L.length cap], .agg #[.int .i64 p0, .int .i64 p1, .int .i64 p2, .int .i64 p3, .int .i64 p4], .agg #[.int .i64 l, .int .i64 x, .int .i64 y]] w fun e w' => e = .returned (.bool true) ∧ Below w.heap.size w w' := by
  have kn := sane5_any
  have c0 := fun W : World => long5_any a b c ao cap L false W (.inr ⟨k1, rfl⟩)
  have t1 : ((m : Int) != (m : Int)) = false := by simp
  have SZ := Lib.hid hA.sz
  have OL := Lib.hid hA.ol
  have ON := Lib.hid hA.one
  clear hA
  have H0 := Lib.hid hm
  have S0 := Lib.hid hst
  clear hm hst k1
  go_enter Tryz.func4, Tryz.ntmps4
  go_wp2_with (fail)
  refine (c0 _).mono ?_
  rintro e w1 ⟨rfl, hw1⟩
  have bw1 : Below w.heap.size w w1 := bel3 hw1
  have F1 := Lib.hid (FW.n3a.later hw1)
  have E1 := Lib.hid (C5.n3b.later hw1)
  have X1 := Lib.hid (C3.n3c.later hw1)
  have H1 := Lib.hid (H0.out.later bw1)
  have S1 := Lib.hid (S0.out.later bw1)
  have HB1 := Lib.hid bw1
  clear hw1 bw1 H0 S0
  obtain ⟨f1_0, f1_1, f1_2, f1_3, f1_4, f1_5⟩ := F1.out
  go_wp2_with (fail)
  refine (c7 _ (H1.out)).mono ?_
  rintro e w2 ⟨⟨g, k, rfl, hG⟩, hw2⟩
  clear f1_0 f1_1 f1_2 f1_3 f1_4 f1_5
  have bw2 : Below w1.heap.size w1 w2 := hw2
  have H2 := Lib.hid (H1.out.later bw2)
  have S2 := Lib.hid (S1.out.later bw2)
  have F2 := Lib.hid (F1.out.later bw2)
  have E2 := Lib.hid (E1.out.later bw2)
  have X2 := Lib.hid (X1.out.later bw2)
  have HB2 := Lib.hid (HB1.out.trans (bw2.mono HB1.out.size))
  have G2 := Lib.hid hG
  clear hG
  clear hw2 bw2 H1 S1 F1 E1 X1 HB1
  obtain ⟨f2_0, f2_1, f2_2, f2_3, f2_4, f2_5⟩ := F2.out
  obtain ⟨e2_0, e2_1, e2_2, e2_3, e2_4, e2_5, e2_6⟩ := E2.out
  obtain ⟨x2_0, x2_1, x2_2, x2_3, x2_4⟩ := X2.out
  go_wp2_with (fail)
  refine (c1 _ _ _ (G2.out.later ba1) (S2.out.later ba1)).mono ?_
  rintro e w3 ⟨⟨g1, gk1, rfl, hP⟩, hw3⟩
  clear f2_0 f2_1 f2_2 f2_3 f2_4 f2_5 e2_0 e2_1 e2_2 e2_3 e2_4 e2_5 e2_6 x2_0 x2_1 x2_2 x2_3 x2_4
  have bw3 : Below w2.heap.size w2 w3 := bel1 hw3
  have O3 := Lib.hid (FW.n1.later hw3)
  have H3 := Lib.hid (H2.out.later bw3)
  have S3 := Lib.hid (S2.out.later bw3)
  have F3 := Lib.hid (F2.out.later bw3)
  have E3 := Lib.hid (E2.out.later bw3)
  have X3 := Lib.hid (X2.out.later bw3)
  have G3 := Lib.hid (G2.out.later bw3)
  have HB3 := Lib.hid (HB2.out.trans (bw3.mono HB2.out.size))
  have U3 := Lib.hid hP
  clear hP
  clear hw3 bw3 H2 S2 F2 E2 X2 G2 HB2
  obtain ⟨f3_0, f3_1, f3_2, f3_3, f3_4, f3_5⟩ := F3.out
  obtain ⟨e3_0, e3_1, e3_2, e3_3, e3_4, e3_5, e3_6⟩ := E3.out
  obtain ⟨x3_0, x3_1, x3_2, x3_3, x3_4⟩ := X3.out
  go_wp2_with (fail)
  refine (c2 _ (H3.out.later ba1)).mono ?_
  rintro e w4 ⟨⟨g2, gk2, rfl, hP⟩, hw4⟩
  clear f3_0 f3_1 f3_2 f3_3 f3_4 f3_5 e3_0 e3_1 e3_2 e3_3 e3_4 e3_5 e3_6 x3_0 x3_1 x3_2 x3_3 x3_4
  have bw4 : Below w3.heap.size w3 w4 := bel1 hw4
  have P4 := Lib.hid (FW.n1.later hw4)
  have H4 := Lib.hid (H3.out.later bw4)
  have S4 := Lib.hid (S3.out.later bw4)
  have F4 := Lib.hid (F3.out.later bw4)
  have E4 := Lib.hid (E3.out.later bw4)
  have X4 := Lib.hid (X3.out.later bw4)
  have G4 := Lib.hid (G3.out.later bw4)
  have O4 := Lib.hid (O3.out.later bw4)
  have U4 := Lib.hid (U3.out.later bw4)
  have HB4 := Lib.hid (HB3.out.trans (bw4.mono HB3.out.size))
  have V4 := Lib.hid hP
  clear hP
  clear hw4 bw4 H3 S3 F3 E3 X3 G3 O3 U3 HB3
  obtain ⟨p4_0, p4_1, p4_2, p4_3, p4_4, p4_5⟩ := P4.out
  go_wp2_with (fail)
  refine (c3 _ _ _ _ _ (U4.out.later ba1) (V4.out.later ba1)).mono ?_
  rintro e w5 ⟨rfl, hw5⟩
  clear p4_0 p4_1 p4_2 p4_3 p4_4 p4_5
  have bw5 : Below w4.heap.size w4 w5 := bel1 hw5
  have Y5 := Lib.hid (FW.n1.later hw5)
  have H5 := Lib.hid (H4.out.later bw5)
  have S5 := Lib.hid (S4.out.later bw5)
  have F5 := Lib.hid (F4.out.later bw5)
  have E5 := Lib.hid (E4.out.later bw5)
  have X5 := Lib.hid (X4.out.later bw5)
  have G5 := Lib.hid (G4.out.later bw5)
  have O5 := Lib.hid (O4.out.later bw5)
  have U5 := Lib.hid (U4.out.later bw5)
  have P5 := Lib.hid (P4.out.later bw5)
  have V5 := Lib.hid (V4.out.later bw5)
  have HB5 := Lib.hid (HB4.out.trans (bw5.mono HB4.out.size))
  clear hw5 bw5 H4 S4 F4 E4 X4 G4 O4 U4 P4 V4 HB4
  clear V5
  clear Y5
  obtain ⟨o5_0, o5_1, o5_2, o5_3, o5_4, o5_5⟩ := O5.out
  obtain ⟨f5_0, f5_1, f5_2, f5_3, f5_4, f5_5⟩ := F5.out
  go_wp2_with (fail)
  refine (c4 _ _ _ (G5.out) (H5.out)).mono ?_
  rintro e w6 ⟨rfl, hw6⟩
  clear o5_0 o5_1 o5_2 o5_3 o5_4 o5_5 f5_0 f5_1 f5_2 f5_3 f5_4 f5_5
  have bw6 : Below w5.heap.size w5 w6 := hw6
  have H6 := Lib.hid (H5.out.later bw6)
  have S6 := Lib.hid (S5.out.later bw6)
  have F6 := Lib.hid (F5.out.later bw6)
  have E6 := Lib.hid (E5.out.later bw6)
  have X6 := Lib.hid (X5.out.later bw6)
  have G6 := Lib.hid (G5.out.later bw6)
  have O6 := Lib.hid (O5.out.later bw6)
  have U6 := Lib.hid (U5.out.later bw6)
  have P6 := Lib.hid (P5.out.later bw6)
  have HB6 := Lib.hid (HB5.out.trans (bw6.mono HB5.out.size))
  clear hw6 bw6 H5 S5 F5 E5 X5 G5 O5 U5 P5 HB5
  clear G6
  clear O6
  obtain ⟨f6_0, f6_1, f6_2, f6_3, f6_4, f6_5⟩ := F6.out
  obtain ⟨e6_0, e6_1, e6_2, e6_3, e6_4, e6_5, e6_6⟩ := E6.out
  obtain ⟨x6_0, x6_1, x6_2, x6_3, x6_4⟩ := X6.out
  go_wp2_with (fail)
  refine (c5 _ (H6.out) (S6.out)).mono ?_
  rintro e w7 ⟨rfl, hw7⟩
  clear f6_0 f6_1 f6_2 f6_3 f6_4 f6_5 e6_0 e6_1 e6_2 e6_3 e6_4 e6_5 e6_6 x6_0 x6_1 x6_2 x6_3 x6_4
  have bw7 : Below w6.heap.size w6 w7 := hw7
  have H7 := Lib.hid (H6.out.later bw7)
  have S7 := Lib.hid (S6.out.later bw7)
  have F7 := Lib.hid (F6.out.later bw7)
  have E7 := Lib.hid (E6.out.later bw7)
  have X7 := Lib.hid (X6.out.later bw7)
  have U7 := Lib.hid (U6.out.later bw7)
  have P7 := Lib.hid (P6.out.later bw7)
  have HB7 := Lib.hid (HB6.out.trans (bw7.mono HB6.out.size))
  clear hw7 bw7 H6 S6 F6 E6 X6 U6 P6 HB6
  clear F7
  clear H7
  have TZ := Lib.hid (ABx.news (w := w7) (T := 29) #[.int .i64 0, .int .i64 0, .int .i64 0, .int .i64 0, .int .i64 0, .int .i64 0, .int .i64 0, .int .i64 0, .int .i64 0, .int .i64 0, .int .i64 0, .int .i64 0, .int .i64 0, .int .i64 0, .int .i64 0, .int .i64 0, .int .i64 0, .int .i64 0, .int .i64 0, .int .i64 0, .int .i64 0, .int .i64 0, .int .i64 0, .int .i64 0])
  have nx := r24_below w7 A
  have S8 := Lib.hid (S7.out.later nx)
  have E8 := Lib.hid (E7.out.later nx)
  have X8 := Lib.hid (X7.out.later nx)
  have U8 := Lib.hid (U7.out.later nx)
  have P8 := Lib.hid (P7.out.later nx)
  have HB8 := Lib.hid (HB7.out.trans (nx.mono HB7.out.size))
  have A8 : Hid (RowT _ _ _ _) := Lib.hid ⟨r24_new w7 A⟩
  clear nx HB7 S7 E7 X7 U7 P7
  obtain ⟨p8_0, p8_1, p8_2, p8_3, p8_4, p8_5⟩ := P8.out
  obtain ⟨e8_0, e8_1, e8_2, e8_3, e8_4, e8_5, e8_6⟩ := E8.out
  obtain ⟨x8_0, x8_1, x8_2, x8_3, x8_4⟩ := X8.out
  go_wp2_with (first | (refine wpList_store_row rfl 29 (.tmp 14) (.tmp 74) rfl w7.heap.size A rfl rfl 29 _ TZ.out.h SZ.out OL.out ON.out ?_))
  generalize (w7.alloc (.cells #[.int .i64 0, .int .i64 0, .int .i64 0, .int .i64 0, .int .i64 0, .int .i64 0, .int .i64 0, .int .i64 0, .int .i64 0, .int .i64 0, .int .i64 0, .int .i64 0, .int .i64 0, .int .i64 0, .int .i64 0, .int .i64 0, .int .i64 0, .int .i64 0, .int .i64 0, .int .i64 0, .int .i64 0, .int .i64 0, .int .i64 0, .int .i64 0] 29)).setRow w7.heap.size A = w8 at *
  refine (c6 _ _ _ (U8.out) (S8.out)).mono ?_
  rintro e w9 ⟨rfl, hw9⟩
  clear p8_0 p8_1 p8_2 p8_3 p8_4 p8_5 e8_0 e8_1 e8_2 e8_3 e8_4 e8_5 e8_6 x8_0 x8_1 x8_2 x8_3 x8_4
  have bw9 : Below w8.heap.size w8 w9 := hw9
  have S9 := Lib.hid (S8.out.later bw9)
  have E9 := Lib.hid (E8.out.later bw9)
  have X9 := Lib.hid (X8.out.later bw9)
  have U9 := Lib.hid (U8.out.later bw9)
  have P9 := Lib.hid (P8.out.later bw9)
  have A9 := Lib.hid (A8.out.later bw9)
  have HB9 := Lib.hid (HB8.out.trans (bw9.mono HB8.out.size))
  clear hw9 bw9 S8 E8 X8 U8 P8 A8 HB8
  clear TZ
  clear P9
  clear E9
  clear X9
  clear U9
  clear S9
  have TZ := Lib.hid (ABx.news (w := w9) (T := 29) #[.int .i64 0, .int .i64 0, .int .i64 0, .int .i64 0, .int .i64 0, .int .i64 0, .int .i64 0, .int .i64 0, .int .i64 0, .int .i64 0, .int .i64 0, .int .i64 0, .int .i64 0, .int .i64 0, .int .i64 0, .int .i64 0, .int .i64 0, .int .i64 0, .int .i64 0, .int .i64 0, .int .i64 0, .int .i64 0, .int .i64 0, .int .i64 0])
  have nx := r24_below w9 A
  have A10 := Lib.hid (A9.out.later nx)
  have HB10 := Lib.hid (HB9.out.trans (nx.mono HB9.out.size))
  have B10 : Hid (RowT _ _ _ _) := Lib.hid ⟨r24_new w9 A⟩
  clear nx HB9 A9
  go_wp2_with (first | (refine wpList_store_row rfl 29 (.tmp 16) (.tmp 82) rfl w9.heap.size A rfl rfl 29 _ TZ.out.h SZ.out OL.out ON.out ?_) | (refine wpList_load_row_g (by first | rfl | (simp [Region.wanted, yielded]; done) | go_simp) 29 (.tmp 14) rfl _ rfl 29 A (0, 0) _ A10.out.h Tryz.underlying29 rfl SZ.out ?_) | (refine wpList_load_row_g (by first | rfl | (simp [Region.wanted, yielded]; done) | go_simp) 29 (.tmp 16) rfl _ rfl 29 A (0, 0) _ B10.out.h Tryz.underlying29 rfl SZ.out ?_))
  generalize (w9.alloc (.cells #[.int .i64 0, .int .i64 0, .int .i64 0, .int .i64 0, .int .i64 0, .int .i64 0, .int .i64 0, .int .i64 0, .int .i64 0, .int .i64 0, .int .i64 0, .int .i64 0, .int .i64 0, .int .i64 0, .int .i64 0, .int .i64 0, .int .i64 0, .int .i64 0, .int .i64 0, .int .i64 0, .int .i64 0, .int .i64 0, .int .i64 0, .int .i64 0] 29)).setRow w9.heap.size A = w10 at *
  refine (kn _).mono ?_
  rintro e w11 ⟨rfl, hw11⟩
  have bw11 : Below w10.heap.size w10 w11 := hw11
  have A11 := Lib.hid (A10.out.later bw11)
  have B11 := Lib.hid (B10.out.later bw11)
  have HB11 := Lib.hid (HB10.out.trans (bw11.mono HB10.out.size))
  clear hw11 bw11 A10 B10 HB10
  go_wp2
  go_ret
  exact ⟨rfl, HB11.out⟩
theorem plv_set {a b c p : Int} (h : Sz a b c) (h0 : 0 ≤ p) (h1 : p < 3 * (a * b * c)) (L : List Q) (n : Nat) (u v : Q) : plv a b c (L.set n u) n v p = plv a b c L n v p := by
  obtain ⟨-, -, -, -, -, -, -, hq⟩ := sides_eq h h0 h1
  obtain ⟨l0, l1, l2, l3, e⟩ : ∃ l0 l1 l2 l3, lks a b c p = [l0, l1, l2, l3] := ⟨_, _, _, _, rfl⟩
  have key : ∀ i : Int, 0 ≤ i → lkv (L.set n u) n v i = lkv L n v i := by
    intro i hi
    unfold lkv
    by_cases e : i = n
    · rw [if_pos e, if_pos e]
    · rw [if_neg e, if_neg e]
      unfold lk
      rw [List.getD_eq_getElem?_getD, List.getD_eq_getElem?_getD, List.getElem?_set, if_neg (by omega)]
  unfold plv
  rw [e] at hq ⊢
  simp only
  rw [key l0 (hq l0 (by simp)).1, key l1 (hq l1 (by simp)).1, key l2 (hq l2 (by simp)).1, key l3 (hq l3 (by simp)).1]
theorem wsA_set {a b c : Int} {L : List Q} (hF : SmF a b c L) (ws : List Int) (n : Nat) (u : Q) : wsA a b c (L.set n u) ws n = wsA a b c L ws n := by
  unfold wsA wsK
  have : ∀ v : Q, wprod a b c (L.set n u) ws n v (thr a b c n) = wprod a b c L ws n v (thr a b c n) := fun v => by
    unfold wprod
    congr 1
    refine List.map_congr_left fun p hp => ?_
    obtain ⟨i, hi⟩ := List.getElem?_of_mem hp
    obtain ⟨h0, h1⟩ := thr_rng hi
    unfold trp
    rw [plv_set hF.z h0 h1]
  simp only [this]
theorem clR_set {a b c : Int} {L : List Q} {ws : List Int} {n : Nat} (h : clR a b c L ws n 0) (k : Nat) (hk : k < 24) : clR a b c (L.set n (small (k : Int))) ws n 0 := by
  obtain ⟨hF, hWO, l0, l1, l2⟩ := clR_ok h
  obtain ⟨r, hr⟩ := clR_ex a b c (L.set n (small (k : Int))) ws n
  have hF' : SmF a b c (L.set n (small (k : Int))) := ⟨hF.z, by rw [List.length_set]; exact hF.n, sm_set hF.s ⟨k, hk, rfl⟩⟩
  rcases h with ⟨-, h⟩ | ⟨hc, hd⟩
  · exact absurd rfl h
  · rcases hc with ⟨-, h⟩ | ⟨hl, hv⟩
    · exact absurd rfl h
    · refine .inr ⟨.inr ⟨.inr (.inl ⟨?_, hF'.s, rfl⟩), hv⟩, .inl ⟨l0, by rw [List.length_set]; exact l2, rfl⟩⟩
      exact Fl_fldR ⟨hF'.z, hF'.n, fun i x hx => by have s := hF'.s x (List.mem_of_getElem? hx); exact ⟨s.v, sm_n5 s⟩⟩
theorem WL_of {a b c l : Int} {L : List Q} {ws : List Int} (hF : SmF a b c L) (hw : WOk ws) (l0 : 0 ≤ l) (l1 : l < 3 * (a * b * c)) : WL (wsK a b c L ws l (thr a b c l) 24) := by
  have key : ∀ x ∈ wsK a b c L ws l (thr a b c l) 24, Wg x := fun x hx => by
    unfold wsK at hx
    obtain ⟨k, hk, rfl⟩ := List.mem_map.1 hx
    exact wg_of hF hw l0 l1 k (List.mem_range.1 hk)
  exact ⟨wsK_len _ _ _ _ _ _ _ _, fun x hx => (key x hx).1, fun x hx => (key x hx).2⟩
theorem chanceHeats_walk (a b c : Int) (ao : Option Addr) (L : List Q) (cap : Nat) (p0 p1 p2 p3 p4 l x y : Int) (w : World) (_ : L.length ≤ maxLen) (hm : LiesO w ao L) (hnil : ao = none → cap = 0) (hst : StA w) : Calls Tryz.prog 4 #[.agg #[.int .i64 a, .int .i64 b, .int .i64 c, .slice ao L.length cap], .agg #[.int .i64 p0, .int .i64 p1, .int .i64 p2, .int .i64 p3, .int .i64 p4], .agg #[.int .i64 l, .int .i64 x, .int .i64 y]] w fun e w' => e = .returned (.bool true) ∧ Below w.heap.size w w' := by
  by_cases h : 200 < L.length
  · exact cHe_l a b c p0 p1 p2 p3 p4 l x y ao cap L w h
  have c7 := fun (W : World) (h1 : LiesO W ao L) => (refCopy4_any a b c ao cap L W h1 hnil (by omega)).mono fun e w' ⟨g, k, he, hl, hb⟩ => And.intro (⟨g, k, he, hl⟩ : ∃ g k : Nat, e = Ending.returned (.agg #[.int .i64 a, .int .i64 b, .int .i64 c, .slice (some ⟨g, 0, none⟩) L.length k]) ∧ Lies w' g 0 L) hb
  have c4 := fun (W : World) (g k : Nat) (h1 : Lies W g 0 L) (h2 : LiesO W ao L) => sameF4_any a b c (some ⟨g, 0, none⟩) ao k cap L W (.inr ⟨g, 0, rfl, h1⟩) h2 (by omega)
  have sf : ∀ W : World, Calls Tryz.prog 20 #[.agg #[.int .i64 0, .int .i64 0, .int .i64 0, .slice none 0 0], .agg #[.int .i64 0, .int .i64 0, .int .i64 0, .slice none 0 0]] W fun e w' => e = .returned (.bool true) ∧ Below W.heap.size W w' := fun W => sameF4_any 0 0 0 none none 0 0 [] W (.inl rfl) (.inl rfl) (by simp)
  obtain ⟨r, hr⟩ := clR_ex a b c L [p0, p1, p2, p3, p4] l
  by_cases z : r = 0
  · subst z
    obtain ⟨hF, hWO, l0, l1, l2⟩ := clR_ok hr
    have hL48 := hF.le
    have hWL := WL_of hF hWO l0 l1
    have hA := R24.of hWL.n
    obtain ⟨bl, off, rfl, m1⟩ := lies_of5 hm (by omega)
    have lof : ∀ W : World, LiesO W (some ⟨bl, off, none⟩) L → Lies W bl off L := fun W h => by
      obtain ⟨b1, o1, e, m⟩ := lies_of5 h (by omega)
      simp only [Option.some.injEq, Addr.mk.injEq, and_true] at e
      rw [e.1, e.2]
      exact m
    obtain ⟨n, rfl⟩ := Int.eq_ofNat_of_zero_le l0
    have hn : n < L.length := by omega
    have cw := fun (bl off cap : Nat) (W : World) (k1 : LiesO W (some ⟨bl, off, none⟩) L) (k2 : StA W) => (show Calls Tryz.prog 13 #[.agg #[.int .i64 a, .int .i64 b, .int .i64 c, .slice (some ⟨bl, off, none⟩) L.length cap], .agg #[.int .i64 p0, .int .i64 p1, .int .i64 p2, .int .i64 p3, .int .i64 p4], .int .i64 n] W fun e w' => e = .returned (.tuple #[.agg ((wsK a b c L [p0, p1, p2, p3, p4] n (thr a b c n) 24).map vi).toArray, .int .i64 0]) ∧ Below W.heap.size W w' from by
      obtain ⟨b1, o1, e, m⟩ := lies_of5 k1 (by omega)
      simp only [Option.some.injEq, Addr.mk.injEq, and_true] at e
      obtain ⟨rfl, rfl⟩ := e
      exact weights_ok a b c p0 p1 p2 p3 p4 n bl off cap L W m hr k2 (by omega))
    have cg := fun (W : World) (k1 : LiesO W (some ⟨bl, off, none⟩) L) => refGiven_any a b c p0 p1 p2 p3 p4 n 0 (some ⟨bl, off, none⟩) cap L W k1 hr (by omega)
    have cx := fun (W : World) (k1 : LiesO W (some ⟨bl, off, none⟩) L) => refWeightsX_of (cap := cap) hF hWO l0 l2 W (lof W k1)
    have cs := fun W : World => sum5_any _ W hWL
    have cr := fun W : World => refSum5_any _ W hWL
    have hps := hWL.ps 24 (by omega)
    by_cases hx : 0 ≤ x ∧ x < psum (wsK a b c L [p0, p1, p2, p3, p4] n (thr a b c n) 24) 24
    · obtain ⟨m, hm'⟩ := Ch_ex (l := wsK a b c L [p0, p1, p2, p3, p4] n (thr a b c n) 24) hx.1 (by rw [hWL.n]; exact hx.2)
      have hm24 : m < 24 := by have := hm'.1; have := hWL.n; omega
      have ck := fun W : World => chosen5_any _ x m W hWL hm'
      have cq := fun W : World => refChosen5_any _ x m W hWL hm'
      have hTl : (L.set n (small (m : Int))).length = L.length := List.length_set
      refine cHe_g a b c p0 p1 p2 p3 p4 n x y (some ⟨bl, off, none⟩) cap L w m (L.set n (small (m : Int))) _ hA (by omega) hm hst (eq24A hWL.n) c7 ?_ ?_ ?_ c4 (fun W k1 k2 => cw bl off cap W k1 k2) ?_
      · intro W g k k1 k2
        refine (heat_ok a b c p0 p1 p2 p3 p4 n x _ g 0 k n m L W _ hA k1 k2 rfl hn (by omega) (by omega) (by omega) hm24 (fun W k1 k2 => cw g 0 k W (.inr ⟨g, 0, rfl, k1⟩) k2) cs ck).mono ?_
        rintro e w' ⟨⟨g1, gk, he, hl, -⟩, hb⟩
        exact ⟨⟨g1, gk, he, hl.h⟩, hb⟩
      · intro W k1
        refine (refHeat_ok a b c p0 p1 p2 p3 p4 n x _ bl off cap n m L W (lof W k1) _ hA rfl hn (by omega) hps hx hm24 (fun W k => cg W (.inr ⟨bl, off, rfl, k⟩)) (fun W k => cx W (.inr ⟨bl, off, rfl, k⟩)) cr cq).mono ?_
        rintro e w' ⟨⟨g1, gk, he, hl, -⟩, hb⟩
        exact ⟨⟨g1, gk, he, hl.h⟩, hb⟩
      · intro W g k g1 k1 h1 h2
        have := sameF4_any a b c (some ⟨g, 0, none⟩) (some ⟨g1, 0, none⟩) k k1 (L.set n (small (m : Int))) W (.inr ⟨g, 0, rfl, h1⟩) (.inr ⟨g1, 0, rfl, h2⟩) (by omega)
        rw [hTl] at this
        exact this
      · intro W g k k1 k2
        have := weights_ok a b c p0 p1 p2 p3 p4 n g 0 k (L.set n (small (m : Int))) W k1 (clR_set hr m hm24) k2 (by omega)
        rw [hTl, wsA_set hF] at this
        exact this
    · refine cHe_e a b c p0 p1 p2 p3 p4 n x y 1 (some ⟨bl, off, none⟩) cap L w (by omega) hm hst (by decide) c7 ?_ (fun W k1 => refHeat_arg a b c p0 p1 p2 p3 p4 n x _ (some ⟨bl, off, none⟩) cap L W k1 _ hA hps hx cg cx cr) sf c4
      intro W g k k1 k2
      by_cases hx0 : x < 0
      · exact heat_neg a b c p0 p1 p2 p3 p4 n x (some ⟨g, 0, none⟩) k L W _ hA (.inr ⟨g, 0, rfl, k1⟩) k2 hx0 (cw g 0 k)
      · exact heat_big a b c p0 p1 p2 p3 p4 n x _ (some ⟨g, 0, none⟩) k L W _ hA (.inr ⟨g, 0, rfl, k1⟩) k2 hx0 (by omega) (cw g 0 k) cs
  · refine cHe_e a b c p0 p1 p2 p3 p4 l x y r ao cap L w (by omega) hm hst z c7 ?_ (fun W k1 => refHeat_bad a b c p0 p1 p2 p3 p4 l x r ao cap L W k1 z (fun W k1 => refGiven_any a b c p0 p1 p2 p3 p4 l r ao cap L W k1 hr (by omega))) sf c4
    intro W g k k1 k2
    exact heat_bad a b c p0 p1 p2 p3 p4 l x r (some ⟨g, 0, none⟩) k L W _ R24.z (.inr ⟨g, 0, rfl, k1⟩) k2 z (fun W k1 _ => weights_bad a b c p0 p1 p2 p3 p4 l r (some ⟨g, 0, none⟩) k L W k1 hr z (by omega))

/-! ### The statement of the law ChanceHeats, out of its walk -/
set_option maxRecDepth 100000 in
theorem chanceHeats_lifted (os : Os) (started : os.Started) (H : Type) (enc : TypeId × Value → H) :
    ReturnsInHanded {} Tryz.checked os 4 .any (fun w args => (Rows.chanceHeatsSpec.pre enc Tryz.prog Tryz.f4 [] false w args ∧ laidMetH Tryz.prog Rows.chanceHeatsRow.laid w) ∧ sizedMet enc Tryz.prog Tryz.f4 (OpenSpec.ofChange Rows.chanceHeatsSpec) false w args) (Rows.chanceHeatsSpec.post enc Tryz.prog Tryz.f4 false true false false) := by
  refine returnsInHanded_of_change_and (C := Tryz.checked) (X := fun w _ => laidMetH Tryz.prog Rows.chanceHeatsRow.laid w) (fun _ _ _ hh h => h.of_heap hh) own started (by kernel_rfl) Tryz.func4
    (ChangeSpec.witness_shaped (enc := enc) (C := Tryz.checked) (os := os) (X := fun w _ => laidMetH Tryz.prog Rows.chanceHeatsRow.laid w) false (World.doorLaid Tryz.prog 17 os) #[.agg #[.int .i64 0, .int .i64 0, .int .i64 0, .slice none 0 0], .agg #[.int .i64 0, .int .i64 0, .int .i64 0, .int .i64 0, .int .i64 0], .agg #[.int .i64 0, .int .i64 0, .int .i64 0]] 8 rfl (World.shaped_of_RefB (by kernel_rfl) (by kernel_rfl)) (by kernel_rfl) (by kernel_rfl) (by kernel_rfl) (laidMetH_of_parts3 (fuel := 8) (laidMet_of_run' 8 (by kernel_rfl) (by kernel_rfl)) (by kernel_rfl) (by kernel_rfl))) ?_
  intro W base args ds gs before hval0 hW _ _ hL _
  have hval : ∀ (j : Nat) t v, Tryz.f4.params[j]? = some t → args[j]? = some v → Value.okWide Tryz.prog W .any base t v := hval0
  have hW' := hW
  obtain ⟨p, q, hA0, hV, rfl, hfz, hnd⟩ := hW
  have hA : DataW.TrodAll enc Tryz.prog W 0 (fun _ => true) true Tryz.f4.params.toList args.toList ds p := hA0
  rw [Tryz.params4] at hA hval
  obtain ⟨v0, vs0, d0, ds0, p0, q0, hargs, rfl, rfl, h0, r0⟩ := trodAll_cons hA
  obtain ⟨v1, vs1, d1, ds1, p1, q1, rfl, rfl, rfl, h1, r1⟩ := trodAll_cons r0
  obtain ⟨v2, vs2, d2, ds2, p2, q2, rfl, rfl, rfl, h2, r2⟩ := trodAll_cons r1
  obtain ⟨rfl, rfl, rfl⟩ := trodAll_nil r2
  obtain rfl : args = #[v0, v1, v2] := by cases args; simp_all
  obtain ⟨rfl, rfl⟩ := trodVars_none hV
  have k0 := h0
  have lt0 : ∀ x ∈ p0, x.block < W.heap.size := by obtain ⟨m, hm⟩ := k0; exact DataW.trod_lt m _ _ _ hm
  obtain ⟨x0, y0, z0, ao0, L0, cap0, rfl, hl0, hm0, hnil0⟩ := open_fieldN (hval 0 25 v0 rfl rfl) h0
  have k1 := h1
  have lt1 : ∀ x ∈ p1, x.block < W.heap.size := by obtain ⟨m, hm⟩ := k1; exact DataW.trod_lt m _ _ _ hm
  obtain ⟨x1, y1, z1, u1, v1, rfl⟩ := open_w5 (hval 1 26 v1 rfl rfl) h1
  have k2 := h2
  have lt2 : ∀ x ∈ p2, x.block < W.heap.size := by obtain ⟨m, hm⟩ := k2; exact DataW.trod_lt m _ _ _ hm
  obtain ⟨x2, y2, z2, rfl⟩ := open_at5 (hval 2 36 v2 rfl rfl) h2
  clear hA0 hval0
  refine (chanceHeats_walk x0 y0 z0 ao0 L0 cap0 x1 y1 z1 u1 v1 x2 y2 z2 W hl0 hm0 hnil0 (sta_of_laid hL)).mono fun e W' ⟨he, bel⟩ => ?_
  subst he
  exact ⟨_, rfl, _, _, _, [], _, [], hW', trodAll_mk1 (shut_bool Tryz.underlying4 _), (trodAll_cons_mk (Below.trod laidOut (by kernel_rfl) (of_decide_eq_true (by kernel_rfl)) k0 bel lt0) (trodAll_cons_mk (Below.trod laidOut (by kernel_rfl) (of_decide_eq_true (by kernel_rfl)) k1 bel lt1) (trodAll_cons_mk (Below.trod laidOut (by kernel_rfl) (of_decide_eq_true (by kernel_rfl)) k2 bel lt2) trodAll_mk0))), rfl, bel.frame _, fun h => by cases h⟩

theorem chanceHeats_jf9 : (Rows.chanceHeatsRow.inPlace == Tryz.prog.inPlace 4) = true := by kernel_rfl
theorem chanceHeats_jf10 : (Rows.chanceHeatsRow.unfollowed == Tryz.prog.unfollowed 4) = true := by kernel_rfl
theorem chanceHeats_jf11 : (Rows.chanceHeatsRow.recurses == Tryz.prog.recurses 4) = true := by kernel_rfl
theorem chanceHeats_jf12 : (Rows.chanceHeatsRow.named == Tryz.prog.varsNamed 4) = true := by kernel_rfl
theorem chanceHeats_facts : joinedFacts Tryz.prog 4 Tryz.f4 Rows.chanceHeatsSpec Rows.chanceHeatsRow = true := by
  unfold joinedFacts
  exact (band (band (band (band (band (band (band (band (band (band (band (band (band (band (band (band (band (band (band (band (band (band (band (band (band (band (band (band (band (band (band (by kernel_rfl) jf1) jf2) (by kernel_rfl)) (by kernel_rfl)) (by kernel_rfl)) jf6) (by kernel_rfl)) jf8) chanceHeats_jf9) chanceHeats_jf10) chanceHeats_jf11) chanceHeats_jf12) (by kernel_rfl)) (by kernel_rfl)) (by kernel_rfl)) (by kernel_rfl)) (by kernel_rfl)) (by kernel_rfl)) (by kernel_rfl)) (by kernel_rfl)) (by kernel_rfl)) (by kernel_rfl)) (by kernel_rfl)) jf24) jf25) jf26) jf27) (by kernel_rfl)) (by kernel_rfl)) (by kernel_rfl)) (by kernel_rfl))

theorem chanceHeats_over : Rows.chanceHeatsRow.holds Tryz.pinned (OpenSpec.ofChange Rows.chanceHeatsSpec) :=
  OpenClaim.holds_of_wide 4 Tryz.f4 rfl rfl rfl rfl rfl rfl rfl ⟨rfl, rfl, rfl, rfl, rfl⟩ rfl rfl rfl rfl rfl (by kernel_rfl) Tryz.func4 chanceHeats_facts
    (of_decide_eq_true (by kernel_rfl)) (by unfold Func.isWrapper; first | (rw [if_pos (by decide +kernel)]; kernel_rfl) | (rw [if_neg (by decide +kernel)]; exact ⟨rfl, rfl⟩))
    (fun os started H enc _ => chanceHeats_lifted os started H enc)

theorem chanceHeats_holds : Rows.ChanceHeatsCardSaid :=
  Claim7.holds_tied_plain_at .later [] [.data] true (true, "53c1b5e1e7764523c431423f857e3b43d4884bb98fa3eac6047523bbb346dfed") false
    chanceHeats_over (fun _ h => by cases h) (by kernel_rfl) (fun _ h => by cases h) chanceHeats_row_tie rfl ⟨rfl, rfl⟩ (by kernel_rfl) rfl
    (fun f fn hf hfn => by
      obtain rfl : f = 4 := Option.some.inj ((show Tryz.prog.funcNamed "plaquette/plaquettelaw05.ChanceHeats" = some 4 by kernel_rfl).symm.trans hf) |>.symm
      obtain rfl : fn = Tryz.f4 := (Option.some.inj (Tryz.func4.symm.trans hfn)).symm
      exact ⟨by kernel_rfl, fun j t ht => by
        rw [Tryz.params4] at ht
        have hm : t ∈ [25, 26, 36] := by simpa using Array.mem_of_getElem? ht
        have hall : ([25, 26, 36].all fun u => !Tryz.prog.wantsStandIn u) = true := by kernel_rfl
        exact (show Tryz.prog.wantsStandIn t = false by simpa using List.all_eq_true.1 hall t hm)⟩)
    (by kernel_rfl)
#print axioms chanceHeats_holds

end Go.Proofs.YtpfhjdmgkckjfaaGreatDoor
