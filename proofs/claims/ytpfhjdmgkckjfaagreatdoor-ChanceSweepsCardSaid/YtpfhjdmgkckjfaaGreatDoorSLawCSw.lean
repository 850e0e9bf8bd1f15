/- ChanceSweeps: the field, the seed and the moves of a sweep are what the document says, for all fields, weights and seeds.
Conditions: none. -/
import Derived.Test.YtpfhjdmgkckjfaaGreatDoorSSwrC
import Derived.Test.YtpfhjdmgkckjfaaGreatDoorSCopB
import Derived.Test.YtpfhjdmgkckjfaaGreatDoorSSameU4
import Derived.Test.YtpfhjdmgkckjfaaGreatDoorSSame4
import Derived.Test.YtpfhjdmgkckjfaaGreatDoorSOpenW5
import Derived.Test.YtpfhjdmgkckjfaaGreatDoorSLaidS
import Derived.Test.YtpfhjdmgkckjfaaGreatDoorSDist
namespace Go.Proofs.YtpfhjdmgkckjfaaGreatDoor
set_option linter.unusedVariables false
set_option linter.unusedSimpArgs false
set_option maxRecDepth 1000000
open Go.ChangeShapes Go.WideShapes Go.ChangeAt Go.RowKit
open Um Tm Cm
open Go.Sort

set_option maxHeartbeats 3200000 in
theorem cSw_l (a b c p0 p1 p2 p3 p4 s : Int) (ao : Option Addr) (cap : Nat) (L : List Q) (w : World) (h : 200 < L.length) : Calls Tryz.prog 7 #[.agg #[.int .i64 a, .int .i64 b, .int .i64 c, .slice ao L.length cap], .agg #[.int .i64 p0, .int .i64 p1, .int .i64 p2, .int .i64 p3, .int .i64 p4], .int .i64 s] w fun e w' => e = .returned (.bool true) ∧ Below w.heap.size w w' := by
  have kn := sane5_any
  have c0 := fun W : World => long5_any a b c ao cap L true W (.inl ⟨h, rfl⟩)
  go_enter Tryz.func7, Tryz.ntmps7
  go_wp2_with (fail)
  refine (c0 _).mono ?_
  rintro e w1 ⟨rfl, hw1⟩
  have bw1 : Below w.heap.size w w1 := bel2 hw1
  have F1 := Lib.hid (FW.n2a.later hw1)
  have E1 := Lib.hid (C5.n2b.later hw1)
  have HB1 := Lib.hid bw1
  clear hw1 bw1
  go_wp2_with (fail)
  refine (kn _).mono ?_
  rintro e w2 ⟨rfl, hw2⟩
  have bw2 : Below w1.heap.size w1 w2 := hw2
  have F2 := Lib.hid (F1.out.later bw2)
  have E2 := Lib.hid (E1.out.later bw2)
  have HB2 := Lib.hid (HB1.out.trans (bw2.mono HB1.out.size))
  clear hw2 bw2 F1 E1 HB1
  go_wp2
  go_ret
  exact ⟨rfl, HB2.out⟩
set_option maxHeartbeats 12800000 in
theorem cSw_e (a b c p0 p1 p2 p3 p4 s q : Int) (ao : Option Addr) (cap : Nat) (L : List Q) (w : World) (k1 : L.length ≤ 200) (hm : LiesO w ao L) (hst : StA w)
    (c7 : ∀ (W : World), LiesO W ao L → Calls Tryz.prog 17 #[.agg #[.int .i64 a, .int .i64 b, .int .i64 c, .slice ao L.length cap]] W fun e w' => (∃ g k : Nat, e = .returned (.agg #[.int .i64 a, .int .i64 b, .int .i64 c, .slice (some ⟨g, 0, none⟩) L.length k]) ∧ Lies w' g 0 L) ∧ Below W.heap.size W w')
    (c1 : ∀ (W : World) (g k : Nat), Lies W g 0 L → StA W → Calls Tryz.prog 27 #[.agg #[.int .i64 a, .int .i64 b, .int .i64 c, .slice (some ⟨g, 0, none⟩) L.length k], .agg #[.int .i64 p0, .int .i64 p1, .int .i64 p2, .int .i64 p3, .int .i64 p4], .int .i64 s] W fun e w' => e = .returned (.tuple #[.agg #[.int .i64 0, .int .i64 0, .int .i64 0, .slice none 0 0], .int .i64 0, .slice none 0 0, .int .i64 q]) ∧ Below W.heap.size W w')
    (c2 : ∀ (W : World), LiesO W ao L → Calls Tryz.prog 28 #[.agg #[.int .i64 a, .int .i64 b, .int .i64 c, .slice ao L.length cap], .agg #[.int .i64 p0, .int .i64 p1, .int .i64 p2, .int .i64 p3, .int .i64 p4], .int .i64 s] W fun e w' => e = .returned (.tuple #[.agg #[.int .i64 0, .int .i64 0, .int .i64 0, .slice none 0 0], .int .i64 0, .slice none 0 0, .int .i64 q]) ∧ Below W.heap.size W w')
    (c3 : ∀ (W : World), Calls Tryz.prog 20 #[.agg #[.int .i64 0, .int .i64 0, .int .i64 0, .slice none 0 0], .agg #[.int .i64 0, .int .i64 0, .int .i64 0, .slice none 0 0]] W fun e w' => e = .returned (.bool true) ∧ Below W.heap.size W w')
    (cM : ∀ (W : World), Calls Tryz.prog 29 #[.slice none 0 0, .slice none 0 0] W fun e w' => e = .returned (.bool true) ∧ Below W.heap.size W w')
    (c4 : ∀ (W : World) (g k : Nat), Lies W g 0 L → LiesO W ao L → Calls Tryz.prog 20 #[.agg #[.int .i64 a, .int .i64 b, .int .i64 c, .slice (some ⟨g, 0, none⟩) L.length k], .agg #[.int .i64 a, .int .i64 b, .int .i64 c, .slice ao L.length cap]] W fun e w' => e = .returned (.bool true) ∧ Below W.heap.size W w') : Calls Tryz.prog 7 #[.agg #[.int .i64 a, .int .i64 b, .int .i64 c, .slice ao L.length cap], .agg #[.int .i64 p0, .int .i64 p1, .int .i64 p2, .int .i64 p3, .int .i64 p4], .int .i64 s] w fun e w' => e = .returned (.bool true) ∧ Below w.heap.size w w' := by
  have kn := sane5_any
  have c0 := fun W : World => long5_any a b c ao cap L false W (.inr ⟨k1, rfl⟩)
  have t1 : (q == q) = true := by simp
  have H0 := Lib.hid hm
  have S0 := Lib.hid hst
  clear hm hst k1
  go_enter Tryz.func7, Tryz.ntmps7
  go_wp2_with (fail)
  refine (c0 _).mono ?_
  rintro e w1 ⟨rfl, hw1⟩
  have bw1 : Below w.heap.size w w1 := bel2 hw1
  have F1 := Lib.hid (FW.n2a.later hw1)
  have E1 := Lib.hid (C5.n2b.later hw1)
  have H1 := Lib.hid (H0.out.later bw1)
  have S1 := Lib.hid (S0.out.later bw1)
  have HB1 := Lib.hid bw1
  clear hw1 bw1 H0 S0
  obtain ⟨f1_0, f1_1, f1_2, f1_3, f1_4, f1_5⟩ := F1.out
  go_wp2_with (fail)
  refine (c7 _ (H1.out)).mono ?_
  rintro e w2 ⟨⟨g, k, rfl, hG⟩, hw2⟩
  clear f1_0 f1_1 f1_2 f1_3 f1_4 f1_5
  have bw2 : Below w1.heap.size w1 w2 := hw2
  have H2 := Lib.hid (H1.out.later bw2)
  have S2 := Lib.hid (S1.out.later bw2)
  have F2 := Lib.hid (F1.out.later bw2)
  have E2 := Lib.hid (E1.out.later bw2)
  have HB2 := Lib.hid (HB1.out.trans (bw2.mono HB1.out.size))
  have G2 := Lib.hid hG
  clear hG
  clear hw2 bw2 H1 S1 F1 E1 HB1
  obtain ⟨f2_0, f2_1, f2_2, f2_3, f2_4, f2_5⟩ := F2.out
  obtain ⟨e2_0, e2_1, e2_2, e2_3, e2_4, e2_5, e2_6⟩ := E2.out
  go_wp2_with (fail)
  refine (c1 _ _ _ (G2.out.later ba1) (S2.out.later ba1)).mono ?_
  rintro e w3 ⟨rfl, hw3⟩
  clear f2_0 f2_1 f2_2 f2_3 f2_4 f2_5 e2_0 e2_1 e2_2 e2_3 e2_4 e2_5 e2_6
  have bw3 : Below w2.heap.size w2 w3 := bel1 hw3
  have O3 := Lib.hid (FW.n1.later hw3)
  have H3 := Lib.hid (H2.out.later bw3)
  have S3 := Lib.hid (S2.out.later bw3)
  have F3 := Lib.hid (F2.out.later bw3)
  have E3 := Lib.hid (E2.out.later bw3)
  have G3 := Lib.hid (G2.out.later bw3)
  have HB3 := Lib.hid (HB2.out.trans (bw3.mono HB2.out.size))
  clear hw3 bw3 H2 S2 F2 E2 G2 HB2
  obtain ⟨f3_0, f3_1, f3_2, f3_3, f3_4, f3_5⟩ := F3.out
  obtain ⟨e3_0, e3_1, e3_2, e3_3, e3_4, e3_5, e3_6⟩ := E3.out
  go_wp2_with (fail)
  refine (c2 _ (H3.out.later ba1)).mono ?_
  rintro e w4 ⟨rfl, hw4⟩
  clear f3_0 f3_1 f3_2 f3_3 f3_4 f3_5 e3_0 e3_1 e3_2 e3_3 e3_4 e3_5 e3_6
  have bw4 : Below w3.heap.size w3 w4 := bel1 hw4
  have P4 := Lib.hid (FW.n1.later hw4)
  have H4 := Lib.hid (H3.out.later bw4)
  have S4 := Lib.hid (S3.out.later bw4)
  have F4 := Lib.hid (F3.out.later bw4)
  have E4 := Lib.hid (E3.out.later bw4)
  have G4 := Lib.hid (G3.out.later bw4)
  have O4 := Lib.hid (O3.out.later bw4)
  have HB4 := Lib.hid (HB3.out.trans (bw4.mono HB3.out.size))
  clear hw4 bw4 H3 S3 F3 E3 G3 O3 HB3
  obtain ⟨p4_0, p4_1, p4_2, p4_3, p4_4, p4_5⟩ := P4.out
  go_wp2_with (fail)
  refine (c3 _).mono ?_
  rintro e w5 ⟨rfl, hw5⟩
  clear p4_0 p4_1 p4_2 p4_3 p4_4 p4_5
  have bw5 : Below w4.heap.size w4 w5 := bel1 hw5
  have Y5 := Lib.hid (FW.n1.later hw5)
  have H5 := Lib.hid (H4.out.later bw5)
  have S5 := Lib.hid (S4.out.later bw5)
  have F5 := Lib.hid (F4.out.later bw5)
  have E5 := Lib.hid (E4.out.later bw5)
  have G5 := Lib.hid (G4.out.later bw5)
  have O5 := Lib.hid (O4.out.later bw5)
  have P5 := Lib.hid (P4.out.later bw5)
  have HB5 := Lib.hid (HB4.out.trans (bw5.mono HB4.out.size))
  clear hw5 bw5 H4 S4 F4 E4 G4 O4 P4 HB4
  go_wp2_with (fail)
  refine (cM _).mono ?_
  rintro e w6 ⟨rfl, hw6⟩
  have bw6 : Below w5.heap.size w5 w6 := hw6
  have H6 := Lib.hid (H5.out.later bw6)
  have S6 := Lib.hid (S5.out.later bw6)
  have F6 := Lib.hid (F5.out.later bw6)
  have E6 := Lib.hid (E5.out.later bw6)
  have G6 := Lib.hid (G5.out.later bw6)
  have O6 := Lib.hid (O5.out.later bw6)
  have P6 := Lib.hid (P5.out.later bw6)
  have Y6 := Lib.hid (Y5.out.later bw6)
  have HB6 := Lib.hid (HB5.out.trans (bw6.mono HB5.out.size))
  clear hw6 bw6 H5 S5 F5 E5 G5 O5 P5 Y5 HB5
  obtain ⟨o6_0, o6_1, o6_2, o6_3, o6_4, o6_5⟩ := O6.out
  obtain ⟨f6_0, f6_1, f6_2, f6_3, f6_4, f6_5⟩ := F6.out
  go_wp2_with (fail)
  refine (c4 _ _ _ (G6.out) (H6.out)).mono ?_
  rintro e w7 ⟨rfl, hw7⟩
  clear o6_0 o6_1 o6_2 o6_3 o6_4 o6_5 f6_0 f6_1 f6_2 f6_3 f6_4 f6_5
  have bw7 : Below w6.heap.size w6 w7 := hw7
  have H7 := Lib.hid (H6.out.later bw7)
  have S7 := Lib.hid (S6.out.later bw7)
  have F7 := Lib.hid (F6.out.later bw7)
  have E7 := Lib.hid (E6.out.later bw7)
  have G7 := Lib.hid (G6.out.later bw7)
  have O7 := Lib.hid (O6.out.later bw7)
  have P7 := Lib.hid (P6.out.later bw7)
  have Y7 := Lib.hid (Y6.out.later bw7)
  have HB7 := Lib.hid (HB6.out.trans (bw7.mono HB6.out.size))
  clear hw7 bw7 H6 S6 F6 E6 G6 O6 P6 Y6 HB6
  go_wp2_with (fail)
  refine (kn _).mono ?_
  rintro e w8 ⟨rfl, hw8⟩
  have bw8 : Below w7.heap.size w7 w8 := hw8
  have H8 := Lib.hid (H7.out.later bw8)
  have S8 := Lib.hid (S7.out.later bw8)
  have F8 := Lib.hid (F7.out.later bw8)
  have E8 := Lib.hid (E7.out.later bw8)
  have G8 := Lib.hid (G7.out.later bw8)
  have O8 := Lib.hid (O7.out.later bw8)
  have P8 := Lib.hid (P7.out.later bw8)
  have Y8 := Lib.hid (Y7.out.later bw8)
  have HB8 := Lib.hid (HB7.out.trans (bw8.mono HB7.out.size))
  clear hw8 bw8 H7 S7 F7 E7 G7 O7 P7 Y7 HB7
  go_wp2
  go_ret
  exact ⟨rfl, HB8.out⟩
set_option maxHeartbeats 25600000 in
theorem cSw_g (a b c p0 p1 p2 p3 p4 s q : Int) (ao : Option Addr) (cap : Nat) (L : List Q) (w : World) (T : List Q) (M : List Int) (k1 : L.length ≤ 200) (hm : LiesO w ao L) (hst : StA w)
    (c7 : ∀ (W : World), LiesO W ao L → Calls Tryz.prog 17 #[.agg #[.int .i64 a, .int .i64 b, .int .i64 c, .slice ao L.length cap]] W fun e w' => (∃ g k : Nat, e = .returned (.agg #[.int .i64 a, .int .i64 b, .int .i64 c, .slice (some ⟨g, 0, none⟩) L.length k]) ∧ Lies w' g 0 L) ∧ Below W.heap.size W w')
    (c1 : ∀ (W : World) (g k : Nat), Lies W g 0 L → StA W → Calls Tryz.prog 27 #[.agg #[.int .i64 a, .int .i64 b, .int .i64 c, .slice (some ⟨g, 0, none⟩) L.length k], .agg #[.int .i64 p0, .int .i64 p1, .int .i64 p2, .int .i64 p3, .int .i64 p4], .int .i64 s] W fun e w' => (∃ (g gk : Nat) (mo : Option Addr) (mk : Nat), e = .returned (.tuple #[.agg #[.int .i64 a, .int .i64 b, .int .i64 c, .slice (some ⟨g, 0, none⟩) L.length gk], .int .i64 q, .slice mo L.length mk, .int .i64 0]) ∧ Lies w' g 0 T ∧ LiesOI w' mo M) ∧ Below W.heap.size W w')
    (c2 : ∀ (W : World), LiesO W ao L → Calls Tryz.prog 28 #[.agg #[.int .i64 a, .int .i64 b, .int .i64 c, .slice ao L.length cap], .agg #[.int .i64 p0, .int .i64 p1, .int .i64 p2, .int .i64 p3, .int .i64 p4], .int .i64 s] W fun e w' => (∃ (g gk : Nat) (mo : Option Addr) (mk : Nat), e = .returned (.tuple #[.agg #[.int .i64 a, .int .i64 b, .int .i64 c, .slice (some ⟨g, 0, none⟩) L.length gk], .int .i64 q, .slice mo L.length mk, .int .i64 0]) ∧ Lies w' g 0 T ∧ LiesOI w' mo M) ∧ Below W.heap.size W w')
    (c3 : ∀ (W : World) (g k g1 k1 : Nat), Lies W g 0 T → Lies W g1 0 T → Calls Tryz.prog 20 #[.agg #[.int .i64 a, .int .i64 b, .int .i64 c, .slice (some ⟨g, 0, none⟩) L.length k], .agg #[.int .i64 a, .int .i64 b, .int .i64 c, .slice (some ⟨g1, 0, none⟩) L.length k1]] W fun e w' => e = .returned (.bool true) ∧ Below W.heap.size W w')
    (cM : ∀ (W : World) (m m1 : Option Addr) (k k1 : Nat), LiesOI W m M → LiesOI W m1 M → Calls Tryz.prog 29 #[.slice m L.length k, .slice m1 L.length k1] W fun e w' => e = .returned (.bool true) ∧ Below W.heap.size W w')
    (c4 : ∀ (W : World) (g k : Nat), Lies W g 0 L → LiesO W ao L → Calls Tryz.prog 20 #[.agg #[.int .i64 a, .int .i64 b, .int .i64 c, .slice (some ⟨g, 0, none⟩) L.length k], .agg #[.int .i64 a, .int .i64 b, .int .i64 c, .slice ao L.length cap]] W fun e w' => e = .returned (.bool true) ∧ Below W.heap.size W w') : Calls Tryz.prog 7 #[.agg #[.int .i64 a, .int .i64 b, .int .i64 c, .slice ao L.length cap], .agg #[.int .i64 p0, .int .i64 p1, .int .i64 p2, .int .i64 p3, .int .i64 p4], .int .i64 s] w fun e w' => e = .returned (.bool true) ∧ Below w.heap.size w w' := by
  have kn := sane5_any
  have c0 := fun W : World => long5_any a b c ao cap L false W (.inr ⟨k1, rfl⟩)
  have t1 : (q == q) = true := by simp
  have H0 := Lib.hid hm
  have S0 := Lib.hid hst
  clear hm hst k1
  go_enter Tryz.func7, Tryz.ntmps7
  go_wp2_with (fail)
  refine (c0 _).mono ?_
  rintro e w1 ⟨rfl, hw1⟩
  have bw1 : Below w.heap.size w w1 := bel2 hw1
  have F1 := Lib.hid (FW.n2a.later hw1)
  have E1 := Lib.hid (C5.n2b.later hw1)
  have H1 := Lib.hid (H0.out.later bw1)
  have S1 := Lib.hid (S0.out.later bw1)
  have HB1 := Lib.hid bw1
  clear hw1 bw1 H0 S0
  obtain ⟨f1_0, f1_1, f1_2, f1_3, f1_4, f1_5⟩ := F1.out
  go_wp2_with (fail)
  refine (c7 _ (H1.out)).mono ?_
  rintro e w2 ⟨⟨g, k, rfl, hG⟩, hw2⟩
  clear f1_0 f1_1 f1_2 f1_3 f1_4 f1_5
  have bw2 : Below w1.heap.size w1 w2 := hw2
  have H2 := Lib.hid (H1.out.later bw2)
  have S2 := Lib.hid (S1.out.later bw2)
  have F2 := Lib.hid (F1.out.later bw2)
  have E2 := Lib.hid (E1.out.later bw2)
  have HB2 := Lib.hid (HB1.out.trans (bw2.mono HB1.out.size))
  have G2 := Lib.hid hG
  clear hG
  clear hw2 bw2 H1 S1 F1 E1 HB1
  obtain ⟨f2_0, f2_1, f2_2, f2_3, f2_4, f2_5⟩ := F2.out
  obtain ⟨e2_0, e2_1, e2_2, e2_3, e2_4, e2_5, e2_6⟩ := E2.out
  go_wp2_with (fail)
  refine (c1 _ _ _ (G2.out.later ba1) (S2.out.later ba1)).mono ?_
  rintro e w3 ⟨⟨g1, gk1, mo1, mk1, rfl, hP, hM⟩, hw3⟩
  clear f2_0 f2_1 f2_2 f2_3 f2_4 f2_5 e2_0 e2_1 e2_2 e2_3 e2_4 e2_5 e2_6
  have bw3 : Below w2.heap.size w2 w3 := bel1 hw3
  have O3 := Lib.hid (FW.n1.later hw3)
  have H3 := Lib.hid (H2.out.later bw3)
  have S3 := Lib.hid (S2.out.later bw3)
  have F3 := Lib.hid (F2.out.later bw3)
  have E3 := Lib.hid (E2.out.later bw3)
  have G3 := Lib.hid (G2.out.later bw3)
  have HB3 := Lib.hid (HB2.out.trans (bw3.mono HB2.out.size))
  have U3 := Lib.hid hP
  clear hP
  have M3 := Lib.hid hM
  clear hM
  clear hw3 bw3 H2 S2 F2 E2 G2 HB2
  obtain ⟨f3_0, f3_1, f3_2, f3_3, f3_4, f3_5⟩ := F3.out
  obtain ⟨e3_0, e3_1, e3_2, e3_3, e3_4, e3_5, e3_6⟩ := E3.out
  go_wp2_with (fail)
  refine (c2 _ (H3.out.later ba1)).mono ?_
  rintro e w4 ⟨⟨g2, gk2, mo2, mk2, rfl, hP, hM⟩, hw4⟩
  clear f3_0 f3_1 f3_2 f3_3 f3_4 f3_5 e3_0 e3_1 e3_2 e3_3 e3_4 e3_5 e3_6
  have bw4 : Below w3.heap.size w3 w4 := bel1 hw4
  have P4 := Lib.hid (FW.n1.later hw4)
  have H4 := Lib.hid (H3.out.later bw4)
  have S4 := Lib.hid (S3.out.later bw4)
  have F4 := Lib.hid (F3.out.later bw4)
  have E4 := Lib.hid (E3.out.later bw4)
  have G4 := Lib.hid (G3.out.later bw4)
  have O4 := Lib.hid (O3.out.later bw4)
  have U4 := Lib.hid (U3.out.later bw4)
  have M4 := Lib.hid (M3.out.later bw4)
  have HB4 := Lib.hid (HB3.out.trans (bw4.mono HB3.out.size))
  have V4 := Lib.hid hP
  clear hP
  have N4 := Lib.hid hM
  clear hM
  clear hw4 bw4 H3 S3 F3 E3 G3 O3 U3 M3 HB3
  obtain ⟨p4_0, p4_1, p4_2, p4_3, p4_4, p4_5⟩ := P4.out
  go_wp2_with (fail)
  refine (c3 _ _ _ _ _ (U4.out.later ba1) (V4.out.later ba1)).mono ?_
  rintro e w5 ⟨rfl, hw5⟩
  clear p4_0 p4_1 p4_2 p4_3 p4_4 p4_5
  have bw5 : Below w4.heap.size w4 w5 := bel1 hw5
  have Y5 := Lib.hid (FW.n1.later hw5)
  have H5 := Lib.hid (H4.out.later bw5)
  have S5 := Lib.hid (S4.out.later bw5)
  have F5 := Lib.hid (F4.out.later bw5)
  have E5 := Lib.hid (E4.out.later bw5)
  have G5 := Lib.hid (G4.out.later bw5)
  have O5 := Lib.hid (O4.out.later bw5)
  have U5 := Lib.hid (U4.out.later bw5)
  have M5 := Lib.hid (M4.out.later bw5)
  have P5 := Lib.hid (P4.out.later bw5)
  have V5 := Lib.hid (V4.out.later bw5)
  have N5 := Lib.hid (N4.out.later bw5)
  have HB5 := Lib.hid (HB4.out.trans (bw5.mono HB4.out.size))
  clear hw5 bw5 H4 S4 F4 E4 G4 O4 U4 M4 P4 V4 N4 HB4
  go_wp2_with (fail)
  refine (cM _ _ _ _ _ (M5.out) (N5.out)).mono ?_
  rintro e w6 ⟨rfl, hw6⟩
  have bw6 : Below w5.heap.size w5 w6 := hw6
  have H6 := Lib.hid (H5.out.later bw6)
  have S6 := Lib.hid (S5.out.later bw6)
  have F6 := Lib.hid (F5.out.later bw6)
  have E6 := Lib.hid (E5.out.later bw6)
  have G6 := Lib.hid (G5.out.later bw6)
  have O6 := Lib.hid (O5.out.later bw6)
  have U6 := Lib.hid (U5.out.later bw6)
  have M6 := Lib.hid (M5.out.later bw6)
  have P6 := Lib.hid (P5.out.later bw6)
  have V6 := Lib.hid (V5.out.later bw6)
  have N6 := Lib.hid (N5.out.later bw6)
  have Y6 := Lib.hid (Y5.out.later bw6)
  have HB6 := Lib.hid (HB5.out.trans (bw6.mono HB5.out.size))
  clear hw6 bw6 H5 S5 F5 E5 G5 O5 U5 M5 P5 V5 N5 Y5 HB5
  obtain ⟨o6_0, o6_1, o6_2, o6_3, o6_4, o6_5⟩ := O6.out
  obtain ⟨f6_0, f6_1, f6_2, f6_3, f6_4, f6_5⟩ := F6.out
  go_wp2_with (fail)
  refine (c4 _ _ _ (G6.out) (H6.out)).mono ?_
  rintro e w7 ⟨rfl, hw7⟩
  clear o6_0 o6_1 o6_2 o6_3 o6_4 o6_5 f6_0 f6_1 f6_2 f6_3 f6_4 f6_5
  have bw7 : Below w6.heap.size w6 w7 := hw7
  have H7 := Lib.hid (H6.out.later bw7)
  have S7 := Lib.hid (S6.out.later bw7)
  have F7 := Lib.hid (F6.out.later bw7)
  have E7 := Lib.hid (E6.out.later bw7)
  have G7 := Lib.hid (G6.out.later bw7)
  have O7 := Lib.hid (O6.out.later bw7)
  have U7 := Lib.hid (U6.out.later bw7)
  have M7 := Lib.hid (M6.out.later bw7)
  have P7 := Lib.hid (P6.out.later bw7)
  have V7 := Lib.hid (V6.out.later bw7)
  have N7 := Lib.hid (N6.out.later bw7)
  have Y7 := Lib.hid (Y6.out.later bw7)
  have HB7 := Lib.hid (HB6.out.trans (bw7.mono HB6.out.size))
  clear hw7 bw7 H6 S6 F6 E6 G6 O6 U6 M6 P6 V6 N6 Y6 HB6
  go_wp2_with (fail)
  refine (kn _).mono ?_
  rintro e w8 ⟨rfl, hw8⟩
  have bw8 : Below w7.heap.size w7 w8 := hw8
  have H8 := Lib.hid (H7.out.later bw8)
  have S8 := Lib.hid (S7.out.later bw8)
  have F8 := Lib.hid (F7.out.later bw8)
  have E8 := Lib.hid (E7.out.later bw8)
  have G8 := Lib.hid (G7.out.later bw8)
  have O8 := Lib.hid (O7.out.later bw8)
  have U8 := Lib.hid (U7.out.later bw8)
  have M8 := Lib.hid (M7.out.later bw8)
  have P8 := Lib.hid (P7.out.later bw8)
  have V8 := Lib.hid (V7.out.later bw8)
  have N8 := Lib.hid (N7.out.later bw8)
  have Y8 := Lib.hid (Y7.out.later bw8)
  have HB8 := Lib.hid (HB7.out.trans (bw8.mono HB7.out.size))
  clear hw8 bw8 H7 S7 F7 E7 G7 O7 U7 M7 P7 V7 N7 Y7 HB7
  go_wp2
  go_ret
  exact ⟨rfl, HB8.out⟩
theorem chanceSweeps_walk (a b c : Int) (ao : Option Addr) (L : List Q) (cap : Nat) (p0 p1 p2 p3 p4 s : Int) (w : World) (_ : L.length ≤ maxLen) (hm : LiesO w ao L) (hnil : ao = none → cap = 0) (hst : StA w) : Calls Tryz.prog 7 #[.agg #[.int .i64 a, .int .i64 b, .int .i64 c, .slice ao L.length cap], .agg #[.int .i64 p0, .int .i64 p1, .int .i64 p2, .int .i64 p3, .int .i64 p4], .int .i64 s] w fun e w' => e = .returned (.bool true) ∧ Below w.heap.size w w' := by
  by_cases h : 200 < L.length
  · exact cSw_l a b c p0 p1 p2 p3 p4 s ao cap L w h
  have c7 := fun (W : World) (h1 : LiesO W ao L) => (refCopy4_any a b c ao cap L W h1 hnil (by omega)).mono fun e w' ⟨g, k, he, hl, hb⟩ => And.intro (⟨g, k, he, hl⟩ : ∃ g k : Nat, e = Ending.returned (.agg #[.int .i64 a, .int .i64 b, .int .i64 c, .slice (some ⟨g, 0, none⟩) L.length k]) ∧ Lies w' g 0 L) hb
  have c4 := fun (W : World) (g k : Nat) (h1 : Lies W g 0 L) (h2 : LiesO W ao L) => sameF4_any a b c (some ⟨g, 0, none⟩) ao k cap L W (.inr ⟨g, 0, rfl, h1⟩) h2 (by omega)
  have sf : ∀ W : World, Calls Tryz.prog 20 #[.agg #[.int .i64 0, .int .i64 0, .int .i64 0, .slice none 0 0], .agg #[.int .i64 0, .int .i64 0, .int .i64 0, .slice none 0 0]] W fun e w' => e = .returned (.bool true) ∧ Below W.heap.size W w' := fun W => sameF4_any 0 0 0 none none 0 0 [] W (.inl rfl) (.inl rfl) (by simp)
  obtain ⟨r, hr⟩ := csR_ex a b c L [p0, p1, p2, p3, p4] s
  by_cases z : r = 0
  · subst z
    obtain ⟨hI, hWO⟩ := csR_ok hr
    have hL48 := hI.f.le
    have hpos : 0 < L.length := by have := hI.f.n; have h1 := hI.f.z.p; have := hI.f.z.a1; have := hI.f.z.b1; have := hI.f.z.c1; have : 1 ≤ a * b * c := Int.mul_pos (Int.mul_pos (by omega) (by omega)) (by omega); omega
    obtain ⟨bl, off, rfl, m1⟩ := lies_of5 hm hpos
    have lof : ∀ W : World, LiesO W (some ⟨bl, off, none⟩) L → Lies W bl off L := fun W h => by
      obtain ⟨b1, o1, e, m⟩ := lies_of5 h hpos
      simp only [Option.some.injEq, Addr.mk.injEq, and_true] at e
      rw [e.1, e.2]
      exact m
    have hTl : (swS a b c [p0, p1, p2, p3, p4] L s L.length).1.length = L.length := (swI_all hI hWO L.length (Nat.le_refl _)).n
    refine cSw_g a b c p0 p1 p2 p3 p4 s (swS a b c [p0, p1, p2, p3, p4] L s L.length).2 (some ⟨bl, off, none⟩) cap L w (swS a b c [p0, p1, p2, p3, p4] L s L.length).1 (mvs a b c [p0, p1, p2, p3, p4] L s L.length) (by omega) hm hst c7 ?_ ?_ ?_ (fun W m m1 k k1 h1 h2 => sameMv_any L.length k k1 m m1 _ W (mvs_len _ _ _ _ _ _ _) h1 h2 (by omega)) c4
    · intro W g k k1 k2
      refine (sweep_good a b c p0 p1 p2 p3 p4 s (swS a b c [p0, p1, p2, p3, p4] L s L.length).2 g 0 k L (swS a b c [p0, p1, p2, p3, p4] L s L.length).1 (mvs a b c [p0, p1, p2, p3, p4] L s L.length) W k1 k2 (fun W k1 => checkSweep_any a b c p0 p1 p2 p3 p4 s 0 (some ⟨g, 0, none⟩) k L W (.inr ⟨g, 0, rfl, k1⟩) hr (by omega)) (fun W k1 k2 => firstMoves_ok a b c p0 p1 p2 p3 p4 s g 0 k L.length L W k1 k2 hI hWO (Nat.le_refl _))).mono ?_
      rintro e w' ⟨⟨g1, gk, mo, mk, he, hl, -, hM, -⟩, hb⟩
      exact ⟨⟨g1, gk, mo, mk, he, hl.h, hM⟩, hb⟩
    · intro W k1
      refine (refSweep_good a b c p0 p1 p2 p3 p4 s (swS a b c [p0, p1, p2, p3, p4] L s L.length).2 bl off cap L (swS a b c [p0, p1, p2, p3, p4] L s L.length).1 (mvs a b c [p0, p1, p2, p3, p4] L s L.length) W (lof W k1) (fun W k1 => prepared_any a b c p0 p1 p2 p3 p4 s 0 (some ⟨bl, off, none⟩) cap L W (.inr ⟨bl, off, rfl, k1⟩) hr (by omega)) (fun W k1 => refSweepS_ok a b c p0 p1 p2 p3 p4 s bl off cap L.length L W k1 hI hWO (Nat.le_refl _))).mono ?_
      rintro e w' ⟨⟨g1, gk, mo, mk, he, hl, -, hM, -⟩, hb⟩
      exact ⟨⟨g1, gk, mo, mk, he, hl.h, hM⟩, hb⟩
    · intro W g k g1 k1 h1 h2
      have := sameF4_any a b c (some ⟨g, 0, none⟩) (some ⟨g1, 0, none⟩) k k1 (swS a b c [p0, p1, p2, p3, p4] L s L.length).1 W (.inr ⟨g, 0, rfl, h1⟩) (.inr ⟨g1, 0, rfl, h2⟩) (by omega)
      rw [hTl] at this
      exact this
  · refine cSw_e a b c p0 p1 p2 p3 p4 s r ao cap L w (by omega) hm hst c7 ?_ (fun W k1 => refSweep_bad a b c p0 p1 p2 p3 p4 s r ao cap L W k1 z (fun W k1 => prepared_any a b c p0 p1 p2 p3 p4 s r ao cap L W k1 hr (by omega))) sf (fun W => sameMv_any 0 0 0 none none [] W rfl (.inl rfl) (.inl rfl) (by omega)) c4
    intro W g k k1 k2
    exact sweep_bad a b c p0 p1 p2 p3 p4 s r (some ⟨g, 0, none⟩) k L W (.inr ⟨g, 0, rfl, k1⟩) z (fun W k1 => checkSweep_any a b c p0 p1 p2 p3 p4 s r (some ⟨g, 0, none⟩) k L W k1 hr (by omega))

/-! ### The statement of the law ChanceSweeps, out of its walk -/
set_option maxRecDepth 100000 in
theorem chanceSweeps_lifted (os : Os) (started : os.Started) (H : Type) (enc : TypeId × Value → H) :
    ReturnsInHanded {} Tryz.checked os 7 .any (fun w args => (Rows.chanceSweepsSpec.pre enc Tryz.prog Tryz.f7 [] false w args ∧ laidMetH Tryz.prog Rows.chanceSweepsRow.laid w) ∧ sizedMet enc Tryz.prog Tryz.f7 (OpenSpec.ofChange Rows.chanceSweepsSpec) false w args) (Rows.chanceSweepsSpec.post enc Tryz.prog Tryz.f7 false true false false) := by
  refine returnsInHanded_of_change_and (C := Tryz.checked) (X := fun w _ => laidMetH Tryz.prog Rows.chanceSweepsRow.laid w) (fun _ _ _ hh h => h.of_heap hh) own started (by kernel_rfl) Tryz.func7
    (ChangeSpec.witness_shaped (enc := enc) (C := Tryz.checked) (os := os) (X := fun w _ => laidMetH Tryz.prog Rows.chanceSweepsRow.laid w) false (World.doorLaid Tryz.prog 17 os) #[.agg #[.int .i64 0, .int .i64 0, .int .i64 0, .slice none 0 0], .agg #[.int .i64 0, .int .i64 0, .int .i64 0, .int .i64 0, .int .i64 0], .int .i64 0] 8 rfl (World.shaped_of_RefB (by kernel_rfl) (by kernel_rfl)) (by kernel_rfl) (by kernel_rfl) (by kernel_rfl) (laidMetH_of_parts3 (fuel := 8) (laidMet_of_run' 8 (by kernel_rfl) (by kernel_rfl)) (by kernel_rfl) (by kernel_rfl))) ?_
  intro W base args ds gs before hval0 hW _ _ hL _
  have hval : ∀ (j : Nat) t v, Tryz.f7.params[j]? = some t → args[j]? = some v → Value.okWide Tryz.prog W .any base t v := hval0
  have hW' := hW
  obtain ⟨p, q, hA0, hV, rfl, hfz, hnd⟩ := hW
  have hA : DataW.TrodAll enc Tryz.prog W 0 (fun _ => true) true Tryz.f7.params.toList args.toList ds p := hA0
  rw [Tryz.params7] at hA hval
  obtain ⟨v0, vs0, d0, ds0, p0, q0, hargs, rfl, rfl, h0, r0⟩ := trodAll_cons hA
  obtain ⟨v1, vs1, d1, ds1, p1, q1, rfl, rfl, rfl, h1, r1⟩ := trodAll_cons r0
  obtain ⟨v2, vs2, d2, ds2, p2, q2, rfl, rfl, rfl, h2, r2⟩ := trodAll_cons r1
  obtain ⟨rfl, rfl, rfl⟩ := trodAll_nil r2
  obtain rfl : args = #[v0, v1, v2] := by cases args; simp_all
  obtain ⟨rfl, rfl⟩ := trodVars_none hV
  have k0 := h0
  have lt0 : ∀ x ∈ p0, x.block < W.heap.size := by obtain ⟨m, hm⟩ := k0; exact DataW.trod_lt m _ _ _ hm
  obtain ⟨x0, y0, z0, ao0, L0, cap0, rfl, hl0, hm0, hnil0⟩ := open_fieldN (hval 0 25 v0 rfl rfl) h0
  have k1 := h1
  have lt1 : ∀ x ∈ p1, x.block < W.heap.size := by obtain ⟨m, hm⟩ := k1; exact DataW.trod_lt m _ _ _ hm
  obtain ⟨x1, y1, z1, u1, v1, rfl⟩ := open_w5 (hval 1 26 v1 rfl rfl) h1
  have k2 := h2
  have lt2 : ∀ x ∈ p2, x.block < W.heap.size := by obtain ⟨m, hm⟩ := k2; exact DataW.trod_lt m _ _ _ hm
  obtain ⟨x2, e2, -, -, -⟩ := open_int Tryz.underlying3 (hval 2 3 v2 rfl rfl) h2
  subst e2
  clear hA0 hval0
  refine (chanceSweeps_walk x0 y0 z0 ao0 L0 cap0 x1 y1 z1 u1 v1 x2 W hl0 hm0 hnil0 (sta_of_laid hL)).mono fun e W' ⟨he, bel⟩ => ?_
  subst he
  exact ⟨_, rfl, _, _, _, [], _, [], hW', trodAll_mk1 (shut_bool Tryz.underlying4 _), (trodAll_cons_mk (Below.trod laidOut (by kernel_rfl) (of_decide_eq_true (by kernel_rfl)) k0 bel lt0) (trodAll_cons_mk (Below.trod laidOut (by kernel_rfl) (of_decide_eq_true (by kernel_rfl)) k1 bel lt1) (trodAll_cons_mk (Below.trod laidOut (by kernel_rfl) (of_decide_eq_true (by kernel_rfl)) k2 bel lt2) trodAll_mk0))), rfl, bel.frame _, fun h => by cases h⟩

theorem chanceSweeps_jf9 : (Rows.chanceSweepsRow.inPlace == Tryz.prog.inPlace 7) = true := by kernel_rfl
theorem chanceSweeps_jf10 : (Rows.chanceSweepsRow.unfollowed == Tryz.prog.unfollowed 7) = true := by kernel_rfl
theorem chanceSweeps_jf11 : (Rows.chanceSweepsRow.recurses == Tryz.prog.recurses 7) = true := by kernel_rfl
theorem chanceSweeps_jf12 : (Rows.chanceSweepsRow.named == Tryz.prog.varsNamed 7) = true := by kernel_rfl
theorem chanceSweeps_facts : joinedFacts Tryz.prog 7 Tryz.f7 Rows.chanceSweepsSpec Rows.chanceSweepsRow = true := by
  unfold joinedFacts
  exact (band (band (band (band (band (band (band (band (band (band (band (band (band (band (band (band (band (band (band (band (band (band (band (band (band (band (band (band (band (band (band (by kernel_rfl) jf1) jf2) (by kernel_rfl)) (by kernel_rfl)) (by kernel_rfl)) jf6) (by kernel_rfl)) jf8) chanceSweeps_jf9) chanceSweeps_jf10) chanceSweeps_jf11) chanceSweeps_jf12) (by kernel_rfl)) (by kernel_rfl)) (by kernel_rfl)) (by kernel_rfl)) (by kernel_rfl)) (by kernel_rfl)) (by kernel_rfl)) (by kernel_rfl)) (by kernel_rfl)) (by kernel_rfl)) (by kernel_rfl)) jf24) jf25) jf26) jf27) (by kernel_rfl)) (by kernel_rfl)) (by kernel_rfl)) (by kernel_rfl))

theorem chanceSweeps_over : Rows.chanceSweepsRow.holds Tryz.pinned (OpenSpec.ofChange Rows.chanceSweepsSpec) :=
  OpenClaim.holds_of_wide 7 Tryz.f7 rfl rfl rfl rfl rfl rfl rfl ⟨rfl, rfl, rfl, rfl, rfl⟩ rfl rfl rfl rfl rfl (by kernel_rfl) Tryz.func7 chanceSweeps_facts
    (of_decide_eq_true (by kernel_rfl)) (by unfold Func.isWrapper; first | (rw [if_pos (by decide +kernel)]; kernel_rfl) | (rw [if_neg (by decide +kernel)]; exact ⟨rfl, rfl⟩))
    (fun os started H enc _ => chanceSweeps_lifted os started H enc)

theorem chanceSweeps_holds : Rows.ChanceSweepsCardSaid :=
  Claim7.holds_tied_plain_at .later [] [.data] true (true, "53c1b5e1e7764523c431423f857e3b43d4884bb98fa3eac6047523bbb346dfed") false
    chanceSweeps_over (fun _ h => by cases h) (by kernel_rfl) (fun _ h => by cases h) chanceSweeps_row_tie rfl ⟨rfl, rfl⟩ (by kernel_rfl) rfl
    (fun f fn hf hfn => by
      obtain rfl : f = 7 := Option.some.inj ((show Tryz.prog.funcNamed "plaquette/plaquettelaw05.ChanceSweeps" = some 7 by kernel_rfl).symm.trans hf) |>.symm
      obtain rfl : fn = Tryz.f7 := (Option.some.inj (Tryz.func7.symm.trans hfn)).symm
      exact ⟨by kernel_rfl, fun j t ht => by
        rw [Tryz.params7] at ht
        have hm : t ∈ [25, 26, 3] := by simpa using Array.mem_of_getElem? ht
        have hall : ([25, 26, 3].all fun u => !Tryz.prog.wantsStandIn u) = true := by kernel_rfl
        exact (show Tryz.prog.wantsStandIn t = false by simpa using List.all_eq_true.1 hall t hm)⟩)
    (by kernel_rfl)
#print axioms chanceSweeps_holds

end Go.Proofs.YtpfhjdmgkckjfaaGreatDoor
