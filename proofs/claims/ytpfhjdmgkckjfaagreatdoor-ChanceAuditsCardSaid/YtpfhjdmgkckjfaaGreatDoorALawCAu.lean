/- ChanceAudits: which moves are the first ones of a sweep, and the first one that is not, are what the document says, for all fields, weights, seeds and moves.
Conditions: none. -/
import Derived.Test.YtpfhjdmgkckjfaaGreatDoorAAudC
import Derived.Test.YtpfhjdmgkckjfaaGreatDoorASameU4
import Derived.Test.YtpfhjdmgkckjfaaGreatDoorAOpenMv
import Derived.Test.YtpfhjdmgkckjfaaGreatDoorALaidS
import Derived.Test.YtpfhjdmgkckjfaaGreatDoorADist
namespace Go.Proofs.YtpfhjdmgkckjfaaGreatDoor
set_option linter.unusedVariables false
set_option linter.unusedSimpArgs false
set_option maxRecDepth 1000000
open Go.ChangeShapes Go.WideShapes Go.ChangeAt Go.RowKit
open Um Tm Cm
open Go.Sort

set_option maxHeartbeats 3200000 in
theorem cAu_l (a b c p0 p1 p2 p3 p4 s : Int) (n mc : Nat) (mo ao : Option Addr) (cap : Nat) (L : List Q) (w : World) (h : 200 < L.length) : Calls Tryz.prog 9 #[.agg #[.int .i64 a, .int .i64 b, .int .i64 c, .slice ao L.length cap], .agg #[.int .i64 p0, .int .i64 p1, .int .i64 p2, .int .i64 p3, .int .i64 p4], .agg #[.int .i64 s, .slice mo n mc]] w fun e w' => e = .returned (.bool true) ∧ Below w.heap.size w w' := by
  have kn := sane5_any
  have c0 := fun W : World => long5_any a b c ao cap L true W (.inl ⟨h, rfl⟩)
  go_enter Tryz.func9, Tryz.ntmps9
  go_wp2_with (fail)
  refine (c0 _).mono ?_
  rintro e w1 ⟨rfl, hw1⟩
  have bw1 : Below w.heap.size w w1 := bel3 hw1
  have F1 := Lib.hid (FW.n3a.later hw1)
  have E1 := Lib.hid (C5.n3b.later hw1)
  have X1 := Lib.hid (C2.n3c.later hw1)
  have HB1 := Lib.hid bw1
  clear hw1 bw1
  go_wp2_with (fail)
  refine (kn _).mono ?_
  rintro e w2 ⟨rfl, hw2⟩
  have bw2 : Below w1.heap.size w1 w2 := hw2
  have F2 := Lib.hid (F1.out.later bw2)
  have E2 := Lib.hid (E1.out.later bw2)
  have X2 := Lib.hid (X1.out.later bw2)
  have HB2 := Lib.hid (HB1.out.trans (bw2.mono HB1.out.size))
  clear hw2 bw2 F1 E1 X1 HB1
  go_wp2
  go_ret
  exact ⟨rfl, HB2.out⟩
set_option maxHeartbeats 3200000 in
theorem cAu_m (a b c p0 p1 p2 p3 p4 s : Int) (n mc : Nat) (mo ao : Option Addr) (cap : Nat) (L : List Q) (w : World) (k1 : L.length ≤ 200) (h : 200 < n) : Calls Tryz.prog 9 #[.agg #[.int .i64 a, .int .i64 b, .int .i64 c, .slice ao L.length cap], .agg #[.int .i64 p0, .int .i64 p1, .int .i64 p2, .int .i64 p3, .int .i64 p4], .agg #[.int .i64 s, .slice mo n mc]] w fun e w' => e = .returned (.bool true) ∧ Below w.heap.size w w' := by
  have kn := sane5_any
  have c0 := fun W : World => long5_any a b c ao cap L false W (.inr ⟨k1, rfl⟩)
  have hn : (n : Int) > 200 := by omega
  go_enter Tryz.func9, Tryz.ntmps9
  go_wp2_with (fail)
  refine (c0 _).mono ?_
  rintro e w1 ⟨rfl, hw1⟩
  have bw1 : Below w.heap.size w w1 := bel3 hw1
  have F1 := Lib.hid (FW.n3a.later hw1)
  have E1 := Lib.hid (C5.n3b.later hw1)
  have X1 := Lib.hid (C2.n3c.later hw1)
  have HB1 := Lib.hid bw1
  clear hw1 bw1
  obtain ⟨x1_0, x1_1, x1_2, x1_3⟩ := X1.out
  go_wp2_with (fail)
  refine (kn _).mono ?_
  rintro e w2 ⟨rfl, hw2⟩
  clear x1_0 x1_1 x1_2 x1_3
  have bw2 : Below w1.heap.size w1 w2 := hw2
  have F2 := Lib.hid (F1.out.later bw2)
  have E2 := Lib.hid (E1.out.later bw2)
  have X2 := Lib.hid (X1.out.later bw2)
  have HB2 := Lib.hid (HB1.out.trans (bw2.mono HB1.out.size))
  clear hw2 bw2 F1 E1 X1 HB1
  go_wp2
  go_ret
  exact ⟨rfl, HB2.out⟩
set_option maxHeartbeats 12800000 in
theorem cAu_e (a b c p0 p1 p2 p3 p4 s i q : Int) (n mc : Nat) (mo ao : Option Addr) (cap : Nat) (L : List Q) (w : World) (G : List Int) (k1 : L.length ≤ 200) (k2 : n ≤ 200) (hm : LiesO w ao L) (hst : StA w) (hmo : LiesOI w mo G)
    (c1 : ∀ (W : World), LiesO W ao L → StA W → LiesOI W mo G → Calls Tryz.prog 32 #[.agg #[.int .i64 a, .int .i64 b, .int .i64 c, .slice ao L.length cap], .agg #[.int .i64 p0, .int .i64 p1, .int .i64 p2, .int .i64 p3, .int .i64 p4], .int .i64 s, .slice mo n mc] W fun e w' => e = .returned (.tuple #[.agg #[.int .i64 0, .int .i64 0, .int .i64 0, .slice none 0 0], .int .i64 0, .int .i64 i, .int .i64 q]) ∧ Below W.heap.size W w')
    (c2 : ∀ (W : World), LiesO W ao L → LiesOI W mo G → Calls Tryz.prog 33 #[.agg #[.int .i64 a, .int .i64 b, .int .i64 c, .slice ao L.length cap], .agg #[.int .i64 p0, .int .i64 p1, .int .i64 p2, .int .i64 p3, .int .i64 p4], .int .i64 s, .slice mo n mc] W fun e w' => e = .returned (.tuple #[.agg #[.int .i64 0, .int .i64 0, .int .i64 0, .slice none 0 0], .int .i64 0, .int .i64 i, .int .i64 q]) ∧ Below W.heap.size W w')
    (c3 : ∀ (W : World), Calls Tryz.prog 20 #[.agg #[.int .i64 0, .int .i64 0, .int .i64 0, .slice none 0 0], .agg #[.int .i64 0, .int .i64 0, .int .i64 0, .slice none 0 0]] W fun e w' => e = .returned (.bool true) ∧ Below W.heap.size W w') : Calls Tryz.prog 9 #[.agg #[.int .i64 a, .int .i64 b, .int .i64 c, .slice ao L.length cap], .agg #[.int .i64 p0, .int .i64 p1, .int .i64 p2, .int .i64 p3, .int .i64 p4], .agg #[.int .i64 s, .slice mo n mc]] w fun e w' => e = .returned (.bool true) ∧ Below w.heap.size w w' := by
  have kn := sane5_any
  have c0 := fun W : World => long5_any a b c ao cap L false W (.inr ⟨k1, rfl⟩)
  have t1 : (q == q) = true := by simp
  have t2 : (i == i) = true := by simp
  have hn : ¬ (n : Int) > 200 := by omega
  have H0 := Lib.hid hm
  have S0 := Lib.hid hst
  have M0 := Lib.hid hmo
  clear hm hst k1 hmo
  go_enter Tryz.func9, Tryz.ntmps9
  go_wp2_with (fail)
  refine (c0 _).mono ?_
  rintro e w1 ⟨rfl, hw1⟩
  have bw1 : Below w.heap.size w w1 := bel3 hw1
  have F1 := Lib.hid (FW.n3a.later hw1)
  have E1 := Lib.hid (C5.n3b.later hw1)
  have X1 := Lib.hid (C2.n3c.later hw1)
  have H1 := Lib.hid (H0.out.later bw1)
  have S1 := Lib.hid (S0.out.later bw1)
  have M1 := Lib.hid (M0.out.later bw1)
  have HB1 := Lib.hid bw1
  clear hw1 bw1 H0 S0 M0
  obtain ⟨f1_0, f1_1, f1_2, f1_3, f1_4, f1_5⟩ := F1.out
  obtain ⟨e1_0, e1_1, e1_2, e1_3, e1_4, e1_5, e1_6⟩ := E1.out
  obtain ⟨x1_0, x1_1, x1_2, x1_3⟩ := X1.out
  go_wp2_with (fail)
  refine (c1 _ (H1.out) (S1.out) (M1.out)).mono ?_
  rintro e w2 ⟨rfl, hw2⟩
  clear f1_0 f1_1 f1_2 f1_3 f1_4 f1_5 e1_0 e1_1 e1_2 e1_3 e1_4 e1_5 e1_6 x1_0 x1_1 x1_2 x1_3
  have bw2 : Below w1.heap.size w1 w2 := hw2
  have H2 := Lib.hid (H1.out.later bw2)
  have S2 := Lib.hid (S1.out.later bw2)
  have M2 := Lib.hid (M1.out.later bw2)
  have F2 := Lib.hid (F1.out.later bw2)
  have E2 := Lib.hid (E1.out.later bw2)
  have X2 := Lib.hid (X1.out.later bw2)
  have HB2 := Lib.hid (HB1.out.trans (bw2.mono HB1.out.size))
  clear hw2 bw2 H1 S1 M1 F1 E1 X1 HB1
  obtain ⟨f2_0, f2_1, f2_2, f2_3, f2_4, f2_5⟩ := F2.out
  obtain ⟨e2_0, e2_1, e2_2, e2_3, e2_4, e2_5, e2_6⟩ := E2.out
  obtain ⟨x2_0, x2_1, x2_2, x2_3⟩ := X2.out
  go_wp2_with (fail)
  refine (c2 _ (H2.out.later ba1) (M2.out.later ba1)).mono ?_
  rintro e w3 ⟨rfl, hw3⟩
  clear f2_0 f2_1 f2_2 f2_3 f2_4 f2_5 e2_0 e2_1 e2_2 e2_3 e2_4 e2_5 e2_6 x2_0 x2_1 x2_2 x2_3
  have bw3 : Below w2.heap.size w2 w3 := bel1 hw3
  have P3 := Lib.hid (FW.n1.later hw3)
  have H3 := Lib.hid (H2.out.later bw3)
  have S3 := Lib.hid (S2.out.later bw3)
  have M3 := Lib.hid (M2.out.later bw3)
  have F3 := Lib.hid (F2.out.later bw3)
  have E3 := Lib.hid (E2.out.later bw3)
  have X3 := Lib.hid (X2.out.later bw3)
  have HB3 := Lib.hid (HB2.out.trans (bw3.mono HB2.out.size))
  clear hw3 bw3 H2 S2 M2 F2 E2 X2 HB2
  obtain ⟨p3_0, p3_1, p3_2, p3_3, p3_4, p3_5⟩ := P3.out
  go_wp2_with (fail)
  refine (c3 _).mono ?_
  rintro e w4 ⟨rfl, hw4⟩
  clear p3_0 p3_1 p3_2 p3_3 p3_4 p3_5
  have bw4 : Below w3.heap.size w3 w4 := bel1 hw4
  have Y4 := Lib.hid (FW.n1.later hw4)
  have H4 := Lib.hid (H3.out.later bw4)
  have S4 := Lib.hid (S3.out.later bw4)
  have M4 := Lib.hid (M3.out.later bw4)
  have F4 := Lib.hid (F3.out.later bw4)
  have E4 := Lib.hid (E3.out.later bw4)
  have X4 := Lib.hid (X3.out.later bw4)
  have P4 := Lib.hid (P3.out.later bw4)
  have HB4 := Lib.hid (HB3.out.trans (bw4.mono HB3.out.size))
  clear hw4 bw4 H3 S3 M3 F3 E3 X3 P3 HB3
  go_wp2_with (fail)
  refine (kn _).mono ?_
  rintro e w5 ⟨rfl, hw5⟩
  have bw5 : Below w4.heap.size w4 w5 := hw5
  have H5 := Lib.hid (H4.out.later bw5)
  have S5 := Lib.hid (S4.out.later bw5)
  have M5 := Lib.hid (M4.out.later bw5)
  have F5 := Lib.hid (F4.out.later bw5)
  have E5 := Lib.hid (E4.out.later bw5)
  have X5 := Lib.hid (X4.out.later bw5)
  have P5 := Lib.hid (P4.out.later bw5)
  have Y5 := Lib.hid (Y4.out.later bw5)
  have HB5 := Lib.hid (HB4.out.trans (bw5.mono HB4.out.size))
  clear hw5 bw5 H4 S4 M4 F4 E4 X4 P4 Y4 HB4
  go_wp2
  go_ret
  exact ⟨rfl, HB5.out⟩
set_option maxHeartbeats 12800000 in
theorem cAu_g (a b c p0 p1 p2 p3 p4 s q : Int) (n mc : Nat) (mo ao : Option Addr) (cap : Nat) (L : List Q) (w : World) (G : List Int) (T : List Q) (k1 : L.length ≤ 200) (k2 : n ≤ 200) (hm : LiesO w ao L) (hst : StA w) (hmo : LiesOI w mo G)
    (c1 : ∀ (W : World), LiesO W ao L → StA W → LiesOI W mo G → Calls Tryz.prog 32 #[.agg #[.int .i64 a, .int .i64 b, .int .i64 c, .slice ao L.length cap], .agg #[.int .i64 p0, .int .i64 p1, .int .i64 p2, .int .i64 p3, .int .i64 p4], .int .i64 s, .slice mo n mc] W fun e w' => (∃ g gk : Nat, e = .returned (.tuple #[.agg #[.int .i64 a, .int .i64 b, .int .i64 c, .slice (some ⟨g, 0, none⟩) L.length gk], .int .i64 q, .int .i64 0, .int .i64 0]) ∧ Lies w' g 0 T) ∧ Below W.heap.size W w')
    (c2 : ∀ (W : World), LiesO W ao L → LiesOI W mo G → Calls Tryz.prog 33 #[.agg #[.int .i64 a, .int .i64 b, .int .i64 c, .slice ao L.length cap], .agg #[.int .i64 p0, .int .i64 p1, .int .i64 p2, .int .i64 p3, .int .i64 p4], .int .i64 s, .slice mo n mc] W fun e w' => (∃ g gk : Nat, e = .returned (.tuple #[.agg #[.int .i64 a, .int .i64 b, .int .i64 c, .slice (some ⟨g, 0, none⟩) L.length gk], .int .i64 q, .int .i64 0, .int .i64 0]) ∧ Lies w' g 0 T) ∧ Below W.heap.size W w')
    (c3 : ∀ (W : World) (g k g1 k1 : Nat), Lies W g 0 T → Lies W g1 0 T → Calls Tryz.prog 20 #[.agg #[.int .i64 a, .int .i64 b, .int .i64 c, .slice (some ⟨g, 0, none⟩) L.length k], .agg #[.int .i64 a, .int .i64 b, .int .i64 c, .slice (some ⟨g1, 0, none⟩) L.length k1]] W fun e w' => e = .returned (.bool true) ∧ Below W.heap.size W w') : Calls Tryz.prog 9 #[.agg #[.int .i64 a, .int .i64 b, .int .i64 c, .slice ao L.length cap], .agg #[.int .i64 p0, .int .i64 p1, .int .i64 p2, .int .i64 p3, .int .i64 p4], .agg #[.int .i64 s, .slice mo n mc]] w fun e w' => e = .returned (.bool true) ∧ Below w.heap.size w w' := by
  have kn := sane5_any
  have c0 := fun W : World => long5_any a b c ao cap L false W (.inr ⟨k1, rfl⟩)
  have t1 : (q == q) = true := by simp
  have hn : ¬ (n : Int) > 200 := by omega
  have H0 := Lib.hid hm
  have S0 := Lib.hid hst
  have M0 := Lib.hid hmo
  clear hm hst k1 hmo
  go_enter Tryz.func9, Tryz.ntmps9
  go_wp2_with (fail)
  refine (c0 _).mono ?_
  rintro e w1 ⟨rfl, hw1⟩
  have bw1 : Below w.heap.size w w1 := bel3 hw1
  have F1 := Lib.hid (FW.n3a.later hw1)
  have E1 := Lib.hid (C5.n3b.later hw1)
  have X1 := Lib.hid (C2.n3c.later hw1)
  have H1 := Lib.hid (H0.out.later bw1)
  have S1 := Lib.hid (S0.out.later bw1)
  have M1 := Lib.hid (M0.out.later bw1)
  have HB1 := Lib.hid bw1
  clear hw1 bw1 H0 S0 M0
  obtain ⟨f1_0, f1_1, f1_2, f1_3, f1_4, f1_5⟩ := F1.out
  obtain ⟨e1_0, e1_1, e1_2, e1_3, e1_4, e1_5, e1_6⟩ := E1.out
  obtain ⟨x1_0, x1_1, x1_2, x1_3⟩ := X1.out
  go_wp2_with (fail)
  refine (c1 _ (H1.out) (S1.out) (M1.out)).mono ?_
  rintro e w2 ⟨⟨g1, gk1, rfl, hP⟩, hw2⟩
  clear f1_0 f1_1 f1_2 f1_3 f1_4 f1_5 e1_0 e1_1 e1_2 e1_3 e1_4 e1_5 e1_6 x1_0 x1_1 x1_2 x1_3
  have bw2 : Below w1.heap.size w1 w2 := hw2
  have H2 := Lib.hid (H1.out.later bw2)
  have S2 := Lib.hid (S1.out.later bw2)
  have M2 := Lib.hid (M1.out.later bw2)
  have F2 := Lib.hid (F1.out.later bw2)
  have E2 := Lib.hid (E1.out.later bw2)
  have X2 := Lib.hid (X1.out.later bw2)
  have HB2 := Lib.hid (HB1.out.trans (bw2.mono HB1.out.size))
  have U2 := Lib.hid hP
  clear hP
  clear hw2 bw2 H1 S1 M1 F1 E1 X1 HB1
  obtain ⟨f2_0, f2_1, f2_2, f2_3, f2_4, f2_5⟩ := F2.out
  obtain ⟨e2_0, e2_1, e2_2, e2_3, e2_4, e2_5, e2_6⟩ := E2.out
  obtain ⟨x2_0, x2_1, x2_2, x2_3⟩ := X2.out
  go_wp2_with (fail)
  refine (c2 _ (H2.out.later ba1) (M2.out.later ba1)).mono ?_
  rintro e w3 ⟨⟨g2, gk2, rfl, hP⟩, hw3⟩
  clear f2_0 f2_1 f2_2 f2_3 f2_4 f2_5 e2_0 e2_1 e2_2 e2_3 e2_4 e2_5 e2_6 x2_0 x2_1 x2_2 x2_3
  have bw3 : Below w2.heap.size w2 w3 := bel1 hw3
  have P3 := Lib.hid (FW.n1.later hw3)
  have H3 := Lib.hid (H2.out.later bw3)
  have S3 := Lib.hid (S2.out.later bw3)
  have M3 := Lib.hid (M2.out.later bw3)
  have F3 := Lib.hid (F2.out.later bw3)
  have E3 := Lib.hid (E2.out.later bw3)
  have X3 := Lib.hid (X2.out.later bw3)
  have U3 := Lib.hid (U2.out.later bw3)
  have HB3 := Lib.hid (HB2.out.trans (bw3.mono HB2.out.size))
  have V3 := Lib.hid hP
  clear hP
  clear hw3 bw3 H2 S2 M2 F2 E2 X2 U2 HB2
  obtain ⟨p3_0, p3_1, p3_2, p3_3, p3_4, p3_5⟩ := P3.out
  go_wp2_with (fail)
  refine (c3 _ _ _ _ _ (U3.out.later ba1) (V3.out.later ba1)).mono ?_
  rintro e w4 ⟨rfl, hw4⟩
  clear p3_0 p3_1 p3_2 p3_3 p3_4 p3_5
  have bw4 : Below w3.heap.size w3 w4 := bel1 hw4
  have Y4 := Lib.hid (FW.n1.later hw4)
  have H4 := Lib.hid (H3.out.later bw4)
  have S4 := Lib.hid (S3.out.later bw4)
  have M4 := Lib.hid (M3.out.later bw4)
  have F4 := Lib.hid (F3.out.later bw4)
  have E4 := Lib.hid (E3.out.later bw4)
  have X4 := Lib.hid (X3.out.later bw4)
  have U4 := Lib.hid (U3.out.later bw4)
  have P4 := Lib.hid (P3.out.later bw4)
  have V4 := Lib.hid (V3.out.later bw4)
  have HB4 := Lib.hid (HB3.out.trans (bw4.mono HB3.out.size))
  clear hw4 bw4 H3 S3 M3 F3 E3 X3 U3 P3 V3 HB3
  go_wp2_with (fail)
  refine (kn _).mono ?_
  rintro e w5 ⟨rfl, hw5⟩
  have bw5 : Below w4.heap.size w4 w5 := hw5
  have H5 := Lib.hid (H4.out.later bw5)
  have S5 := Lib.hid (S4.out.later bw5)
  have M5 := Lib.hid (M4.out.later bw5)
  have F5 := Lib.hid (F4.out.later bw5)
  have E5 := Lib.hid (E4.out.later bw5)
  have X5 := Lib.hid (X4.out.later bw5)
  have U5 := Lib.hid (U4.out.later bw5)
  have P5 := Lib.hid (P4.out.later bw5)
  have V5 := Lib.hid (V4.out.later bw5)
  have Y5 := Lib.hid (Y4.out.later bw5)
  have HB5 := Lib.hid (HB4.out.trans (bw5.mono HB4.out.size))
  clear hw5 bw5 H4 S4 M4 F4 E4 X4 U4 P4 V4 Y4 HB4
  go_wp2
  go_ret
  exact ⟨rfl, HB5.out⟩
theorem chanceAudits_walk (a b c : Int) (ao : Option Addr) (L : List Q) (cap : Nat) (p0 p1 p2 p3 p4 s : Int) (mo : Option Addr) (G : List Int) (n mc : Nat) (w : World) (_ : L.length ≤ maxLen) (hm : LiesO w ao L) (hGl : G.length = n * 4) (hmo : LiesOI w mo G) (hst : StA w) : Calls Tryz.prog 9 #[.agg #[.int .i64 a, .int .i64 b, .int .i64 c, .slice ao L.length cap], .agg #[.int .i64 p0, .int .i64 p1, .int .i64 p2, .int .i64 p3, .int .i64 p4], .agg #[.int .i64 s, .slice mo n mc]] w fun e w' => e = .returned (.bool true) ∧ Below w.heap.size w w' := by
  by_cases h : 200 < L.length
  · exact cAu_l a b c p0 p1 p2 p3 p4 s n mc mo ao cap L w h
  by_cases h2 : 200 < n
  · exact cAu_m a b c p0 p1 p2 p3 p4 s n mc mo ao cap L w (by omega) h2
  have sf : ∀ W : World, Calls Tryz.prog 20 #[.agg #[.int .i64 0, .int .i64 0, .int .i64 0, .slice none 0 0], .agg #[.int .i64 0, .int .i64 0, .int .i64 0, .slice none 0 0]] W fun e w' => e = .returned (.bool true) ∧ Below W.heap.size W w' := fun W => sameF4_any 0 0 0 none none 0 0 [] W (.inl rfl) (.inl rfl) (by simp)
  obtain ⟨r, hr⟩ := csR_ex a b c L [p0, p1, p2, p3, p4] s
  have ck := fun (W : World) (k1 : LiesO W ao L) => checkSweep_any a b c p0 p1 p2 p3 p4 s r ao cap L W k1 hr (by omega)
  have cp := fun (W : World) (k1 : LiesO W ao L) => prepared_any a b c p0 p1 p2 p3 p4 s r ao cap L W k1 hr (by omega)
  by_cases z : r = 0
  · subst z
    obtain ⟨hI, hWO⟩ := csR_ok hr
    have hL48 := hI.f.le
    by_cases hn : L.length < n
    · exact cAu_e a b c p0 p1 p2 p3 p4 s 0 3 n mc mo ao cap L w G (by omega) (by omega) hm hst hmo (fun W k1 _ _ => audit_large a b c p0 p1 p2 p3 p4 s n mc mo ao cap L W k1 hn ck) (fun W k1 _ => refAudit_large a b c p0 p1 p2 p3 p4 s n mc mo ao cap L W k1 hn cp) sf
    have hpos : 0 < L.length := by have := hI.f.n; have h1 := hI.f.z.p; have := hI.f.z.a1; have := hI.f.z.b1; have := hI.f.z.c1; have : 1 ≤ a * b * c := Int.mul_pos (Int.mul_pos (by omega) (by omega)) (by omega); omega
    obtain ⟨bl, off, rfl, m1⟩ := lies_of5 hm hpos
    have lof : ∀ W : World, LiesO W (some ⟨bl, off, none⟩) L → Lies W bl off L := fun W h => by
      obtain ⟨b1, o1, e, m⟩ := lies_of5 h hpos
      simp only [Option.some.injEq, Addr.mk.injEq, and_true] at e
      rw [e.1, e.2]
      exact m
    have hTl : (swS a b c [p0, p1, p2, p3, p4] L s n).1.length = L.length := (swI_all hI hWO n (by omega)).n
    have hOl : (mvs a b c [p0, p1, p2, p3, p4] L s n).length = n * 4 := mvs_len _ _ _ _ _ _ _
    have cf := fun (W : World) (k1 : Lies W bl off L) (k2 : StA W) => firstMoves_ok a b c p0 p1 p2 p3 p4 s bl off cap n L W k1 k2 hI hWO (by omega)
    have cr := fun (W : World) (k1 : Lies W bl off L) => refSweepS_ok a b c p0 p1 p2 p3 p4 s bl off cap n L W k1 hI hWO (by omega)
    have ck2 := fun (W : World) (k1 : Lies W bl off L) => ck W (.inr ⟨bl, off, rfl, k1⟩)
    have cp2 := fun (W : World) (k1 : Lies W bl off L) => cp W (.inr ⟨bl, off, rfl, k1⟩)
    obtain ⟨m, hmn, hag, hd⟩ := ag_ex G (mvs a b c [p0, p1, p2, p3, p4] L s n) n
    rcases hd with hmn' | ⟨hlt, hdf⟩
    · refine cAu_g a b c p0 p1 p2 p3 p4 s (swS a b c [p0, p1, p2, p3, p4] L s n).2 n mc mo (some ⟨bl, off, none⟩) cap L w G (swS a b c [p0, p1, p2, p3, p4] L s n).1 (by omega) (by omega) hm hst hmo ?_ ?_ ?_
      · intro W k1 k2 k3
        refine (audit_same a b c p0 p1 p2 p3 p4 s (swS a b c [p0, p1, p2, p3, p4] L s n).2 n mc m bl off cap mo L (swS a b c [p0, p1, p2, p3, p4] L s n).1 G (mvs a b c [p0, p1, p2, p3, p4] L s n) W (lof W k1) k2 k3 hGl hOl (by omega) (by omega) hag hmn' ck2 cf).mono ?_
        rintro e w' ⟨⟨g1, gk, he, hl⟩, hb⟩
        exact ⟨⟨g1, gk, he, hl.h⟩, hb⟩
      · intro W k1 k3
        refine (refAudit_same a b c p0 p1 p2 p3 p4 s (swS a b c [p0, p1, p2, p3, p4] L s n).2 n mc m bl off cap mo L (swS a b c [p0, p1, p2, p3, p4] L s n).1 G (mvs a b c [p0, p1, p2, p3, p4] L s n) W (lof W k1) k3 hGl hOl (by omega) (by omega) hag hmn' cp2 cr).mono ?_
        rintro e w' ⟨⟨g1, gk, he, hl⟩, hb⟩
        exact ⟨⟨g1, gk, he, hl.h⟩, hb⟩
      · intro W g k g1 k1 h1 h2
        have := sameF4_any a b c (some ⟨g, 0, none⟩) (some ⟨g1, 0, none⟩) k k1 (swS a b c [p0, p1, p2, p3, p4] L s n).1 W (.inr ⟨g, 0, rfl, h1⟩) (.inr ⟨g1, 0, rfl, h2⟩) (by omega)
        rw [hTl] at this
        exact this
    · exact cAu_e a b c p0 p1 p2 p3 p4 s m 9 n mc mo (some ⟨bl, off, none⟩) cap L w G (by omega) (by omega) hm hst hmo (fun W k1 k2 k3 => audit_diff a b c p0 p1 p2 p3 p4 s (swS a b c [p0, p1, p2, p3, p4] L s n).2 n mc m bl off cap mo L (swS a b c [p0, p1, p2, p3, p4] L s n).1 G (mvs a b c [p0, p1, p2, p3, p4] L s n) W (lof W k1) k2 k3 hGl hOl (by omega) (by omega) hag hlt hdf ck2 cf) (fun W k1 k3 => refAudit_diff a b c p0 p1 p2 p3 p4 s (swS a b c [p0, p1, p2, p3, p4] L s n).2 n mc m bl off cap mo L (swS a b c [p0, p1, p2, p3, p4] L s n).1 G (mvs a b c [p0, p1, p2, p3, p4] L s n) W (lof W k1) k3 hGl hOl (by omega) (by omega) hag hlt hdf cp2 cr) sf
  · exact cAu_e a b c p0 p1 p2 p3 p4 s 0 r n mc mo ao cap L w G (by omega) (by omega) hm hst hmo (fun W k1 _ _ => audit_bad a b c p0 p1 p2 p3 p4 s r n mc mo ao cap L W k1 z ck) (fun W k1 _ => refAudit_bad a b c p0 p1 p2 p3 p4 s r n mc mo ao cap L W k1 z cp) sf

/-! ### The statement of the law ChanceAudits, out of its walk -/
set_option maxRecDepth 100000 in
theorem chanceAudits_lifted (os : Os) (started : os.Started) (H : Type) (enc : TypeId × Value → H) :
    ReturnsInHanded {} Tryz.checked os 9 .any (fun w args => (Rows.chanceAuditsSpec.pre enc Tryz.prog Tryz.f9 [] false w args ∧ laidMetH Tryz.prog Rows.chanceAuditsRow.laid w) ∧ sizedMet enc Tryz.prog Tryz.f9 (OpenSpec.ofChange Rows.chanceAuditsSpec) false w args) (Rows.chanceAuditsSpec.post enc Tryz.prog Tryz.f9 false true false false) := by
  refine returnsInHanded_of_change_and (C := Tryz.checked) (X := fun w _ => laidMetH Tryz.prog Rows.chanceAuditsRow.laid w) (fun _ _ _ hh h => h.of_heap hh) own started (by kernel_rfl) Tryz.func9
    (ChangeSpec.witness_shaped (enc := enc) (C := Tryz.checked) (os := os) (X := fun w _ => laidMetH Tryz.prog Rows.chanceAuditsRow.laid w) false (World.doorLaid Tryz.prog 17 os) #[.agg #[.int .i64 0, .int .i64 0, .int .i64 0, .slice none 0 0], .agg #[.int .i64 0, .int .i64 0, .int .i64 0, .int .i64 0, .int .i64 0], .agg #[.int .i64 0, .slice none 0 0]] 8 rfl (World.shaped_of_RefB (by kernel_rfl) (by kernel_rfl)) (by kernel_rfl) (by kernel_rfl) (by kernel_rfl) (laidMetH_of_parts3 (fuel := 8) (laidMet_of_run' 8 (by kernel_rfl) (by kernel_rfl)) (by kernel_rfl) (by kernel_rfl))) ?_
  intro W base args ds gs before hval0 hW _ _ hL _
  have hval : ∀ (j : Nat) t v, Tryz.f9.params[j]? = some t → args[j]? = some v → Value.okWide Tryz.prog W .any base t v := hval0
  have hW' := hW
  obtain ⟨p, q, hA0, hV, rfl, hfz, hnd⟩ := hW
  have hA : DataW.TrodAll enc Tryz.prog W 0 (fun _ => true) true Tryz.f9.params.toList args.toList ds p := hA0
  rw [Tryz.params9] at hA hval
  obtain ⟨v0, vs0, d0, ds0, p0, q0, hargs, rfl, rfl, h0, r0⟩ := trodAll_cons hA
  obtain ⟨v1, vs1, d1, ds1, p1, q1, rfl, rfl, rfl, h1, r1⟩ := trodAll_cons r0
  obtain ⟨v2, vs2, d2, ds2, p2, q2, rfl, rfl, rfl, h2, r2⟩ := trodAll_cons r1
  obtain ⟨rfl, rfl, rfl⟩ := trodAll_nil r2
  obtain rfl : args = #[v0, v1, v2] := by cases args; simp_all
  obtain ⟨rfl, rfl⟩ := trodVars_none hV
  have k0 := h0
  have lt0 : ∀ x ∈ p0, x.block < W.heap.size := by obtain ⟨m, hm⟩ := k0; exact DataW.trod_lt m _ _ _ hm
  obtain ⟨x0, y0, z0, ao0, L0, cap0, rfl, hl0, hm0⟩ := open_field (hval 0 25 v0 rfl rfl) h0
  have k1 := h1
  have lt1 : ∀ x ∈ p1, x.block < W.heap.size := by obtain ⟨m, hm⟩ := k1; exact DataW.trod_lt m _ _ _ hm
  obtain ⟨x1, y1, z1, u1, v1, rfl⟩ := open_w5 (hval 1 26 v1 rfl rfl) h1
  have k2 := h2
  have lt2 : ∀ x ∈ p2, x.block < W.heap.size := by obtain ⟨m, hm⟩ := k2; exact DataW.trod_lt m _ _ _ hm
  obtain ⟨sd2, mo2, l2, n2, mc2, rfl, hl2, ho2⟩ := open_moves5 (hval 2 57 v2 rfl rfl) h2
  clear hA0 hval0
  refine (chanceAudits_walk x0 y0 z0 ao0 L0 cap0 x1 y1 z1 u1 v1 sd2 mo2 l2 n2 mc2 W hl0 hm0 hl2 ho2 (sta_of_laid hL)).mono fun e W' ⟨he, bel⟩ => ?_
  subst he
  exact ⟨_, rfl, _, _, _, [], _, [], hW', trodAll_mk1 (shut_bool Tryz.underlying4 _), (trodAll_cons_mk (Below.trod laidOut (by kernel_rfl) (of_decide_eq_true (by kernel_rfl)) k0 bel lt0) (trodAll_cons_mk (Below.trod laidOut (by kernel_rfl) (of_decide_eq_true (by kernel_rfl)) k1 bel lt1) (trodAll_cons_mk (Below.trod laidOut (by kernel_rfl) (of_decide_eq_true (by kernel_rfl)) k2 bel lt2) trodAll_mk0))), rfl, bel.frame _, fun h => by cases h⟩

theorem chanceAudits_jf9 : (Rows.chanceAuditsRow.inPlace == Tryz.prog.inPlace 9) = true := by kernel_rfl
theorem chanceAudits_jf10 : (Rows.chanceAuditsRow.unfollowed == Tryz.prog.unfollowed 9) = true := by kernel_rfl
theorem chanceAudits_jf11 : (Rows.chanceAuditsRow.recurses == Tryz.prog.recurses 9) = true := by kernel_rfl
theorem chanceAudits_jf12 : (Rows.chanceAuditsRow.named == Tryz.prog.varsNamed 9) = true := by kernel_rfl
theorem chanceAudits_facts : joinedFacts Tryz.prog 9 Tryz.f9 Rows.chanceAuditsSpec Rows.chanceAuditsRow = true := by
  unfold joinedFacts
  exact (band (band (band (band (band (band (band (band (band (band (band (band (band (band (band (band (band (band (band (band (band (band (band (band (band (band (band (band (band (band (band (by kernel_rfl) jf1) jf2) (by kernel_rfl)) (by kernel_rfl)) (by kernel_rfl)) jf6) (by kernel_rfl)) jf8) chanceAudits_jf9) chanceAudits_jf10) chanceAudits_jf11) chanceAudits_jf12) (by kernel_rfl)) (by kernel_rfl)) (by kernel_rfl)) (by kernel_rfl)) (by kernel_rfl)) (by kernel_rfl)) (by kernel_rfl)) (by kernel_rfl)) (by kernel_rfl)) (by kernel_rfl)) (by kernel_rfl)) jf24) jf25) jf26) jf27) (by kernel_rfl)) (by kernel_rfl)) (by kernel_rfl)) (by kernel_rfl))

theorem chanceAudits_over : Rows.chanceAuditsRow.holds Tryz.pinned (OpenSpec.ofChange Rows.chanceAuditsSpec) :=
  OpenClaim.holds_of_wide 9 Tryz.f9 rfl rfl rfl rfl rfl rfl rfl ⟨rfl, rfl, rfl, rfl, rfl⟩ rfl rfl rfl rfl rfl (by kernel_rfl) Tryz.func9 chanceAudits_facts
    (of_decide_eq_true (by kernel_rfl)) (by unfold Func.isWrapper; first | (rw [if_pos (by decide +kernel)]; kernel_rfl) | (rw [if_neg (by decide +kernel)]; exact ⟨rfl, rfl⟩))
    (fun os started H enc _ => chanceAudits_lifted os started H enc)

theorem chanceAudits_holds : Rows.ChanceAuditsCardSaid :=
  Claim7.holds_tied_plain_at .later [] [.data] true (true, "53c1b5e1e7764523c431423f857e3b43d4884bb98fa3eac6047523bbb346dfed") false
    chanceAudits_over (fun _ h => by cases h) (by kernel_rfl) (fun _ h => by cases h) chanceAudits_row_tie rfl ⟨rfl, rfl⟩ (by kernel_rfl) rfl
    (fun f fn hf hfn => by
      obtain rfl : f = 9 := Option.some.inj ((show Tryz.prog.funcNamed "plaquette/plaquettelaw05.ChanceAudits" = some 9 by kernel_rfl).symm.trans hf) |>.symm
      obtain rfl : fn = Tryz.f9 := (Option.some.inj (Tryz.func9.symm.trans hfn)).symm
      exact ⟨by kernel_rfl, fun j t ht => by
        rw [Tryz.params9] at ht
        have hm : t ∈ [25, 26, 57] := by simpa using Array.mem_of_getElem? ht
        have hall : ([25, 26, 57].all fun u => !Tryz.prog.wantsStandIn u) = true := by kernel_rfl
        exact (show Tryz.prog.wantsStandIn t = false by simpa using List.all_eq_true.1 hall t hm)⟩)
    (by kernel_rfl)
#print axioms chanceAudits_holds

end Go.Proofs.YtpfhjdmgkckjfaaGreatDoor
