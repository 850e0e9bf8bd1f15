/- PathSteps: one step is what the document says, and a push, a drift and a push, for all fields and lists.
Conditions: none. -/
import Derived.Test.YtilbhcjnkmeecaaGreatKzM
import Derived.Test.YtilbhcjnkmeecaaGreatKsP
import Derived.Test.YtilbhcjnkmeecaaGreatKnM
import Derived.Test.YtilbhcjnkmeecaaGreatSane6
import Derived.Test.YtilbhcjnkmeecaaGreatLawValK
import Derived.Test.YtilbhcjnkmeecaaGreatOpenKA
import Derived.Test.YtilbhcjnkmeecaaGreatJFacts
namespace Go.Proofs.YtilbhcjnkmeecaaGreat
set_option linter.unusedVariables false
set_option linter.unusedSimpArgs false
set_option maxRecDepth 1000000
open Go.ChangeShapes Go.WideShapes Go.ChangeAt Go.RowKit
open Um Tm Cm Km

set_option maxHeartbeats 6400000 in
theorem steps_long (a b c r x t t2 e0 e2 : Int) (y y2 : Bool) (ao po : Option Addr) (m cap pc pn n : Nat) (L L1 : List Q) (l l1 l2 : List Int) (w : World) (hm : LiesO w ao L) (hp : LiesOI w po l)
    (hLg : ∀ W : World, Calls Tryz.prog 8 #[.agg #[.int .i64 a, .int .i64 b, .int .i64 c, .slice ao m cap], .slice po pn pc] W fun e w' => e = .returned (.bool true) ∧ Below W.heap.size W w')
    : Calls Tryz.prog 4 #[.agg #[.int .i64 a, .int .i64 b, .int .i64 c, .slice ao m cap], .slice po pn pc] w fun e w' => e = .returned (.bool true) ∧ Below w.heap.size w w' := by
  have kn := known6_any
  have H0 := Lib.hid hm
  have HP0 := Lib.hid hp
  clear hm hp
  go_enter Tryz.func4, Tryz.ntmps4
  go_wp2_with (fail)
  refine (hLg _).mono ?_
  rintro e w1 ⟨rfl, hw1⟩
  have bw1 : Below w.heap.size w w1 := bel1 hw1
  have TF1 := Lib.hid (FW.n1.later hw1)
  have H1 := Lib.hid (H0.out.later bw1)
  have HP1 := Lib.hid (HP0.out.later bw1)
  have HB1 := Lib.hid bw1
  clear hw1 bw1 H0 HP0
  obtain ⟨tf1_0, tf1_1, tf1_2, tf1_3, tf1_4, tf1_5⟩ := TF1.out
  go_wp2_with (fail)
  refine (kn _).mono ?_
  rintro e w2 ⟨rfl, hw2⟩
  clear tf1_0 tf1_1 tf1_2 tf1_3 tf1_4 tf1_5
  have bw2 : Below w1.heap.size w1 w2 := hw2
  have H2 := Lib.hid (H1.out.later bw2)
  have HP2 := Lib.hid (HP1.out.later bw2)
  have TF2 := Lib.hid (TF1.out.later bw2)
  have HB2 := Lib.hid (HB1.out.trans (bw2.mono HB1.out.size))
  clear hw2 bw2 H1 HP1 TF1 HB1
  go_wp2_with (fail)
  go_ret
  exact ⟨rfl, HB2.out⟩

set_option maxHeartbeats 6400000 in
theorem steps_bad (a b c r x t t2 e0 e2 : Int) (y y2 : Bool) (ao po : Option Addr) (m cap pc pn n : Nat) (L L1 : List Q) (l l1 l2 : List Int) (w : World) (hm : LiesO w ao L) (hp : LiesOI w po l) (h0 : r ≠ 0)
    (hLg : ∀ W : World, Calls Tryz.prog 8 #[.agg #[.int .i64 a, .int .i64 b, .int .i64 c, .slice ao m cap], .slice po pn pc] W fun e w' => e = .returned (.bool false) ∧ Below W.heap.size W w')
    (hS : ∀ W : World, LiesO W ao L → LiesOI W po l → Calls Tryz.prog 18 #[.agg #[.int .i64 a, .int .i64 b, .int .i64 c, .slice ao m cap], .slice po pn pc] W fun e w' => e = .returned (.tuple #[.agg #[.int .i64 0, .int .i64 0, .int .i64 0, .slice none 0 0], .slice none 0 0, .int .i64 r]) ∧ Below W.heap.size W w')
    (hQ : ∀ W : World, LiesO W ao L → LiesOI W po l → Calls Tryz.prog 19 #[.agg #[.int .i64 a, .int .i64 b, .int .i64 c, .slice ao m cap], .slice po pn pc] W fun e w' => e = .returned (.tuple #[.agg #[.int .i64 0, .int .i64 0, .int .i64 0, .slice none 0 0], .slice none 0 0, .int .i64 r]) ∧ Below W.heap.size W w')
    (hF : ∀ W : World, Calls Tryz.prog 17 #[.agg #[.int .i64 0, .int .i64 0, .int .i64 0, .slice none 0 0], .agg #[.int .i64 0, .int .i64 0, .int .i64 0, .slice none 0 0]] W fun e w' => e = .returned (.bool true) ∧ Below W.heap.size W w')
    (hK : ∀ W : World, Calls Tryz.prog 16 #[.slice none 0 0, .slice none 0 0] W fun e w' => e = .returned (.bool true) ∧ Below W.heap.size W w')
    : Calls Tryz.prog 4 #[.agg #[.int .i64 a, .int .i64 b, .int .i64 c, .slice ao m cap], .slice po pn pc] w fun e w' => e = .returned (.bool true) ∧ Below w.heap.size w w' := by
  have h0a : (r != 0) = true := by simpa using h0
  have rr : (r != r) = false := by simp
  have kn := known6_any
  have H0 := Lib.hid hm
  have HP0 := Lib.hid hp
  clear hm hp h0
  go_enter Tryz.func4, Tryz.ntmps4
  go_wp2_with (fail)
  refine (hLg _).mono ?_
  rintro e w1 ⟨rfl, hw1⟩
  have bw1 : Below w.heap.size w w1 := bel1 hw1
  have TF1 := Lib.hid (FW.n1.later hw1)
  have H1 := Lib.hid (H0.out.later bw1)
  have HP1 := Lib.hid (HP0.out.later bw1)
  have HB1 := Lib.hid bw1
  clear hw1 bw1 H0 HP0
  obtain ⟨tf1_0, tf1_1, tf1_2, tf1_3, tf1_4, tf1_5⟩ := TF1.out
  go_wp2_with (fail)
  refine (hS _ (H1.out) (HP1.out)).mono ?_
  rintro e w2 ⟨rfl, hw2⟩
  clear tf1_0 tf1_1 tf1_2 tf1_3 tf1_4 tf1_5
  have bw2 : Below w1.heap.size w1 w2 := hw2
  have H2 := Lib.hid (H1.out.later bw2)
  have HP2 := Lib.hid (HP1.out.later bw2)
  have TF2 := Lib.hid (TF1.out.later bw2)
  have HB2 := Lib.hid (HB1.out.trans (bw2.mono HB1.out.size))
  clear hw2 bw2 H1 HP1 TF1 HB1
  obtain ⟨tf2_0, tf2_1, tf2_2, tf2_3, tf2_4, tf2_5⟩ := TF2.out
  go_wp2_with (fail)
  refine (hQ _ (H2.out.later ba1) (HP2.out.later ba1)).mono ?_
  rintro e w3 ⟨rfl, hw3⟩
  clear tf2_0 tf2_1 tf2_2 tf2_3 tf2_4 tf2_5
  have bw3 : Below w2.heap.size w2 w3 := bel1 hw3
  have TA3 := Lib.hid (FW.n1.later hw3)
  have H3 := Lib.hid (H2.out.later bw3)
  have HP3 := Lib.hid (HP2.out.later bw3)
  have TF3 := Lib.hid (TF2.out.later bw3)
  have HB3 := Lib.hid (HB2.out.trans (bw3.mono HB2.out.size))
  clear hw3 bw3 H2 HP2 TF2 HB2
  obtain ⟨tf3_0, tf3_1, tf3_2, tf3_3, tf3_4, tf3_5⟩ := TF3.out
  obtain ⟨ta3_0, ta3_1, ta3_2, ta3_3, ta3_4, ta3_5⟩ := TA3.out
  go_wp2_with (fail)
  refine (hF _).mono ?_
  rintro e w4 ⟨rfl, hw4⟩
  clear tf3_0 tf3_1 tf3_2 tf3_3 tf3_4 tf3_5 ta3_0 ta3_1 ta3_2 ta3_3 ta3_4 ta3_5
  have bw4 : Below w3.heap.size w3 w4 := bel1 hw4
  have TC4 := Lib.hid (FW.n1.later hw4)
  have H4 := Lib.hid (H3.out.later bw4)
  have HP4 := Lib.hid (HP3.out.later bw4)
  have TF4 := Lib.hid (TF3.out.later bw4)
  have TA4 := Lib.hid (TA3.out.later bw4)
  have HB4 := Lib.hid (HB3.out.trans (bw4.mono HB3.out.size))
  clear hw4 bw4 H3 HP3 TF3 TA3 HB3
  obtain ⟨tf4_0, tf4_1, tf4_2, tf4_3, tf4_4, tf4_5⟩ := TF4.out
  go_wp2_with (fail)
  refine (hK _).mono ?_
  rintro e w5 ⟨rfl, hw5⟩
  clear tf4_0 tf4_1 tf4_2 tf4_3 tf4_4 tf4_5
  have bw5 : Below w4.heap.size w4 w5 := hw5
  have H5 := Lib.hid (H4.out.later bw5)
  have HP5 := Lib.hid (HP4.out.later bw5)
  have TF5 := Lib.hid (TF4.out.later bw5)
  have TA5 := Lib.hid (TA4.out.later bw5)
  have TC5 := Lib.hid (TC4.out.later bw5)
  have HB5 := Lib.hid (HB4.out.trans (bw5.mono HB4.out.size))
  clear hw5 bw5 H4 HP4 TF4 TA4 TC4 HB4
  obtain ⟨tf5_0, tf5_1, tf5_2, tf5_3, tf5_4, tf5_5⟩ := TF5.out
  go_wp2_with (fail)
  refine (kn _).mono ?_
  rintro e w6 ⟨rfl, hw6⟩
  clear tf5_0 tf5_1 tf5_2 tf5_3 tf5_4 tf5_5
  have bw6 : Below w5.heap.size w5 w6 := hw6
  have H6 := Lib.hid (H5.out.later bw6)
  have HP6 := Lib.hid (HP5.out.later bw6)
  have TF6 := Lib.hid (TF5.out.later bw6)
  have TA6 := Lib.hid (TA5.out.later bw6)
  have TC6 := Lib.hid (TC5.out.later bw6)
  have HB6 := Lib.hid (HB5.out.trans (bw6.mono HB5.out.size))
  clear hw6 bw6 H5 HP5 TF5 TA5 TC5 HB5
  go_wp2_with (fail)
  go_ret
  exact ⟨rfl, HB6.out⟩

set_option maxHeartbeats 6400000 in
theorem steps_ok (a b c r x t t2 e0 e2 : Int) (y y2 : Bool) (ao po : Option Addr) (m cap pc pn n : Nat) (L L1 : List Q) (l l1 l2 : List Int) (w : World) (hm : LiesO w ao L) (hp : LiesOI w po l)
    (hLg : ∀ W : World, Calls Tryz.prog 8 #[.agg #[.int .i64 a, .int .i64 b, .int .i64 c, .slice ao m cap], .slice po pn pc] W fun e w' => e = .returned (.bool false) ∧ Below W.heap.size W w')
    (hS : ∀ W : World, LiesO W ao L → LiesOI W po l → Calls Tryz.prog 18 #[.agg #[.int .i64 a, .int .i64 b, .int .i64 c, .slice ao m cap], .slice po pn pc] W fun e w' => RetRun a b c n W.heap.size (L1, l2) e w' ∧ Below W.heap.size W w')
    (hQ : ∀ W : World, LiesO W ao L → LiesOI W po l → Calls Tryz.prog 19 #[.agg #[.int .i64 a, .int .i64 b, .int .i64 c, .slice ao m cap], .slice po pn pc] W fun e w' => RetSE a b c W.heap.size n (L1, l2) e w' ∧ Below W.heap.size W w')
    (hF : ∀ (W : World) (g k g2 k2 : Nat), Lies W g 0 L1 → Lies W g2 0 L1 → Calls Tryz.prog 17 #[.agg #[.int .i64 a, .int .i64 b, .int .i64 c, .slice (some ⟨g, 0, none⟩) n k], .agg #[.int .i64 a, .int .i64 b, .int .i64 c, .slice (some ⟨g2, 0, none⟩) n k2]] W fun e w' => e = .returned (.bool true) ∧ Below W.heap.size W w')
    (hK : ∀ (W : World) (g k g2 k2 : Nat), LiesI W g 0 l2 → LiesI W g2 0 l2 → Calls Tryz.prog 16 #[.slice (some ⟨g, 0, none⟩) n k, .slice (some ⟨g2, 0, none⟩) n k2] W fun e w' => e = .returned (.bool true) ∧ Below W.heap.size W w')
    (hP : ∀ W : World, LiesO W ao L → LiesOI W po l → Calls Tryz.prog 12 #[.agg #[.int .i64 a, .int .i64 b, .int .i64 c, .slice ao m cap], .slice po pn pc] W fun e w' => RetKB W.heap.size n l1 e w' ∧ Below W.heap.size W w')
    (hD : ∀ (W : World) (gm km : Nat), LiesO W ao L → LiesI W gm 0 l1 → Calls Tryz.prog 14 #[.agg #[.int .i64 a, .int .i64 b, .int .i64 c, .slice ao m cap], .slice (some ⟨gm, 0, none⟩) n km] W fun e w' => RetFO a b c W.heap.size n L1 e w' ∧ Below W.heap.size W w')
    (hP2 : ∀ (W : World) (g k gm km : Nat), Lies W g 0 L1 → LiesI W gm 0 l1 → Calls Tryz.prog 12 #[.agg #[.int .i64 a, .int .i64 b, .int .i64 c, .slice (some ⟨g, 0, none⟩) n k], .slice (some ⟨gm, 0, none⟩) n km] W fun e w' => RetKB W.heap.size n l2 e w' ∧ Below W.heap.size W w')
    : Calls Tryz.prog 4 #[.agg #[.int .i64 a, .int .i64 b, .int .i64 c, .slice ao m cap], .slice po pn pc] w fun e w' => e = .returned (.bool true) ∧ Below w.heap.size w w' := by
  have kn := known6_any
  have H0 := Lib.hid hm
  have HP0 := Lib.hid hp
  clear hm hp
  go_enter Tryz.func4, Tryz.ntmps4
  go_wp2_with (fail)
  refine (hLg _).mono ?_
  rintro e w1 ⟨rfl, hw1⟩
  have bw1 : Below w.heap.size w w1 := bel1 hw1
  have TF1 := Lib.hid (FW.n1.later hw1)
  have H1 := Lib.hid (H0.out.later bw1)
  have HP1 := Lib.hid (HP0.out.later bw1)
  have HB1 := Lib.hid bw1
  clear hw1 bw1 H0 HP0
  obtain ⟨tf1_0, tf1_1, tf1_2, tf1_3, tf1_4, tf1_5⟩ := TF1.out
  go_wp2_with (fail)
  refine (hS _ (H1.out) (HP1.out)).mono ?_
  rintro e w2 ⟨⟨g1, k1, m1, j1, rfl, hb1, hi1, -, -, -⟩, hw2⟩
  clear tf1_0 tf1_1 tf1_2 tf1_3 tf1_4 tf1_5
  have bw2 : Below w1.heap.size w1 w2 := hw2
  have H2 := Lib.hid (H1.out.later bw2)
  have HP2 := Lib.hid (HP1.out.later bw2)
  have TF2 := Lib.hid (TF1.out.later bw2)
  have HB2 := Lib.hid (HB1.out.trans (bw2.mono HB1.out.size))
  have LA2 := Lib.hid hb1.h
  clear hb1
  have IA2 := Lib.hid hi1.h
  clear hi1
  clear hw2 bw2 H1 HP1 TF1 HB1
  obtain ⟨tf2_0, tf2_1, tf2_2, tf2_3, tf2_4, tf2_5⟩ := TF2.out
  go_wp2_with (fail)
  refine (hQ _ (H2.out.later ba1) (HP2.out.later ba1)).mono ?_
  rintro e w3 ⟨⟨g2, k2, m2, j2, rfl, hb2, hi2, -, -⟩, hw3⟩
  clear tf2_0 tf2_1 tf2_2 tf2_3 tf2_4 tf2_5
  have bw3 : Below w2.heap.size w2 w3 := bel1 hw3
  have TA3 := Lib.hid (FW.n1.later hw3)
  have H3 := Lib.hid (H2.out.later bw3)
  have HP3 := Lib.hid (HP2.out.later bw3)
  have TF3 := Lib.hid (TF2.out.later bw3)
  have LA3 := Lib.hid (LA2.out.later bw3)
  have IA3 := Lib.hid (IA2.out.later bw3)
  have HB3 := Lib.hid (HB2.out.trans (bw3.mono HB2.out.size))
  have LC3 := Lib.hid hb2
  clear hb2
  have IC3 := Lib.hid hi2
  clear hi2
  clear hw3 bw3 H2 HP2 TF2 LA2 IA2 HB2
  obtain ⟨tf3_0, tf3_1, tf3_2, tf3_3, tf3_4, tf3_5⟩ := TF3.out
  obtain ⟨ta3_0, ta3_1, ta3_2, ta3_3, ta3_4, ta3_5⟩ := TA3.out
  go_wp2_with (fail)
  refine (hF _ _ _ _ _ (LA3.out.later ba1) (LC3.out.later ba1)).mono ?_
  rintro e w4 ⟨rfl, hw4⟩
  clear tf3_0 tf3_1 tf3_2 tf3_3 tf3_4 tf3_5 ta3_0 ta3_1 ta3_2 ta3_3 ta3_4 ta3_5
  have bw4 : Below w3.heap.size w3 w4 := bel1 hw4
  have TC4 := Lib.hid (FW.n1.later hw4)
  have H4 := Lib.hid (H3.out.later bw4)
  have HP4 := Lib.hid (HP3.out.later bw4)
  have TF4 := Lib.hid (TF3.out.later bw4)
  have LA4 := Lib.hid (LA3.out.later bw4)
  have IA4 := Lib.hid (IA3.out.later bw4)
  have TA4 := Lib.hid (TA3.out.later bw4)
  have LC4 := Lib.hid (LC3.out.later bw4)
  have IC4 := Lib.hid (IC3.out.later bw4)
  have HB4 := Lib.hid (HB3.out.trans (bw4.mono HB3.out.size))
  clear hw4 bw4 H3 HP3 TF3 LA3 IA3 TA3 LC3 IC3 HB3
  obtain ⟨tf4_0, tf4_1, tf4_2, tf4_3, tf4_4, tf4_5⟩ := TF4.out
  go_wp2_with (fail)
  refine (hK _ _ _ _ _ (IA4.out) (IC4.out)).mono ?_
  rintro e w5 ⟨rfl, hw5⟩
  clear tf4_0 tf4_1 tf4_2 tf4_3 tf4_4 tf4_5
  have bw5 : Below w4.heap.size w4 w5 := hw5
  have H5 := Lib.hid (H4.out.later bw5)
  have HP5 := Lib.hid (HP4.out.later bw5)
  have TF5 := Lib.hid (TF4.out.later bw5)
  have LA5 := Lib.hid (LA4.out.later bw5)
  have IA5 := Lib.hid (IA4.out.later bw5)
  have TA5 := Lib.hid (TA4.out.later bw5)
  have LC5 := Lib.hid (LC4.out.later bw5)
  have IC5 := Lib.hid (IC4.out.later bw5)
  have TC5 := Lib.hid (TC4.out.later bw5)
  have HB5 := Lib.hid (HB4.out.trans (bw5.mono HB4.out.size))
  clear hw5 bw5 H4 HP4 TF4 LA4 IA4 TA4 LC4 IC4 TC4 HB4
  obtain ⟨tf5_0, tf5_1, tf5_2, tf5_3, tf5_4, tf5_5⟩ := TF5.out
  go_wp2_with (fail)
  refine (hP _ (H5.out) (HP5.out)).mono ?_
  rintro e w6 ⟨⟨g3, k3, rfl, hi3, -⟩, hw6⟩
  clear tf5_0 tf5_1 tf5_2 tf5_3 tf5_4 tf5_5
  have bw6 : Below w5.heap.size w5 w6 := hw6
  have H6 := Lib.hid (H5.out.later bw6)
  have HP6 := Lib.hid (HP5.out.later bw6)
  have TF6 := Lib.hid (TF5.out.later bw6)
  have LA6 := Lib.hid (LA5.out.later bw6)
  have IA6 := Lib.hid (IA5.out.later bw6)
  have TA6 := Lib.hid (TA5.out.later bw6)
  have LC6 := Lib.hid (LC5.out.later bw6)
  have IC6 := Lib.hid (IC5.out.later bw6)
  have TC6 := Lib.hid (TC5.out.later bw6)
  have HB6 := Lib.hid (HB5.out.trans (bw6.mono HB5.out.size))
  have IQ6 := Lib.hid hi3.h
  clear hi3
  clear hw6 bw6 H5 HP5 TF5 LA5 IA5 TA5 LC5 IC5 TC5 HB5
  obtain ⟨tf6_0, tf6_1, tf6_2, tf6_3, tf6_4, tf6_5⟩ := TF6.out
  obtain ⟨ta6_0, ta6_1, ta6_2, ta6_3, ta6_4, ta6_5⟩ := TA6.out
  go_wp2_with (fail)
  refine (hD _ _ _ (H6.out) (IQ6.out)).mono ?_
  rintro e w7 ⟨⟨g4, k4, rfl, hb4, -⟩, hw7⟩
  clear tf6_0 tf6_1 tf6_2 tf6_3 tf6_4 tf6_5 ta6_0 ta6_1 ta6_2 ta6_3 ta6_4 ta6_5
  have bw7 : Below w6.heap.size w6 w7 := hw7
  have H7 := Lib.hid (H6.out.later bw7)
  have HP7 := Lib.hid (HP6.out.later bw7)
  have TF7 := Lib.hid (TF6.out.later bw7)
  have LA7 := Lib.hid (LA6.out.later bw7)
  have IA7 := Lib.hid (IA6.out.later bw7)
  have TA7 := Lib.hid (TA6.out.later bw7)
  have LC7 := Lib.hid (LC6.out.later bw7)
  have IC7 := Lib.hid (IC6.out.later bw7)
  have TC7 := Lib.hid (TC6.out.later bw7)
  have IQ7 := Lib.hid (IQ6.out.later bw7)
  have HB7 := Lib.hid (HB6.out.trans (bw7.mono HB6.out.size))
  have LX7 := Lib.hid hb4.h
  clear hb4
  clear hw7 bw7 H6 HP6 TF6 LA6 IA6 TA6 LC6 IC6 TC6 IQ6 HB6
  obtain ⟨tf7_0, tf7_1, tf7_2, tf7_3, tf7_4, tf7_5⟩ := TF7.out
  obtain ⟨ta7_0, ta7_1, ta7_2, ta7_3, ta7_4, ta7_5⟩ := TA7.out
  go_wp2_with (fail)
  refine (hP2 _ _ _ _ _ (LX7.out.later ba1) (IQ7.out.later ba1)).mono ?_
  rintro e w8 ⟨⟨g5, k5, rfl, hi5, -⟩, hw8⟩
  clear tf7_0 tf7_1 tf7_2 tf7_3 tf7_4 tf7_5 ta7_0 ta7_1 ta7_2 ta7_3 ta7_4 ta7_5
  have bw8 : Below w7.heap.size w7 w8 := bel1 hw8
  have TX8 := Lib.hid (FW.n1.later hw8)
  have H8 := Lib.hid (H7.out.later bw8)
  have HP8 := Lib.hid (HP7.out.later bw8)
  have TF8 := Lib.hid (TF7.out.later bw8)
  have LA8 := Lib.hid (LA7.out.later bw8)
  have IA8 := Lib.hid (IA7.out.later bw8)
  have TA8 := Lib.hid (TA7.out.later bw8)
  have LC8 := Lib.hid (LC7.out.later bw8)
  have IC8 := Lib.hid (IC7.out.later bw8)
  have TC8 := Lib.hid (TC7.out.later bw8)
  have IQ8 := Lib.hid (IQ7.out.later bw8)
  have LX8 := Lib.hid (LX7.out.later bw8)
  have HB8 := Lib.hid (HB7.out.trans (bw8.mono HB7.out.size))
  have IR8 := Lib.hid hi5.h
  clear hi5
  clear hw8 bw8 H7 HP7 TF7 LA7 IA7 TA7 LC7 IC7 TC7 IQ7 LX7 HB7
  obtain ⟨tx8_0, tx8_1, tx8_2, tx8_3, tx8_4, tx8_5⟩ := TX8.out
  obtain ⟨ta8_0, ta8_1, ta8_2, ta8_3, ta8_4, ta8_5⟩ := TA8.out
  go_wp2_with (fail)
  refine (hF _ _ _ _ _ (LX8.out) (LA8.out)).mono ?_
  rintro e w9 ⟨rfl, hw9⟩
  clear tx8_0 tx8_1 tx8_2 tx8_3 tx8_4 tx8_5 ta8_0 ta8_1 ta8_2 ta8_3 ta8_4 ta8_5
  have bw9 : Below w8.heap.size w8 w9 := hw9
  have H9 := Lib.hid (H8.out.later bw9)
  have HP9 := Lib.hid (HP8.out.later bw9)
  have TF9 := Lib.hid (TF8.out.later bw9)
  have LA9 := Lib.hid (LA8.out.later bw9)
  have IA9 := Lib.hid (IA8.out.later bw9)
  have TA9 := Lib.hid (TA8.out.later bw9)
  have LC9 := Lib.hid (LC8.out.later bw9)
  have IC9 := Lib.hid (IC8.out.later bw9)
  have TC9 := Lib.hid (TC8.out.later bw9)
  have IQ9 := Lib.hid (IQ8.out.later bw9)
  have LX9 := Lib.hid (LX8.out.later bw9)
  have TX9 := Lib.hid (TX8.out.later bw9)
  have IR9 := Lib.hid (IR8.out.later bw9)
  have HB9 := Lib.hid (HB8.out.trans (bw9.mono HB8.out.size))
  clear hw9 bw9 H8 HP8 TF8 LA8 IA8 TA8 LC8 IC8 TC8 IQ8 LX8 TX8 IR8 HB8
  go_wp2_with (fail)
  refine (hK _ _ _ _ _ (IR9.out) (IA9.out)).mono ?_
  rintro e w10 ⟨rfl, hw10⟩
  have bw10 : Below w9.heap.size w9 w10 := hw10
  have H10 := Lib.hid (H9.out.later bw10)
  have HP10 := Lib.hid (HP9.out.later bw10)
  have TF10 := Lib.hid (TF9.out.later bw10)
  have LA10 := Lib.hid (LA9.out.later bw10)
  have IA10 := Lib.hid (IA9.out.later bw10)
  have TA10 := Lib.hid (TA9.out.later bw10)
  have LC10 := Lib.hid (LC9.out.later bw10)
  have IC10 := Lib.hid (IC9.out.later bw10)
  have TC10 := Lib.hid (TC9.out.later bw10)
  have IQ10 := Lib.hid (IQ9.out.later bw10)
  have LX10 := Lib.hid (LX9.out.later bw10)
  have TX10 := Lib.hid (TX9.out.later bw10)
  have IR10 := Lib.hid (IR9.out.later bw10)
  have HB10 := Lib.hid (HB9.out.trans (bw10.mono HB9.out.size))
  clear hw10 bw10 H9 HP9 TF9 LA9 IA9 TA9 LC9 IC9 TC9 IQ9 LX9 TX9 IR9 HB9
  go_wp2_with (fail)
  refine (kn _).mono ?_
  rintro e w11 ⟨rfl, hw11⟩
  have bw11 : Below w10.heap.size w10 w11 := hw11
  have H11 := Lib.hid (H10.out.later bw11)
  have HP11 := Lib.hid (HP10.out.later bw11)
  have TF11 := Lib.hid (TF10.out.later bw11)
  have LA11 := Lib.hid (LA10.out.later bw11)
  have IA11 := Lib.hid (IA10.out.later bw11)
  have TA11 := Lib.hid (TA10.out.later bw11)
  have LC11 := Lib.hid (LC10.out.later bw11)
  have IC11 := Lib.hid (IC10.out.later bw11)
  have TC11 := Lib.hid (TC10.out.later bw11)
  have IQ11 := Lib.hid (IQ10.out.later bw11)
  have LX11 := Lib.hid (LX10.out.later bw11)
  have TX11 := Lib.hid (TX10.out.later bw11)
  have IR11 := Lib.hid (IR10.out.later bw11)
  have HB11 := Lib.hid (HB10.out.trans (bw11.mono HB10.out.size))
  clear hw11 bw11 H10 HP10 TF10 LA10 IA10 TA10 LC10 IC10 TC10 IQ10 LX10 TX10 IR10 HB10
  go_wp2_with (fail)
  go_ret
  exact ⟨rfl, HB11.out⟩
theorem lo_liesS {W : World} {bl off : Nat} {L : List Q} (h : LiesO W (some ⟨bl, off, none⟩) L) : Lies W bl off L := by
  rcases h with rfl | ⟨b, o, he, h⟩
  · intro i x hx; simp at hx
  · simp only [Option.some.injEq, Addr.mk.injEq, and_true] at he
    obtain ⟨rfl, rfl⟩ := he
    exact h
theorem lo_liesIS {W : World} {bl off : Nat} {l : List Int} (h : LiesOI W (some ⟨bl, off, none⟩) l) : LiesI W bl off l := by
  rcases h with rfl | ⟨b, o, he, h⟩
  · intro i x hx; simp at hx
  · simp only [Option.some.injEq, Addr.mk.injEq, and_true] at he
    obtain ⟨rfl, rfl⟩ := he
    exact h
theorem pathSteps_walk (a b c : Int) (ao : Option Addr) (L : List Q) (cap : Nat) (po : Option Addr) (l : List Int) (n pc : Nat) (w : World) (_ : L.length ≤ maxLen) (hm : LiesO w ao L) (hpl : l.length = n * 3) (_ : n ≤ pc) (_ : pc ≤ maxLen) (hp : LiesOI w po l) (_ : po = none → pc = 0) : Calls Tryz.prog 4 #[.agg #[.int .i64 a, .int .i64 b, .int .i64 c, .slice ao L.length cap], .slice po n pc] w fun e w' => e = .returned (.bool true) ∧ Below w.heap.size w w' := by
  by_cases hin : L.length ≤ 100 ∧ n ≤ 100
  · have hLg := fun W : World => long6_any a b c ao po cap pc L.length n false W (.inl ⟨hin.1, hin.2, rfl⟩)
    obtain ⟨ns, r0, hr⟩ := numsR_ex a b c L
    obtain ⟨r, hv⟩ := vkR_ex L.length n l r0
    have hV := fun (W : World) (h : LiesO W ao L) (h2 : LiesOI W po l) => refValidateK_any a b c r0 r ao po cap pc n L ns l W h h2 hpl hr hv (by omega)
    by_cases h0 : r = 0
    · subst h0
      obtain rfl : r0 = 0 := by rcases hv with ⟨h1, h2⟩ | ⟨h1, -⟩ | ⟨h1, -⟩ <;> omega
      have hst := St_of hr hv hpl
      have hLn := hst.e
      have h48 : n ≤ 48 := by have := hst.f.n; have := hst.e; have := hst.f.z.p; omega
      have hn0 : 0 < n := by have := hst.f.n; have := hst.e; obtain ⟨-, -, p3, -⟩ := mul_rng hst.f.z.a1 hst.f.z.a4 hst.f.z.b1 hst.f.z.b4 hst.f.z.c1 hst.f.z.c4; omega
      obtain ⟨N, hN⟩ := Int.eq_ofNat_of_zero_le (show 0 ≤ a * b * c by obtain ⟨-, -, p3, -⟩ := mul_rng hst.f.z.a1 hst.f.z.a4 hst.f.z.b1 hst.f.z.b4 hst.f.z.c1 hst.f.z.c4; omega)
      obtain ⟨bl, off, rfl, hm2⟩ := fld_some (numsR_smR hr).1 hm
      obtain ⟨pb, o, rfl, hpI⟩ : ∃ pb o, po = some ⟨pb, o, none⟩ ∧ LiesI w pb o l := by
        rcases hp with rfl | ⟨pb, o, rfl, hp⟩
        · simp at hpl; omega
        · exact ⟨pb, o, rfl, hp⟩
      have hst1 := hst.push (frc a b c L)
      have hst2 := hst1.drift
      have hst3 := hst.stp
      have hS := fun (W : World) (h : LiesO W (some ⟨bl, off, none⟩) L) (h2 : LiesOI W (some ⟨pb, o, none⟩) l) => pStep_ok a b c bl off cap pb o pc n N L l W (lo_liesS h) (lo_liesIS h2) hst hN.symm
      have hs := fun (W : World) (h : LiesO W (some ⟨bl, off, none⟩) L) (h2 : LiesOI W (some ⟨pb, o, none⟩) l) => refStep_any a b c bl off cap pb o pc n L l W (lo_liesS h) (lo_liesIS h2) hst hn0 h48
      rw [hLn] at hV
      have hQ := fun (W : World) (h : LiesO W (some ⟨bl, off, none⟩) L) (h2 : LiesOI W (some ⟨pb, o, none⟩) l) => refStepO_ok a b c 0 0 (some ⟨bl, off, none⟩) (some ⟨pb, o, none⟩) n cap pc n n L (stp a b c (L, l)).1 l (stp a b c (L, l)).2 W h h2 hV hs
      have hF := fun (W : World) (g k g2 k2 : Nat) (h1 : Lies W g 0 (stp a b c (L, l)).1) (h2 : Lies W g2 0 (stp a b c (L, l)).1) => sameF_dec a b c g 0 k g2 0 k2 n _ _ W true h1 h2 hst3.e hst3.e (by omega) (decide_eq_true rfl).symm
      have hK := fun (W : World) (g k g2 k2 : Nat) (h1 : LiesI W g 0 (stp a b c (L, l)).2) (h2 : LiesI W g2 0 (stp a b c (L, l)).2) => sameK_some g 0 k g2 0 k2 n _ _ W true h1 h2 hst3.m hst3.m (by omega) (decide_eq_true rfl).symm
      have hP := fun (W : World) (h : LiesO W (some ⟨bl, off, none⟩) L) (h2 : LiesOI W (some ⟨pb, o, none⟩) l) => pPush_ok a b c bl off cap pb o pc n N L l W (lo_liesS h) (lo_liesIS h2) hst hN.symm
      have hD := fun (W : World) (gm km : Nat) (h : LiesO W (some ⟨bl, off, none⟩) L) (h2 : LiesI W gm 0 (psh (frc a b c L) l)) => pDrift_ok a b c bl off cap gm 0 km n N L _ W (lo_liesS h) h2 hst1 hN.symm
      have hP2 := fun (W : World) (g k gm km : Nat) (h : Lies W g 0 (stp a b c (L, l)).1) (h2 : LiesI W gm 0 (psh (frc a b c L) l)) => pPush_ok a b c g 0 k gm 0 km n N _ _ W h h2 hst2 hN.symm
      rw [hLn] at hLg ⊢
      exact steps_ok a b c 0 0 0 0 0 0 true true _ _ n cap pc n n L _ l _ _ w hm hp hLg hS hQ hF hK hP hD hP2
    · have hS := fun (W : World) (h : LiesO W ao L) (h2 : LiesOI W po l) => pStep_bad a b c r0 r ao po cap pc n L ns l W h h2 hpl hr hv h0 (by omega)
      have hQ := fun (W : World) (h : LiesO W ao L) (h2 : LiesOI W po l) => refStepO_bad a b c r 0 ao po L.length cap pc n 0 L [] l [] W h h2 h0 hV
      exact steps_bad a b c r 0 0 0 0 0 true true ao po L.length cap pc n 0 L [] l [] [] w hm hp h0 hLg hS hQ (fun W => sameF_nil 0 0 0 none none 0 0 W) (fun W => sameK_nil none none 0 0 W)
  · exact steps_long a b c 0 0 0 0 0 0 true true ao po L.length cap pc n 0 L [] l [] [] w hm hp (fun W : World => long6_any a b c ao po cap pc L.length n true W (.inr ⟨by omega, rfl⟩))

/-! ### The statement of the law PathSteps, out of its walk -/
set_option maxRecDepth 100000 in
theorem pathSteps_lifted (os : Os) (started : os.Started) (H : Type) (enc : TypeId × Value → H) :
    ReturnsInHanded {} Tryz.checked os 4 .any (Rows.pathStepsSpec.pre6 enc Tryz.prog Tryz.f4 Rows.pathStepsRow.domain false) (Rows.pathStepsSpec.post enc Tryz.prog Tryz.f4 false true false false) := by
  refine returnsInHanded_of_change (C := Tryz.checked) own started (by kernel_rfl) Tryz.func4
    (ChangeSpec.witness6 (enc := enc) (C := Tryz.checked) false ⟨#[], #[.agg #[.int .i64 0, .int .i64 0, .int .i64 0, .slice none 0 0], .slice none 0 0], []⟩ 8 (by kernel_rfl) (by kernel_rfl) (by kernel_rfl) (by kernel_rfl)) ?_
  intro W base args ds gs before hval0 hW hcnd _
  have hval : ∀ (j : Nat) t v, Tryz.f4.params[j]? = some t → args[j]? = some v → Value.okWide Tryz.prog W .any base t v := hval0
  have hW' := hW
  obtain ⟨p, q, hA0, hV, rfl, hfz, hnd⟩ := hW
  have hA : DataW.TrodAll enc Tryz.prog W 0 (fun _ => true) true Tryz.f4.params.toList args.toList ds p := hA0
  rw [Tryz.params4] at hA hval
  obtain ⟨v0, vs0, d0, ds0, p0, q0, hargs, rfl, rfl, h0, r0⟩ := trodAll_cons hA
  obtain ⟨v1, vs1, d1, ds1, p1, q1, rfl, rfl, rfl, h1, r1⟩ := trodAll_cons r0
  obtain ⟨rfl, rfl, rfl⟩ := trodAll_nil r1
  obtain rfl : args = #[v0, v1] := by cases args; simp_all
  obtain ⟨rfl, rfl⟩ := trodVars_none hV
  have k0 := h0
  have lt0 : ∀ x ∈ p0, x.block < W.heap.size := by obtain ⟨m, hm⟩ := k0; exact DataW.trod_lt m _ _ _ hm
  obtain ⟨x0, y0, z0, ao0, L0, cap0, rfl, hl0, hm0⟩ := open_field (hval 0 25 v0 rfl rfl) h0
  have k1 := h1
  have lt1 : ∀ x ∈ p1, x.block < W.heap.size := by obtain ⟨m, hm⟩ := k1; exact DataW.trod_lt m _ _ _ hm
  obtain ⟨po1, l1, n1, pc1, rfl, hkl1, hkn1, hkc1, hkm1, hkz1⟩ := open_kicks (hval 1 26 v1 rfl rfl) h1
  clear hA0 hval0
  refine (pathSteps_walk x0 y0 z0 ao0 L0 cap0 po1 l1 n1 pc1 W hl0 hm0 hkl1 hkn1 hkc1 hkm1 hkz1).mono fun e W' ⟨he, bel⟩ => ?_
  subst he
  exact ⟨_, rfl, _, _, _, [], _, [], hW', trodAll_mk1 (shut_bool Tryz.underlying4 _), (trodAll_cons_mk (Below.trod laidOut (by kernel_rfl) (of_decide_eq_true (by kernel_rfl)) k0 bel lt0) (trodAll_cons_mk (Below.trod laidOut (by kernel_rfl) (of_decide_eq_true (by kernel_rfl)) k1 bel lt1) trodAll_mk0)), rfl, bel.frame _, fun h => by cases h⟩

theorem pathSteps_jf9 : (Rows.pathStepsRow.inPlace == Tryz.prog.inPlace 4) = true := by kernel_rfl
theorem pathSteps_jf10 : (Rows.pathStepsRow.unfollowed == Tryz.prog.unfollowed 4) = true := by kernel_rfl
theorem pathSteps_jf11 : (Rows.pathStepsRow.recurses == Tryz.prog.recurses 4) = true := by kernel_rfl
theorem pathSteps_jf12 : (Rows.pathStepsRow.named == Tryz.prog.varsNamed 4) = true := by kernel_rfl
theorem pathSteps_facts : joinedFacts Tryz.prog 4 Tryz.f4 Rows.pathStepsSpec Rows.pathStepsRow = true := by
  unfold joinedFacts
  exact (band (band (band (band (band (band (band (band (band (band (band (band (band (band (band (band (band (band (band (band (band (band (band (band (band (band (band (band (band (band (band (by kernel_rfl) jf1) jf2) (by kernel_rfl)) (by kernel_rfl)) (by kernel_rfl)) jf6) (by kernel_rfl)) jf8) pathSteps_jf9) pathSteps_jf10) pathSteps_jf11) pathSteps_jf12) (by kernel_rfl)) (by kernel_rfl)) (by kernel_rfl)) (by kernel_rfl)) (by kernel_rfl)) (by kernel_rfl)) (by kernel_rfl)) (by kernel_rfl)) (by kernel_rfl)) (by kernel_rfl)) (by kernel_rfl)) jf24) jf25) jf26) jf27) (by kernel_rfl)) (by kernel_rfl)) (by kernel_rfl)) (by kernel_rfl))

theorem pathSteps_over : Rows.pathStepsRow.holds Tryz.pinned (OpenSpec.ofChange Rows.pathStepsSpec) :=
  OpenClaim.holds_of_wide 4 Tryz.f4 rfl rfl rfl rfl rfl rfl rfl ⟨rfl, rfl, rfl, rfl, rfl⟩ rfl rfl rfl rfl rfl (by kernel_rfl) Tryz.func4 pathSteps_facts
    (of_decide_eq_true (by kernel_rfl)) (by unfold Func.isWrapper; first | (rw [if_pos (by decide +kernel)]; kernel_rfl) | (rw [if_neg (by decide +kernel)]; exact ⟨rfl, rfl⟩))
    (fun os started H enc _ => pathSteps_lifted os started H enc)

theorem pathSteps_holds : Rows.PathStepsSaid := pathSteps_over
#print axioms pathSteps_holds

end Go.Proofs.YtilbhcjnkmeecaaGreat
