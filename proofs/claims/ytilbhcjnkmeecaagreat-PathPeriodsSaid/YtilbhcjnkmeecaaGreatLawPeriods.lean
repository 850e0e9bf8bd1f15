/- PathPeriods: after how many steps a trajectory comes back, for all fields, lists and limits.
Conditions: none. -/
import Derived.Test.YtilbhcjnkmeecaaGreatKzM
import Derived.Test.YtilbhcjnkmeecaaGreatKsP
import Derived.Test.YtilbhcjnkmeecaaGreatKnM
import Derived.Test.YtilbhcjnkmeecaaGreatSane6
import Derived.Test.YtilbhcjnkmeecaaGreatLawValK
import Derived.Test.YtilbhcjnkmeecaaGreatOpenKA
import Derived.Test.YtilbhcjnkmeecaaGreatJFacts
namespace Go.Proofs.YtilbhcjnkmeecaaGreat
set_option linter.unusedVariables false
set_option linter.unusedSimpArgs false
set_option maxRecDepth 1000000
open Go.ChangeShapes Go.WideShapes Go.ChangeAt Go.RowKit
open Um Tm Cm Km

set_option maxHeartbeats 6400000 in
theorem periods_long (a b c r x t t2 e0 e2 : Int) (y y2 : Bool) (ao po : Option Addr) (m cap pc pn n : Nat) (L L1 : List Q) (l l1 l2 : List Int) (w : World) (hm : LiesO w ao L) (hp : LiesOI w po l)
    (hLg : ∀ W : World, Calls Tryz.prog 8 #[.agg #[.int .i64 a, .int .i64 b, .int .i64 c, .slice ao m cap], .slice po pn pc] W fun e w' => e = .returned (.bool true) ∧ Below W.heap.size W w')
    : Calls Tryz.prog 7 #[.agg #[.int .i64 a, .int .i64 b, .int .i64 c, .slice ao m cap], .slice po pn pc, .int .i64 x] w fun e w' => e = .returned (.bool true) ∧ Below w.heap.size w w' := by
  have kn := known6_any
  have H0 := Lib.hid hm
  have HP0 := Lib.hid hp
  clear hm hp
  go_enter Tryz.func7, Tryz.ntmps7
  go_wp2_with (fail)
  refine (hLg _).mono ?_
  rintro e w1 ⟨rfl, hw1⟩
  have bw1 : Below w.heap.size w w1 := bel1 hw1
  have TF1 := Lib.hid (FW.n1.later hw1)
  have H1 := Lib.hid (H0.out.later bw1)
  have HP1 := Lib.hid (HP0.out.later bw1)
  have HB1 := Lib.hid bw1
  clear hw1 bw1 H0 HP0
  obtain ⟨tf1_0, tf1_1, tf1_2, tf1_3, tf1_4, tf1_5⟩ := TF1.out
  go_wp2_with (fail)
  refine (kn _).mono ?_
  rintro e w2 ⟨rfl, hw2⟩
  clear tf1_0 tf1_1 tf1_2 tf1_3 tf1_4 tf1_5
  have bw2 : Below w1.heap.size w1 w2 := hw2
  have H2 := Lib.hid (H1.out.later bw2)
  have HP2 := Lib.hid (HP1.out.later bw2)
  have TF2 := Lib.hid (TF1.out.later bw2)
  have HB2 := Lib.hid (HB1.out.trans (bw2.mono HB1.out.size))
  clear hw2 bw2 H1 HP1 TF1 HB1
  go_wp2_with (fail)
  go_ret
  exact ⟨rfl, HB2.out⟩

set_option maxHeartbeats 6400000 in
theorem periods_mid (a b c r x t t2 e0 e2 : Int) (y y2 : Bool) (ao po : Option Addr) (m cap pc pn n : Nat) (L L1 : List Q) (l l1 l2 : List Int) (w : World) (hm : LiesO w ao L) (hp : LiesOI w po l) (x0 : 60 < x) (x1 : x ≤ 1000)
    (hLg : ∀ W : World, Calls Tryz.prog 8 #[.agg #[.int .i64 a, .int .i64 b, .int .i64 c, .slice ao m cap], .slice po pn pc] W fun e w' => e = .returned (.bool false) ∧ Below W.heap.size W w')
    : Calls Tryz.prog 7 #[.agg #[.int .i64 a, .int .i64 b, .int .i64 c, .slice ao m cap], .slice po pn pc, .int .i64 x] w fun e w' => e = .returned (.bool true) ∧ Below w.heap.size w w' := by
  have kn := known6_any
  have H0 := Lib.hid hm
  have HP0 := Lib.hid hp
  clear hm hp
  go_enter Tryz.func7, Tryz.ntmps7
  go_wp2_with (fail)
  refine (hLg _).mono ?_
  rintro e w1 ⟨rfl, hw1⟩
  have bw1 : Below w.heap.size w w1 := bel1 hw1
  have TF1 := Lib.hid (FW.n1.later hw1)
  have H1 := Lib.hid (H0.out.later bw1)
  have HP1 := Lib.hid (HP0.out.later bw1)
  have HB1 := Lib.hid bw1
  clear hw1 bw1 H0 HP0
  obtain ⟨tf1_0, tf1_1, tf1_2, tf1_3, tf1_4, tf1_5⟩ := TF1.out
  go_wp2_with (fail)
  refine (kn _).mono ?_
  rintro e w2 ⟨rfl, hw2⟩
  clear tf1_0 tf1_1 tf1_2 tf1_3 tf1_4 tf1_5
  have bw2 : Below w1.heap.size w1 w2 := hw2
  have H2 := Lib.hid (H1.out.later bw2)
  have HP2 := Lib.hid (HP1.out.later bw2)
  have TF2 := Lib.hid (TF1.out.later bw2)
  have HB2 := Lib.hid (HB1.out.trans (bw2.mono HB1.out.size))
  clear hw2 bw2 H1 HP1 TF1 HB1
  go_wp2_with (fail)
  go_ret
  exact ⟨rfl, HB2.out⟩

set_option maxHeartbeats 6400000 in
theorem periods_yes (a b c r x t t2 e0 e2 : Int) (y y2 : Bool) (ao po : Option Addr) (m cap pc pn n : Nat) (L L1 : List Q) (l l1 l2 : List Int) (w : World) (hm : LiesO w ao L) (hp : LiesOI w po l) (hx : x ≤ 60 ∨ 1000 < x)
    (hLg : ∀ W : World, Calls Tryz.prog 8 #[.agg #[.int .i64 a, .int .i64 b, .int .i64 c, .slice ao m cap], .slice po pn pc] W fun e w' => e = .returned (.bool false) ∧ Below W.heap.size W w')
    (hP : ∀ W : World, LiesO W ao L → LiesOI W po l → Calls Tryz.prog 25 #[.agg #[.int .i64 a, .int .i64 b, .int .i64 c, .slice ao m cap], .slice po pn pc, .int .i64 x] W fun e w' => e = .returned (.tuple #[.int .i64 t, .bool true, .int .i64 e0]) ∧ Below W.heap.size W w')
    (hQ : ∀ W : World, LiesO W ao L → LiesOI W po l → Calls Tryz.prog 26 #[.agg #[.int .i64 a, .int .i64 b, .int .i64 c, .slice ao m cap], .slice po pn pc, .int .i64 x] W fun e w' => e = .returned (.tuple #[.int .i64 t, .bool true, .int .i64 e0]) ∧ Below W.heap.size W w')
    (hS : ∀ W : World, LiesO W ao L → LiesOI W po l → Calls Tryz.prog 18 #[.agg #[.int .i64 a, .int .i64 b, .int .i64 c, .slice ao m cap], .slice po pn pc] W fun e w' => RetRun a b c n W.heap.size (L1, l1) e w' ∧ Below W.heap.size W w')
    (hP2 : ∀ (W : World) (g k gm km : Nat), Lies W g 0 L1 → LiesI W gm 0 l1 → Calls Tryz.prog 25 #[.agg #[.int .i64 a, .int .i64 b, .int .i64 c, .slice (some ⟨g, 0, none⟩) n k], .slice (some ⟨gm, 0, none⟩) n km, .int .i64 x] W fun e w' => e = .returned (.tuple #[.int .i64 t, .bool true, .int .i64 0]) ∧ Below W.heap.size W w')
    : Calls Tryz.prog 7 #[.agg #[.int .i64 a, .int .i64 b, .int .i64 c, .slice ao m cap], .slice po pn pc, .int .i64 x] w fun e w' => e = .returned (.bool true) ∧ Below w.heap.size w w' := by
  have e0n : (e0 != e0) = false := by simp
  have tn : (t != t) = false := by simp
  rcases hx with hx | hx
  all_goals
    have kn := known6_any
    have H0 := Lib.hid hm
    have HP0 := Lib.hid hp
    clear hm hp
    go_enter Tryz.func7, Tryz.ntmps7
    go_wp2_with (fail)
    refine (hLg _).mono ?_
    rintro e w1 ⟨rfl, hw1⟩
    have bw1 : Below w.heap.size w w1 := bel1 hw1
    have TF1 := Lib.hid (FW.n1.later hw1)
    have H1 := Lib.hid (H0.out.later bw1)
    have HP1 := Lib.hid (HP0.out.later bw1)
    have HB1 := Lib.hid bw1
    clear hw1 bw1 H0 HP0
    obtain ⟨tf1_0, tf1_1, tf1_2, tf1_3, tf1_4, tf1_5⟩ := TF1.out
    go_wp2_with (fail)
    refine (hP _ (H1.out) (HP1.out)).mono ?_
    rintro e w2 ⟨rfl, hw2⟩
    clear tf1_0 tf1_1 tf1_2 tf1_3 tf1_4 tf1_5
    have bw2 : Below w1.heap.size w1 w2 := hw2
    have H2 := Lib.hid (H1.out.later bw2)
    have HP2 := Lib.hid (HP1.out.later bw2)
    have TF2 := Lib.hid (TF1.out.later bw2)
    have HB2 := Lib.hid (HB1.out.trans (bw2.mono HB1.out.size))
    clear hw2 bw2 H1 HP1 TF1 HB1
    obtain ⟨tf2_0, tf2_1, tf2_2, tf2_3, tf2_4, tf2_5⟩ := TF2.out
    go_wp2_with (fail)
    refine (hQ _ (H2.out) (HP2.out)).mono ?_
    rintro e w3 ⟨rfl, hw3⟩
    clear tf2_0 tf2_1 tf2_2 tf2_3 tf2_4 tf2_5
    have bw3 : Below w2.heap.size w2 w3 := hw3
    have H3 := Lib.hid (H2.out.later bw3)
    have HP3 := Lib.hid (HP2.out.later bw3)
    have TF3 := Lib.hid (TF2.out.later bw3)
    have HB3 := Lib.hid (HB2.out.trans (bw3.mono HB2.out.size))
    clear hw3 bw3 H2 HP2 TF2 HB2
    obtain ⟨tf3_0, tf3_1, tf3_2, tf3_3, tf3_4, tf3_5⟩ := TF3.out
    go_wp2_with (fail)
    refine (hS _ (H3.out) (HP3.out)).mono ?_
    rintro e w4 ⟨⟨g1, k1, m1, j1, rfl, hb1, hi1, -, -, -⟩, hw4⟩
    clear tf3_0 tf3_1 tf3_2 tf3_3 tf3_4 tf3_5
    have bw4 : Below w3.heap.size w3 w4 := hw4
    have H4 := Lib.hid (H3.out.later bw4)
    have HP4 := Lib.hid (HP3.out.later bw4)
    have TF4 := Lib.hid (TF3.out.later bw4)
    have HB4 := Lib.hid (HB3.out.trans (bw4.mono HB3.out.size))
    have HL4 := Lib.hid hb1.h
    clear hb1
    have HI4 := Lib.hid hi1.h
    clear hi1
    clear hw4 bw4 H3 HP3 TF3 HB3
    go_wp2_with (fail)
    refine (hP2 _ _ _ _ _ (HL4.out.later ba1) (HI4.out.later ba1)).mono ?_
    rintro e w5 ⟨rfl, hw5⟩
    have bw5 : Below w4.heap.size w4 w5 := bel1 hw5
    have H5 := Lib.hid (H4.out.later bw5)
    have HP5 := Lib.hid (HP4.out.later bw5)
    have TF5 := Lib.hid (TF4.out.later bw5)
    have HL5 := Lib.hid (HL4.out.later bw5)
    have HI5 := Lib.hid (HI4.out.later bw5)
    have HB5 := Lib.hid (HB4.out.trans (bw5.mono HB4.out.size))
    clear hw5 bw5 H4 HP4 TF4 HL4 HI4 HB4
    go_wp2_with (fail)
    refine (kn _).mono ?_
    rintro e w6 ⟨rfl, hw6⟩
    have bw6 : Below w5.heap.size w5 w6 := hw6
    have H6 := Lib.hid (H5.out.later bw6)
    have HP6 := Lib.hid (HP5.out.later bw6)
    have TF6 := Lib.hid (TF5.out.later bw6)
    have HL6 := Lib.hid (HL5.out.later bw6)
    have HI6 := Lib.hid (HI5.out.later bw6)
    have HB6 := Lib.hid (HB5.out.trans (bw6.mono HB5.out.size))
    clear hw6 bw6 H5 HP5 TF5 HL5 HI5 HB5
    go_wp2_with (fail)
    go_ret
    exact ⟨rfl, HB6.out⟩

set_option maxHeartbeats 6400000 in
theorem periods_no (a b c r x t t2 e0 e2 : Int) (y y2 : Bool) (ao po : Option Addr) (m cap pc pn n : Nat) (L L1 : List Q) (l l1 l2 : List Int) (w : World) (hm : LiesO w ao L) (hp : LiesOI w po l) (hx : x ≤ 60 ∨ 1000 < x)
    (hLg : ∀ W : World, Calls Tryz.prog 8 #[.agg #[.int .i64 a, .int .i64 b, .int .i64 c, .slice ao m cap], .slice po pn pc] W fun e w' => e = .returned (.bool false) ∧ Below W.heap.size W w')
    (hP : ∀ W : World, LiesO W ao L → LiesOI W po l → Calls Tryz.prog 25 #[.agg #[.int .i64 a, .int .i64 b, .int .i64 c, .slice ao m cap], .slice po pn pc, .int .i64 x] W fun e w' => e = .returned (.tuple #[.int .i64 t, .bool false, .int .i64 e0]) ∧ Below W.heap.size W w')
    (hQ : ∀ W : World, LiesO W ao L → LiesOI W po l → Calls Tryz.prog 26 #[.agg #[.int .i64 a, .int .i64 b, .int .i64 c, .slice ao m cap], .slice po pn pc, .int .i64 x] W fun e w' => e = .returned (.tuple #[.int .i64 t, .bool false, .int .i64 e0]) ∧ Below W.heap.size W w')
    (hS : ∀ W : World, LiesO W ao L → LiesOI W po l → Calls Tryz.prog 18 #[.agg #[.int .i64 a, .int .i64 b, .int .i64 c, .slice ao m cap], .slice po pn pc] W fun e w' => RetRun a b c n W.heap.size (L1, l1) e w' ∧ Below W.heap.size W w')
    (hP2 : ∀ (W : World) (g k gm km : Nat), Lies W g 0 L1 → LiesI W gm 0 l1 → Calls Tryz.prog 25 #[.agg #[.int .i64 a, .int .i64 b, .int .i64 c, .slice (some ⟨g, 0, none⟩) n k], .slice (some ⟨gm, 0, none⟩) n km, .int .i64 x] W fun e w' => e = .returned (.tuple #[.int .i64 t2, .bool y2, .int .i64 e2]) ∧ Below W.heap.size W w')
    : Calls Tryz.prog 7 #[.agg #[.int .i64 a, .int .i64 b, .int .i64 c, .slice ao m cap], .slice po pn pc, .int .i64 x] w fun e w' => e = .returned (.bool true) ∧ Below w.heap.size w w' := by
  have e0n : (e0 != e0) = false := by simp
  have tn : (t != t) = false := by simp
  rcases hx with hx | hx
  all_goals
    have kn := known6_any
    have H0 := Lib.hid hm
    have HP0 := Lib.hid hp
    clear hm hp
    go_enter Tryz.func7, Tryz.ntmps7
    go_wp2_with (fail)
    refine (hLg _).mono ?_
    rintro e w1 ⟨rfl, hw1⟩
    have bw1 : Below w.heap.size w w1 := bel1 hw1
    have TF1 := Lib.hid (FW.n1.later hw1)
    have H1 := Lib.hid (H0.out.later bw1)
    have HP1 := Lib.hid (HP0.out.later bw1)
    have HB1 := Lib.hid bw1
    clear hw1 bw1 H0 HP0
    obtain ⟨tf1_0, tf1_1, tf1_2, tf1_3, tf1_4, tf1_5⟩ := TF1.out
    go_wp2_with (fail)
    refine (hP _ (H1.out) (HP1.out)).mono ?_
    rintro e w2 ⟨rfl, hw2⟩
    clear tf1_0 tf1_1 tf1_2 tf1_3 tf1_4 tf1_5
    have bw2 : Below w1.heap.size w1 w2 := hw2
    have H2 := Lib.hid (H1.out.later bw2)
    have HP2 := Lib.hid (HP1.out.later bw2)
    have TF2 := Lib.hid (TF1.out.later bw2)
    have HB2 := Lib.hid (HB1.out.trans (bw2.mono HB1.out.size))
    clear hw2 bw2 H1 HP1 TF1 HB1
    obtain ⟨tf2_0, tf2_1, tf2_2, tf2_3, tf2_4, tf2_5⟩ := TF2.out
    go_wp2_with (fail)
    refine (hQ _ (H2.out) (HP2.out)).mono ?_
    rintro e w3 ⟨rfl, hw3⟩
    clear tf2_0 tf2_1 tf2_2 tf2_3 tf2_4 tf2_5
    have bw3 : Below w2.heap.size w2 w3 := hw3
    have H3 := Lib.hid (H2.out.later bw3)
    have HP3 := Lib.hid (HP2.out.later bw3)
    have TF3 := Lib.hid (TF2.out.later bw3)
    have HB3 := Lib.hid (HB2.out.trans (bw3.mono HB2.out.size))
    clear hw3 bw3 H2 HP2 TF2 HB2
    obtain ⟨tf3_0, tf3_1, tf3_2, tf3_3, tf3_4, tf3_5⟩ := TF3.out
    go_wp2_with (fail)
    refine (hS _ (H3.out) (HP3.out)).mono ?_
    rintro e w4 ⟨⟨g1, k1, m1, j1, rfl, hb1, hi1, -, -, -⟩, hw4⟩
    clear tf3_0 tf3_1 tf3_2 tf3_3 tf3_4 tf3_5
    have bw4 : Below w3.heap.size w3 w4 := hw4
    have H4 := Lib.hid (H3.out.later bw4)
    have HP4 := Lib.hid (HP3.out.later bw4)
    have TF4 := Lib.hid (TF3.out.later bw4)
    have HB4 := Lib.hid (HB3.out.trans (bw4.mono HB3.out.size))
    have HL4 := Lib.hid hb1.h
    clear hb1
    have HI4 := Lib.hid hi1.h
    clear hi1
    clear hw4 bw4 H3 HP3 TF3 HB3
    go_wp2_with (fail)
    refine (hP2 _ _ _ _ _ (HL4.out.later ba1) (HI4.out.later ba1)).mono ?_
    rintro e w5 ⟨rfl, hw5⟩
    have bw5 : Below w4.heap.size w4 w5 := bel1 hw5
    have H5 := Lib.hid (H4.out.later bw5)
    have HP5 := Lib.hid (HP4.out.later bw5)
    have TF5 := Lib.hid (TF4.out.later bw5)
    have HL5 := Lib.hid (HL4.out.later bw5)
    have HI5 := Lib.hid (HI4.out.later bw5)
    have HB5 := Lib.hid (HB4.out.trans (bw5.mono HB4.out.size))
    clear hw5 bw5 H4 HP4 TF4 HL4 HI4 HB4
    go_wp2_with (fail)
    refine (kn _).mono ?_
    rintro e w6 ⟨rfl, hw6⟩
    have bw6 : Below w5.heap.size w5 w6 := hw6
    have H6 := Lib.hid (H5.out.later bw6)
    have HP6 := Lib.hid (HP5.out.later bw6)
    have TF6 := Lib.hid (TF5.out.later bw6)
    have HL6 := Lib.hid (HL5.out.later bw6)
    have HI6 := Lib.hid (HI5.out.later bw6)
    have HB6 := Lib.hid (HB5.out.trans (bw6.mono HB5.out.size))
    clear hw6 bw6 H5 HP5 TF5 HL5 HI5 HB5
    go_wp2_with (fail)
    go_ret
    exact ⟨rfl, HB6.out⟩

set_option maxHeartbeats 6400000 in
theorem periods_bad (a b c r x t t2 e0 e2 : Int) (y y2 : Bool) (ao po : Option Addr) (m cap pc pn n : Nat) (L L1 : List Q) (l l1 l2 : List Int) (w : World) (hm : LiesO w ao L) (hp : LiesOI w po l) (hx : x ≤ 60 ∨ 1000 < x)
    (hLg : ∀ W : World, Calls Tryz.prog 8 #[.agg #[.int .i64 a, .int .i64 b, .int .i64 c, .slice ao m cap], .slice po pn pc] W fun e w' => e = .returned (.bool false) ∧ Below W.heap.size W w')
    (hP : ∀ W : World, LiesO W ao L → LiesOI W po l → Calls Tryz.prog 25 #[.agg #[.int .i64 a, .int .i64 b, .int .i64 c, .slice ao m cap], .slice po pn pc, .int .i64 x] W fun e w' => e = .returned (.tuple #[.int .i64 t, .bool false, .int .i64 e0]) ∧ Below W.heap.size W w')
    (hQ : ∀ W : World, LiesO W ao L → LiesOI W po l → Calls Tryz.prog 26 #[.agg #[.int .i64 a, .int .i64 b, .int .i64 c, .slice ao m cap], .slice po pn pc, .int .i64 x] W fun e w' => e = .returned (.tuple #[.int .i64 t, .bool false, .int .i64 e0]) ∧ Below W.heap.size W w')
    (hS : ∀ W : World, LiesO W ao L → LiesOI W po l → Calls Tryz.prog 18 #[.agg #[.int .i64 a, .int .i64 b, .int .i64 c, .slice ao m cap], .slice po pn pc] W fun e w' => e = .returned (.tuple #[.agg #[.int .i64 0, .int .i64 0, .int .i64 0, .slice none 0 0], .slice none 0 0, .int .i64 r]) ∧ Below W.heap.size W w')
    (hP2 : ∀ W : World, Calls Tryz.prog 25 #[.agg #[.int .i64 0, .int .i64 0, .int .i64 0, .slice none 0 0], .slice none 0 0, .int .i64 x] W fun e w' => e = .returned (.tuple #[.int .i64 t2, .bool y2, .int .i64 e2]) ∧ Below W.heap.size W w')
    : Calls Tryz.prog 7 #[.agg #[.int .i64 a, .int .i64 b, .int .i64 c, .slice ao m cap], .slice po pn pc, .int .i64 x] w fun e w' => e = .returned (.bool true) ∧ Below w.heap.size w w' := by
  have e0n : (e0 != e0) = false := by simp
  have tn : (t != t) = false := by simp
  rcases hx with hx | hx
  all_goals
    have kn := known6_any
    have H0 := Lib.hid hm
    have HP0 := Lib.hid hp
    clear hm hp
    go_enter Tryz.func7, Tryz.ntmps7
    go_wp2_with (fail)
    refine (hLg _).mono ?_
    rintro e w1 ⟨rfl, hw1⟩
    have bw1 : Below w.heap.size w w1 := bel1 hw1
    have TF1 := Lib.hid (FW.n1.later hw1)
    have H1 := Lib.hid (H0.out.later bw1)
    have HP1 := Lib.hid (HP0.out.later bw1)
    have HB1 := Lib.hid bw1
    clear hw1 bw1 H0 HP0
    obtain ⟨tf1_0, tf1_1, tf1_2, tf1_3, tf1_4, tf1_5⟩ := TF1.out
    go_wp2_with (fail)
    refine (hP _ (H1.out) (HP1.out)).mono ?_
    rintro e w2 ⟨rfl, hw2⟩
    clear tf1_0 tf1_1 tf1_2 tf1_3 tf1_4 tf1_5
    have bw2 : Below w1.heap.size w1 w2 := hw2
    have H2 := Lib.hid (H1.out.later bw2)
    have HP2 := Lib.hid (HP1.out.later bw2)
    have TF2 := Lib.hid (TF1.out.later bw2)
    have HB2 := Lib.hid (HB1.out.trans (bw2.mono HB1.out.size))
    clear hw2 bw2 H1 HP1 TF1 HB1
    obtain ⟨tf2_0, tf2_1, tf2_2, tf2_3, tf2_4, tf2_5⟩ := TF2.out
    go_wp2_with (fail)
    refine (hQ _ (H2.out) (HP2.out)).mono ?_
    rintro e w3 ⟨rfl, hw3⟩
    clear tf2_0 tf2_1 tf2_2 tf2_3 tf2_4 tf2_5
    have bw3 : Below w2.heap.size w2 w3 := hw3
    have H3 := Lib.hid (H2.out.later bw3)
    have HP3 := Lib.hid (HP2.out.later bw3)
    have TF3 := Lib.hid (TF2.out.later bw3)
    have HB3 := Lib.hid (HB2.out.trans (bw3.mono HB2.out.size))
    clear hw3 bw3 H2 HP2 TF2 HB2
    obtain ⟨tf3_0, tf3_1, tf3_2, tf3_3, tf3_4, tf3_5⟩ := TF3.out
    go_wp2_with (fail)
    refine (hS _ (H3.out) (HP3.out)).mono ?_
    rintro e w4 ⟨rfl, hw4⟩
    clear tf3_0 tf3_1 tf3_2 tf3_3 tf3_4 tf3_5
    have bw4 : Below w3.heap.size w3 w4 := hw4
    have H4 := Lib.hid (H3.out.later bw4)
    have HP4 := Lib.hid (HP3.out.later bw4)
    have TF4 := Lib.hid (TF3.out.later bw4)
    have HB4 := Lib.hid (HB3.out.trans (bw4.mono HB3.out.size))
    clear hw4 bw4 H3 HP3 TF3 HB3
    go_wp2_with (fail)
    refine (hP2 _).mono ?_
    rintro e w5 ⟨rfl, hw5⟩
    have bw5 : Below w4.heap.size w4 w5 := bel1 hw5
    have H5 := Lib.hid (H4.out.later bw5)
    have HP5 := Lib.hid (HP4.out.later bw5)
    have TF5 := Lib.hid (TF4.out.later bw5)
    have HB5 := Lib.hid (HB4.out.trans (bw5.mono HB4.out.size))
    clear hw5 bw5 H4 HP4 TF4 HB4
    go_wp2_with (fail)
    refine (kn _).mono ?_
    rintro e w6 ⟨rfl, hw6⟩
    have bw6 : Below w5.heap.size w5 w6 := hw6
    have H6 := Lib.hid (H5.out.later bw6)
    have HP6 := Lib.hid (HP5.out.later bw6)
    have TF6 := Lib.hid (TF5.out.later bw6)
    have HB6 := Lib.hid (HB5.out.trans (bw6.mono HB5.out.size))
    clear hw6 bw6 H5 HP5 TF5 HB5
    go_wp2_with (fail)
    go_ret
    exact ⟨rfl, HB6.out⟩
theorem lo_liesP {W : World} {bl off : Nat} {L : List Q} (h : LiesO W (some ⟨bl, off, none⟩) L) : Lies W bl off L := by
  rcases h with rfl | ⟨b, o, he, h⟩
  · intro i x hx; simp at hx
  · simp only [Option.some.injEq, Addr.mk.injEq, and_true] at he
    obtain ⟨rfl, rfl⟩ := he
    exact h
theorem lo_liesIP {W : World} {bl off : Nat} {l : List Int} (h : LiesOI W (some ⟨bl, off, none⟩) l) : LiesI W bl off l := by
  rcases h with rfl | ⟨b, o, he, h⟩
  · intro i x hx; simp at hx
  · simp only [Option.some.injEq, Addr.mk.injEq, and_true] at he
    obtain ⟨rfl, rfl⟩ := he
    exact h
theorem period_stP (a b c : Int) (bl off cap pb po pc n N x : Nat) (r : Int) (q : Bool) (L : List Q) (l : List Int) (W : World) (h : Lies W bl off L) (hp : LiesI W pb po l) (hst : St a b c n L l) (hN : (N : Int) = a * b * c) (hx1 : 1 ≤ x) (hx : x ≤ 1000) (hper : perR a b c (L, l) x r q) : Calls Tryz.prog 25 #[.agg #[.int .i64 a, .int .i64 b, .int .i64 c, .slice (some ⟨bl, off, none⟩) n cap], .slice (some ⟨pb, po, none⟩) n pc, .int .i64 x] W fun e w' => e = .returned (.tuple #[.int .i64 r, .bool q, .int .i64 0]) ∧ Below W.heap.size W w' := by
  have := period_ok a b c bl off cap pb po pc n N x r q L l W h hp hst hN hx1 hx hper
  rw [hst.e] at this
  exact this
theorem pathPeriods_walk (a b c : Int) (ao : Option Addr) (L : List Q) (cap : Nat) (po : Option Addr) (l : List Int) (n pc : Nat) (x : Int) (w : World) (_ : L.length ≤ maxLen) (hm : LiesO w ao L) (hpl : l.length = n * 3) (_ : n ≤ pc) (_ : pc ≤ maxLen) (hp : LiesOI w po l) (_ : po = none → pc = 0) : Calls Tryz.prog 7 #[.agg #[.int .i64 a, .int .i64 b, .int .i64 c, .slice ao L.length cap], .slice po n pc, .int .i64 x] w fun e w' => e = .returned (.bool true) ∧ Below w.heap.size w w' := by
  by_cases hin : L.length ≤ 100 ∧ n ≤ 100
  · have hLg := fun W : World => long6_any a b c ao po cap pc L.length n false W (.inl ⟨hin.1, hin.2, rfl⟩)
    by_cases hmid : 60 < x ∧ x ≤ 1000
    · exact periods_mid a b c 0 x 0 0 0 0 true true ao po L.length cap pc n 0 L [] l [] [] w hm hp hmid.1 hmid.2 hLg
    · have hx60 : x ≤ 60 ∨ 1000 < x := by omega
      obtain ⟨ns, r0, hr⟩ := numsR_ex a b c L
      obtain ⟨r, hv⟩ := vkR_ex L.length n l r0
      have hV := fun (W : World) (h : LiesO W ao L) (h2 : LiesOI W po l) => refValidateK_any a b c r0 r ao po cap pc n L ns l W h h2 hpl hr hv (by omega)
      by_cases h0 : r = 0
      · subst h0
        obtain rfl : r0 = 0 := by rcases hv with ⟨h1, h2⟩ | ⟨h1, -⟩ | ⟨h1, -⟩ <;> omega
        have hst := St_of hr hv hpl
        have hLn := hst.e
        have h48 : n ≤ 48 := by have := hst.f.n; have := hst.e; have := hst.f.z.p; omega
        have hn0 : 0 < n := by have := hst.f.n; have := hst.e; obtain ⟨-, -, p3, -⟩ := mul_rng hst.f.z.a1 hst.f.z.a4 hst.f.z.b1 hst.f.z.b4 hst.f.z.c1 hst.f.z.c4; omega
        obtain ⟨N, hN⟩ := Int.eq_ofNat_of_zero_le (show 0 ≤ a * b * c by obtain ⟨-, -, p3, -⟩ := mul_rng hst.f.z.a1 hst.f.z.a4 hst.f.z.b1 hst.f.z.b4 hst.f.z.c1 hst.f.z.c4; omega)
        obtain ⟨bl, off, rfl, hm2⟩ := fld_some (numsR_smR hr).1 hm
        obtain ⟨pb, o, rfl, hpI⟩ : ∃ pb o, po = some ⟨pb, o, none⟩ ∧ LiesI w pb o l := by
          rcases hp with rfl | ⟨pb, o, rfl, hp⟩
          · simp at hpl; omega
          · exact ⟨pb, o, rfl, hp⟩
        have hst1 := hst.stp
        have hS := fun (W : World) (h : LiesO W (some ⟨bl, off, none⟩) L) (h2 : LiesOI W (some ⟨pb, o, none⟩) l) => pStep_ok a b c bl off cap pb o pc n N L l W (lo_liesP h) (lo_liesIP h2) hst hN.symm
        by_cases hx : 1 ≤ x ∧ x ≤ 60
        · obtain ⟨k, rfl⟩ := Int.eq_ofNat_of_zero_le (show 0 ≤ x by omega)
          obtain ⟨t, y, hper⟩ := perR_ex a b c (L, l) k
          have hper2 : perR a b c ((stp a b c (L, l)).1, (stp a b c (L, l)).2) k t y := perR_cong (fun j => (per_rn hst j 1).symm) hper
          have hP := fun (W : World) (h : LiesO W (some ⟨bl, off, none⟩) L) (h2 : LiesOI W (some ⟨pb, o, none⟩) l) => period_stP a b c bl off cap pb o pc n N k t y L l W (lo_liesP h) (lo_liesIP h2) hst hN.symm (by omega) (by omega) hper
          have hQ := fun (W : World) (h : LiesO W (some ⟨bl, off, none⟩) L) (h2 : LiesOI W (some ⟨pb, o, none⟩) l) => refPeriodO_ok a b c bl off cap pb o pc n k t y L l W (lo_liesP h) (lo_liesIP h2) hst hn0 h48 (by omega) (by omega) hper
          have hP2 := fun (W : World) (g k' gm km : Nat) (h : Lies W g 0 (stp a b c (L, l)).1) (h2 : LiesI W gm 0 (stp a b c (L, l)).2) => period_stP a b c g 0 k' gm 0 km n N k t y _ _ W h h2 hst1 hN.symm (by omega) (by omega) hper2
          rw [hLn] at hLg ⊢
          cases y with
          | true => exact periods_yes a b c 0 k t 0 0 0 true true _ _ n cap pc n n L _ l _ [] w hm hp hx60 hLg hP hQ hS hP2
          | false => exact periods_no a b c 0 k t t 0 0 false false _ _ n cap pc n n L _ l _ [] w hm hp hx60 hLg hP hQ hS hP2
        · have hx2 : ¬ (1 ≤ x ∧ x ≤ 1000) := by omega
          have hP := fun (W : World) (h : LiesO W (some ⟨bl, off, none⟩) L) (h2 : LiesOI W (some ⟨pb, o, none⟩) l) => period_bad a b c 0 0 x 1 (some ⟨bl, off, none⟩) (some ⟨pb, o, none⟩) cap pc n L ns l W h h2 hpl hr hv (.inr ⟨rfl, hx2, rfl⟩) (by omega)
          have hQ := fun (W : World) (h : LiesO W (some ⟨bl, off, none⟩) L) (h2 : LiesOI W (some ⟨pb, o, none⟩) l) => refPeriodO_arg a b c 0 x (some ⟨bl, off, none⟩) (some ⟨pb, o, none⟩) L.length cap pc n 0 L [] l [] W h h2 hV (fun W : World => within6_any x 1 1000 W false (.inr ⟨hx2, rfl⟩))
          have hP2 : ∀ (W : World) (g k' gm km : Nat), Lies W g 0 (stp a b c (L, l)).1 → LiesI W gm 0 (stp a b c (L, l)).2 → Calls Tryz.prog 25 #[.agg #[.int .i64 a, .int .i64 b, .int .i64 c, .slice (some ⟨g, 0, none⟩) n k'], .slice (some ⟨gm, 0, none⟩) n km, .int .i64 x] W fun e w' => e = .returned (.tuple #[.int .i64 0, .bool false, .int .i64 1]) ∧ Below W.heap.size W w' := fun W g k' gm km h h2 => by
            have := period_bad a b c 0 0 x 1 (some ⟨g, 0, none⟩) (some ⟨gm, 0, none⟩) k' km n _ _ _ W (.inr ⟨g, 0, rfl, h⟩) (.inr ⟨gm, 0, rfl, h2⟩) hst1.m (St_nums hst1).1 (St_nums hst1).2 (.inr ⟨rfl, hx2, rfl⟩) (by rw [hst1.e]; omega)
            rwa [hst1.e] at this
          rw [hLn] at hLg hP hQ ⊢
          exact periods_no a b c 0 x 0 0 1 1 false false _ _ n cap pc n n L _ l _ [] w hm hp hx60 hLg hP hQ hS hP2
      · have nz : ¬ Sz 0 0 0 := fun h => by have := h.a1; omega
        have hP := fun (W : World) (h : LiesO W ao L) (h2 : LiesOI W po l) => period_bad a b c r0 r x r ao po cap pc n L ns l W h h2 hpl hr hv (.inl ⟨h0, rfl⟩) (by omega)
        have hQ := fun (W : World) (h : LiesO W ao L) (h2 : LiesOI W po l) => refPeriodO_bad a b c r x ao po L.length cap pc n 0 L [] l [] W h h2 h0 hV
        have hS := fun (W : World) (h : LiesO W ao L) (h2 : LiesOI W po l) => pStep_bad a b c r0 r ao po cap pc n L ns l W h h2 hpl hr hv h0 (by omega)
        have hP2 : ∀ W : World, Calls Tryz.prog 25 #[.agg #[.int .i64 0, .int .i64 0, .int .i64 0, .slice none 0 0], .slice none 0 0, .int .i64 x] W fun e w' => e = .returned (.tuple #[.int .i64 0, .bool false, .int .i64 1]) ∧ Below W.heap.size W w' := fun W => period_bad 0 0 0 1 1 x 1 none none 0 0 0 [] [] [] W (.inl rfl) (.inl rfl) rfl (.inl ⟨.inl ⟨nz, rfl⟩, by decide, rfl⟩) (.inl ⟨by decide, rfl⟩) (.inl ⟨by decide, rfl⟩) (by simp)
        exact periods_bad a b c r x 0 0 r 1 false false ao po L.length cap pc n 0 L [] l [] [] w hm hp hx60 hLg hP hQ hS hP2
  · exact periods_long a b c 0 x 0 0 0 0 true true ao po L.length cap pc n 0 L [] l [] [] w hm hp (fun W : World => long6_any a b c ao po cap pc L.length n true W (.inr ⟨by omega, rfl⟩))

/-! ### The statement of the law PathPeriods, out of its walk -/
set_option maxRecDepth 100000 in
theorem pathPeriods_lifted (os : Os) (started : os.Started) (H : Type) (enc : TypeId × Value → H) :
    ReturnsInHanded {} Tryz.checked os 7 .any (Rows.pathPeriodsSpec.pre6 enc Tryz.prog Tryz.f7 Rows.pathPeriodsRow.domain false) (Rows.pathPeriodsSpec.post enc Tryz.prog Tryz.f7 false true false false) := by
  refine returnsInHanded_of_change (C := Tryz.checked) own started (by kernel_rfl) Tryz.func7
    (ChangeSpec.witness6 (enc := enc) (C := Tryz.checked) false ⟨#[], #[.agg #[.int .i64 0, .int .i64 0, .int .i64 0, .slice none 0 0], .slice none 0 0, .int .i64 0], []⟩ 8 (by kernel_rfl) (by kernel_rfl) (by kernel_rfl) (by kernel_rfl)) ?_
  intro W base args ds gs before hval0 hW hcnd _
  have hval : ∀ (j : Nat) t v, Tryz.f7.params[j]? = some t → args[j]? = some v → Value.okWide Tryz.prog W .any base t v := hval0
  have hW' := hW
  obtain ⟨p, q, hA0, hV, rfl, hfz, hnd⟩ := hW
  have hA : DataW.TrodAll enc Tryz.prog W 0 (fun _ => true) true Tryz.f7.params.toList args.toList ds p := hA0
  rw [Tryz.params7] at hA hval
  obtain ⟨v0, vs0, d0, ds0, p0, q0, hargs, rfl, rfl, h0, r0⟩ := trodAll_cons hA
  obtain ⟨v1, vs1, d1, ds1, p1, q1, rfl, rfl, rfl, h1, r1⟩ := trodAll_cons r0
  obtain ⟨v2, vs2, d2, ds2, p2, q2, rfl, rfl, rfl, h2, r2⟩ := trodAll_cons r1
  obtain ⟨rfl, rfl, rfl⟩ := trodAll_nil r2
  obtain rfl : args = #[v0, v1, v2] := by cases args; simp_all
  obtain ⟨rfl, rfl⟩ := trodVars_none hV
  have k0 := h0
  have lt0 : ∀ x ∈ p0, x.block < W.heap.size := by obtain ⟨m, hm⟩ := k0; exact DataW.trod_lt m _ _ _ hm
  obtain ⟨x0, y0, z0, ao0, L0, cap0, rfl, hl0, hm0⟩ := open_field (hval 0 25 v0 rfl rfl) h0
  have k1 := h1
  have lt1 : ∀ x ∈ p1, x.block < W.heap.size := by obtain ⟨m, hm⟩ := k1; exact DataW.trod_lt m _ _ _ hm
  obtain ⟨po1, l1, n1, pc1, rfl, hkl1, hkn1, hkc1, hkm1, hkz1⟩ := open_kicks (hval 1 26 v1 rfl rfl) h1
  have k2 := h2
  have lt2 : ∀ x ∈ p2, x.block < W.heap.size := by obtain ⟨m, hm⟩ := k2; exact DataW.trod_lt m _ _ _ hm
  obtain ⟨x2, e2, -, -, -⟩ := open_int Tryz.underlying3 (hval 2 3 v2 rfl rfl) h2
  subst e2
  clear hA0 hval0
  refine (pathPeriods_walk x0 y0 z0 ao0 L0 cap0 po1 l1 n1 pc1 x2 W hl0 hm0 hkl1 hkn1 hkc1 hkm1 hkz1).mono fun e W' ⟨he, bel⟩ => ?_
  subst he
  exact ⟨_, rfl, _, _, _, [], _, [], hW', trodAll_mk1 (shut_bool Tryz.underlying4 _), (trodAll_cons_mk (Below.trod laidOut (by kernel_rfl) (of_decide_eq_true (by kernel_rfl)) k0 bel lt0) (trodAll_cons_mk (Below.trod laidOut (by kernel_rfl) (of_decide_eq_true (by kernel_rfl)) k1 bel lt1) (trodAll_cons_mk (Below.trod laidOut (by kernel_rfl) (of_decide_eq_true (by kernel_rfl)) k2 bel lt2) trodAll_mk0))), rfl, bel.frame _, fun h => by cases h⟩

theorem pathPeriods_jf9 : (Rows.pathPeriodsRow.inPlace == Tryz.prog.inPlace 7) = true := by kernel_rfl
theorem pathPeriods_jf10 : (Rows.pathPeriodsRow.unfollowed == Tryz.prog.unfollowed 7) = true := by kernel_rfl
theorem pathPeriods_jf11 : (Rows.pathPeriodsRow.recurses == Tryz.prog.recurses 7) = true := by kernel_rfl
theorem pathPeriods_jf12 : (Rows.pathPeriodsRow.named == Tryz.prog.varsNamed 7) = true := by kernel_rfl
theorem pathPeriods_facts : joinedFacts Tryz.prog 7 Tryz.f7 Rows.pathPeriodsSpec Rows.pathPeriodsRow = true := by
  unfold joinedFacts
  exact (band (band (band (band (band (band (band (band (band (band (band (band (band (band (band (band (band (band (band (band (band (band (band (band (band (band (band (band (band (band (band (by kernel_rfl) jf1) jf2) (by kernel_rfl)) (by kernel_rfl)) (by kernel_rfl)) jf6) (by kernel_rfl)) jf8) pathPeriods_jf9) pathPeriods_jf10) pathPeriods_jf11) pathPeriods_jf12) (by kernel_rfl)) (by kernel_rfl)) (by kernel_rfl)) (by kernel_rfl)) (by kernel_rfl)) (by kernel_rfl)) (by kernel_rfl)) (by kernel_rfl)) (by kernel_rfl)) (by kernel_rfl)) (by kernel_rfl)) jf24) jf25) jf26) jf27) (by kernel_rfl)) (by kernel_rfl)) (by kernel_rfl)) (by kernel_rfl))

theorem pathPeriods_over : Rows.pathPeriodsRow.holds Tryz.pinned (OpenSpec.ofChange Rows.pathPeriodsSpec) :=
  OpenClaim.holds_of_wide 7 Tryz.f7 rfl rfl rfl rfl rfl rfl rfl ⟨rfl, rfl, rfl, rfl, rfl⟩ rfl rfl rfl rfl rfl (by kernel_rfl) Tryz.func7 pathPeriods_facts
    (of_decide_eq_true (by kernel_rfl)) (by unfold Func.isWrapper; first | (rw [if_pos (by decide +kernel)]; kernel_rfl) | (rw [if_neg (by decide +kernel)]; exact ⟨rfl, rfl⟩))
    (fun os started H enc _ => pathPeriods_lifted os started H enc)

theorem pathPeriods_holds : Rows.PathPeriodsSaid := pathPeriods_over
#print axioms pathPeriods_holds

end Go.Proofs.YtilbhcjnkmeecaaGreat
