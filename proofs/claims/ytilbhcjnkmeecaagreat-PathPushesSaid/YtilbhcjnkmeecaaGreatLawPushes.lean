/- PathPushes: what the forces make of momenta, and the momenta of a field, is what the document says, in new memory, for all fields and lists.
Conditions: none. -/
import Derived.Test.YtilbhcjnkmeecaaGreatKzM
import Derived.Test.YtilbhcjnkmeecaaGreatKsP
import Derived.Test.YtilbhcjnkmeecaaGreatWbM
import Derived.Test.YtilbhcjnkmeecaaGreatSamF
import Derived.Test.YtilbhcjnkmeecaaGreatSane6
import Derived.Test.YtilbhcjnkmeecaaGreatLawValK
import Derived.Test.YtilbhcjnkmeecaaGreatOpenKA
import Derived.Test.YtilbhcjnkmeecaaGreatJFacts
namespace Go.Proofs.YtilbhcjnkmeecaaGreat
set_option linter.unusedVariables false
set_option linter.unusedSimpArgs false
set_option maxRecDepth 1000000
open Go.ChangeShapes Go.WideShapes Go.ChangeAt Go.RowKit
open Um Tm Cm Km

set_option maxHeartbeats 12800000 in
theorem pushes_long (a b c r x : Int) (ao po : Option Addr) (m cap pc n : Nat) (L L1 : List Q) (l l1 : List Int) (w : World) (hm : LiesO w ao L) (hp : LiesOI w po l)
    (hLg : ∀ W : World, Calls Tryz.prog 8 #[.agg #[.int .i64 a, .int .i64 b, .int .i64 c, .slice ao m cap], .slice po n pc] W fun e w' => e = .returned (.bool true) ∧ Below W.heap.size W w')
    : Calls Tryz.prog 3 #[.agg #[.int .i64 a, .int .i64 b, .int .i64 c, .slice ao m cap], .slice po n pc] w fun e w' => e = .returned (.bool true) ∧ Below w.heap.size w w' := by
  have kn := known6_any
  have H0 := Lib.hid hm
  have HP0 := Lib.hid hp
  clear hm hp
  go_enter Tryz.func3, Tryz.ntmps3
  go_wp2_with (fail)
  refine (hLg _).mono ?_
  rintro e w1 ⟨rfl, hw1⟩
  have bw1 : Below w.heap.size w w1 := bel1 hw1
  have TF1 := Lib.hid (FW.n1.later hw1)
  have H1 := Lib.hid (H0.out.later bw1)
  have HP1 := Lib.hid (HP0.out.later bw1)
  have HB1 := Lib.hid bw1
  clear hw1 bw1 H0 HP0
  obtain ⟨tf1_0, tf1_1, tf1_2, tf1_3, tf1_4, tf1_5⟩ := TF1.out
  go_wp2_with (fail)
  refine (kn _).mono ?_
  rintro e w2 ⟨rfl, hw2⟩
  clear tf1_0 tf1_1 tf1_2 tf1_3 tf1_4 tf1_5
  have bw2 : Below w1.heap.size w1 w2 := hw2
  have H2 := Lib.hid (H1.out.later bw2)
  have HP2 := Lib.hid (HP1.out.later bw2)
  have TF2 := Lib.hid (TF1.out.later bw2)
  have HB2 := Lib.hid (HB1.out.trans (bw2.mono HB1.out.size))
  clear hw2 bw2 H1 HP1 TF1 HB1
  go_wp2_with (fail)
  go_ret
  exact ⟨rfl, HB2.out⟩

set_option maxHeartbeats 12800000 in
theorem pushes_bad (a b c r x : Int) (ao po : Option Addr) (m cap pc n : Nat) (L L1 : List Q) (l l1 : List Int) (w : World) (hm : LiesO w ao L) (hp : LiesOI w po l)
    (hLg : ∀ W : World, Calls Tryz.prog 8 #[.agg #[.int .i64 a, .int .i64 b, .int .i64 c, .slice ao m cap], .slice po n pc] W fun e w' => e = .returned (.bool false) ∧ Below W.heap.size W w')
    (hCp : ∀ W : World, LiesO W ao L → Calls Tryz.prog 10 #[.agg #[.int .i64 a, .int .i64 b, .int .i64 c, .slice ao m cap]] W fun e w' => (∃ g k : Nat, e = .returned (.agg #[.int .i64 a, .int .i64 b, .int .i64 c, .slice (some ⟨g, 0, none⟩) m k]) ∧ Lies w' g 0 L) ∧ Below W.heap.size W w')
    (hCd : ∀ W : World, LiesOI W po l → Calls Tryz.prog 11 #[.slice po n pc] W fun e w' => (∃ g k : Nat, e = .returned (.slice (some ⟨g, 0, none⟩) n k) ∧ LiesI w' g 0 l) ∧ Below W.heap.size W w')
    (hP : ∀ (W : World) (g k gm km : Nat), Lies W g 0 L → LiesI W gm 0 l → Calls Tryz.prog 12 #[.agg #[.int .i64 a, .int .i64 b, .int .i64 c, .slice (some ⟨g, 0, none⟩) m k], .slice (some ⟨gm, 0, none⟩) n km] W fun e w' => e = .returned (.tuple #[.slice none 0 0, .int .i64 r]) ∧ Below W.heap.size W w')
    (hQ : ∀ W : World, LiesO W ao L → LiesOI W po l → Calls Tryz.prog 13 #[.agg #[.int .i64 a, .int .i64 b, .int .i64 c, .slice ao m cap], .slice po n pc] W fun e w' => e = .returned (.tuple #[.slice none 0 0, .int .i64 r]) ∧ Below W.heap.size W w')
    (hD : ∀ (W : World) (g k gm km : Nat), Lies W g 0 L → LiesI W gm 0 l → Calls Tryz.prog 14 #[.agg #[.int .i64 a, .int .i64 b, .int .i64 c, .slice (some ⟨g, 0, none⟩) m k], .slice (some ⟨gm, 0, none⟩) n km] W fun e w' => e = .returned (.tuple #[.agg #[.int .i64 0, .int .i64 0, .int .i64 0, .slice none 0 0], .int .i64 r]) ∧ Below W.heap.size W w')
    (hE : ∀ W : World, LiesO W ao L → LiesOI W po l → Calls Tryz.prog 15 #[.agg #[.int .i64 a, .int .i64 b, .int .i64 c, .slice ao m cap], .slice po n pc] W fun e w' => e = .returned (.tuple #[.agg #[.int .i64 0, .int .i64 0, .int .i64 0, .slice none 0 0], .int .i64 r]) ∧ Below W.heap.size W w')
    (hF : ∀ W : World, Calls Tryz.prog 17 #[.agg #[.int .i64 0, .int .i64 0, .int .i64 0, .slice none 0 0], .agg #[.int .i64 0, .int .i64 0, .int .i64 0, .slice none 0 0]] W fun e w' => e = .returned (.bool true) ∧ Below W.heap.size W w')
    (hK : ∀ W : World, Calls Tryz.prog 16 #[.slice none 0 0, .slice none 0 0] W fun e w' => e = .returned (.bool true) ∧ Below W.heap.size W w')
    (hSo : ∀ (W : World) (g k : Nat), Lies W g 0 L → LiesO W ao L → Calls Tryz.prog 17 #[.agg #[.int .i64 a, .int .i64 b, .int .i64 c, .slice (some ⟨g, 0, none⟩) m k], .agg #[.int .i64 a, .int .i64 b, .int .i64 c, .slice ao m cap]] W fun e w' => e = .returned (.bool true) ∧ Below W.heap.size W w')
    (hKo : ∀ (W : World) (g k : Nat), LiesI W g 0 l → LiesOI W po l → Calls Tryz.prog 16 #[.slice (some ⟨g, 0, none⟩) n k, .slice po n pc] W fun e w' => e = .returned (.bool true) ∧ Below W.heap.size W w')
    : Calls Tryz.prog 3 #[.agg #[.int .i64 a, .int .i64 b, .int .i64 c, .slice ao m cap], .slice po n pc] w fun e w' => e = .returned (.bool true) ∧ Below w.heap.size w w' := by
  have rr : (r == r) = true := by simp
  have kn := known6_any
  have H0 := Lib.hid hm
  have HP0 := Lib.hid hp
  clear hm hp
  go_enter Tryz.func3, Tryz.ntmps3
  go_wp2_with (fail)
  refine (hLg _).mono ?_
  rintro e w1 ⟨rfl, hw1⟩
  have bw1 : Below w.heap.size w w1 := bel1 hw1
  have TF1 := Lib.hid (FW.n1.later hw1)
  have H1 := Lib.hid (H0.out.later bw1)
  have HP1 := Lib.hid (HP0.out.later bw1)
  have HB1 := Lib.hid bw1
  clear hw1 bw1 H0 HP0
  obtain ⟨tf1_0, tf1_1, tf1_2, tf1_3, tf1_4, tf1_5⟩ := TF1.out
  go_wp2_with (fail)
  refine (hCp _ (H1.out)).mono ?_
  rintro e w2 ⟨⟨g1, k1, rfl, hl1⟩, hw2⟩
  clear tf1_0 tf1_1 tf1_2 tf1_3 tf1_4 tf1_5
  have bw2 : Below w1.heap.size w1 w2 := hw2
  have H2 := Lib.hid (H1.out.later bw2)
  have HP2 := Lib.hid (HP1.out.later bw2)
  have TF2 := Lib.hid (TF1.out.later bw2)
  have HB2 := Lib.hid (HB1.out.trans (bw2.mono HB1.out.size))
  have LO2 := Lib.hid hl1
  clear hl1
  clear hw2 bw2 H1 HP1 TF1 HB1
  go_wp2_with (fail)
  refine (hCd _ (HP2.out)).mono ?_
  rintro e w3 ⟨⟨g2, k2, rfl, hi2⟩, hw3⟩
  have bw3 : Below w2.heap.size w2 w3 := hw3
  have H3 := Lib.hid (H2.out.later bw3)
  have HP3 := Lib.hid (HP2.out.later bw3)
  have TF3 := Lib.hid (TF2.out.later bw3)
  have LO3 := Lib.hid (LO2.out.later bw3)
  have HB3 := Lib.hid (HB2.out.trans (bw3.mono HB2.out.size))
  have KO3 := Lib.hid hi2
  clear hi2
  clear hw3 bw3 H2 HP2 TF2 LO2 HB2
  obtain ⟨tf3_0, tf3_1, tf3_2, tf3_3, tf3_4, tf3_5⟩ := TF3.out
  go_wp2_with (fail)
  refine (hP _ _ _ _ _ (LO3.out.later ba1) (KO3.out.later ba1)).mono ?_
  rintro e w4 ⟨rfl, hw4⟩
  clear tf3_0 tf3_1 tf3_2 tf3_3 tf3_4 tf3_5
  have bw4 : Below w3.heap.size w3 w4 := bel1 hw4
  have TO4 := Lib.hid (FW.n1.later hw4)
  have H4 := Lib.hid (H3.out.later bw4)
  have HP4 := Lib.hid (HP3.out.later bw4)
  have TF4 := Lib.hid (TF3.out.later bw4)
  have LO4 := Lib.hid (LO3.out.later bw4)
  have KO4 := Lib.hid (KO3.out.later bw4)
  have HB4 := Lib.hid (HB3.out.trans (bw4.mono HB3.out.size))
  clear hw4 bw4 H3 HP3 TF3 LO3 KO3 HB3
  obtain ⟨tf4_0, tf4_1, tf4_2, tf4_3, tf4_4, tf4_5⟩ := TF4.out
  obtain ⟨to4_0, to4_1, to4_2, to4_3, to4_4, to4_5⟩ := TO4.out
  go_wp2_with (fail)
  refine (hQ _ (H4.out) (HP4.out)).mono ?_
  rintro e w5 ⟨rfl, hw5⟩
  clear tf4_0 tf4_1 tf4_2 tf4_3 tf4_4 tf4_5 to4_0 to4_1 to4_2 to4_3 to4_4 to4_5
  have bw5 : Below w4.heap.size w4 w5 := hw5
  have H5 := Lib.hid (H4.out.later bw5)
  have HP5 := Lib.hid (HP4.out.later bw5)
  have TF5 := Lib.hid (TF4.out.later bw5)
  have LO5 := Lib.hid (LO4.out.later bw5)
  have KO5 := Lib.hid (KO4.out.later bw5)
  have TO5 := Lib.hid (TO4.out.later bw5)
  have HB5 := Lib.hid (HB4.out.trans (bw5.mono HB4.out.size))
  clear hw5 bw5 H4 HP4 TF4 LO4 KO4 TO4 HB4
  obtain ⟨tf5_0, tf5_1, tf5_2, tf5_3, tf5_4, tf5_5⟩ := TF5.out
  obtain ⟨to5_0, to5_1, to5_2, to5_3, to5_4, to5_5⟩ := TO5.out
  go_wp2_with (fail)
  refine (hD _ _ _ _ _ (LO5.out) (KO5.out)).mono ?_
  rintro e w6 ⟨rfl, hw6⟩
  clear tf5_0 tf5_1 tf5_2 tf5_3 tf5_4 tf5_5 to5_0 to5_1 to5_2 to5_3 to5_4 to5_5
  have bw6 : Below w5.heap.size w5 w6 := hw6
  have H6 := Lib.hid (H5.out.later bw6)
  have HP6 := Lib.hid (HP5.out.later bw6)
  have TF6 := Lib.hid (TF5.out.later bw6)
  have LO6 := Lib.hid (LO5.out.later bw6)
  have KO6 := Lib.hid (KO5.out.later bw6)
  have TO6 := Lib.hid (TO5.out.later bw6)
  have HB6 := Lib.hid (HB5.out.trans (bw6.mono HB5.out.size))
  clear hw6 bw6 H5 HP5 TF5 LO5 KO5 TO5 HB5
  obtain ⟨tf6_0, tf6_1, tf6_2, tf6_3, tf6_4, tf6_5⟩ := TF6.out
  go_wp2_with (fail)
  refine (hE _ (H6.out.later ba1) (HP6.out.later ba1)).mono ?_
  rintro e w7 ⟨rfl, hw7⟩
  clear tf6_0 tf6_1 tf6_2 tf6_3 tf6_4 tf6_5
  have bw7 : Below w6.heap.size w6 w7 := bel1 hw7
  have TA7 := Lib.hid (FW.n1.later hw7)
  have H7 := Lib.hid (H6.out.later bw7)
  have HP7 := Lib.hid (HP6.out.later bw7)
  have TF7 := Lib.hid (TF6.out.later bw7)
  have LO7 := Lib.hid (LO6.out.later bw7)
  have KO7 := Lib.hid (KO6.out.later bw7)
  have TO7 := Lib.hid (TO6.out.later bw7)
  have HB7 := Lib.hid (HB6.out.trans (bw7.mono HB6.out.size))
  clear hw7 bw7 H6 HP6 TF6 LO6 KO6 TO6 HB6
  obtain ⟨tf7_0, tf7_1, tf7_2, tf7_3, tf7_4, tf7_5⟩ := TF7.out
  obtain ⟨ta7_0, ta7_1, ta7_2, ta7_3, ta7_4, ta7_5⟩ := TA7.out
  go_wp2_with (fail)
  refine (hK _).mono ?_
  rintro e w8 ⟨rfl, hw8⟩
  clear tf7_0 tf7_1 tf7_2 tf7_3 tf7_4 tf7_5 ta7_0 ta7_1 ta7_2 ta7_3 ta7_4 ta7_5
  have bw8 : Below w7.heap.size w7 w8 := bel1 hw8
  have TD8 := Lib.hid (FW.n1.later hw8)
  have H8 := Lib.hid (H7.out.later bw8)
  have HP8 := Lib.hid (HP7.out.later bw8)
  have TF8 := Lib.hid (TF7.out.later bw8)
  have LO8 := Lib.hid (LO7.out.later bw8)
  have KO8 := Lib.hid (KO7.out.later bw8)
  have TO8 := Lib.hid (TO7.out.later bw8)
  have TA8 := Lib.hid (TA7.out.later bw8)
  have HB8 := Lib.hid (HB7.out.trans (bw8.mono HB7.out.size))
  clear hw8 bw8 H7 HP7 TF7 LO7 KO7 TO7 TA7 HB7
  obtain ⟨ta8_0, ta8_1, ta8_2, ta8_3, ta8_4, ta8_5⟩ := TA8.out
  obtain ⟨td8_0, td8_1, td8_2, td8_3, td8_4, td8_5⟩ := TD8.out
  go_wp2_with (fail)
  refine (hF _).mono ?_
  rintro e w9 ⟨rfl, hw9⟩
  clear ta8_0 ta8_1 ta8_2 ta8_3 ta8_4 ta8_5 td8_0 td8_1 td8_2 td8_3 td8_4 td8_5
  have bw9 : Below w8.heap.size w8 w9 := hw9
  have H9 := Lib.hid (H8.out.later bw9)
  have HP9 := Lib.hid (HP8.out.later bw9)
  have TF9 := Lib.hid (TF8.out.later bw9)
  have LO9 := Lib.hid (LO8.out.later bw9)
  have KO9 := Lib.hid (KO8.out.later bw9)
  have TO9 := Lib.hid (TO8.out.later bw9)
  have TA9 := Lib.hid (TA8.out.later bw9)
  have TD9 := Lib.hid (TD8.out.later bw9)
  have HB9 := Lib.hid (HB8.out.trans (bw9.mono HB8.out.size))
  clear hw9 bw9 H8 HP8 TF8 LO8 KO8 TO8 TA8 TD8 HB8
  obtain ⟨tf9_0, tf9_1, tf9_2, tf9_3, tf9_4, tf9_5⟩ := TF9.out
  obtain ⟨to9_0, to9_1, to9_2, to9_3, to9_4, to9_5⟩ := TO9.out
  obtain ⟨ta9_0, ta9_1, ta9_2, ta9_3, ta9_4, ta9_5⟩ := TA9.out
  go_wp2_with (fail)
  refine wp_loop_rounds 1 ?_
  rw [rounds_succ]
  go_wp2_with (fail)
  refine wp_loop_rounds 1 ?_
  rw [rounds_succ]
  go_wp2_with (fail)
  refine (hSo _ _ _ (LO9.out) (H9.out)).mono ?_
  rintro e w10 ⟨rfl, hw10⟩
  clear tf9_0 tf9_1 tf9_2 tf9_3 tf9_4 tf9_5 to9_0 to9_1 to9_2 to9_3 to9_4 to9_5 ta9_0 ta9_1 ta9_2 ta9_3 ta9_4 ta9_5
  have bw10 : Below w9.heap.size w9 w10 := hw10
  have H10 := Lib.hid (H9.out.later bw10)
  have HP10 := Lib.hid (HP9.out.later bw10)
  have TF10 := Lib.hid (TF9.out.later bw10)
  have LO10 := Lib.hid (LO9.out.later bw10)
  have KO10 := Lib.hid (KO9.out.later bw10)
  have TO10 := Lib.hid (TO9.out.later bw10)
  have TA10 := Lib.hid (TA9.out.later bw10)
  have TD10 := Lib.hid (TD9.out.later bw10)
  have HB10 := Lib.hid (HB9.out.trans (bw10.mono HB9.out.size))
  clear hw10 bw10 H9 HP9 TF9 LO9 KO9 TO9 TA9 TD9 HB9
  go_wp2_with (fail)
  refine (hKo _ _ _ (KO10.out) (HP10.out)).mono ?_
  rintro e w11 ⟨rfl, hw11⟩
  have bw11 : Below w10.heap.size w10 w11 := hw11
  have H11 := Lib.hid (H10.out.later bw11)
  have HP11 := Lib.hid (HP10.out.later bw11)
  have TF11 := Lib.hid (TF10.out.later bw11)
  have LO11 := Lib.hid (LO10.out.later bw11)
  have KO11 := Lib.hid (KO10.out.later bw11)
  have TO11 := Lib.hid (TO10.out.later bw11)
  have TA11 := Lib.hid (TA10.out.later bw11)
  have TD11 := Lib.hid (TD10.out.later bw11)
  have HB11 := Lib.hid (HB10.out.trans (bw11.mono HB10.out.size))
  clear hw11 bw11 H10 HP10 TF10 LO10 KO10 TO10 TA10 TD10 HB10
  go_wp2_with (fail)
  refine (kn _).mono ?_
  rintro e w12 ⟨rfl, hw12⟩
  have bw12 : Below w11.heap.size w11 w12 := hw12
  have H12 := Lib.hid (H11.out.later bw12)
  have HP12 := Lib.hid (HP11.out.later bw12)
  have TF12 := Lib.hid (TF11.out.later bw12)
  have LO12 := Lib.hid (LO11.out.later bw12)
  have KO12 := Lib.hid (KO11.out.later bw12)
  have TO12 := Lib.hid (TO11.out.later bw12)
  have TA12 := Lib.hid (TA11.out.later bw12)
  have TD12 := Lib.hid (TD11.out.later bw12)
  have HB12 := Lib.hid (HB11.out.trans (bw12.mono HB11.out.size))
  clear hw12 bw12 H11 HP11 TF11 LO11 KO11 TO11 TA11 TD11 HB11
  go_wp2_with (fail)
  go_ret
  exact ⟨rfl, HB12.out⟩

set_option maxHeartbeats 12800000 in
theorem pushes_ok (a b c r x : Int) (ao po : Option Addr) (m cap pc n : Nat) (L L1 : List Q) (l l1 : List Int) (w : World) (hm : LiesO w ao L) (hp : LiesOI w po l) (hL : 0 < L.length) (hl : 0 < l.length) (hn1 : L1.length = n) (hn2 : l1.length = n * 3) (hn48 : n ≤ 48)
    (hLg : ∀ W : World, Calls Tryz.prog 8 #[.agg #[.int .i64 a, .int .i64 b, .int .i64 c, .slice ao m cap], .slice po n pc] W fun e w' => e = .returned (.bool false) ∧ Below W.heap.size W w')
    (hCp : ∀ W : World, LiesO W ao L → Calls Tryz.prog 10 #[.agg #[.int .i64 a, .int .i64 b, .int .i64 c, .slice ao m cap]] W fun e w' => (∃ g k : Nat, e = .returned (.agg #[.int .i64 a, .int .i64 b, .int .i64 c, .slice (some ⟨g, 0, none⟩) m k]) ∧ Lies w' g 0 L) ∧ Below W.heap.size W w')
    (hCd : ∀ W : World, LiesOI W po l → Calls Tryz.prog 11 #[.slice po n pc] W fun e w' => (∃ g k : Nat, e = .returned (.slice (some ⟨g, 0, none⟩) n k) ∧ LiesI w' g 0 l) ∧ Below W.heap.size W w')
    (hP : ∀ (W : World) (g k gm km : Nat), Lies W g 0 L → LiesI W gm 0 l → Calls Tryz.prog 12 #[.agg #[.int .i64 a, .int .i64 b, .int .i64 c, .slice (some ⟨g, 0, none⟩) m k], .slice (some ⟨gm, 0, none⟩) n km] W fun e w' => RetKB W.heap.size n l1 e w' ∧ Below W.heap.size W w')
    (hQ : ∀ W : World, LiesO W ao L → LiesOI W po l → Calls Tryz.prog 13 #[.agg #[.int .i64 a, .int .i64 b, .int .i64 c, .slice ao m cap], .slice po n pc] W fun e w' => RetKE W.heap.size n l1 e w' ∧ Below W.heap.size W w')
    (hD : ∀ (W : World) (g k gm km : Nat), Lies W g 0 L → LiesI W gm 0 l → Calls Tryz.prog 14 #[.agg #[.int .i64 a, .int .i64 b, .int .i64 c, .slice (some ⟨g, 0, none⟩) m k], .slice (some ⟨gm, 0, none⟩) n km] W fun e w' => RetFO a b c W.heap.size n L1 e w' ∧ Below W.heap.size W w')
    (hE : ∀ W : World, LiesO W ao L → LiesOI W po l → Calls Tryz.prog 15 #[.agg #[.int .i64 a, .int .i64 b, .int .i64 c, .slice ao m cap], .slice po n pc] W fun e w' => RetFE a b c W.heap.size n L1 e w' ∧ Below W.heap.size W w')
    (hF : ∀ (W : World) (g k g2 k2 : Nat), Lies W g 0 L1 → Lies W g2 0 L1 → Calls Tryz.prog 17 #[.agg #[.int .i64 a, .int .i64 b, .int .i64 c, .slice (some ⟨g, 0, none⟩) n k], .agg #[.int .i64 a, .int .i64 b, .int .i64 c, .slice (some ⟨g2, 0, none⟩) n k2]] W fun e w' => e = .returned (.bool true) ∧ Below W.heap.size W w')
    (hK : ∀ (W : World) (g k g2 k2 : Nat), LiesI W g 0 l1 → LiesI W g2 0 l1 → Calls Tryz.prog 16 #[.slice (some ⟨g, 0, none⟩) n k, .slice (some ⟨g2, 0, none⟩) n k2] W fun e w' => e = .returned (.bool true) ∧ Below W.heap.size W w')
    (hSo : ∀ (W : World) (g k : Nat), Lies W g 0 L → LiesO W ao L → Calls Tryz.prog 17 #[.agg #[.int .i64 a, .int .i64 b, .int .i64 c, .slice (some ⟨g, 0, none⟩) m k], .agg #[.int .i64 a, .int .i64 b, .int .i64 c, .slice ao m cap]] W fun e w' => e = .returned (.bool true) ∧ Below W.heap.size W w')
    (hKo : ∀ (W : World) (g k : Nat), LiesI W g 0 l → LiesOI W po l → Calls Tryz.prog 16 #[.slice (some ⟨g, 0, none⟩) n k, .slice po n pc] W fun e w' => e = .returned (.bool true) ∧ Below W.heap.size W w')
    : Calls Tryz.prog 3 #[.agg #[.int .i64 a, .int .i64 b, .int .i64 c, .slice ao m cap], .slice po n pc] w fun e w' => e = .returned (.bool true) ∧ Below w.heap.size w w' := by
  have HH := Lib.hid hm
  have HHP := Lib.hid hp
  have kn := known6_any
  have H0 := Lib.hid hm
  have HP0 := Lib.hid hp
  clear hm hp
  go_enter Tryz.func3, Tryz.ntmps3
  go_wp2_with (fail)
  refine (hLg _).mono ?_
  rintro e w1 ⟨rfl, hw1⟩
  have bw1 : Below w.heap.size w w1 := bel1 hw1
  have TF1 := Lib.hid (FW.n1.later hw1)
  have H1 := Lib.hid (H0.out.later bw1)
  have HP1 := Lib.hid (HP0.out.later bw1)
  have HB1 := Lib.hid bw1
  clear hw1 bw1 H0 HP0
  obtain ⟨tf1_0, tf1_1, tf1_2, tf1_3, tf1_4, tf1_5⟩ := TF1.out
  go_wp2_with (fail)
  refine (hCp _ (H1.out)).mono ?_
  rintro e w2 ⟨⟨g1, k1, rfl, hl1⟩, hw2⟩
  clear tf1_0 tf1_1 tf1_2 tf1_3 tf1_4 tf1_5
  have bw2 : Below w1.heap.size w1 w2 := hw2
  have H2 := Lib.hid (H1.out.later bw2)
  have HP2 := Lib.hid (HP1.out.later bw2)
  have TF2 := Lib.hid (TF1.out.later bw2)
  have HB2 := Lib.hid (HB1.out.trans (bw2.mono HB1.out.size))
  have LO2 := Lib.hid hl1
  clear hl1
  clear hw2 bw2 H1 HP1 TF1 HB1
  go_wp2_with (fail)
  refine (hCd _ (HP2.out)).mono ?_
  rintro e w3 ⟨⟨g2, k2, rfl, hi2⟩, hw3⟩
  have bw3 : Below w2.heap.size w2 w3 := hw3
  have H3 := Lib.hid (H2.out.later bw3)
  have HP3 := Lib.hid (HP2.out.later bw3)
  have TF3 := Lib.hid (TF2.out.later bw3)
  have LO3 := Lib.hid (LO2.out.later bw3)
  have HB3 := Lib.hid (HB2.out.trans (bw3.mono HB2.out.size))
  have KO3 := Lib.hid hi2
  clear hi2
  clear hw3 bw3 H2 HP2 TF2 LO2 HB2
  obtain ⟨tf3_0, tf3_1, tf3_2, tf3_3, tf3_4, tf3_5⟩ := TF3.out
  go_wp2_with (fail)
  refine (hP _ _ _ _ _ (LO3.out.later ba1) (KO3.out.later ba1)).mono ?_
  rintro e w4 ⟨⟨g3, k3, rfl, hb3, hg3⟩, hw4⟩
  have z1 : g1 < w3.heap.size := by have h0 := World.block_lt_of_cell? _ _ (LO3.out 0 _ (List.getElem?_eq_getElem hL)).1; simpa using h0
  have z2 : g2 < w3.heap.size := by have h0 := World.block_lt_of_cell? _ _ (KO3.out 0 _ (List.getElem?_eq_getElem hl)); simpa using h0
  have z3 : w.heap.size < w3.heap.size := TF3.out.lt
  have z4 : w3.heap.size < g3 := by simp at hg3; omega
  clear tf3_0 tf3_1 tf3_2 tf3_3 tf3_4 tf3_5
  have bw4 : Below w3.heap.size w3 w4 := bel1 hw4
  have TO4 := Lib.hid (FW.n1.later hw4)
  have H4 := Lib.hid (H3.out.later bw4)
  have HP4 := Lib.hid (HP3.out.later bw4)
  have TF4 := Lib.hid (TF3.out.later bw4)
  have LO4 := Lib.hid (LO3.out.later bw4)
  have KO4 := Lib.hid (KO3.out.later bw4)
  have HB4 := Lib.hid (HB3.out.trans (bw4.mono HB3.out.size))
  have IA4 := Lib.hid hb3
  clear hb3
  clear hw4 bw4 H3 HP3 TF3 LO3 KO3 HB3
  obtain ⟨tf4_0, tf4_1, tf4_2, tf4_3, tf4_4, tf4_5⟩ := TF4.out
  obtain ⟨to4_0, to4_1, to4_2, to4_3, to4_4, to4_5⟩ := TO4.out
  go_wp2_with (fail)
  refine (hQ _ (H4.out) (HP4.out)).mono ?_
  rintro e w5 ⟨⟨g4, k4, rfl, hi4, -⟩, hw5⟩
  have z5 : g3 < w4.heap.size := IA4.out.lt
  clear tf4_0 tf4_1 tf4_2 tf4_3 tf4_4 tf4_5 to4_0 to4_1 to4_2 to4_3 to4_4 to4_5
  have bw5 : Below w4.heap.size w4 w5 := hw5
  have H5 := Lib.hid (H4.out.later bw5)
  have HP5 := Lib.hid (HP4.out.later bw5)
  have TF5 := Lib.hid (TF4.out.later bw5)
  have LO5 := Lib.hid (LO4.out.later bw5)
  have KO5 := Lib.hid (KO4.out.later bw5)
  have TO5 := Lib.hid (TO4.out.later bw5)
  have IA5 := Lib.hid (IA4.out.later bw5)
  have HB5 := Lib.hid (HB4.out.trans (bw5.mono HB4.out.size))
  have IC5 := Lib.hid hi4
  clear hi4
  clear hw5 bw5 H4 HP4 TF4 LO4 KO4 TO4 IA4 HB4
  obtain ⟨tf5_0, tf5_1, tf5_2, tf5_3, tf5_4, tf5_5⟩ := TF5.out
  obtain ⟨to5_0, to5_1, to5_2, to5_3, to5_4, to5_5⟩ := TO5.out
  go_wp2_with (fail)
  refine (hD _ _ _ _ _ (LO5.out) (KO5.out)).mono ?_
  rintro e w6 ⟨⟨g5, k5, rfl, hb5, hg5⟩, hw6⟩
  have z6 : g3 < w5.heap.size := IA5.out.lt
  have z7 : w3.heap.size < w5.heap.size := TO5.out.lt
  clear tf5_0 tf5_1 tf5_2 tf5_3 tf5_4 tf5_5 to5_0 to5_1 to5_2 to5_3 to5_4 to5_5
  have bw6 : Below w5.heap.size w5 w6 := hw6
  have H6 := Lib.hid (H5.out.later bw6)
  have HP6 := Lib.hid (HP5.out.later bw6)
  have TF6 := Lib.hid (TF5.out.later bw6)
  have LO6 := Lib.hid (LO5.out.later bw6)
  have KO6 := Lib.hid (KO5.out.later bw6)
  have TO6 := Lib.hid (TO5.out.later bw6)
  have IA6 := Lib.hid (IA5.out.later bw6)
  have IC6 := Lib.hid (IC5.out.later bw6)
  have HB6 := Lib.hid (HB5.out.trans (bw6.mono HB5.out.size))
  have BA6 := Lib.hid hb5
  clear hb5
  clear hw6 bw6 H5 HP5 TF5 LO5 KO5 TO5 IA5 IC5 HB5
  obtain ⟨tf6_0, tf6_1, tf6_2, tf6_3, tf6_4, tf6_5⟩ := TF6.out
  go_wp2_with (fail)
  refine (hE _ (H6.out.later ba1) (HP6.out.later ba1)).mono ?_
  rintro e w7 ⟨⟨g6, k6, rfl, hi6, -⟩, hw7⟩
  have z8 : g5 < w6.heap.size := BA6.out.lt
  have z9 : g3 < w6.heap.size := IA6.out.lt
  clear tf6_0 tf6_1 tf6_2 tf6_3 tf6_4 tf6_5
  have bw7 : Below w6.heap.size w6 w7 := bel1 hw7
  have TA7 := Lib.hid (FW.n1.later hw7)
  have H7 := Lib.hid (H6.out.later bw7)
  have HP7 := Lib.hid (HP6.out.later bw7)
  have TF7 := Lib.hid (TF6.out.later bw7)
  have LO7 := Lib.hid (LO6.out.later bw7)
  have KO7 := Lib.hid (KO6.out.later bw7)
  have TO7 := Lib.hid (TO6.out.later bw7)
  have IA7 := Lib.hid (IA6.out.later bw7)
  have IC7 := Lib.hid (IC6.out.later bw7)
  have BA7 := Lib.hid (BA6.out.later bw7)
  have HB7 := Lib.hid (HB6.out.trans (bw7.mono HB6.out.size))
  have LC7 := Lib.hid hi6
  clear hi6
  clear hw7 bw7 H6 HP6 TF6 LO6 KO6 TO6 IA6 IC6 BA6 HB6
  obtain ⟨tf7_0, tf7_1, tf7_2, tf7_3, tf7_4, tf7_5⟩ := TF7.out
  obtain ⟨ta7_0, ta7_1, ta7_2, ta7_3, ta7_4, ta7_5⟩ := TA7.out
  go_wp2_with (fail)
  refine (hK _ _ _ _ _ (IA7.out.later ba1).h (IC7.out.later ba1)).mono ?_
  rintro e w8 ⟨rfl, hw8⟩
  clear tf7_0 tf7_1 tf7_2 tf7_3 tf7_4 tf7_5 ta7_0 ta7_1 ta7_2 ta7_3 ta7_4 ta7_5
  have bw8 : Below w7.heap.size w7 w8 := bel1 hw8
  have TD8 := Lib.hid (FW.n1.later hw8)
  have H8 := Lib.hid (H7.out.later bw8)
  have HP8 := Lib.hid (HP7.out.later bw8)
  have TF8 := Lib.hid (TF7.out.later bw8)
  have LO8 := Lib.hid (LO7.out.later bw8)
  have KO8 := Lib.hid (KO7.out.later bw8)
  have TO8 := Lib.hid (TO7.out.later bw8)
  have IA8 := Lib.hid (IA7.out.later bw8)
  have IC8 := Lib.hid (IC7.out.later bw8)
  have BA8 := Lib.hid (BA7.out.later bw8)
  have TA8 := Lib.hid (TA7.out.later bw8)
  have LC8 := Lib.hid (LC7.out.later bw8)
  have HB8 := Lib.hid (HB7.out.trans (bw8.mono HB7.out.size))
  clear hw8 bw8 H7 HP7 TF7 LO7 KO7 TO7 IA7 IC7 BA7 TA7 LC7 HB7
  obtain ⟨ta8_0, ta8_1, ta8_2, ta8_3, ta8_4, ta8_5⟩ := TA8.out
  obtain ⟨td8_0, td8_1, td8_2, td8_3, td8_4, td8_5⟩ := TD8.out
  go_wp2_with (fail)
  refine (hF _ _ _ _ _ (BA8.out).h (LC8.out)).mono ?_
  rintro e w9 ⟨rfl, hw9⟩
  clear ta8_0 ta8_1 ta8_2 ta8_3 ta8_4 ta8_5 td8_0 td8_1 td8_2 td8_3 td8_4 td8_5
  have bw9 : Below w8.heap.size w8 w9 := hw9
  have H9 := Lib.hid (H8.out.later bw9)
  have HP9 := Lib.hid (HP8.out.later bw9)
  have TF9 := Lib.hid (TF8.out.later bw9)
  have LO9 := Lib.hid (LO8.out.later bw9)
  have KO9 := Lib.hid (KO8.out.later bw9)
  have TO9 := Lib.hid (TO8.out.later bw9)
  have IA9 := Lib.hid (IA8.out.later bw9)
  have IC9 := Lib.hid (IC8.out.later bw9)
  have BA9 := Lib.hid (BA8.out.later bw9)
  have TA9 := Lib.hid (TA8.out.later bw9)
  have LC9 := Lib.hid (LC8.out.later bw9)
  have TD9 := Lib.hid (TD8.out.later bw9)
  have HB9 := Lib.hid (HB8.out.trans (bw9.mono HB8.out.size))
  clear hw9 bw9 H8 HP8 TF8 LO8 KO8 TO8 IA8 IC8 BA8 TA8 LC8 TD8 HB8
  go_wp2_with (fail)
  have WL9 : Hid (WB w9 g5 (n * 5)) := Lib.hid (by have := BA9.out.wb; rwa [hn1] at this)
  have WK9 : Hid (WB w9 g3 (n * 3)) := Lib.hid (by have := IA9.out.wb; rwa [hn2] at this)
  clear BA9
  clear IA9
  clear LC9
  clear IC9
  clear TD9
  have G0 : Hid (w9.grownBy w9 (some g3)) := Lib.hid ⟨rfl, rfl, rfl, Nat.le_refl _, fun _ _ _ => rfl⟩
  go_loopw [16] (fun q wr => ∃ k : Nat, k ≤ n ∧ q = .int .i64 k ∧ Hid (w9.grownBy wr (some g3)) ∧ Hid (WB wr g3 (n * 3))) (fun q _ => n - (intOf q).toNat)
  case atStart => exact ⟨0, by omega, rfl, G0, WK9⟩
  case round =>
    obtain ⟨k, hk, rfl, hG, hW⟩ := hrel
    clear G0
    by_cases hlt : k < n
    · have i1 : (k : Int) < (n : Int) := by omega
      have hwl := hW.out.lt
      obtain ⟨v4, hv4⟩ := hW.out.c (k * 3) (by omega)
      have wf := hW.out.free
      have G1 := Lib.hid (hG.out.trans (grown_setCell wr ⟨g3, k * 3, none⟩ (.int .i64 (-1))))
      have W1 := Lib.hid (hW.out.put (k * 3) (.int .i64 (-1)))
      clear hG hW
      go_wp2_with (fail)
      exact ⟨⟨k + 1, by omega, by go_num, G1, W1⟩, by simp [intOf]; omega⟩
    · obtain rfl : n = k := by omega
      rename World => w10
      have hg := hG.out
      have s10 := hg.size
      clear WK9
      have HB10 := Lib.hid (HB9.out.grown hg HB9.out.size (fun j hj => by simp at hj; omega))
      have H10 := Lib.hid (HH.out.later HB10.out)
      have HP10 := Lib.hid (HHP.out.later HB10.out)
      have TF10 := Lib.hid (TF9.out.grown hg (by simp; omega))
      have LO10 := Lib.hid (lies_grown LO9.out hg (by simp; omega))
      have KO10 := Lib.hid (LiesI.grown KO9.out hg (by simp; omega))
      have TO10 := Lib.hid (TO9.out.grown hg (by simp; omega))
      have TA10 := Lib.hid (TA9.out.grown hg (by simp; omega))
      have WL10 := Lib.hid (WL9.out.far hg (by simp; omega))
      clear H9 HP9 TF9 LO9 KO9 TO9 TA9 WL9 HB9
      clear hW hG hg
      go_wp2_with (fail)
      have G0 : Hid (w10.grownBy w10 (some g5)) := Lib.hid ⟨rfl, rfl, rfl, Nat.le_refl _, fun _ _ _ => rfl⟩
      go_loopw [17] (fun q wr => ∃ k : Nat, k ≤ n ∧ q = .int .i64 k ∧ Hid (w10.grownBy wr (some g5)) ∧ Hid (WB wr g5 (n * 5))) (fun q _ => n - (intOf q).toNat)
      case atStart => exact ⟨0, by omega, rfl, G0, WL10⟩
      case round =>
        obtain ⟨k, hk, rfl, hG, hW⟩ := hrel
        clear G0
        obtain ⟨f0, f1, f2, f3, ff, fl⟩ := TA10.out.grown hG.out (by simp; omega)
        by_cases hlt : k < n
        · have i1 : (k : Int) < (n : Int) := by omega
          have hwl := hW.out.lt
          obtain ⟨v4, hv4⟩ := hW.out.c (k * 5 + 4) (by omega)
          have wf := hW.out.free
          have G1 := Lib.hid (hG.out.trans (grown_setCell wr ⟨g5, k * 5 + 4, none⟩ (.int .i64 (-1))))
          have W1 := Lib.hid (hW.out.put (k * 5 + 4) (.int .i64 (-1)))
          clear hG hW
          go_wp2_with (fail)
          exact ⟨⟨k + 1, by omega, by go_num, G1, W1⟩, by simp [intOf]; omega⟩
        · obtain rfl : n = k := by omega
          rename World => w11
          have hg := hG.out
          have s11 := hg.size
          clear WL10
          have HB11 := Lib.hid (HB10.out.grown hg HB10.out.size (fun j hj => by simp at hj; omega))
          have H11 := Lib.hid (HH.out.later HB11.out)
          have HP11 := Lib.hid (HHP.out.later HB11.out)
          have TF11 := Lib.hid (TF10.out.grown hg (by simp; omega))
          have LO11 := Lib.hid (lies_grown LO10.out hg (by simp; omega))
          have KO11 := Lib.hid (LiesI.grown KO10.out hg (by simp; omega))
          have TO11 := Lib.hid (TO10.out.grown hg (by simp; omega))
          have TA11 := Lib.hid (TA10.out.grown hg (by simp; omega))
          clear H10 HP10 TF10 LO10 KO10 TO10 TA10 HB10
          clear hW hG hg
          obtain ⟨tf11_0, tf11_1, tf11_2, tf11_3, tf11_4, tf11_5⟩ := TF11.out
          obtain ⟨to11_0, to11_1, to11_2, to11_3, to11_4, to11_5⟩ := TO11.out
          go_wp2_with (fail)
          refine (hSo _ _ _ (LO11.out) (H11.out)).mono ?_
          rintro e w12 ⟨rfl, hw12⟩
          clear f0 f1 f2 f3 ff fl tf11_0 tf11_1 tf11_2 tf11_3 tf11_4 tf11_5 to11_0 to11_1 to11_2 to11_3 to11_4 to11_5
          have bw12 : Below w11.heap.size w11 w12 := hw12
          have H12 := Lib.hid (H11.out.later bw12)
          have HP12 := Lib.hid (HP11.out.later bw12)
          have TF12 := Lib.hid (TF11.out.later bw12)
          have LO12 := Lib.hid (LO11.out.later bw12)
          have KO12 := Lib.hid (KO11.out.later bw12)
          have TO12 := Lib.hid (TO11.out.later bw12)
          have TA12 := Lib.hid (TA11.out.later bw12)
          have HB12 := Lib.hid (HB11.out.trans (bw12.mono HB11.out.size))
          clear hw12 bw12 H11 HP11 TF11 LO11 KO11 TO11 TA11 HB11
          go_wp2_with (fail)
          refine (hKo _ _ _ (KO12.out) (HP12.out)).mono ?_
          rintro e w13 ⟨rfl, hw13⟩
          have bw13 : Below w12.heap.size w12 w13 := hw13
          have H13 := Lib.hid (H12.out.later bw13)
          have HP13 := Lib.hid (HP12.out.later bw13)
          have TF13 := Lib.hid (TF12.out.later bw13)
          have LO13 := Lib.hid (LO12.out.later bw13)
          have KO13 := Lib.hid (KO12.out.later bw13)
          have TO13 := Lib.hid (TO12.out.later bw13)
          have TA13 := Lib.hid (TA12.out.later bw13)
          have HB13 := Lib.hid (HB12.out.trans (bw13.mono HB12.out.size))
          clear hw13 bw13 H12 HP12 TF12 LO12 KO12 TO12 TA12 HB12
          go_wp2_with (fail)
          refine (kn _).mono ?_
          rintro e w14 ⟨rfl, hw14⟩
          have bw14 : Below w13.heap.size w13 w14 := hw14
          have H14 := Lib.hid (H13.out.later bw14)
          have HP14 := Lib.hid (HP13.out.later bw14)
          have TF14 := Lib.hid (TF13.out.later bw14)
          have LO14 := Lib.hid (LO13.out.later bw14)
          have KO14 := Lib.hid (KO13.out.later bw14)
          have TO14 := Lib.hid (TO13.out.later bw14)
          have TA14 := Lib.hid (TA13.out.later bw14)
          have HB14 := Lib.hid (HB13.out.trans (bw14.mono HB13.out.size))
          clear hw14 bw14 H13 HP13 TF13 LO13 KO13 TO13 TA13 HB13
          go_wp2_with (fail)
          go_ret
          exact ⟨rfl, HB14.out⟩
theorem lo_liesW {W : World} {bl off : Nat} {L : List Q} (h : LiesO W (some ⟨bl, off, none⟩) L) : Lies W bl off L := by
  rcases h with rfl | ⟨b, o, he, h⟩
  · intro i x hx; simp at hx
  · simp only [Option.some.injEq, Addr.mk.injEq, and_true] at he
    obtain ⟨rfl, rfl⟩ := he
    exact h
theorem lo_liesIW {W : World} {bl off : Nat} {l : List Int} (h : LiesOI W (some ⟨bl, off, none⟩) l) : LiesI W bl off l := by
  rcases h with rfl | ⟨b, o, he, h⟩
  · intro i x hx; simp at hx
  · simp only [Option.some.injEq, Addr.mk.injEq, and_true] at he
    obtain ⟨rfl, rfl⟩ := he
    exact h
theorem same_ownW (a b c : Int) (g k : Nat) (fo : Option Addr) (cap : Nat) (L : List Q) (w : World) (h1 : Lies w g 0 L) (h2 : LiesO w fo L) (hlen : L.length ≤ 100) : Calls Tryz.prog 17 #[.agg #[.int .i64 a, .int .i64 b, .int .i64 c, .slice (some ⟨g, 0, none⟩) L.length k], .agg #[.int .i64 a, .int .i64 b, .int .i64 c, .slice fo L.length cap]] w fun e w' => e = .returned (.bool true) ∧ Below w.heap.size w w' := by
  by_cases hL : L = []
  · subst hL
    exact sameF_nil a b c (some ⟨g, 0, none⟩) fo k cap w
  · rcases h2 with h2 | ⟨bl, off, rfl, h2⟩
    · exact absurd h2 hL
    · exact sameF_some a b c g 0 k bl off cap L w h1 h2 (by omega)
theorem pathPushes_walk (a b c : Int) (ao : Option Addr) (L : List Q) (cap : Nat) (po : Option Addr) (l : List Int) (n pc : Nat) (w : World) (_ : L.length ≤ maxLen) (hm : LiesO w ao L) (hnil : ao = none → cap = 0) (hpl : l.length = n * 3) (_ : n ≤ pc) (_ : pc ≤ maxLen) (hp : LiesOI w po l) (_ : po = none → pc = 0) : Calls Tryz.prog 3 #[.agg #[.int .i64 a, .int .i64 b, .int .i64 c, .slice ao L.length cap], .slice po n pc] w fun e w' => e = .returned (.bool true) ∧ Below w.heap.size w w' := by
  by_cases hin : L.length ≤ 100 ∧ n ≤ 100
  · have hLg := fun W : World => long6_any a b c ao po cap pc L.length n false W (.inl ⟨hin.1, hin.2, rfl⟩)
    have hCp : ∀ W : World, LiesO W ao L → Calls Tryz.prog 10 #[.agg #[.int .i64 a, .int .i64 b, .int .i64 c, .slice ao L.length cap]] W fun e w' => (∃ g k : Nat, e = .returned (.agg #[.int .i64 a, .int .i64 b, .int .i64 c, .slice (some ⟨g, 0, none⟩) L.length k]) ∧ Lies w' g 0 L) ∧ Below W.heap.size W w' := fun W h =>
      (refCopy_any a b c ao cap L W h hnil hin.1).mono fun e w' ⟨g, k, h1, h2, h3⟩ => ⟨⟨g, k, h1, h2⟩, h3⟩
    have hCd : ∀ W : World, LiesOI W po l → Calls Tryz.prog 11 #[.slice po n pc] W fun e w' => (∃ g k : Nat, e = .returned (.slice (some ⟨g, 0, none⟩) n k) ∧ LiesI w' g 0 l) ∧ Below W.heap.size W w' := fun W h =>
      (copied_any po l n pc W h hpl (by omega)).mono fun e w' ⟨⟨g, k, h1, h2, _⟩, h3⟩ => ⟨⟨g, k, h1, h2⟩, h3⟩
    have hSo := fun (W : World) (g k : Nat) (h1 : Lies W g 0 L) (h2 : LiesO W ao L) => same_ownW a b c g k ao cap L W h1 h2 hin.1
    have hKo : ∀ (W : World) (g k : Nat), LiesI W g 0 l → LiesOI W po l → Calls Tryz.prog 16 #[.slice (some ⟨g, 0, none⟩) n k, .slice po n pc] W fun e w' => e = .returned (.bool true) ∧ Below W.heap.size W w' := fun W g k h h2 => by
      have := sameK_any (some ⟨g, 0, none⟩) po k pc n n l l W (.inr ⟨g, 0, rfl, h⟩) h2 hpl hpl (by omega)
      rwa [decide_eq_true rfl] at this
    obtain ⟨ns, r0, hr⟩ := numsR_ex a b c L
    obtain ⟨r, hv⟩ := vkR_ex L.length n l r0
    have hV := fun (W : World) (h : LiesO W ao L) (h2 : LiesOI W po l) => refValidateK_any a b c r0 r ao po cap pc n L ns l W h h2 hpl hr hv (by omega)
    by_cases h0 : r = 0
    · subst h0
      obtain rfl : r0 = 0 := by rcases hv with ⟨h1, h2⟩ | ⟨h1, -⟩ | ⟨h1, -⟩ <;> omega
      have hst := St_of hr hv hpl
      have hLn := hst.e
      have h48 : n ≤ 48 := by have := hst.f.n; have := hst.e; have := hst.f.z.p; omega
      have hn0 : 0 < n := by have := hst.f.n; have := hst.e; obtain ⟨-, -, p3, -⟩ := mul_rng hst.f.z.a1 hst.f.z.a4 hst.f.z.b1 hst.f.z.b4 hst.f.z.c1 hst.f.z.c4; omega
      obtain ⟨N, hN⟩ := Int.eq_ofNat_of_zero_le (show 0 ≤ a * b * c by obtain ⟨-, -, p3, -⟩ := mul_rng hst.f.z.a1 hst.f.z.a4 hst.f.z.b1 hst.f.z.b4 hst.f.z.c1 hst.f.z.c4; omega)
      obtain ⟨bl, off, rfl, hm2⟩ := fld_some (numsR_smR hr).1 hm
      obtain ⟨pb, o, rfl, hpI⟩ : ∃ pb o, po = some ⟨pb, o, none⟩ ∧ LiesI w pb o l := by
        rcases hp with rfl | ⟨pb, o, rfl, hp⟩
        · simp at hpl; omega
        · exact ⟨pb, o, rfl, hp⟩
      have h1 := hst.push (frc a b c L)
      have h2 := hst.drift
      have hP := fun (W : World) (g k' gm km : Nat) (h1 : Lies W g 0 L) (h2 : LiesI W gm 0 l) => pPush_ok a b c g 0 k' gm 0 km n N L l W h1 h2 hst hN.symm
      have hD := fun (W : World) (g k' gm km : Nat) (h1 : Lies W g 0 L) (h2 : LiesI W gm 0 l) => pDrift_ok a b c g 0 k' gm 0 km n N L l W h1 h2 hst hN.symm
      rw [hLn] at hV
      have hq := fun (W : World) (h : LiesO W (some ⟨bl, off, none⟩) L) (h2 : LiesOI W (some ⟨pb, o, none⟩) l) => refPush_any a b c bl off cap pb o pc n L l W (lo_liesW h) (lo_liesIW h2) hst hn0 h48
      have hd := fun (W : World) (h : LiesO W (some ⟨bl, off, none⟩) L) (h2 : LiesOI W (some ⟨pb, o, none⟩) l) => refDrift_any a b c bl off cap pb o pc n L l W (lo_liesW h) (lo_liesIW h2) hst hn0 h48
      have hQ := fun (W : World) (h : LiesO W (some ⟨bl, off, none⟩) L) (h2 : LiesOI W (some ⟨pb, o, none⟩) l) => refPushO_ok a b c 0 0 (some ⟨bl, off, none⟩) (some ⟨pb, o, none⟩) n cap pc n n L [] l (psh (frc a b c L) l) W h h2 hV hq
      have hE := fun (W : World) (h : LiesO W (some ⟨bl, off, none⟩) L) (h2 : LiesOI W (some ⟨pb, o, none⟩) l) => refDriftO_ok a b c 0 0 (some ⟨bl, off, none⟩) (some ⟨pb, o, none⟩) n cap pc n n L (dft L l) l [] W h h2 hV hd
      have hF := fun (W : World) (g k1 g2 k2 : Nat) (h1 : Lies W g 0 (dft L l)) (h3 : Lies W g2 0 (dft L l)) => sameF_dec a b c g 0 k1 g2 0 k2 n _ _ W true h1 h3 h2.e h2.e (by omega) (decide_eq_true rfl).symm
      have hK := fun (W : World) (g k1 g2 k2 : Nat) (h3 : LiesI W g 0 (psh (frc a b c L) l)) (h2 : LiesI W g2 0 (psh (frc a b c L) l)) => sameK_some g 0 k1 g2 0 k2 n _ _ W true h3 h2 h1.m h1.m (by omega) (decide_eq_true rfl).symm
      rw [hLn] at hLg hCp hSo ⊢
      exact pushes_ok a b c 0 0 _ _ n cap pc n L _ l _ w hm hp (by omega) (by omega) h2.e h1.m h48 hLg hCp hCd hP hQ hD hE hF hK hSo hKo
    · have hP := fun (W : World) (g k gm km : Nat) (h1 : Lies W g 0 L) (h2 : LiesI W gm 0 l) => pPush_bad a b c r0 r (some ⟨g, 0, none⟩) (some ⟨gm, 0, none⟩) k km n L ns l W (.inr ⟨g, 0, rfl, h1⟩) (.inr ⟨gm, 0, rfl, h2⟩) hpl hr hv h0 (by omega)
      have hD := fun (W : World) (g k gm km : Nat) (h1 : Lies W g 0 L) (h2 : LiesI W gm 0 l) => pDrift_bad a b c r0 r (some ⟨g, 0, none⟩) (some ⟨gm, 0, none⟩) k km n L ns l W (.inr ⟨g, 0, rfl, h1⟩) (.inr ⟨gm, 0, rfl, h2⟩) hpl hr hv h0 (by omega)
      have hQ := fun (W : World) (h : LiesO W ao L) (h2 : LiesOI W po l) => refPushO_bad a b c r 0 ao po L.length cap pc n 0 L [] l [] W h h2 h0 hV
      have hE := fun (W : World) (h : LiesO W ao L) (h2 : LiesOI W po l) => refDriftO_bad a b c r 0 ao po L.length cap pc n 0 L [] l [] W h h2 h0 hV
      exact pushes_bad a b c r 0 ao po L.length cap pc n L [] l [] w hm hp hLg hCp hCd hP hQ hD hE (fun W => sameF_nil 0 0 0 none none 0 0 W) (fun W => sameK_nil none none 0 0 W) hSo hKo
  · exact pushes_long a b c 0 0 ao po L.length cap pc n L [] l [] w hm hp (fun W : World => long6_any a b c ao po cap pc L.length n true W (.inr ⟨by omega, rfl⟩))

/-! ### The statement of the law PathPushes, out of its walk -/
set_option maxRecDepth 100000 in
theorem pathPushes_lifted (os : Os) (started : os.Started) (H : Type) (enc : TypeId × Value → H) :
    ReturnsInHanded {} Tryz.checked os 3 .any (Rows.pathPushesSpec.pre6 enc Tryz.prog Tryz.f3 Rows.pathPushesRow.domain false) (Rows.pathPushesSpec.post enc Tryz.prog Tryz.f3 false true false false) := by
  refine returnsInHanded_of_change (C := Tryz.checked) own started (by kernel_rfl) Tryz.func3
    (ChangeSpec.witness6 (enc := enc) (C := Tryz.checked) false ⟨#[], #[.agg #[.int .i64 0, .int .i64 0, .int .i64 0, .slice none 0 0], .slice none 0 0], []⟩ 8 (by kernel_rfl) (by kernel_rfl) (by kernel_rfl) (by kernel_rfl)) ?_
  intro W base args ds gs before hval0 hW hcnd _
  have hval : ∀ (j : Nat) t v, Tryz.f3.params[j]? = some t → args[j]? = some v → Value.okWide Tryz.prog W .any base t v := hval0
  have hW' := hW
  obtain ⟨p, q, hA0, hV, rfl, hfz, hnd⟩ := hW
  have hA : DataW.TrodAll enc Tryz.prog W 0 (fun _ => true) true Tryz.f3.params.toList args.toList ds p := hA0
  rw [Tryz.params3] at hA hval
  obtain ⟨v0, vs0, d0, ds0, p0, q0, hargs, rfl, rfl, h0, r0⟩ := trodAll_cons hA
  obtain ⟨v1, vs1, d1, ds1, p1, q1, rfl, rfl, rfl, h1, r1⟩ := trodAll_cons r0
  obtain ⟨rfl, rfl, rfl⟩ := trodAll_nil r1
  obtain rfl : args = #[v0, v1] := by cases args; simp_all
  obtain ⟨rfl, rfl⟩ := trodVars_none hV
  have k0 := h0
  have lt0 : ∀ x ∈ p0, x.block < W.heap.size := by obtain ⟨m, hm⟩ := k0; exact DataW.trod_lt m _ _ _ hm
  obtain ⟨x0, y0, z0, ao0, L0, cap0, rfl, hl0, hm0, hnil0⟩ := open_fieldN (hval 0 25 v0 rfl rfl) h0
  have k1 := h1
  have lt1 : ∀ x ∈ p1, x.block < W.heap.size := by obtain ⟨m, hm⟩ := k1; exact DataW.trod_lt m _ _ _ hm
  obtain ⟨po1, l1, n1, pc1, rfl, hkl1, hkn1, hkc1, hkm1, hkz1⟩ := open_kicks (hval 1 26 v1 rfl rfl) h1
  clear hA0 hval0
  refine (pathPushes_walk x0 y0 z0 ao0 L0 cap0 po1 l1 n1 pc1 W hl0 hm0 hnil0 hkl1 hkn1 hkc1 hkm1 hkz1).mono fun e W' ⟨he, bel⟩ => ?_
  subst he
  exact ⟨_, rfl, _, _, _, [], _, [], hW', trodAll_mk1 (shut_bool Tryz.underlying4 _), (trodAll_cons_mk (Below.trod laidOut (by kernel_rfl) (of_decide_eq_true (by kernel_rfl)) k0 bel lt0) (trodAll_cons_mk (Below.trod laidOut (by kernel_rfl) (of_decide_eq_true (by kernel_rfl)) k1 bel lt1) trodAll_mk0)), rfl, bel.frame _, fun h => by cases h⟩

theorem pathPushes_jf9 : (Rows.pathPushesRow.inPlace == Tryz.prog.inPlace 3) = true := by kernel_rfl
theorem pathPushes_jf10 : (Rows.pathPushesRow.unfollowed == Tryz.prog.unfollowed 3) = true := by kernel_rfl
theorem pathPushes_jf11 : (Rows.pathPushesRow.recurses == Tryz.prog.recurses 3) = true := by kernel_rfl
theorem pathPushes_jf12 : (Rows.pathPushesRow.named == Tryz.prog.varsNamed 3) = true := by kernel_rfl
theorem pathPushes_facts : joinedFacts Tryz.prog 3 Tryz.f3 Rows.pathPushesSpec Rows.pathPushesRow = true := by
  unfold joinedFacts
  exact (band (band (band (band (band (band (band (band (band (band (band (band (band (band (band (band (band (band (band (band (band (band (band (band (band (band (band (band (band (band (band (by kernel_rfl) jf1) jf2) (by kernel_rfl)) (by kernel_rfl)) (by kernel_rfl)) jf6) (by kernel_rfl)) jf8) pathPushes_jf9) pathPushes_jf10) pathPushes_jf11) pathPushes_jf12) (by kernel_rfl)) (by kernel_rfl)) (by kernel_rfl)) (by kernel_rfl)) (by kernel_rfl)) (by kernel_rfl)) (by kernel_rfl)) (by kernel_rfl)) (by kernel_rfl)) (by kernel_rfl)) (by kernel_rfl)) jf24) jf25) jf26) jf27) (by kernel_rfl)) (by kernel_rfl)) (by kernel_rfl)) (by kernel_rfl))

theorem pathPushes_over : Rows.pathPushesRow.holds Tryz.pinned (OpenSpec.ofChange Rows.pathPushesSpec) :=
  OpenClaim.holds_of_wide 3 Tryz.f3 rfl rfl rfl rfl rfl rfl rfl ⟨rfl, rfl, rfl, rfl, rfl⟩ rfl rfl rfl rfl rfl (by kernel_rfl) Tryz.func3 pathPushes_facts
    (of_decide_eq_true (by kernel_rfl)) (by unfold Func.isWrapper; first | (rw [if_pos (by decide +kernel)]; kernel_rfl) | (rw [if_neg (by decide +kernel)]; exact ⟨rfl, rfl⟩))
    (fun os started H enc _ => pathPushes_lifted os started H enc)

theorem pathPushes_holds : Rows.PathPushesSaid := pathPushes_over
#print axioms pathPushes_holds

end Go.Proofs.YtilbhcjnkmeecaaGreat
