/- PathRuns: any number of steps is what the document says, in new memory, for all fields, lists and numbers.
Conditions: none. -/
import Derived.Test.YtilbhcjnkmeecaaGreatKzM
import Derived.Test.YtilbhcjnkmeecaaGreatKsP
import Derived.Test.YtilbhcjnkmeecaaGreatWbM
import Derived.Test.YtilbhcjnkmeecaaGreatSamF
import Derived.Test.YtilbhcjnkmeecaaGreatSane6
import Derived.Test.YtilbhcjnkmeecaaGreatLawValK
import Derived.Test.YtilbhcjnkmeecaaGreatOpenKA
import Derived.Test.YtilbhcjnkmeecaaGreatJFacts
namespace Go.Proofs.YtilbhcjnkmeecaaGreat
set_option linter.unusedVariables false
set_option linter.unusedSimpArgs false
set_option maxRecDepth 1000000
open Go.ChangeShapes Go.WideShapes Go.ChangeAt Go.RowKit
open Um Tm Cm Km

set_option maxHeartbeats 12800000 in
theorem runs_long (a b c r x : Int) (ao po : Option Addr) (m cap pc n : Nat) (L L1 : List Q) (l l1 : List Int) (w : World) (hm : LiesO w ao L) (hp : LiesOI w po l)
    (hLg : ∀ W : World, Calls Tryz.prog 8 #[.agg #[.int .i64 a, .int .i64 b, .int .i64 c, .slice ao m cap], .slice po n pc] W fun e w' => e = .returned (.bool true) ∧ Below W.heap.size W w')
    : Calls Tryz.prog 5 #[.agg #[.int .i64 a, .int .i64 b, .int .i64 c, .slice ao m cap], .slice po n pc, .int .i64 x] w fun e w' => e = .returned (.bool true) ∧ Below w.heap.size w w' := by
  have kn := known6_any
  have H0 := Lib.hid hm
  have HP0 := Lib.hid hp
  clear hm hp
  go_enter Tryz.func5, Tryz.ntmps5
  go_wp2_with (fail)
  refine (hLg _).mono ?_
  rintro e w1 ⟨rfl, hw1⟩
  have bw1 : Below w.heap.size w w1 := bel1 hw1
  have TF1 := Lib.hid (FW.n1.later hw1)
  have H1 := Lib.hid (H0.out.later bw1)
  have HP1 := Lib.hid (HP0.out.later bw1)
  have HB1 := Lib.hid bw1
  clear hw1 bw1 H0 HP0
  obtain ⟨tf1_0, tf1_1, tf1_2, tf1_3, tf1_4, tf1_5⟩ := TF1.out
  go_wp2_with (fail)
  refine (kn _).mono ?_
  rintro e w2 ⟨rfl, hw2⟩
  clear tf1_0 tf1_1 tf1_2 tf1_3 tf1_4 tf1_5
  have bw2 : Below w1.heap.size w1 w2 := hw2
  have H2 := Lib.hid (H1.out.later bw2)
  have HP2 := Lib.hid (HP1.out.later bw2)
  have TF2 := Lib.hid (TF1.out.later bw2)
  have HB2 := Lib.hid (HB1.out.trans (bw2.mono HB1.out.size))
  clear hw2 bw2 H1 HP1 TF1 HB1
  go_wp2_with (fail)
  go_ret
  exact ⟨rfl, HB2.out⟩

set_option maxHeartbeats 12800000 in
theorem runs_bad (a b c r x : Int) (ao po : Option Addr) (m cap pc n : Nat) (L L1 : List Q) (l l1 : List Int) (w : World) (hm : LiesO w ao L) (hp : LiesOI w po l)
    (hLg : ∀ W : World, Calls Tryz.prog 8 #[.agg #[.int .i64 a, .int .i64 b, .int .i64 c, .slice ao m cap], .slice po n pc] W fun e w' => e = .returned (.bool false) ∧ Below W.heap.size W w')
    (hCp : ∀ W : World, LiesO W ao L → Calls Tryz.prog 10 #[.agg #[.int .i64 a, .int .i64 b, .int .i64 c, .slice ao m cap]] W fun e w' => (∃ g k : Nat, e = .returned (.agg #[.int .i64 a, .int .i64 b, .int .i64 c, .slice (some ⟨g, 0, none⟩) m k]) ∧ Lies w' g 0 L) ∧ Below W.heap.size W w')
    (hCd : ∀ W : World, LiesOI W po l → Calls Tryz.prog 11 #[.slice po n pc] W fun e w' => (∃ g k : Nat, e = .returned (.slice (some ⟨g, 0, none⟩) n k) ∧ LiesI w' g 0 l) ∧ Below W.heap.size W w')
    (hR : ∀ (W : World) (g k gm km : Nat), Lies W g 0 L → LiesI W gm 0 l → Calls Tryz.prog 20 #[.agg #[.int .i64 a, .int .i64 b, .int .i64 c, .slice (some ⟨g, 0, none⟩) m k], .slice (some ⟨gm, 0, none⟩) n km, .int .i64 x] W fun e w' => e = .returned (.tuple #[.agg #[.int .i64 0, .int .i64 0, .int .i64 0, .slice none 0 0], .slice none 0 0, .int .i64 r]) ∧ Below W.heap.size W w')
    (hQ : ∀ W : World, LiesO W ao L → LiesOI W po l → Calls Tryz.prog 21 #[.agg #[.int .i64 a, .int .i64 b, .int .i64 c, .slice ao m cap], .slice po n pc, .int .i64 x] W fun e w' => e = .returned (.tuple #[.agg #[.int .i64 0, .int .i64 0, .int .i64 0, .slice none 0 0], .slice none 0 0, .int .i64 r]) ∧ Below W.heap.size W w')
    (hF : ∀ W : World, Calls Tryz.prog 17 #[.agg #[.int .i64 0, .int .i64 0, .int .i64 0, .slice none 0 0], .agg #[.int .i64 0, .int .i64 0, .int .i64 0, .slice none 0 0]] W fun e w' => e = .returned (.bool true) ∧ Below W.heap.size W w')
    (hK : ∀ W : World, Calls Tryz.prog 16 #[.slice none 0 0, .slice none 0 0] W fun e w' => e = .returned (.bool true) ∧ Below W.heap.size W w')
    (hSo : ∀ (W : World) (g k : Nat), Lies W g 0 L → LiesO W ao L → Calls Tryz.prog 17 #[.agg #[.int .i64 a, .int .i64 b, .int .i64 c, .slice (some ⟨g, 0, none⟩) m k], .agg #[.int .i64 a, .int .i64 b, .int .i64 c, .slice ao m cap]] W fun e w' => e = .returned (.bool true) ∧ Below W.heap.size W w')
    (hKo : ∀ (W : World) (g k : Nat), LiesI W g 0 l → LiesOI W po l → Calls Tryz.prog 16 #[.slice (some ⟨g, 0, none⟩) n k, .slice po n pc] W fun e w' => e = .returned (.bool true) ∧ Below W.heap.size W w')
    : Calls Tryz.prog 5 #[.agg #[.int .i64 a, .int .i64 b, .int .i64 c, .slice ao m cap], .slice po n pc, .int .i64 x] w fun e w' => e = .returned (.bool true) ∧ Below w.heap.size w w' := by
  have rr : (r == r) = true := by simp
  have kn := known6_any
  have H0 := Lib.hid hm
  have HP0 := Lib.hid hp
  clear hm hp
  go_enter Tryz.func5, Tryz.ntmps5
  go_wp2_with (fail)
  refine (hLg _).mono ?_
  rintro e w1 ⟨rfl, hw1⟩
  have bw1 : Below w.heap.size w w1 := bel1 hw1
  have TF1 := Lib.hid (FW.n1.later hw1)
  have H1 := Lib.hid (H0.out.later bw1)
  have HP1 := Lib.hid (HP0.out.later bw1)
  have HB1 := Lib.hid bw1
  clear hw1 bw1 H0 HP0
  obtain ⟨tf1_0, tf1_1, tf1_2, tf1_3, tf1_4, tf1_5⟩ := TF1.out
  go_wp2_with (fail)
  refine (hCp _ (H1.out)).mono ?_
  rintro e w2 ⟨⟨g1, k1, rfl, hl1⟩, hw2⟩
  clear tf1_0 tf1_1 tf1_2 tf1_3 tf1_4 tf1_5
  have bw2 : Below w1.heap.size w1 w2 := hw2
  have H2 := Lib.hid (H1.out.later bw2)
  have HP2 := Lib.hid (HP1.out.later bw2)
  have TF2 := Lib.hid (TF1.out.later bw2)
  have HB2 := Lib.hid (HB1.out.trans (bw2.mono HB1.out.size))
  have LO2 := Lib.hid hl1
  clear hl1
  clear hw2 bw2 H1 HP1 TF1 HB1
  go_wp2_with (fail)
  refine (hCd _ (HP2.out)).mono ?_
  rintro e w3 ⟨⟨g2, k2, rfl, hi2⟩, hw3⟩
  have bw3 : Below w2.heap.size w2 w3 := hw3
  have H3 := Lib.hid (H2.out.later bw3)
  have HP3 := Lib.hid (HP2.out.later bw3)
  have TF3 := Lib.hid (TF2.out.later bw3)
  have LO3 := Lib.hid (LO2.out.later bw3)
  have HB3 := Lib.hid (HB2.out.trans (bw3.mono HB2.out.size))
  have KO3 := Lib.hid hi2
  clear hi2
  clear hw3 bw3 H2 HP2 TF2 LO2 HB2
  obtain ⟨tf3_0, tf3_1, tf3_2, tf3_3, tf3_4, tf3_5⟩ := TF3.out
  go_wp2_with (fail)
  refine (hR _ _ _ _ _ (LO3.out.later ba1) (KO3.out.later ba1)).mono ?_
  rintro e w4 ⟨rfl, hw4⟩
  clear tf3_0 tf3_1 tf3_2 tf3_3 tf3_4 tf3_5
  have bw4 : Below w3.heap.size w3 w4 := bel1 hw4
  have TO4 := Lib.hid (FW.n1.later hw4)
  have H4 := Lib.hid (H3.out.later bw4)
  have HP4 := Lib.hid (HP3.out.later bw4)
  have TF4 := Lib.hid (TF3.out.later bw4)
  have LO4 := Lib.hid (LO3.out.later bw4)
  have KO4 := Lib.hid (KO3.out.later bw4)
  have HB4 := Lib.hid (HB3.out.trans (bw4.mono HB3.out.size))
  clear hw4 bw4 H3 HP3 TF3 LO3 KO3 HB3
  obtain ⟨tf4_0, tf4_1, tf4_2, tf4_3, tf4_4, tf4_5⟩ := TF4.out
  go_wp2_with (fail)
  refine (hQ _ (H4.out.later ba1) (HP4.out.later ba1)).mono ?_
  rintro e w5 ⟨rfl, hw5⟩
  clear tf4_0 tf4_1 tf4_2 tf4_3 tf4_4 tf4_5
  have bw5 : Below w4.heap.size w4 w5 := bel1 hw5
  have TA5 := Lib.hid (FW.n1.later hw5)
  have H5 := Lib.hid (H4.out.later bw5)
  have HP5 := Lib.hid (HP4.out.later bw5)
  have TF5 := Lib.hid (TF4.out.later bw5)
  have LO5 := Lib.hid (LO4.out.later bw5)
  have KO5 := Lib.hid (KO4.out.later bw5)
  have TO5 := Lib.hid (TO4.out.later bw5)
  have HB5 := Lib.hid (HB4.out.trans (bw5.mono HB4.out.size))
  clear hw5 bw5 H4 HP4 TF4 LO4 KO4 TO4 HB4
  obtain ⟨ta5_0, ta5_1, ta5_2, ta5_3, ta5_4, ta5_5⟩ := TA5.out
  go_wp2_with (fail)
  refine (hF _).mono ?_
  rintro e w6 ⟨rfl, hw6⟩
  clear ta5_0 ta5_1 ta5_2 ta5_3 ta5_4 ta5_5
  have bw6 : Below w5.heap.size w5 w6 := bel1 hw6
  have TC6 := Lib.hid (FW.n1.later hw6)
  have H6 := Lib.hid (H5.out.later bw6)
  have HP6 := Lib.hid (HP5.out.later bw6)
  have TF6 := Lib.hid (TF5.out.later bw6)
  have LO6 := Lib.hid (LO5.out.later bw6)
  have KO6 := Lib.hid (KO5.out.later bw6)
  have TO6 := Lib.hid (TO5.out.later bw6)
  have TA6 := Lib.hid (TA5.out.later bw6)
  have HB6 := Lib.hid (HB5.out.trans (bw6.mono HB5.out.size))
  clear hw6 bw6 H5 HP5 TF5 LO5 KO5 TO5 TA5 HB5
  go_wp2_with (fail)
  refine (hK _).mono ?_
  rintro e w7 ⟨rfl, hw7⟩
  have bw7 : Below w6.heap.size w6 w7 := hw7
  have H7 := Lib.hid (H6.out.later bw7)
  have HP7 := Lib.hid (HP6.out.later bw7)
  have TF7 := Lib.hid (TF6.out.later bw7)
  have LO7 := Lib.hid (LO6.out.later bw7)
  have KO7 := Lib.hid (KO6.out.later bw7)
  have TO7 := Lib.hid (TO6.out.later bw7)
  have TA7 := Lib.hid (TA6.out.later bw7)
  have TC7 := Lib.hid (TC6.out.later bw7)
  have HB7 := Lib.hid (HB6.out.trans (bw7.mono HB6.out.size))
  clear hw7 bw7 H6 HP6 TF6 LO6 KO6 TO6 TA6 TC6 HB6
  obtain ⟨tf7_0, tf7_1, tf7_2, tf7_3, tf7_4, tf7_5⟩ := TF7.out
  obtain ⟨to7_0, to7_1, to7_2, to7_3, to7_4, to7_5⟩ := TO7.out
  obtain ⟨ta7_0, ta7_1, ta7_2, ta7_3, ta7_4, ta7_5⟩ := TA7.out
  go_wp2_with (fail)
  refine wp_loop_rounds 1 ?_
  rw [rounds_succ]
  go_wp2_with (fail)
  refine wp_loop_rounds 1 ?_
  rw [rounds_succ]
  go_wp2_with (fail)
  refine (hSo _ _ _ (LO7.out) (H7.out)).mono ?_
  rintro e w8 ⟨rfl, hw8⟩
  clear tf7_0 tf7_1 tf7_2 tf7_3 tf7_4 tf7_5 to7_0 to7_1 to7_2 to7_3 to7_4 to7_5 ta7_0 ta7_1 ta7_2 ta7_3 ta7_4 ta7_5
  have bw8 : Below w7.heap.size w7 w8 := hw8
  have H8 := Lib.hid (H7.out.later bw8)
  have HP8 := Lib.hid (HP7.out.later bw8)
  have TF8 := Lib.hid (TF7.out.later bw8)
  have LO8 := Lib.hid (LO7.out.later bw8)
  have KO8 := Lib.hid (KO7.out.later bw8)
  have TO8 := Lib.hid (TO7.out.later bw8)
  have TA8 := Lib.hid (TA7.out.later bw8)
  have TC8 := Lib.hid (TC7.out.later bw8)
  have HB8 := Lib.hid (HB7.out.trans (bw8.mono HB7.out.size))
  clear hw8 bw8 H7 HP7 TF7 LO7 KO7 TO7 TA7 TC7 HB7
  go_wp2_with (fail)
  refine (hKo _ _ _ (KO8.out) (HP8.out)).mono ?_
  rintro e w9 ⟨rfl, hw9⟩
  have bw9 : Below w8.heap.size w8 w9 := hw9
  have H9 := Lib.hid (H8.out.later bw9)
  have HP9 := Lib.hid (HP8.out.later bw9)
  have TF9 := Lib.hid (TF8.out.later bw9)
  have LO9 := Lib.hid (LO8.out.later bw9)
  have KO9 := Lib.hid (KO8.out.later bw9)
  have TO9 := Lib.hid (TO8.out.later bw9)
  have TA9 := Lib.hid (TA8.out.later bw9)
  have TC9 := Lib.hid (TC8.out.later bw9)
  have HB9 := Lib.hid (HB8.out.trans (bw9.mono HB8.out.size))
  clear hw9 bw9 H8 HP8 TF8 LO8 KO8 TO8 TA8 TC8 HB8
  go_wp2_with (fail)
  refine (kn _).mono ?_
  rintro e w10 ⟨rfl, hw10⟩
  have bw10 : Below w9.heap.size w9 w10 := hw10
  have H10 := Lib.hid (H9.out.later bw10)
  have HP10 := Lib.hid (HP9.out.later bw10)
  have TF10 := Lib.hid (TF9.out.later bw10)
  have LO10 := Lib.hid (LO9.out.later bw10)
  have KO10 := Lib.hid (KO9.out.later bw10)
  have TO10 := Lib.hid (TO9.out.later bw10)
  have TA10 := Lib.hid (TA9.out.later bw10)
  have TC10 := Lib.hid (TC9.out.later bw10)
  have HB10 := Lib.hid (HB9.out.trans (bw10.mono HB9.out.size))
  clear hw10 bw10 H9 HP9 TF9 LO9 KO9 TO9 TA9 TC9 HB9
  go_wp2_with (fail)
  go_ret
  exact ⟨rfl, HB10.out⟩

set_option maxHeartbeats 12800000 in
theorem runs_ok (a b c r x : Int) (ao po : Option Addr) (m cap pc n : Nat) (L L1 : List Q) (l l1 : List Int) (w : World) (hm : LiesO w ao L) (hp : LiesOI w po l) (hL : 0 < L.length) (hl : 0 < l.length) (hn1 : L1.length = n) (hn2 : l1.length = n * 3) (hn48 : n ≤ 48)
    (hLg : ∀ W : World, Calls Tryz.prog 8 #[.agg #[.int .i64 a, .int .i64 b, .int .i64 c, .slice ao m cap], .slice po n pc] W fun e w' => e = .returned (.bool false) ∧ Below W.heap.size W w')
    (hCp : ∀ W : World, LiesO W ao L → Calls Tryz.prog 10 #[.agg #[.int .i64 a, .int .i64 b, .int .i64 c, .slice ao m cap]] W fun e w' => (∃ g k : Nat, e = .returned (.agg #[.int .i64 a, .int .i64 b, .int .i64 c, .slice (some ⟨g, 0, none⟩) m k]) ∧ Lies w' g 0 L) ∧ Below W.heap.size W w')
    (hCd : ∀ W : World, LiesOI W po l → Calls Tryz.prog 11 #[.slice po n pc] W fun e w' => (∃ g k : Nat, e = .returned (.slice (some ⟨g, 0, none⟩) n k) ∧ LiesI w' g 0 l) ∧ Below W.heap.size W w')
    (hR : ∀ (W : World) (g k gm km : Nat), Lies W g 0 L → LiesI W gm 0 l → Calls Tryz.prog 20 #[.agg #[.int .i64 a, .int .i64 b, .int .i64 c, .slice (some ⟨g, 0, none⟩) m k], .slice (some ⟨gm, 0, none⟩) n km, .int .i64 x] W fun e w' => RetRun a b c n W.heap.size (L1, l1) e w' ∧ Below W.heap.size W w')
    (hQ : ∀ W : World, LiesO W ao L → LiesOI W po l → Calls Tryz.prog 21 #[.agg #[.int .i64 a, .int .i64 b, .int .i64 c, .slice ao m cap], .slice po n pc, .int .i64 x] W fun e w' => RetSE a b c W.heap.size n (L1, l1) e w' ∧ Below W.heap.size W w')
    (hF : ∀ (W : World) (g k g2 k2 : Nat), Lies W g 0 L1 → Lies W g2 0 L1 → Calls Tryz.prog 17 #[.agg #[.int .i64 a, .int .i64 b, .int .i64 c, .slice (some ⟨g, 0, none⟩) n k], .agg #[.int .i64 a, .int .i64 b, .int .i64 c, .slice (some ⟨g2, 0, none⟩) n k2]] W fun e w' => e = .returned (.bool true) ∧ Below W.heap.size W w')
    (hK : ∀ (W : World) (g k g2 k2 : Nat), LiesI W g 0 l1 → LiesI W g2 0 l1 → Calls Tryz.prog 16 #[.slice (some ⟨g, 0, none⟩) n k, .slice (some ⟨g2, 0, none⟩) n k2] W fun e w' => e = .returned (.bool true) ∧ Below W.heap.size W w')
    (hSo : ∀ (W : World) (g k : Nat), Lies W g 0 L → LiesO W ao L → Calls Tryz.prog 17 #[.agg #[.int .i64 a, .int .i64 b, .int .i64 c, .slice (some ⟨g, 0, none⟩) m k], .agg #[.int .i64 a, .int .i64 b, .int .i64 c, .slice ao m cap]] W fun e w' => e = .returned (.bool true) ∧ Below W.heap.size W w')
    (hKo : ∀ (W : World) (g k : Nat), LiesI W g 0 l → LiesOI W po l → Calls Tryz.prog 16 #[.slice (some ⟨g, 0, none⟩) n k, .slice po n pc] W fun e w' => e = .returned (.bool true) ∧ Below W.heap.size W w')
    : Calls Tryz.prog 5 #[.agg #[.int .i64 a, .int .i64 b, .int .i64 c, .slice ao m cap], .slice po n pc, .int .i64 x] w fun e w' => e = .returned (.bool true) ∧ Below w.heap.size w w' := by
  have HH := Lib.hid hm
  have HHP := Lib.hid hp
  have kn := known6_any
  have H0 := Lib.hid hm
  have HP0 := Lib.hid hp
  clear hm hp
  go_enter Tryz.func5, Tryz.ntmps5
  go_wp2_with (fail)
  refine (hLg _).mono ?_
  rintro e w1 ⟨rfl, hw1⟩
  have bw1 : Below w.heap.size w w1 := bel1 hw1
  have TF1 := Lib.hid (FW.n1.later hw1)
  have H1 := Lib.hid (H0.out.later bw1)
  have HP1 := Lib.hid (HP0.out.later bw1)
  have HB1 := Lib.hid bw1
  clear hw1 bw1 H0 HP0
  obtain ⟨tf1_0, tf1_1, tf1_2, tf1_3, tf1_4, tf1_5⟩ := TF1.out
  go_wp2_with (fail)
  refine (hCp _ (H1.out)).mono ?_
  rintro e w2 ⟨⟨g1, k1, rfl, hl1⟩, hw2⟩
  clear tf1_0 tf1_1 tf1_2 tf1_3 tf1_4 tf1_5
  have bw2 : Below w1.heap.size w1 w2 := hw2
  have H2 := Lib.hid (H1.out.later bw2)
  have HP2 := Lib.hid (HP1.out.later bw2)
  have TF2 := Lib.hid (TF1.out.later bw2)
  have HB2 := Lib.hid (HB1.out.trans (bw2.mono HB1.out.size))
  have LO2 := Lib.hid hl1
  clear hl1
  clear hw2 bw2 H1 HP1 TF1 HB1
  go_wp2_with (fail)
  refine (hCd _ (HP2.out)).mono ?_
  rintro e w3 ⟨⟨g2, k2, rfl, hi2⟩, hw3⟩
  have bw3 : Below w2.heap.size w2 w3 := hw3
  have H3 := Lib.hid (H2.out.later bw3)
  have HP3 := Lib.hid (HP2.out.later bw3)
  have TF3 := Lib.hid (TF2.out.later bw3)
  have LO3 := Lib.hid (LO2.out.later bw3)
  have HB3 := Lib.hid (HB2.out.trans (bw3.mono HB2.out.size))
  have KO3 := Lib.hid hi2
  clear hi2
  clear hw3 bw3 H2 HP2 TF2 LO2 HB2
  obtain ⟨tf3_0, tf3_1, tf3_2, tf3_3, tf3_4, tf3_5⟩ := TF3.out
  go_wp2_with (fail)
  refine (hR _ _ _ _ _ (LO3.out.later ba1) (KO3.out.later ba1)).mono ?_
  rintro e w4 ⟨⟨g3, k3, m3, j3, rfl, hb3, hi3, hg3, hm3, hgm⟩, hw4⟩
  have z1 : g1 < w3.heap.size := by have h0 := World.block_lt_of_cell? _ _ (LO3.out 0 _ (List.getElem?_eq_getElem hL)).1; simpa using h0
  have z2 : g2 < w3.heap.size := by have h0 := World.block_lt_of_cell? _ _ (KO3.out 0 _ (List.getElem?_eq_getElem hl)); simpa using h0
  have z3 : w.heap.size < w3.heap.size := TF3.out.lt
  have z4 : w3.heap.size < g3 := by simp at hg3; omega
  have z5 : w3.heap.size < m3 := by simp at hm3; omega
  clear tf3_0 tf3_1 tf3_2 tf3_3 tf3_4 tf3_5
  have bw4 : Below w3.heap.size w3 w4 := bel1 hw4
  have TO4 := Lib.hid (FW.n1.later hw4)
  have H4 := Lib.hid (H3.out.later bw4)
  have HP4 := Lib.hid (HP3.out.later bw4)
  have TF4 := Lib.hid (TF3.out.later bw4)
  have LO4 := Lib.hid (LO3.out.later bw4)
  have KO4 := Lib.hid (KO3.out.later bw4)
  have HB4 := Lib.hid (HB3.out.trans (bw4.mono HB3.out.size))
  have BA4 := Lib.hid hb3
  clear hb3
  have IA4 := Lib.hid hi3
  clear hi3
  clear hw4 bw4 H3 HP3 TF3 LO3 KO3 HB3
  obtain ⟨tf4_0, tf4_1, tf4_2, tf4_3, tf4_4, tf4_5⟩ := TF4.out
  go_wp2_with (fail)
  refine (hQ _ (H4.out.later ba1) (HP4.out.later ba1)).mono ?_
  rintro e w5 ⟨⟨g4, k4, m4, j4, rfl, hb4, hi4, -, -⟩, hw5⟩
  have z6 : g3 < w4.heap.size := BA4.out.lt
  have z7 : m3 < w4.heap.size := IA4.out.lt
  clear tf4_0 tf4_1 tf4_2 tf4_3 tf4_4 tf4_5
  have bw5 : Below w4.heap.size w4 w5 := bel1 hw5
  have TA5 := Lib.hid (FW.n1.later hw5)
  have H5 := Lib.hid (H4.out.later bw5)
  have HP5 := Lib.hid (HP4.out.later bw5)
  have TF5 := Lib.hid (TF4.out.later bw5)
  have LO5 := Lib.hid (LO4.out.later bw5)
  have KO5 := Lib.hid (KO4.out.later bw5)
  have TO5 := Lib.hid (TO4.out.later bw5)
  have BA5 := Lib.hid (BA4.out.later bw5)
  have IA5 := Lib.hid (IA4.out.later bw5)
  have HB5 := Lib.hid (HB4.out.trans (bw5.mono HB4.out.size))
  have LC5 := Lib.hid hb4
  clear hb4
  have IC5 := Lib.hid hi4
  clear hi4
  clear hw5 bw5 H4 HP4 TF4 LO4 KO4 TO4 BA4 IA4 HB4
  obtain ⟨ta5_0, ta5_1, ta5_2, ta5_3, ta5_4, ta5_5⟩ := TA5.out
  go_wp2_with (fail)
  refine (hF _ _ _ _ _ (BA5.out.later ba1).h (LC5.out.later ba1)).mono ?_
  rintro e w6 ⟨rfl, hw6⟩
  clear ta5_0 ta5_1 ta5_2 ta5_3 ta5_4 ta5_5
  have bw6 : Below w5.heap.size w5 w6 := bel1 hw6
  have TC6 := Lib.hid (FW.n1.later hw6)
  have H6 := Lib.hid (H5.out.later bw6)
  have HP6 := Lib.hid (HP5.out.later bw6)
  have TF6 := Lib.hid (TF5.out.later bw6)
  have LO6 := Lib.hid (LO5.out.later bw6)
  have KO6 := Lib.hid (KO5.out.later bw6)
  have TO6 := Lib.hid (TO5.out.later bw6)
  have BA6 := Lib.hid (BA5.out.later bw6)
  have IA6 := Lib.hid (IA5.out.later bw6)
  have TA6 := Lib.hid (TA5.out.later bw6)
  have LC6 := Lib.hid (LC5.out.later bw6)
  have IC6 := Lib.hid (IC5.out.later bw6)
  have HB6 := Lib.hid (HB5.out.trans (bw6.mono HB5.out.size))
  clear hw6 bw6 H5 HP5 TF5 LO5 KO5 TO5 BA5 IA5 TA5 LC5 IC5 HB5
  go_wp2_with (fail)
  refine (hK _ _ _ _ _ (IA6.out).h (IC6.out)).mono ?_
  rintro e w7 ⟨rfl, hw7⟩
  have bw7 : Below w6.heap.size w6 w7 := hw7
  have H7 := Lib.hid (H6.out.later bw7)
  have HP7 := Lib.hid (HP6.out.later bw7)
  have TF7 := Lib.hid (TF6.out.later bw7)
  have LO7 := Lib.hid (LO6.out.later bw7)
  have KO7 := Lib.hid (KO6.out.later bw7)
  have TO7 := Lib.hid (TO6.out.later bw7)
  have BA7 := Lib.hid (BA6.out.later bw7)
  have IA7 := Lib.hid (IA6.out.later bw7)
  have TA7 := Lib.hid (TA6.out.later bw7)
  have LC7 := Lib.hid (LC6.out.later bw7)
  have IC7 := Lib.hid (IC6.out.later bw7)
  have TC7 := Lib.hid (TC6.out.later bw7)
  have HB7 := Lib.hid (HB6.out.trans (bw7.mono HB6.out.size))
  clear hw7 bw7 H6 HP6 TF6 LO6 KO6 TO6 BA6 IA6 TA6 LC6 IC6 TC6 HB6
  obtain ⟨ta7_0, ta7_1, ta7_2, ta7_3, ta7_4, ta7_5⟩ := TA7.out
  go_wp2_with (fail)
  have WL7 : Hid (WB w7 g3 (n * 5)) := Lib.hid (by have := BA7.out.wb; rwa [hn1] at this)
  have WK7 : Hid (WB w7 m3 (n * 3)) := Lib.hid (by have := IA7.out.wb; rwa [hn2] at this)
  clear BA7
  clear IA7
  clear LC7
  clear IC7
  clear TC7
  clear ta7_0 ta7_1 ta7_2 ta7_3 ta7_4 ta7_5
  have G0 : Hid (w7.grownBy w7 (some g3)) := Lib.hid ⟨rfl, rfl, rfl, Nat.le_refl _, fun _ _ _ => rfl⟩
  go_loopw [16] (fun q wr => ∃ k : Nat, k ≤ n ∧ q = .int .i64 k ∧ Hid (w7.grownBy wr (some g3)) ∧ Hid (WB wr g3 (n * 5))) (fun q _ => n - (intOf q).toNat)
  case atStart => exact ⟨0, by omega, rfl, G0, WL7⟩
  case round =>
    obtain ⟨k, hk, rfl, hG, hW⟩ := hrel
    clear G0
    obtain ⟨f0, f1, f2, f3, ff, fl⟩ := TA7.out.grown hG.out (by simp; omega)
    by_cases hlt : k < n
    · have i1 : (k : Int) < (n : Int) := by omega
      have hwl := hW.out.lt
      obtain ⟨v4, hv4⟩ := hW.out.c (k * 5 + 4) (by omega)
      have wf := hW.out.free
      have G1 := Lib.hid (hG.out.trans (grown_setCell wr ⟨g3, k * 5 + 4, none⟩ (.int .i64 (-1))))
      have W1 := Lib.hid (hW.out.put (k * 5 + 4) (.int .i64 (-1)))
      clear hG hW
      go_wp2_with (fail)
      exact ⟨⟨k + 1, by omega, by go_num, G1, W1⟩, by simp [intOf]; omega⟩
    · obtain rfl : n = k := by omega
      rename World => w8
      have hg := hG.out
      have s8 := hg.size
      clear WL7
      have HB8 := Lib.hid (HB7.out.grown hg HB7.out.size (fun j hj => by simp at hj; omega))
      have H8 := Lib.hid (HH.out.later HB8.out)
      have HP8 := Lib.hid (HHP.out.later HB8.out)
      have TF8 := Lib.hid (TF7.out.grown hg (by simp; omega))
      have LO8 := Lib.hid (lies_grown LO7.out hg (by simp; omega))
      have KO8 := Lib.hid (LiesI.grown KO7.out hg (by simp; omega))
      have TO8 := Lib.hid (TO7.out.grown hg (by simp; omega))
      have TA8 := Lib.hid (TA7.out.grown hg (by simp; omega))
      have WK8 := Lib.hid (WK7.out.far hg (by simp; omega))
      clear H7 HP7 TF7 LO7 KO7 TO7 TA7 WK7 HB7
      clear hW hG hg
      go_wp2_with (fail)
      clear f0 f1 f2 f3 ff fl
      have G0 : Hid (w8.grownBy w8 (some m3)) := Lib.hid ⟨rfl, rfl, rfl, Nat.le_refl _, fun _ _ _ => rfl⟩
      go_loopw [17] (fun q wr => ∃ k : Nat, k ≤ n ∧ q = .int .i64 k ∧ Hid (w8.grownBy wr (some m3)) ∧ Hid (WB wr m3 (n * 3))) (fun q _ => n - (intOf q).toNat)
      case atStart => exact ⟨0, by omega, rfl, G0, WK8⟩
      case round =>
        obtain ⟨k, hk, rfl, hG, hW⟩ := hrel
        clear G0
        by_cases hlt : k < n
        · have i1 : (k : Int) < (n : Int) := by omega
          have hwl := hW.out.lt
          obtain ⟨v4, hv4⟩ := hW.out.c (k * 3 + 1) (by omega)
          have wf := hW.out.free
          have G1 := Lib.hid (hG.out.trans (grown_setCell wr ⟨m3, k * 3 + 1, none⟩ (.int .i64 (-1))))
          have W1 := Lib.hid (hW.out.put (k * 3 + 1) (.int .i64 (-1)))
          clear hG hW
          go_wp2_with (fail)
          exact ⟨⟨k + 1, by omega, by go_num, G1, W1⟩, by simp [intOf]; omega⟩
        · obtain rfl : n = k := by omega
          rename World => w9
          have hg := hG.out
          have s9 := hg.size
          clear WK8
          have HB9 := Lib.hid (HB8.out.grown hg HB8.out.size (fun j hj => by simp at hj; omega))
          have H9 := Lib.hid (HH.out.later HB9.out)
          have HP9 := Lib.hid (HHP.out.later HB9.out)
          have TF9 := Lib.hid (TF8.out.grown hg (by simp; omega))
          have LO9 := Lib.hid (lies_grown LO8.out hg (by simp; omega))
          have KO9 := Lib.hid (LiesI.grown KO8.out hg (by simp; omega))
          have TO9 := Lib.hid (TO8.out.grown hg (by simp; omega))
          have TA9 := Lib.hid (TA8.out.grown hg (by simp; omega))
          clear H8 HP8 TF8 LO8 KO8 TO8 TA8 HB8
          clear hW hG hg
          obtain ⟨tf9_0, tf9_1, tf9_2, tf9_3, tf9_4, tf9_5⟩ := TF9.out
          obtain ⟨to9_0, to9_1, to9_2, to9_3, to9_4, to9_5⟩ := TO9.out
          go_wp2_with (fail)
          refine (hSo _ _ _ (LO9.out) (H9.out)).mono ?_
          rintro e w10 ⟨rfl, hw10⟩
          clear tf9_0 tf9_1 tf9_2 tf9_3 tf9_4 tf9_5 to9_0 to9_1 to9_2 to9_3 to9_4 to9_5
          have bw10 : Below w9.heap.size w9 w10 := hw10
          have H10 := Lib.hid (H9.out.later bw10)
          have HP10 := Lib.hid (HP9.out.later bw10)
          have TF10 := Lib.hid (TF9.out.later bw10)
          have LO10 := Lib.hid (LO9.out.later bw10)
          have KO10 := Lib.hid (KO9.out.later bw10)
          have TO10 := Lib.hid (TO9.out.later bw10)
          have TA10 := Lib.hid (TA9.out.later bw10)
          have HB10 := Lib.hid (HB9.out.trans (bw10.mono HB9.out.size))
          clear hw10 bw10 H9 HP9 TF9 LO9 KO9 TO9 TA9 HB9
          go_wp2_with (fail)
          refine (hKo _ _ _ (KO10.out) (HP10.out)).mono ?_
          rintro e w11 ⟨rfl, hw11⟩
          have bw11 : Below w10.heap.size w10 w11 := hw11
          have H11 := Lib.hid (H10.out.later bw11)
          have HP11 := Lib.hid (HP10.out.later bw11)
          have TF11 := Lib.hid (TF10.out.later bw11)
          have LO11 := Lib.hid (LO10.out.later bw11)
          have KO11 := Lib.hid (KO10.out.later bw11)
          have TO11 := Lib.hid (TO10.out.later bw11)
          have TA11 := Lib.hid (TA10.out.later bw11)
          have HB11 := Lib.hid (HB10.out.trans (bw11.mono HB10.out.size))
          clear hw11 bw11 H10 HP10 TF10 LO10 KO10 TO10 TA10 HB10
          go_wp2_with (fail)
          refine (kn _).mono ?_
          rintro e w12 ⟨rfl, hw12⟩
          have bw12 : Below w11.heap.size w11 w12 := hw12
          have H12 := Lib.hid (H11.out.later bw12)
          have HP12 := Lib.hid (HP11.out.later bw12)
          have TF12 := Lib.hid (TF11.out.later bw12)
          have LO12 := Lib.hid (LO11.out.later bw12)
          have KO12 := Lib.hid (KO11.out.later bw12)
          have TO12 := Lib.hid (TO11.out.later bw12)
          have TA12 := Lib.hid (TA11.out.later bw12)
          have HB12 := Lib.hid (HB11.out.trans (bw12.mono HB11.out.size))
          clear hw12 bw12 H11 HP11 TF11 LO11 KO11 TO11 TA11 HB11
          go_wp2_with (fail)
          go_ret
          exact ⟨rfl, HB12.out⟩
theorem lo_liesR {W : World} {bl off : Nat} {L : List Q} (h : LiesO W (some ⟨bl, off, none⟩) L) : Lies W bl off L := by
  rcases h with rfl | ⟨b, o, he, h⟩
  · intro i x hx; simp at hx
  · simp only [Option.some.injEq, Addr.mk.injEq, and_true] at he
    obtain ⟨rfl, rfl⟩ := he
    exact h
theorem lo_liesIR {W : World} {bl off : Nat} {l : List Int} (h : LiesOI W (some ⟨bl, off, none⟩) l) : LiesI W bl off l := by
  rcases h with rfl | ⟨b, o, he, h⟩
  · intro i x hx; simp at hx
  · simp only [Option.some.injEq, Addr.mk.injEq, and_true] at he
    obtain ⟨rfl, rfl⟩ := he
    exact h
theorem same_ownR (a b c : Int) (g k : Nat) (fo : Option Addr) (cap : Nat) (L : List Q) (w : World) (h1 : Lies w g 0 L) (h2 : LiesO w fo L) (hlen : L.length ≤ 100) : Calls Tryz.prog 17 #[.agg #[.int .i64 a, .int .i64 b, .int .i64 c, .slice (some ⟨g, 0, none⟩) L.length k], .agg #[.int .i64 a, .int .i64 b, .int .i64 c, .slice fo L.length cap]] w fun e w' => e = .returned (.bool true) ∧ Below w.heap.size w w' := by
  by_cases hL : L = []
  · subst hL
    exact sameF_nil a b c (some ⟨g, 0, none⟩) fo k cap w
  · rcases h2 with h2 | ⟨bl, off, rfl, h2⟩
    · exact absurd h2 hL
    · exact sameF_some a b c g 0 k bl off cap L w h1 h2 (by omega)
theorem pathRuns_walk (a b c : Int) (ao : Option Addr) (L : List Q) (cap : Nat) (po : Option Addr) (l : List Int) (n pc : Nat) (x : Int) (w : World) (_ : L.length ≤ maxLen) (hm : LiesO w ao L) (hnil : ao = none → cap = 0) (hpl : l.length = n * 3) (_ : n ≤ pc) (_ : pc ≤ maxLen) (hp : LiesOI w po l) (_ : po = none → pc = 0) : Calls Tryz.prog 5 #[.agg #[.int .i64 a, .int .i64 b, .int .i64 c, .slice ao L.length cap], .slice po n pc, .int .i64 x] w fun e w' => e = .returned (.bool true) ∧ Below w.heap.size w w' := by
  by_cases hin : L.length ≤ 100 ∧ n ≤ 100
  · have hLg := fun W : World => long6_any a b c ao po cap pc L.length n false W (.inl ⟨hin.1, hin.2, rfl⟩)
    have hCp : ∀ W : World, LiesO W ao L → Calls Tryz.prog 10 #[.agg #[.int .i64 a, .int .i64 b, .int .i64 c, .slice ao L.length cap]] W fun e w' => (∃ g k : Nat, e = .returned (.agg #[.int .i64 a, .int .i64 b, .int .i64 c, .slice (some ⟨g, 0, none⟩) L.length k]) ∧ Lies w' g 0 L) ∧ Below W.heap.size W w' := fun W h =>
      (refCopy_any a b c ao cap L W h hnil hin.1).mono fun e w' ⟨g, k, h1, h2, h3⟩ => ⟨⟨g, k, h1, h2⟩, h3⟩
    have hCd : ∀ W : World, LiesOI W po l → Calls Tryz.prog 11 #[.slice po n pc] W fun e w' => (∃ g k : Nat, e = .returned (.slice (some ⟨g, 0, none⟩) n k) ∧ LiesI w' g 0 l) ∧ Below W.heap.size W w' := fun W h =>
      (copied_any po l n pc W h hpl (by omega)).mono fun e w' ⟨⟨g, k, h1, h2, _⟩, h3⟩ => ⟨⟨g, k, h1, h2⟩, h3⟩
    have hSo := fun (W : World) (g k : Nat) (h1 : Lies W g 0 L) (h2 : LiesO W ao L) => same_ownR a b c g k ao cap L W h1 h2 hin.1
    have hKo : ∀ (W : World) (g k : Nat), LiesI W g 0 l → LiesOI W po l → Calls Tryz.prog 16 #[.slice (some ⟨g, 0, none⟩) n k, .slice po n pc] W fun e w' => e = .returned (.bool true) ∧ Below W.heap.size W w' := fun W g k h h2 => by
      have := sameK_any (some ⟨g, 0, none⟩) po k pc n n l l W (.inr ⟨g, 0, rfl, h⟩) h2 hpl hpl (by omega)
      rwa [decide_eq_true rfl] at this
    obtain ⟨ns, r0, hr⟩ := numsR_ex a b c L
    obtain ⟨r, hv⟩ := vkR_ex L.length n l r0
    have hV := fun (W : World) (h : LiesO W ao L) (h2 : LiesOI W po l) => refValidateK_any a b c r0 r ao po cap pc n L ns l W h h2 hpl hr hv (by omega)
    by_cases h0 : r = 0 ∧ 0 ≤ x ∧ x ≤ 100
    · obtain ⟨rfl, hx0, hx1⟩ := h0
      obtain ⟨k, rfl⟩ := Int.eq_ofNat_of_zero_le hx0
      obtain rfl : r0 = 0 := by rcases hv with ⟨h1, h2⟩ | ⟨h1, -⟩ | ⟨h1, -⟩ <;> omega
      have hst := St_of hr hv hpl
      have hLn := hst.e
      have h48 : n ≤ 48 := by have := hst.f.n; have := hst.e; have := hst.f.z.p; omega
      have hn0 : 0 < n := by have := hst.f.n; have := hst.e; obtain ⟨-, -, p3, -⟩ := mul_rng hst.f.z.a1 hst.f.z.a4 hst.f.z.b1 hst.f.z.b4 hst.f.z.c1 hst.f.z.c4; omega
      obtain ⟨N, hN⟩ := Int.eq_ofNat_of_zero_le (show 0 ≤ a * b * c by obtain ⟨-, -, p3, -⟩ := mul_rng hst.f.z.a1 hst.f.z.a4 hst.f.z.b1 hst.f.z.b4 hst.f.z.c1 hst.f.z.c4; omega)
      obtain ⟨bl, off, rfl, hm2⟩ := fld_some (numsR_smR hr).1 hm
      obtain ⟨pb, o, rfl, hpI⟩ : ∃ pb o, po = some ⟨pb, o, none⟩ ∧ LiesI w pb o l := by
        rcases hp with rfl | ⟨pb, o, rfl, hp⟩
        · simp at hpl; omega
        · exact ⟨pb, o, rfl, hp⟩
      have hs := hst.rn k
      have hR := fun (W : World) (g k' gm km : Nat) (h1 : Lies W g 0 L) (h2 : LiesI W gm 0 l) => run_ok a b c g 0 k' gm 0 km n N k L l W h1 h2 hst hN.symm (by omega)
      have hQ := fun (W : World) (h : LiesO W (some ⟨bl, off, none⟩) L) (h2 : LiesOI W (some ⟨pb, o, none⟩) l) => refRunO_ok a b c bl off cap pb o pc n k L l W (lo_liesR h) (lo_liesIR h2) hst hn0 h48 (by omega)
      have hF := fun (W : World) (g k1 g2 k2 : Nat) (h1 : Lies W g 0 (rn a b c (L, l) k).1) (h2 : Lies W g2 0 (rn a b c (L, l) k).1) => sameF_dec a b c g 0 k1 g2 0 k2 n _ _ W true h1 h2 hs.e hs.e (by omega) (decide_eq_true rfl).symm
      have hK := fun (W : World) (g k1 g2 k2 : Nat) (h1 : LiesI W g 0 (rn a b c (L, l) k).2) (h2 : LiesI W g2 0 (rn a b c (L, l) k).2) => sameK_some g 0 k1 g2 0 k2 n _ _ W true h1 h2 hs.m hs.m (by omega) (decide_eq_true rfl).symm
      rw [hLn] at hLg hCp hSo hR ⊢
      exact runs_ok a b c 0 k _ _ n cap pc n L _ l _ w hm hp (by omega) (by omega) hs.e hs.m h48 hLg hCp hCd hR hQ hF hK hSo hKo
    · have hq : ∃ q, rnR r x q := by
        by_cases h1 : r = 0
        · exact ⟨1, .inr ⟨h1, fun h => h0 ⟨h1, h⟩, rfl⟩⟩
        · exact ⟨r, .inl ⟨h1, rfl⟩⟩
      obtain ⟨q, hq⟩ := hq
      have hR := fun (W : World) (g k gm km : Nat) (h1 : Lies W g 0 L) (h2 : LiesI W gm 0 l) => run_bad a b c r0 r x q (some ⟨g, 0, none⟩) (some ⟨gm, 0, none⟩) k km n L ns l W (.inr ⟨g, 0, rfl, h1⟩) (.inr ⟨gm, 0, rfl, h2⟩) hpl hr hv hq (by omega)
      have hQ : ∀ W : World, LiesO W ao L → LiesOI W po l → Calls Tryz.prog 21 #[.agg #[.int .i64 a, .int .i64 b, .int .i64 c, .slice ao L.length cap], .slice po n pc, .int .i64 x] W fun e w' => e = .returned (.tuple #[.agg #[.int .i64 0, .int .i64 0, .int .i64 0, .slice none 0 0], .slice none 0 0, .int .i64 q]) ∧ Below W.heap.size W w' := by
        rcases hq with ⟨h1, rfl⟩ | ⟨rfl, hx, rfl⟩
        · exact fun W h h2 => refRunO_bad a b c q x ao po L.length cap pc n 0 L [] l [] W h h2 h1 hV
        · exact fun W h h2 => refRunO_arg a b c 0 x ao po L.length cap pc n 0 L [] l [] W h h2 hV (fun W : World => within6_any x 0 100 W false (.inr ⟨hx, rfl⟩))
      exact runs_bad a b c q x ao po L.length cap pc n L [] l [] w hm hp hLg hCp hCd hR hQ (fun W => sameF_nil 0 0 0 none none 0 0 W) (fun W => sameK_nil none none 0 0 W) hSo hKo
  · exact runs_long a b c 0 x ao po L.length cap pc n L [] l [] w hm hp (fun W : World => long6_any a b c ao po cap pc L.length n true W (.inr ⟨by omega, rfl⟩))

/-! ### The statement of the law PathRuns, out of its walk -/
set_option maxRecDepth 100000 in
theorem pathRuns_lifted (os : Os) (started : os.Started) (H : Type) (enc : TypeId × Value → H) :
    ReturnsInHanded {} Tryz.checked os 5 .any (Rows.pathRunsSpec.pre6 enc Tryz.prog Tryz.f5 Rows.pathRunsRow.domain false) (Rows.pathRunsSpec.post enc Tryz.prog Tryz.f5 false true false false) := by
  refine returnsInHanded_of_change (C := Tryz.checked) own started (by kernel_rfl) Tryz.func5
    (ChangeSpec.witness6 (enc := enc) (C := Tryz.checked) false ⟨#[], #[.agg #[.int .i64 0, .int .i64 0, .int .i64 0, .slice none 0 0], .slice none 0 0, .int .i64 0], []⟩ 8 (by kernel_rfl) (by kernel_rfl) (by kernel_rfl) (by kernel_rfl)) ?_
  intro W base args ds gs before hval0 hW hcnd _
  have hval : ∀ (j : Nat) t v, Tryz.f5.params[j]? = some t → args[j]? = some v → Value.okWide Tryz.prog W .any base t v := hval0
  have hW' := hW
  obtain ⟨p, q, hA0, hV, rfl, hfz, hnd⟩ := hW
  have hA : DataW.TrodAll enc Tryz.prog W 0 (fun _ => true) true Tryz.f5.params.toList args.toList ds p := hA0
  rw [Tryz.params5] at hA hval
  obtain ⟨v0, vs0, d0, ds0, p0, q0, hargs, rfl, rfl, h0, r0⟩ := trodAll_cons hA
  obtain ⟨v1, vs1, d1, ds1, p1, q1, rfl, rfl, rfl, h1, r1⟩ := trodAll_cons r0
  obtain ⟨v2, vs2, d2, ds2, p2, q2, rfl, rfl, rfl, h2, r2⟩ := trodAll_cons r1
  obtain ⟨rfl, rfl, rfl⟩ := trodAll_nil r2
  obtain rfl : args = #[v0, v1, v2] := by cases args; simp_all
  obtain ⟨rfl, rfl⟩ := trodVars_none hV
  have k0 := h0
  have lt0 : ∀ x ∈ p0, x.block < W.heap.size := by obtain ⟨m, hm⟩ := k0; exact DataW.trod_lt m _ _ _ hm
  obtain ⟨x0, y0, z0, ao0, L0, cap0, rfl, hl0, hm0, hnil0⟩ := open_fieldN (hval 0 25 v0 rfl rfl) h0
  have k1 := h1
  have lt1 : ∀ x ∈ p1, x.block < W.heap.size := by obtain ⟨m, hm⟩ := k1; exact DataW.trod_lt m _ _ _ hm
  obtain ⟨po1, l1, n1, pc1, rfl, hkl1, hkn1, hkc1, hkm1, hkz1⟩ := open_kicks (hval 1 26 v1 rfl rfl) h1
  have k2 := h2
  have lt2 : ∀ x ∈ p2, x.block < W.heap.size := by obtain ⟨m, hm⟩ := k2; exact DataW.trod_lt m _ _ _ hm
  obtain ⟨x2, e2, -, -, -⟩ := open_int Tryz.underlying3 (hval 2 3 v2 rfl rfl) h2
  subst e2
  clear hA0 hval0
  refine (pathRuns_walk x0 y0 z0 ao0 L0 cap0 po1 l1 n1 pc1 x2 W hl0 hm0 hnil0 hkl1 hkn1 hkc1 hkm1 hkz1).mono fun e W' ⟨he, bel⟩ => ?_
  subst he
  exact ⟨_, rfl, _, _, _, [], _, [], hW', trodAll_mk1 (shut_bool Tryz.underlying4 _), (trodAll_cons_mk (Below.trod laidOut (by kernel_rfl) (of_decide_eq_true (by kernel_rfl)) k0 bel lt0) (trodAll_cons_mk (Below.trod laidOut (by kernel_rfl) (of_decide_eq_true (by kernel_rfl)) k1 bel lt1) (trodAll_cons_mk (Below.trod laidOut (by kernel_rfl) (of_decide_eq_true (by kernel_rfl)) k2 bel lt2) trodAll_mk0))), rfl, bel.frame _, fun h => by cases h⟩

theorem pathRuns_jf9 : (Rows.pathRunsRow.inPlace == Tryz.prog.inPlace 5) = true := by kernel_rfl
theorem pathRuns_jf10 : (Rows.pathRunsRow.unfollowed == Tryz.prog.unfollowed 5) = true := by kernel_rfl
theorem pathRuns_jf11 : (Rows.pathRunsRow.recurses == Tryz.prog.recurses 5) = true := by kernel_rfl
theorem pathRuns_jf12 : (Rows.pathRunsRow.named == Tryz.prog.varsNamed 5) = true := by kernel_rfl
theorem pathRuns_facts : joinedFacts Tryz.prog 5 Tryz.f5 Rows.pathRunsSpec Rows.pathRunsRow = true := by
  unfold joinedFacts
  exact (band (band (band (band (band (band (band (band (band (band (band (band (band (band (band (band (band (band (band (band (band (band (band (band (band (band (band (band (band (band (band (by kernel_rfl) jf1) jf2) (by kernel_rfl)) (by kernel_rfl)) (by kernel_rfl)) jf6) (by kernel_rfl)) jf8) pathRuns_jf9) pathRuns_jf10) pathRuns_jf11) pathRuns_jf12) (by kernel_rfl)) (by kernel_rfl)) (by kernel_rfl)) (by kernel_rfl)) (by kernel_rfl)) (by kernel_rfl)) (by kernel_rfl)) (by kernel_rfl)) (by kernel_rfl)) (by kernel_rfl)) (by kernel_rfl)) jf24) jf25) jf26) jf27) (by kernel_rfl)) (by kernel_rfl)) (by kernel_rfl)) (by kernel_rfl))

theorem pathRuns_over : Rows.pathRunsRow.holds Tryz.pinned (OpenSpec.ofChange Rows.pathRunsSpec) :=
  OpenClaim.holds_of_wide 5 Tryz.f5 rfl rfl rfl rfl rfl rfl rfl ⟨rfl, rfl, rfl, rfl, rfl⟩ rfl rfl rfl rfl rfl (by kernel_rfl) Tryz.func5 pathRuns_facts
    (of_decide_eq_true (by kernel_rfl)) (by unfold Func.isWrapper; first | (rw [if_pos (by decide +kernel)]; kernel_rfl) | (rw [if_neg (by decide +kernel)]; exact ⟨rfl, rfl⟩))
    (fun os started H enc _ => pathRuns_lifted os started H enc)

theorem pathRuns_holds : Rows.PathRunsSaid := pathRuns_over
#print axioms pathRuns_holds

end Go.Proofs.YtilbhcjnkmeecaaGreat
