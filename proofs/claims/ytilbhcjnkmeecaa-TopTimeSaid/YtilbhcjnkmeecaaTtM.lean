/- Time can be turned round: the walk, over its calls (bad_bad, ok_bad).
Conditions: those written at each theorem. -/
import Derived.Test.YtilbhcjnkmeecaaKqM
import Derived.Test.YtilbhcjnkmeecaaWlk
import Derived.Test.YtilbhcjnkmeecaaLawValK
namespace Go.Proofs.Ytilbhcjnkmeecaa
set_option linter.unusedVariables false
set_option linter.unusedSimpArgs false
set_option maxRecDepth 1000000
open Go.ChangeShapes Go.WideShapes Go.ChangeAt Go.RowKit
open Um Tm Cm Km

set_option maxHeartbeats 12800000 in
theorem topTime_bad_bad (a b c s x be r r2 u1 u3 t t2 tm d v0 v1 : Int) (y q : Bool) (ao po : Option Addr) (m cap pc pn n : Nat) (L L1 L4 L5 : List Q) (l l1 l2 l3 l4 lm : List Int) (w : World) (hm : LiesO w ao L) (hp : LiesOI w po l) (hx : x ≤ 40) (h0 : r ≠ 0) (h2 : r2 ≠ 0)
    (hT : ∀ W : World, Calls Try.prog 19 #[.agg #[.int .i64 0, .int .i64 7, .int .i64 2]] W fun e w' => e = .returned (.tuple #[.agg #[.int .i64 0, .int .i64 0, .int .i64 (-1), .int .i64 0, .int .i64 1], .int .i64 0]) ∧ Below W.heap.size W w')
    (hLg : ∀ W : World, Calls Try.prog 12 #[.agg #[.int .i64 a, .int .i64 b, .int .i64 c, .slice ao m cap], .slice po pn pc] W fun e w' => e = .returned (.bool false) ∧ Below W.heap.size W w')
    (hR1b : ∀ W : World, LiesO W ao L → LiesOI W po l → Calls Try.prog 27 #[.agg #[.int .i64 a, .int .i64 b, .int .i64 c, .slice ao m cap], .slice po pn pc, .int .i64 x] W fun e w' => e = .returned (.tuple #[.agg #[.int .i64 0, .int .i64 0, .int .i64 0, .slice none 0 0], .slice none 0 0, .int .i64 r]) ∧ Below W.heap.size W w')
    (hTrb : ∀ W : World, LiesO W ao L → Calls Try.prog 41 #[.agg #[.int .i64 a, .int .i64 b, .int .i64 c, .slice ao m cap], .int .i64 s, .int .i64 x, .int .i64 be] W fun e w' => e = .returned (.tuple #[.agg #[.int .i64 0, .int .i64 0, .int .i64 0, .slice none 0 0], .int .i64 0, .bool false, .int .i64 r2]) ∧ Below W.heap.size W w')
    : Calls Try.prog 11 #[.agg #[.int .i64 a, .int .i64 b, .int .i64 c, .slice ao m cap], .slice po pn pc, .agg #[.int .i64 s, .int .i64 x, .int .i64 be]] w fun e w' => e = .returned (.bool true) ∧ Below w.heap.size w w' := by
  have h0a : (r != 0) = true := by simpa using h0
  have h0b : (r == 0) = false := by simpa using h0
  have h2a : (r2 != 0) = true := by simpa using h2
  have H0 := Lib.hid hm
  have HP0 := Lib.hid hp
  clear hm hp h0 h2
  go_enter Try.func11, Try.ntmps11
  go_wp2_with (fail)
  refine (hT _).mono ?_
  rintro e w1 ⟨rfl, hw1⟩
  have bw1 : Below w.heap.size w w1 := bel2 hw1
  have TF1 := Lib.hid (FW.n2a.later hw1)
  have TX1 := Lib.hid (C3.n2b.later hw1)
  have H1 := Lib.hid (H0.out.later bw1)
  have HP1 := Lib.hid (HP0.out.later bw1)
  have HB1 := Lib.hid bw1
  clear hw1 bw1 H0 HP0
  obtain ⟨tf1_0, tf1_1, tf1_2, tf1_3, tf1_4, tf1_5⟩ := TF1.out
  obtain ⟨tx1_0, tx1_1, tx1_2, tx1_3, tx1_4⟩ := TX1.out
  go_wp2_with (fail)
  refine (hLg _).mono ?_
  rintro e w2 ⟨rfl, hw2⟩
  clear tf1_0 tf1_1 tf1_2 tf1_3 tf1_4 tf1_5 tx1_0 tx1_1 tx1_2 tx1_3 tx1_4
  have bw2 : Below w1.heap.size w1 w2 := bel1 hw2
  have H2 := Lib.hid (H1.out.later bw2)
  have HP2 := Lib.hid (HP1.out.later bw2)
  have TF2 := Lib.hid (TF1.out.later bw2)
  have TX2 := Lib.hid (TX1.out.later bw2)
  have HB2 := Lib.hid (HB1.out.trans (bw2.mono HB1.out.size))
  clear hw2 bw2 H1 HP1 TF1 TX1 HB1
  obtain ⟨tf2_0, tf2_1, tf2_2, tf2_3, tf2_4, tf2_5⟩ := TF2.out
  obtain ⟨tx2_0, tx2_1, tx2_2, tx2_3, tx2_4⟩ := TX2.out
  go_wp2_with (fail)
  refine (hR1b _ (H2.out) (HP2.out)).mono ?_
  rintro e w3 ⟨rfl, hw3⟩
  clear tf2_0 tf2_1 tf2_2 tf2_3 tf2_4 tf2_5 tx2_0 tx2_1 tx2_2 tx2_3 tx2_4
  have bw3 : Below w2.heap.size w2 w3 := hw3
  have H3 := Lib.hid (H2.out.later bw3)
  have HP3 := Lib.hid (HP2.out.later bw3)
  have TF3 := Lib.hid (TF2.out.later bw3)
  have TX3 := Lib.hid (TX2.out.later bw3)
  have HB3 := Lib.hid (HB2.out.trans (bw3.mono HB2.out.size))
  clear hw3 bw3 H2 HP2 TF2 TX2 HB2
  obtain ⟨tf3_0, tf3_1, tf3_2, tf3_3, tf3_4, tf3_5⟩ := TF3.out
  obtain ⟨tx3_0, tx3_1, tx3_2, tx3_3, tx3_4⟩ := TX3.out
  clear HP3
  go_wp2_with (fail)
  refine (hTrb _ (H3.out.later ba1)).mono ?_
  rintro e w4 ⟨rfl, hw4⟩
  clear tf3_0 tf3_1 tf3_2 tf3_3 tf3_4 tf3_5 tx3_0 tx3_1 tx3_2 tx3_3 tx3_4
  have bw4 : Below w3.heap.size w3 w4 := bel1 hw4
  have H4 := Lib.hid (H3.out.later bw4)
  have TF4 := Lib.hid (TF3.out.later bw4)
  have TX4 := Lib.hid (TX3.out.later bw4)
  have HB4 := Lib.hid (HB3.out.trans (bw4.mono HB3.out.size))
  clear hw4 bw4 H3 TF3 TX3 HB3
  go_wp2_with (fail)
  go_ret
  exact ⟨rfl, by have hb := HB4.out; repeat (first | (with_reducible exact Below.refl _ _) | (with_reducible refine Below.setCell ?_ ?_ _) | (with_reducible refine Below.drew ?_) | (with_reducible refine Below.alloc ?_ ?_ _) | (with_reducible refine Below.trans ?_ (Below.mono hb ?_)) | (with_reducible exact hb.size) | omega | (simp <;> omega) | (simp <;> (have s := hb.size; omega)) | (have s0 := hb.size; (try simp at s0); (try simp); omega))⟩

set_option maxHeartbeats 12800000 in
theorem topTime_ok_bad (a b c s x be r r2 u1 u3 t t2 tm d v0 v1 : Int) (y q : Bool) (ao po : Option Addr) (m cap pc pn n : Nat) (L L1 L4 L5 : List Q) (l l1 l2 l3 l4 lm : List Int) (w : World) (hm : LiesO w ao L) (hp : LiesOI w po l) (hx : x ≤ 40) (h2 : r2 ≠ 0)
    (hT : ∀ W : World, Calls Try.prog 19 #[.agg #[.int .i64 0, .int .i64 7, .int .i64 2]] W fun e w' => e = .returned (.tuple #[.agg #[.int .i64 0, .int .i64 0, .int .i64 (-1), .int .i64 0, .int .i64 1], .int .i64 0]) ∧ Below W.heap.size W w')
    (hLg : ∀ W : World, Calls Try.prog 12 #[.agg #[.int .i64 a, .int .i64 b, .int .i64 c, .slice ao m cap], .slice po pn pc] W fun e w' => e = .returned (.bool false) ∧ Below W.heap.size W w')
    (hR1 : ∀ W : World, LiesO W ao L → LiesOI W po l → Calls Try.prog 27 #[.agg #[.int .i64 a, .int .i64 b, .int .i64 c, .slice ao m cap], .slice po pn pc, .int .i64 x] W fun e w' => RetRun a b c n W.heap.size (L1, l1) e w' ∧ Below W.heap.size W w')
    (hV1 : ∀ (W : World) (g k gm km : Nat), Lies W g 0 L1 → LiesI W gm 0 l1 → Calls Try.prog 14 #[.agg #[.int .i64 a, .int .i64 b, .int .i64 c, .slice (some ⟨g, 0, none⟩) n k], .slice (some ⟨gm, 0, none⟩) n km] W fun e w' => RetV W.heap.size l2 n e w' ∧ Below W.heap.size W w')
    (hE1 : ∀ (W : World) (g k gm km : Nat), Lies W g 0 L1 → LiesI W gm 0 l1 → Calls Try.prog 34 #[.agg #[.int .i64 a, .int .i64 b, .int .i64 c, .slice (some ⟨g, 0, none⟩) n k], .slice (some ⟨gm, 0, none⟩) n km, .int .i64 1] W fun e w' => e = .returned (.tuple #[.int .i64 u1, .int .i64 0]) ∧ Below W.heap.size W w')
    (hE2 : ∀ (W : World) (g k gm km : Nat), Lies W g 0 L1 → LiesI W gm 0 l2 → Calls Try.prog 34 #[.agg #[.int .i64 a, .int .i64 b, .int .i64 c, .slice (some ⟨g, 0, none⟩) n k], .slice (some ⟨gm, 0, none⟩) n km, .int .i64 1] W fun e w' => e = .returned (.tuple #[.int .i64 u1, .int .i64 0]) ∧ Below W.heap.size W w')
    (hR2 : ∀ (W : World) (g k gm km : Nat), Lies W g 0 L1 → LiesI W gm 0 l2 → Calls Try.prog 27 #[.agg #[.int .i64 a, .int .i64 b, .int .i64 c, .slice (some ⟨g, 0, none⟩) n k], .slice (some ⟨gm, 0, none⟩) n km, .int .i64 x] W fun e w' => RetRun a b c n W.heap.size (L, l3) e w' ∧ Below W.heap.size W w')
    (hE3 : ∀ W : World, LiesO W ao L → LiesOI W po l → Calls Try.prog 34 #[.agg #[.int .i64 a, .int .i64 b, .int .i64 c, .slice ao m cap], .slice po pn pc, .int .i64 1] W fun e w' => e = .returned (.tuple #[.int .i64 u3, .int .i64 0]) ∧ Below W.heap.size W w')
    (hE4 : ∀ (W : World) (g k gm km : Nat), Lies W g 0 L → LiesI W gm 0 l3 → Calls Try.prog 34 #[.agg #[.int .i64 a, .int .i64 b, .int .i64 c, .slice (some ⟨g, 0, none⟩) n k], .slice (some ⟨gm, 0, none⟩) n km, .int .i64 1] W fun e w' => e = .returned (.tuple #[.int .i64 u3, .int .i64 0]) ∧ Below W.heap.size W w')
    (hV2 : ∀ (W : World) (g k gm km : Nat), Lies W g 0 L → LiesI W gm 0 l3 → Calls Try.prog 14 #[.agg #[.int .i64 a, .int .i64 b, .int .i64 c, .slice (some ⟨g, 0, none⟩) n k], .slice (some ⟨gm, 0, none⟩) n km] W fun e w' => RetV W.heap.size l n e w' ∧ Below W.heap.size W w')
    (hS1 : ∀ (W : World) (g k : Nat), Lies W g 0 L → LiesO W ao L → Calls Try.prog 29 #[.agg #[.int .i64 a, .int .i64 b, .int .i64 c, .slice (some ⟨g, 0, none⟩) n k], .agg #[.int .i64 a, .int .i64 b, .int .i64 c, .slice ao m cap]] W fun e w' => e = .returned (.bool true) ∧ Below W.heap.size W w')
    (hK1 : ∀ (W : World) (g k : Nat), LiesI W g 0 l → LiesOI W po l → Calls Try.prog 18 #[.slice (some ⟨g, 0, none⟩) n k, .slice po pn pc] W fun e w' => e = .returned (.bool true) ∧ Below W.heap.size W w')
    (hP1 : ∀ W : World, LiesO W ao L → LiesOI W po l → Calls Try.prog 40 #[.agg #[.int .i64 a, .int .i64 b, .int .i64 c, .slice ao m cap], .slice po pn pc, .int .i64 20] W fun e w' => e = .returned (.tuple #[.int .i64 t, .bool y, .int .i64 0]) ∧ Below W.heap.size W w')
    (hP2 : ∀ (W : World) (g k gm km : Nat), Lies W g 0 L1 → LiesI W gm 0 l2 → Calls Try.prog 40 #[.agg #[.int .i64 a, .int .i64 b, .int .i64 c, .slice (some ⟨g, 0, none⟩) n k], .slice (some ⟨gm, 0, none⟩) n km, .int .i64 20] W fun e w' => e = .returned (.tuple #[.int .i64 t, .bool y, .int .i64 0]) ∧ Below W.heap.size W w')
    (hTrb : ∀ W : World, LiesO W ao L → Calls Try.prog 41 #[.agg #[.int .i64 a, .int .i64 b, .int .i64 c, .slice ao m cap], .int .i64 s, .int .i64 x, .int .i64 be] W fun e w' => e = .returned (.tuple #[.agg #[.int .i64 0, .int .i64 0, .int .i64 0, .slice none 0 0], .int .i64 0, .bool false, .int .i64 r2]) ∧ Below W.heap.size W w')
    : Calls Try.prog 11 #[.agg #[.int .i64 a, .int .i64 b, .int .i64 c, .slice ao m cap], .slice po pn pc, .agg #[.int .i64 s, .int .i64 x, .int .i64 be]] w fun e w' => e = .returned (.bool true) ∧ Below w.heap.size w w' := by
  have h2a : (r2 != 0) = true := by simpa using h2
  have H0 := Lib.hid hm
  have HP0 := Lib.hid hp
  clear hm hp h2
  go_enter Try.func11, Try.ntmps11
  go_wp2_with (fail)
  refine (hT _).mono ?_
  rintro e w1 ⟨rfl, hw1⟩
  have bw1 : Below w.heap.size w w1 := bel2 hw1
  have TF1 := Lib.hid (FW.n2a.later hw1)
  have TX1 := Lib.hid (C3.n2b.later hw1)
  have H1 := Lib.hid (H0.out.later bw1)
  have HP1 := Lib.hid (HP0.out.later bw1)
  have HB1 := Lib.hid bw1
  clear hw1 bw1 H0 HP0
  obtain ⟨tf1_0, tf1_1, tf1_2, tf1_3, tf1_4, tf1_5⟩ := TF1.out
  obtain ⟨tx1_0, tx1_1, tx1_2, tx1_3, tx1_4⟩ := TX1.out
  go_wp2_with (fail)
  refine (hLg _).mono ?_
  rintro e w2 ⟨rfl, hw2⟩
  clear tf1_0 tf1_1 tf1_2 tf1_3 tf1_4 tf1_5 tx1_0 tx1_1 tx1_2 tx1_3 tx1_4
  have bw2 : Below w1.heap.size w1 w2 := bel1 hw2
  have H2 := Lib.hid (H1.out.later bw2)
  have HP2 := Lib.hid (HP1.out.later bw2)
  have TF2 := Lib.hid (TF1.out.later bw2)
  have TX2 := Lib.hid (TX1.out.later bw2)
  have HB2 := Lib.hid (HB1.out.trans (bw2.mono HB1.out.size))
  clear hw2 bw2 H1 HP1 TF1 TX1 HB1
  obtain ⟨tf2_0, tf2_1, tf2_2, tf2_3, tf2_4, tf2_5⟩ := TF2.out
  obtain ⟨tx2_0, tx2_1, tx2_2, tx2_3, tx2_4⟩ := TX2.out
  go_wp2_with (fail)
  refine (hR1 _ (H2.out) (HP2.out)).mono ?_
  rintro e w3 ⟨⟨g1, k1, m1, j1, rfl, hb1, hi1, -, -, -⟩, hw3⟩
  clear tf2_0 tf2_1 tf2_2 tf2_3 tf2_4 tf2_5 tx2_0 tx2_1 tx2_2 tx2_3 tx2_4
  have bw3 : Below w2.heap.size w2 w3 := hw3
  have H3 := Lib.hid (H2.out.later bw3)
  have HP3 := Lib.hid (HP2.out.later bw3)
  have TF3 := Lib.hid (TF2.out.later bw3)
  have TX3 := Lib.hid (TX2.out.later bw3)
  have HB3 := Lib.hid (HB2.out.trans (bw3.mono HB2.out.size))
  have HL13 := Lib.hid hb1.h
  clear hb1
  have HI13 := Lib.hid hi1.h
  clear hi1
  clear hw3 bw3 H2 HP2 TF2 TX2 HB2
  obtain ⟨tf3_0, tf3_1, tf3_2, tf3_3, tf3_4, tf3_5⟩ := TF3.out
  obtain ⟨tx3_0, tx3_1, tx3_2, tx3_3, tx3_4⟩ := TX3.out
  go_wp2_with (fail)
  refine (hV1 _ _ _ _ _ (HL13.out.later ba1) (HI13.out.later ba1)).mono ?_
  rintro e w4 ⟨⟨g2, k2, rfl, hi2, -⟩, hw4⟩
  clear tf3_0 tf3_1 tf3_2 tf3_3 tf3_4 tf3_5 tx3_0 tx3_1 tx3_2 tx3_3 tx3_4
  have bw4 : Below w3.heap.size w3 w4 := bel1 hw4
  have TA4 := Lib.hid (FW.n1.later hw4)
  have H4 := Lib.hid (H3.out.later bw4)
  have HP4 := Lib.hid (HP3.out.later bw4)
  have TF4 := Lib.hid (TF3.out.later bw4)
  have TX4 := Lib.hid (TX3.out.later bw4)
  have HL14 := Lib.hid (HL13.out.later bw4)
  have HI14 := Lib.hid (HI13.out.later bw4)
  have HB4 := Lib.hid (HB3.out.trans (bw4.mono HB3.out.size))
  have HI24 := Lib.hid hi2
  clear hi2
  clear hw4 bw4 H3 HP3 TF3 TX3 HL13 HI13 HB3
  obtain ⟨tf4_0, tf4_1, tf4_2, tf4_3, tf4_4, tf4_5⟩ := TF4.out
  obtain ⟨tx4_0, tx4_1, tx4_2, tx4_3, tx4_4⟩ := TX4.out
  obtain ⟨ta4_0, ta4_1, ta4_2, ta4_3, ta4_4, ta4_5⟩ := TA4.out
  go_wp2_with (fail)
  refine (hE1 _ _ _ _ _ (HL14.out) (HI14.out)).mono ?_
  rintro e w5 ⟨rfl, hw5⟩
  clear tf4_0 tf4_1 tf4_2 tf4_3 tf4_4 tf4_5 tx4_0 tx4_1 tx4_2 tx4_3 tx4_4 ta4_0 ta4_1 ta4_2 ta4_3 ta4_4 ta4_5
  have bw5 : Below w4.heap.size w4 w5 := hw5
  have H5 := Lib.hid (H4.out.later bw5)
  have HP5 := Lib.hid (HP4.out.later bw5)
  have TF5 := Lib.hid (TF4.out.later bw5)
  have TX5 := Lib.hid (TX4.out.later bw5)
  have HL15 := Lib.hid (HL14.out.later bw5)
  have HI15 := Lib.hid (HI14.out.later bw5)
  have TA5 := Lib.hid (TA4.out.later bw5)
  have HI25 := Lib.hid (HI24.out.later bw5)
  have HB5 := Lib.hid (HB4.out.trans (bw5.mono HB4.out.size))
  clear hw5 bw5 H4 HP4 TF4 TX4 HL14 HI14 TA4 HI24 HB4
  clear HI15
  obtain ⟨tf5_0, tf5_1, tf5_2, tf5_3, tf5_4, tf5_5⟩ := TF5.out
  obtain ⟨tx5_0, tx5_1, tx5_2, tx5_3, tx5_4⟩ := TX5.out
  obtain ⟨ta5_0, ta5_1, ta5_2, ta5_3, ta5_4, ta5_5⟩ := TA5.out
  go_wp2_with (fail)
  refine (hE2 _ _ _ _ _ (HL15.out) (HI25.out)).mono ?_
  rintro e w6 ⟨rfl, hw6⟩
  clear tf5_0 tf5_1 tf5_2 tf5_3 tf5_4 tf5_5 tx5_0 tx5_1 tx5_2 tx5_3 tx5_4 ta5_0 ta5_1 ta5_2 ta5_3 ta5_4 ta5_5
  have bw6 : Below w5.heap.size w5 w6 := hw6
  have H6 := Lib.hid (H5.out.later bw6)
  have HP6 := Lib.hid (HP5.out.later bw6)
  have TF6 := Lib.hid (TF5.out.later bw6)
  have TX6 := Lib.hid (TX5.out.later bw6)
  have HL16 := Lib.hid (HL15.out.later bw6)
  have TA6 := Lib.hid (TA5.out.later bw6)
  have HI26 := Lib.hid (HI25.out.later bw6)
  have HB6 := Lib.hid (HB5.out.trans (bw6.mono HB5.out.size))
  clear hw6 bw6 H5 HP5 TF5 TX5 HL15 TA5 HI25 HB5
  obtain ⟨tf6_0, tf6_1, tf6_2, tf6_3, tf6_4, tf6_5⟩ := TF6.out
  obtain ⟨tx6_0, tx6_1, tx6_2, tx6_3, tx6_4⟩ := TX6.out
  obtain ⟨ta6_0, ta6_1, ta6_2, ta6_3, ta6_4, ta6_5⟩ := TA6.out
  go_wp2_with (fail)
  refine (hR2 _ _ _ _ _ (HL16.out) (HI26.out)).mono ?_
  rintro e w7 ⟨⟨g3, k3, m3, j3, rfl, hb3, hi3, -, -, -⟩, hw7⟩
  clear tf6_0 tf6_1 tf6_2 tf6_3 tf6_4 tf6_5 tx6_0 tx6_1 tx6_2 tx6_3 tx6_4 ta6_0 ta6_1 ta6_2 ta6_3 ta6_4 ta6_5
  have bw7 : Below w6.heap.size w6 w7 := hw7
  have H7 := Lib.hid (H6.out.later bw7)
  have HP7 := Lib.hid (HP6.out.later bw7)
  have TF7 := Lib.hid (TF6.out.later bw7)
  have TX7 := Lib.hid (TX6.out.later bw7)
  have HL17 := Lib.hid (HL16.out.later bw7)
  have TA7 := Lib.hid (TA6.out.later bw7)
  have HI27 := Lib.hid (HI26.out.later bw7)
  have HB7 := Lib.hid (HB6.out.trans (bw7.mono HB6.out.size))
  have HL37 := Lib.hid hb3.h
  clear hb3
  have HI37 := Lib.hid hi3.h
  clear hi3
  clear hw7 bw7 H6 HP6 TF6 TX6 HL16 TA6 HI26 HB6
  obtain ⟨tf7_0, tf7_1, tf7_2, tf7_3, tf7_4, tf7_5⟩ := TF7.out
  obtain ⟨tx7_0, tx7_1, tx7_2, tx7_3, tx7_4⟩ := TX7.out
  obtain ⟨ta7_0, ta7_1, ta7_2, ta7_3, ta7_4, ta7_5⟩ := TA7.out
  go_wp2_with (fail)
  refine (hE3 _ (H7.out.later ba1) (HP7.out.later ba1)).mono ?_
  rintro e w8 ⟨rfl, hw8⟩
  clear tf7_0 tf7_1 tf7_2 tf7_3 tf7_4 tf7_5 tx7_0 tx7_1 tx7_2 tx7_3 tx7_4 ta7_0 ta7_1 ta7_2 ta7_3 ta7_4 ta7_5
  have bw8 : Below w7.heap.size w7 w8 := bel1 hw8
  have TY8 := Lib.hid (FW.n1.later hw8)
  have H8 := Lib.hid (H7.out.later bw8)
  have HP8 := Lib.hid (HP7.out.later bw8)
  have TF8 := Lib.hid (TF7.out.later bw8)
  have TX8 := Lib.hid (TX7.out.later bw8)
  have HL18 := Lib.hid (HL17.out.later bw8)
  have TA8 := Lib.hid (TA7.out.later bw8)
  have HI28 := Lib.hid (HI27.out.later bw8)
  have HL38 := Lib.hid (HL37.out.later bw8)
  have HI38 := Lib.hid (HI37.out.later bw8)
  have HB8 := Lib.hid (HB7.out.trans (bw8.mono HB7.out.size))
  clear hw8 bw8 H7 HP7 TF7 TX7 HL17 TA7 HI27 HL37 HI37 HB7
  obtain ⟨tf8_0, tf8_1, tf8_2, tf8_3, tf8_4, tf8_5⟩ := TF8.out
  obtain ⟨tx8_0, tx8_1, tx8_2, tx8_3, tx8_4⟩ := TX8.out
  obtain ⟨ta8_0, ta8_1, ta8_2, ta8_3, ta8_4, ta8_5⟩ := TA8.out
  obtain ⟨ty8_0, ty8_1, ty8_2, ty8_3, ty8_4, ty8_5⟩ := TY8.out
  go_wp2_with (fail)
  refine (hE4 _ _ _ _ _ (HL38.out) (HI38.out)).mono ?_
  rintro e w9 ⟨rfl, hw9⟩
  clear tf8_0 tf8_1 tf8_2 tf8_3 tf8_4 tf8_5 tx8_0 tx8_1 tx8_2 tx8_3 tx8_4 ta8_0 ta8_1 ta8_2 ta8_3 ta8_4 ta8_5 ty8_0 ty8_1 ty8_2 ty8_3 ty8_4 ty8_5
  have bw9 : Below w8.heap.size w8 w9 := hw9
  have H9 := Lib.hid (H8.out.later bw9)
  have HP9 := Lib.hid (HP8.out.later bw9)
  have TF9 := Lib.hid (TF8.out.later bw9)
  have TX9 := Lib.hid (TX8.out.later bw9)
  have HL19 := Lib.hid (HL18.out.later bw9)
  have TA9 := Lib.hid (TA8.out.later bw9)
  have HI29 := Lib.hid (HI28.out.later bw9)
  have HL39 := Lib.hid (HL38.out.later bw9)
  have HI39 := Lib.hid (HI38.out.later bw9)
  have TY9 := Lib.hid (TY8.out.later bw9)
  have HB9 := Lib.hid (HB8.out.trans (bw9.mono HB8.out.size))
  clear hw9 bw9 H8 HP8 TF8 TX8 HL18 TA8 HI28 HL38 HI38 TY8 HB8
  obtain ⟨tf9_0, tf9_1, tf9_2, tf9_3, tf9_4, tf9_5⟩ := TF9.out
  obtain ⟨tx9_0, tx9_1, tx9_2, tx9_3, tx9_4⟩ := TX9.out
  obtain ⟨ta9_0, ta9_1, ta9_2, ta9_3, ta9_4, ta9_5⟩ := TA9.out
  obtain ⟨ty9_0, ty9_1, ty9_2, ty9_3, ty9_4, ty9_5⟩ := TY9.out
  go_wp2_with (fail)
  refine (hV2 _ _ _ _ _ (HL39.out) (HI39.out)).mono ?_
  rintro e w10 ⟨⟨g4, k4, rfl, hi4, -⟩, hw10⟩
  clear tf9_0 tf9_1 tf9_2 tf9_3 tf9_4 tf9_5 tx9_0 tx9_1 tx9_2 tx9_3 tx9_4 ta9_0 ta9_1 ta9_2 ta9_3 ta9_4 ta9_5 ty9_0 ty9_1 ty9_2 ty9_3 ty9_4 ty9_5
  have bw10 : Below w9.heap.size w9 w10 := hw10
  have H10 := Lib.hid (H9.out.later bw10)
  have HP10 := Lib.hid (HP9.out.later bw10)
  have TF10 := Lib.hid (TF9.out.later bw10)
  have TX10 := Lib.hid (TX9.out.later bw10)
  have HL110 := Lib.hid (HL19.out.later bw10)
  have TA10 := Lib.hid (TA9.out.later bw10)
  have HI210 := Lib.hid (HI29.out.later bw10)
  have HL310 := Lib.hid (HL39.out.later bw10)
  have HI310 := Lib.hid (HI39.out.later bw10)
  have TY10 := Lib.hid (TY9.out.later bw10)
  have HB10 := Lib.hid (HB9.out.trans (bw10.mono HB9.out.size))
  have HI410 := Lib.hid hi4
  clear hi4
  clear hw10 bw10 H9 HP9 TF9 TX9 HL19 TA9 HI29 HL39 HI39 TY9 HB9
  clear HI310
  obtain ⟨tf10_0, tf10_1, tf10_2, tf10_3, tf10_4, tf10_5⟩ := TF10.out
  obtain ⟨tx10_0, tx10_1, tx10_2, tx10_3, tx10_4⟩ := TX10.out
  obtain ⟨ta10_0, ta10_1, ta10_2, ta10_3, ta10_4, ta10_5⟩ := TA10.out
  obtain ⟨ty10_0, ty10_1, ty10_2, ty10_3, ty10_4, ty10_5⟩ := TY10.out
  go_wp2_with (fail)
  refine (hS1 _ _ _ (HL310.out) (H10.out)).mono ?_
  rintro e w11 ⟨rfl, hw11⟩
  clear tf10_0 tf10_1 tf10_2 tf10_3 tf10_4 tf10_5 tx10_0 tx10_1 tx10_2 tx10_3 tx10_4 ta10_0 ta10_1 ta10_2 ta10_3 ta10_4 ta10_5 ty10_0 ty10_1 ty10_2 ty10_3 ty10_4 ty10_5
  have bw11 : Below w10.heap.size w10 w11 := hw11
  have H11 := Lib.hid (H10.out.later bw11)
  have HP11 := Lib.hid (HP10.out.later bw11)
  have TF11 := Lib.hid (TF10.out.later bw11)
  have TX11 := Lib.hid (TX10.out.later bw11)
  have HL111 := Lib.hid (HL110.out.later bw11)
  have TA11 := Lib.hid (TA10.out.later bw11)
  have HI211 := Lib.hid (HI210.out.later bw11)
  have HL311 := Lib.hid (HL310.out.later bw11)
  have TY11 := Lib.hid (TY10.out.later bw11)
  have HI411 := Lib.hid (HI410.out.later bw11)
  have HB11 := Lib.hid (HB10.out.trans (bw11.mono HB10.out.size))
  clear hw11 bw11 H10 HP10 TF10 TX10 HL110 TA10 HI210 HL310 TY10 HI410 HB10
  clear HL311
  clear TY11
  obtain ⟨tf11_0, tf11_1, tf11_2, tf11_3, tf11_4, tf11_5⟩ := TF11.out
  obtain ⟨tx11_0, tx11_1, tx11_2, tx11_3, tx11_4⟩ := TX11.out
  obtain ⟨ta11_0, ta11_1, ta11_2, ta11_3, ta11_4, ta11_5⟩ := TA11.out
  go_wp2_with (fail)
  refine (hK1 _ _ _ (HI411.out) (HP11.out)).mono ?_
  rintro e w12 ⟨rfl, hw12⟩
  clear tf11_0 tf11_1 tf11_2 tf11_3 tf11_4 tf11_5 tx11_0 tx11_1 tx11_2 tx11_3 tx11_4 ta11_0 ta11_1 ta11_2 ta11_3 ta11_4 ta11_5
  have bw12 : Below w11.heap.size w11 w12 := hw12
  have H12 := Lib.hid (H11.out.later bw12)
  have HP12 := Lib.hid (HP11.out.later bw12)
  have TF12 := Lib.hid (TF11.out.later bw12)
  have TX12 := Lib.hid (TX11.out.later bw12)
  have HL112 := Lib.hid (HL111.out.later bw12)
  have TA12 := Lib.hid (TA11.out.later bw12)
  have HI212 := Lib.hid (HI211.out.later bw12)
  have HI412 := Lib.hid (HI411.out.later bw12)
  have HB12 := Lib.hid (HB11.out.trans (bw12.mono HB11.out.size))
  clear hw12 bw12 H11 HP11 TF11 TX11 HL111 TA11 HI211 HI411 HB11
  clear HI412
  obtain ⟨tf12_0, tf12_1, tf12_2, tf12_3, tf12_4, tf12_5⟩ := TF12.out
  obtain ⟨tx12_0, tx12_1, tx12_2, tx12_3, tx12_4⟩ := TX12.out
  obtain ⟨ta12_0, ta12_1, ta12_2, ta12_3, ta12_4, ta12_5⟩ := TA12.out
  go_wp2_with (fail)
  refine (hP1 _ (H12.out) (HP12.out)).mono ?_
  rintro e w13 ⟨rfl, hw13⟩
  clear tf12_0 tf12_1 tf12_2 tf12_3 tf12_4 tf12_5 tx12_0 tx12_1 tx12_2 tx12_3 tx12_4 ta12_0 ta12_1 ta12_2 ta12_3 ta12_4 ta12_5
  have bw13 : Below w12.heap.size w12 w13 := hw13
  have H13 := Lib.hid (H12.out.later bw13)
  have HP13 := Lib.hid (HP12.out.later bw13)
  have TF13 := Lib.hid (TF12.out.later bw13)
  have TX13 := Lib.hid (TX12.out.later bw13)
  have HL113 := Lib.hid (HL112.out.later bw13)
  have TA13 := Lib.hid (TA12.out.later bw13)
  have HI213 := Lib.hid (HI212.out.later bw13)
  have HB13 := Lib.hid (HB12.out.trans (bw13.mono HB12.out.size))
  clear hw13 bw13 H12 HP12 TF12 TX12 HL112 TA12 HI212 HB12
  obtain ⟨tf13_0, tf13_1, tf13_2, tf13_3, tf13_4, tf13_5⟩ := TF13.out
  obtain ⟨tx13_0, tx13_1, tx13_2, tx13_3, tx13_4⟩ := TX13.out
  obtain ⟨ta13_0, ta13_1, ta13_2, ta13_3, ta13_4, ta13_5⟩ := TA13.out
  go_wp2_with (fail)
  refine (hP2 _ _ _ _ _ (HL113.out) (HI213.out)).mono ?_
  rintro e w14 ⟨rfl, hw14⟩
  clear tf13_0 tf13_1 tf13_2 tf13_3 tf13_4 tf13_5 tx13_0 tx13_1 tx13_2 tx13_3 tx13_4 ta13_0 ta13_1 ta13_2 ta13_3 ta13_4 ta13_5
  have bw14 : Below w13.heap.size w13 w14 := hw14
  have H14 := Lib.hid (H13.out.later bw14)
  have HP14 := Lib.hid (HP13.out.later bw14)
  have TF14 := Lib.hid (TF13.out.later bw14)
  have TX14 := Lib.hid (TX13.out.later bw14)
  have HL114 := Lib.hid (HL113.out.later bw14)
  have TA14 := Lib.hid (TA13.out.later bw14)
  have HI214 := Lib.hid (HI213.out.later bw14)
  have HB14 := Lib.hid (HB13.out.trans (bw14.mono HB13.out.size))
  clear hw14 bw14 H13 HP13 TF13 TX13 HL113 TA13 HI213 HB13
  clear HL114
  clear HI214
  clear TA14
  obtain ⟨tf14_0, tf14_1, tf14_2, tf14_3, tf14_4, tf14_5⟩ := TF14.out
  obtain ⟨tx14_0, tx14_1, tx14_2, tx14_3, tx14_4⟩ := TX14.out
  clear HP14
  go_wp2_with (fail)
  refine (hTrb _ (H14.out)).mono ?_
  rintro e w15 ⟨rfl, hw15⟩
  clear tf14_0 tf14_1 tf14_2 tf14_3 tf14_4 tf14_5 tx14_0 tx14_1 tx14_2 tx14_3 tx14_4
  have bw15 : Below w14.heap.size w14 w15 := hw15
  have H15 := Lib.hid (H14.out.later bw15)
  have TF15 := Lib.hid (TF14.out.later bw15)
  have TX15 := Lib.hid (TX14.out.later bw15)
  have HB15 := Lib.hid (HB14.out.trans (bw15.mono HB14.out.size))
  clear hw15 bw15 H14 TF14 TX14 HB14
  go_wp2_with (fail)
  go_ret
  exact ⟨rfl, by have hb := HB15.out; repeat (first | (with_reducible exact Below.refl _ _) | (with_reducible refine Below.setCell ?_ ?_ _) | (with_reducible refine Below.drew ?_) | (with_reducible refine Below.alloc ?_ ?_ _) | (with_reducible refine Below.trans ?_ (Below.mono hb ?_)) | (with_reducible exact hb.size) | omega | (simp <;> omega) | (simp <;> (have s := hb.size; omega)) | (have s0 := hb.size; (try simp at s0); (try simp); omega))⟩
end Go.Proofs.Ytilbhcjnkmeecaa

/- Time can be turned round: the walk, over its calls (bad_acc).
Conditions: those written at each theorem. -/
namespace Go.Proofs.Ytilbhcjnkmeecaa
set_option linter.unusedVariables false
set_option linter.unusedSimpArgs false
set_option maxRecDepth 1000000
open Go.ChangeShapes Go.WideShapes Go.ChangeAt Go.RowKit
open Um Tm Cm Km

set_option maxHeartbeats 12800000 in
theorem topTime_bad_acc (a b c s x be r r2 u1 u3 t t2 tm d v0 v1 : Int) (y q : Bool) (ao po : Option Addr) (m cap pc pn n : Nat) (L L1 L4 L5 : List Q) (l l1 l2 l3 l4 lm : List Int) (w : World) (hm : LiesO w ao L) (hp : LiesOI w po l) (hx : x ≤ 40) (h0 : r ≠ 0) (hv : IntKind.i64.wrap (v1 - v0) = v1 - v0)
    (hT : ∀ W : World, Calls Try.prog 19 #[.agg #[.int .i64 0, .int .i64 7, .int .i64 2]] W fun e w' => e = .returned (.tuple #[.agg #[.int .i64 0, .int .i64 0, .int .i64 (-1), .int .i64 0, .int .i64 1], .int .i64 0]) ∧ Below W.heap.size W w')
    (hLg : ∀ W : World, Calls Try.prog 12 #[.agg #[.int .i64 a, .int .i64 b, .int .i64 c, .slice ao m cap], .slice po pn pc] W fun e w' => e = .returned (.bool false) ∧ Below W.heap.size W w')
    (hR1b : ∀ W : World, LiesO W ao L → LiesOI W po l → Calls Try.prog 27 #[.agg #[.int .i64 a, .int .i64 b, .int .i64 c, .slice ao m cap], .slice po pn pc, .int .i64 x] W fun e w' => e = .returned (.tuple #[.agg #[.int .i64 0, .int .i64 0, .int .i64 0, .slice none 0 0], .slice none 0 0, .int .i64 r]) ∧ Below W.heap.size W w')
    (hTr : ∀ W : World, LiesO W ao L → Calls Try.prog 41 #[.agg #[.int .i64 a, .int .i64 b, .int .i64 c, .slice ao m cap], .int .i64 s, .int .i64 x, .int .i64 be] W fun e w' => RetT a b c n W.heap.size L5 t2 q e w' ∧ Below W.heap.size W w')
    (hM : ∀ W : World, Calls Try.prog 36 #[.agg #[.int .i64 a, .int .i64 b, .int .i64 c], .int .i64 s] W fun e w' => RetM W.heap.size lm n tm e w' ∧ Below W.heap.size W w')
    (hR3 : ∀ (W : World) (gm km : Nat), LiesO W ao L → LiesI W gm 0 lm → Calls Try.prog 27 #[.agg #[.int .i64 a, .int .i64 b, .int .i64 c, .slice ao m cap], .slice (some ⟨gm, 0, none⟩) n km, .int .i64 x] W fun e w' => RetRun a b c n W.heap.size (L4, l4) e w' ∧ Below W.heap.size W w')
    (hD : ∀ W : World, Calls Try.prog 42 #[.int .i64 tm, .int .i64 1073741824] W fun e w' => e = .returned (.tuple #[.int .i64 d, .int .i64 t2, .int .i64 0]) ∧ Below W.heap.size W w')
    (hE5 : ∀ (W : World) (gm km : Nat), LiesO W ao L → LiesI W gm 0 lm → Calls Try.prog 34 #[.agg #[.int .i64 a, .int .i64 b, .int .i64 c, .slice ao m cap], .slice (some ⟨gm, 0, none⟩) n km, .int .i64 be] W fun e w' => e = .returned (.tuple #[.int .i64 v0, .int .i64 0]) ∧ Below W.heap.size W w')
    (hE6 : ∀ (W : World) (g k gm km : Nat), Lies W g 0 L4 → LiesI W gm 0 l4 → Calls Try.prog 34 #[.agg #[.int .i64 a, .int .i64 b, .int .i64 c, .slice (some ⟨g, 0, none⟩) n k], .slice (some ⟨gm, 0, none⟩) n km, .int .i64 be] W fun e w' => e = .returned (.tuple #[.int .i64 v1, .int .i64 0]) ∧ Below W.heap.size W w')
    (hA : ∀ W : World, Calls Try.prog 38 #[.int .i64 (v1 - v0), .int .i64 d] W fun e w' => e = .returned (.tuple #[.bool q, .int .i64 0]) ∧ W = w')
    (hS2t : q = true → ∀ (W : World) (g k g2 k2 : Nat), Lies W g 0 L5 → Lies W g2 0 L4 → Calls Try.prog 29 #[.agg #[.int .i64 a, .int .i64 b, .int .i64 c, .slice (some ⟨g, 0, none⟩) n k], .agg #[.int .i64 a, .int .i64 b, .int .i64 c, .slice (some ⟨g2, 0, none⟩) n k2]] W fun e w' => e = .returned (.bool true) ∧ Below W.heap.size W w')
    (hS2f : q = false → ∀ (W : World) (g k : Nat), Lies W g 0 L5 → LiesO W ao L → Calls Try.prog 29 #[.agg #[.int .i64 a, .int .i64 b, .int .i64 c, .slice (some ⟨g, 0, none⟩) n k], .agg #[.int .i64 a, .int .i64 b, .int .i64 c, .slice ao m cap]] W fun e w' => e = .returned (.bool true) ∧ Below W.heap.size W w')
    : Calls Try.prog 11 #[.agg #[.int .i64 a, .int .i64 b, .int .i64 c, .slice ao m cap], .slice po pn pc, .agg #[.int .i64 s, .int .i64 x, .int .i64 be]] w fun e w' => e = .returned (.bool true) ∧ Below w.heap.size w w' := by
  have h0a : (r != 0) = true := by simpa using h0
  have h0b : (r == 0) = false := by simpa using h0
  have H0 := Lib.hid hm
  have HP0 := Lib.hid hp
  clear hm hp h0
  go_enter Try.func11, Try.ntmps11
  go_wp2_with (fail)
  refine (hT _).mono ?_
  rintro e w1 ⟨rfl, hw1⟩
  have bw1 : Below w.heap.size w w1 := bel2 hw1
  have TF1 := Lib.hid (FW.n2a.later hw1)
  have TX1 := Lib.hid (C3.n2b.later hw1)
  have H1 := Lib.hid (H0.out.later bw1)
  have HP1 := Lib.hid (HP0.out.later bw1)
  have HB1 := Lib.hid bw1
  clear hw1 bw1 H0 HP0
  obtain ⟨tf1_0, tf1_1, tf1_2, tf1_3, tf1_4, tf1_5⟩ := TF1.out
  obtain ⟨tx1_0, tx1_1, tx1_2, tx1_3, tx1_4⟩ := TX1.out
  go_wp2_with (fail)
  refine (hLg _).mono ?_
  rintro e w2 ⟨rfl, hw2⟩
  clear tf1_0 tf1_1 tf1_2 tf1_3 tf1_4 tf1_5 tx1_0 tx1_1 tx1_2 tx1_3 tx1_4
  have bw2 : Below w1.heap.size w1 w2 := bel1 hw2
  have H2 := Lib.hid (H1.out.later bw2)
  have HP2 := Lib.hid (HP1.out.later bw2)
  have TF2 := Lib.hid (TF1.out.later bw2)
  have TX2 := Lib.hid (TX1.out.later bw2)
  have HB2 := Lib.hid (HB1.out.trans (bw2.mono HB1.out.size))
  clear hw2 bw2 H1 HP1 TF1 TX1 HB1
  obtain ⟨tf2_0, tf2_1, tf2_2, tf2_3, tf2_4, tf2_5⟩ := TF2.out
  obtain ⟨tx2_0, tx2_1, tx2_2, tx2_3, tx2_4⟩ := TX2.out
  go_wp2_with (fail)
  refine (hR1b _ (H2.out) (HP2.out)).mono ?_
  rintro e w3 ⟨rfl, hw3⟩
  clear tf2_0 tf2_1 tf2_2 tf2_3 tf2_4 tf2_5 tx2_0 tx2_1 tx2_2 tx2_3 tx2_4
  have bw3 : Below w2.heap.size w2 w3 := hw3
  have H3 := Lib.hid (H2.out.later bw3)
  have HP3 := Lib.hid (HP2.out.later bw3)
  have TF3 := Lib.hid (TF2.out.later bw3)
  have TX3 := Lib.hid (TX2.out.later bw3)
  have HB3 := Lib.hid (HB2.out.trans (bw3.mono HB2.out.size))
  clear hw3 bw3 H2 HP2 TF2 TX2 HB2
  obtain ⟨tf3_0, tf3_1, tf3_2, tf3_3, tf3_4, tf3_5⟩ := TF3.out
  obtain ⟨tx3_0, tx3_1, tx3_2, tx3_3, tx3_4⟩ := TX3.out
  clear HP3
  go_wp2_with (fail)
  refine (hTr _ (H3.out.later ba1)).mono ?_
  rintro e w4 ⟨⟨g5, k5, rfl, hb5, -⟩, hw4⟩
  clear tf3_0 tf3_1 tf3_2 tf3_3 tf3_4 tf3_5 tx3_0 tx3_1 tx3_2 tx3_3 tx3_4
  have bw4 : Below w3.heap.size w3 w4 := bel1 hw4
  have H4 := Lib.hid (H3.out.later bw4)
  have TF4 := Lib.hid (TF3.out.later bw4)
  have TX4 := Lib.hid (TX3.out.later bw4)
  have HB4 := Lib.hid (HB3.out.trans (bw4.mono HB3.out.size))
  have HL54 := Lib.hid hb5.h
  clear hb5
  clear hw4 bw4 H3 TF3 TX3 HB3
  obtain ⟨tf4_0, tf4_1, tf4_2, tf4_3, tf4_4, tf4_5⟩ := TF4.out
  obtain ⟨tx4_0, tx4_1, tx4_2, tx4_3, tx4_4⟩ := TX4.out
  go_wp2_with (fail)
  refine (hM _).mono ?_
  rintro e w5 ⟨⟨g6, k6, rfl, hi6, -⟩, hw5⟩
  clear tf4_0 tf4_1 tf4_2 tf4_3 tf4_4 tf4_5 tx4_0 tx4_1 tx4_2 tx4_3 tx4_4
  have bw5 : Below w4.heap.size w4 w5 := bel1 hw5
  have TG5 := Lib.hid (FW.n1.later hw5)
  have H5 := Lib.hid (H4.out.later bw5)
  have TF5 := Lib.hid (TF4.out.later bw5)
  have TX5 := Lib.hid (TX4.out.later bw5)
  have HL55 := Lib.hid (HL54.out.later bw5)
  have HB5 := Lib.hid (HB4.out.trans (bw5.mono HB4.out.size))
  have HI65 := Lib.hid hi6
  clear hi6
  clear hw5 bw5 H4 TF4 TX4 HL54 HB4
  obtain ⟨tf5_0, tf5_1, tf5_2, tf5_3, tf5_4, tf5_5⟩ := TF5.out
  obtain ⟨tx5_0, tx5_1, tx5_2, tx5_3, tx5_4⟩ := TX5.out
  obtain ⟨tg5_0, tg5_1, tg5_2, tg5_3, tg5_4, tg5_5⟩ := TG5.out
  go_wp2_with (fail)
  refine (hR3 _ _ _ (H5.out) (HI65.out)).mono ?_
  rintro e w6 ⟨⟨g7, k7, m7, j7, rfl, hb7, hi7, -, -, -⟩, hw6⟩
  clear tf5_0 tf5_1 tf5_2 tf5_3 tf5_4 tf5_5 tx5_0 tx5_1 tx5_2 tx5_3 tx5_4 tg5_0 tg5_1 tg5_2 tg5_3 tg5_4 tg5_5
  have bw6 : Below w5.heap.size w5 w6 := hw6
  have H6 := Lib.hid (H5.out.later bw6)
  have TF6 := Lib.hid (TF5.out.later bw6)
  have TX6 := Lib.hid (TX5.out.later bw6)
  have HL56 := Lib.hid (HL55.out.later bw6)
  have TG6 := Lib.hid (TG5.out.later bw6)
  have HI66 := Lib.hid (HI65.out.later bw6)
  have HB6 := Lib.hid (HB5.out.trans (bw6.mono HB5.out.size))
  have HL76 := Lib.hid hb7.h
  clear hb7
  have HI76 := Lib.hid hi7.h
  clear hi7
  clear hw6 bw6 H5 TF5 TX5 HL55 TG5 HI65 HB5
  obtain ⟨tf6_0, tf6_1, tf6_2, tf6_3, tf6_4, tf6_5⟩ := TF6.out
  obtain ⟨tx6_0, tx6_1, tx6_2, tx6_3, tx6_4⟩ := TX6.out
  obtain ⟨tg6_0, tg6_1, tg6_2, tg6_3, tg6_4, tg6_5⟩ := TG6.out
  go_wp2_with (fail)
  refine (hD _).mono ?_
  rintro e w7 ⟨rfl, hw7⟩
  clear tf6_0 tf6_1 tf6_2 tf6_3 tf6_4 tf6_5 tx6_0 tx6_1 tx6_2 tx6_3 tx6_4 tg6_0 tg6_1 tg6_2 tg6_3 tg6_4 tg6_5
  have bw7 : Below w6.heap.size w6 w7 := bel1 hw7
  have TC7 := Lib.hid (FW.n1.later hw7)
  have H7 := Lib.hid (H6.out.later bw7)
  have TF7 := Lib.hid (TF6.out.later bw7)
  have TX7 := Lib.hid (TX6.out.later bw7)
  have HL57 := Lib.hid (HL56.out.later bw7)
  have TG7 := Lib.hid (TG6.out.later bw7)
  have HI67 := Lib.hid (HI66.out.later bw7)
  have HL77 := Lib.hid (HL76.out.later bw7)
  have HI77 := Lib.hid (HI76.out.later bw7)
  have HB7 := Lib.hid (HB6.out.trans (bw7.mono HB6.out.size))
  clear hw7 bw7 H6 TF6 TX6 HL56 TG6 HI66 HL76 HI76 HB6
  obtain ⟨tf7_0, tf7_1, tf7_2, tf7_3, tf7_4, tf7_5⟩ := TF7.out
  obtain ⟨tx7_0, tx7_1, tx7_2, tx7_3, tx7_4⟩ := TX7.out
  obtain ⟨tg7_0, tg7_1, tg7_2, tg7_3, tg7_4, tg7_5⟩ := TG7.out
  obtain ⟨tc7_0, tc7_1, tc7_2, tc7_3, tc7_4, tc7_5⟩ := TC7.out
  go_wp2_with (fail)
  refine (hE5 _ _ _ (H7.out) (HI67.out)).mono ?_
  rintro e w8 ⟨rfl, hw8⟩
  clear tf7_0 tf7_1 tf7_2 tf7_3 tf7_4 tf7_5 tx7_0 tx7_1 tx7_2 tx7_3 tx7_4 tg7_0 tg7_1 tg7_2 tg7_3 tg7_4 tg7_5 tc7_0 tc7_1 tc7_2 tc7_3 tc7_4 tc7_5
  have bw8 : Below w7.heap.size w7 w8 := hw8
  have H8 := Lib.hid (H7.out.later bw8)
  have TF8 := Lib.hid (TF7.out.later bw8)
  have TX8 := Lib.hid (TX7.out.later bw8)
  have HL58 := Lib.hid (HL57.out.later bw8)
  have TG8 := Lib.hid (TG7.out.later bw8)
  have HI68 := Lib.hid (HI67.out.later bw8)
  have HL78 := Lib.hid (HL77.out.later bw8)
  have HI78 := Lib.hid (HI77.out.later bw8)
  have TC8 := Lib.hid (TC7.out.later bw8)
  have HB8 := Lib.hid (HB7.out.trans (bw8.mono HB7.out.size))
  clear hw8 bw8 H7 TF7 TX7 HL57 TG7 HI67 HL77 HI77 TC7 HB7
  obtain ⟨tf8_0, tf8_1, tf8_2, tf8_3, tf8_4, tf8_5⟩ := TF8.out
  obtain ⟨tx8_0, tx8_1, tx8_2, tx8_3, tx8_4⟩ := TX8.out
  obtain ⟨tg8_0, tg8_1, tg8_2, tg8_3, tg8_4, tg8_5⟩ := TG8.out
  obtain ⟨tc8_0, tc8_1, tc8_2, tc8_3, tc8_4, tc8_5⟩ := TC8.out
  go_wp2_with (fail)
  refine (hE6 _ _ _ _ _ (HL78.out) (HI78.out)).mono ?_
  rintro e w9 ⟨rfl, hw9⟩
  clear tf8_0 tf8_1 tf8_2 tf8_3 tf8_4 tf8_5 tx8_0 tx8_1 tx8_2 tx8_3 tx8_4 tg8_0 tg8_1 tg8_2 tg8_3 tg8_4 tg8_5 tc8_0 tc8_1 tc8_2 tc8_3 tc8_4 tc8_5
  have bw9 : Below w8.heap.size w8 w9 := hw9
  have H9 := Lib.hid (H8.out.later bw9)
  have TF9 := Lib.hid (TF8.out.later bw9)
  have TX9 := Lib.hid (TX8.out.later bw9)
  have HL59 := Lib.hid (HL58.out.later bw9)
  have TG9 := Lib.hid (TG8.out.later bw9)
  have HI69 := Lib.hid (HI68.out.later bw9)
  have HL79 := Lib.hid (HL78.out.later bw9)
  have HI79 := Lib.hid (HI78.out.later bw9)
  have TC9 := Lib.hid (TC8.out.later bw9)
  have HB9 := Lib.hid (HB8.out.trans (bw9.mono HB8.out.size))
  clear hw9 bw9 H8 TF8 TX8 HL58 TG8 HI68 HL78 HI78 TC8 HB8
  obtain ⟨tf9_0, tf9_1, tf9_2, tf9_3, tf9_4, tf9_5⟩ := TF9.out
  obtain ⟨tx9_0, tx9_1, tx9_2, tx9_3, tx9_4⟩ := TX9.out
  obtain ⟨tg9_0, tg9_1, tg9_2, tg9_3, tg9_4, tg9_5⟩ := TG9.out
  obtain ⟨tc9_0, tc9_1, tc9_2, tc9_3, tc9_4, tc9_5⟩ := TC9.out
  cases q
  · go_wp2_with (fail)
    refine (hA _).mono ?_
    rintro e wx ⟨rfl, rfl⟩
    go_wp2_with (fail)
    refine (hS2f (by trivial) _ _ _ (HL59.out) (H9.out)).mono ?_
    rintro e w10 ⟨rfl, hw10⟩
    clear tf9_0 tf9_1 tf9_2 tf9_3 tf9_4 tf9_5 tx9_0 tx9_1 tx9_2 tx9_3 tx9_4 tg9_0 tg9_1 tg9_2 tg9_3 tg9_4 tg9_5 tc9_0 tc9_1 tc9_2 tc9_3 tc9_4 tc9_5
    have bw10 : Below w9.heap.size w9 w10 := hw10
    have H10 := Lib.hid (H9.out.later bw10)
    have TF10 := Lib.hid (TF9.out.later bw10)
    have TX10 := Lib.hid (TX9.out.later bw10)
    have HL510 := Lib.hid (HL59.out.later bw10)
    have TG10 := Lib.hid (TG9.out.later bw10)
    have HI610 := Lib.hid (HI69.out.later bw10)
    have HL710 := Lib.hid (HL79.out.later bw10)
    have HI710 := Lib.hid (HI79.out.later bw10)
    have TC10 := Lib.hid (TC9.out.later bw10)
    have HB10 := Lib.hid (HB9.out.trans (bw10.mono HB9.out.size))
    clear hw10 bw10 H9 TF9 TX9 HL59 TG9 HI69 HL79 HI79 TC9 HB9
    go_wp2_with (fail)
    go_ret
    exact ⟨rfl, HB10.out⟩
  · go_wp2_with (fail)
    refine (hA _).mono ?_
    rintro e wx ⟨rfl, rfl⟩
    go_wp2_with (fail)
    refine (hS2t (by trivial) _ _ _ _ _ (HL59.out) (HL79.out)).mono ?_
    rintro e w10 ⟨rfl, hw10⟩
    clear tf9_0 tf9_1 tf9_2 tf9_3 tf9_4 tf9_5 tx9_0 tx9_1 tx9_2 tx9_3 tx9_4 tg9_0 tg9_1 tg9_2 tg9_3 tg9_4 tg9_5 tc9_0 tc9_1 tc9_2 tc9_3 tc9_4 tc9_5
    have bw10 : Below w9.heap.size w9 w10 := hw10
    have H10 := Lib.hid (H9.out.later bw10)
    have TF10 := Lib.hid (TF9.out.later bw10)
    have TX10 := Lib.hid (TX9.out.later bw10)
    have HL510 := Lib.hid (HL59.out.later bw10)
    have TG10 := Lib.hid (TG9.out.later bw10)
    have HI610 := Lib.hid (HI69.out.later bw10)
    have HL710 := Lib.hid (HL79.out.later bw10)
    have HI710 := Lib.hid (HI79.out.later bw10)
    have TC10 := Lib.hid (TC9.out.later bw10)
    have HB10 := Lib.hid (HB9.out.trans (bw10.mono HB9.out.size))
    clear hw10 bw10 H9 TF9 TX9 HL59 TG9 HI69 HL79 HI79 TC9 HB9
    go_wp2_with (fail)
    go_ret
    exact ⟨rfl, HB10.out⟩
end Go.Proofs.Ytilbhcjnkmeecaa

/- Time can be turned round: the walk, over its calls (ok_acc).
Conditions: those written at each theorem. -/
namespace Go.Proofs.Ytilbhcjnkmeecaa
set_option linter.unusedVariables false
set_option linter.unusedSimpArgs false
set_option maxRecDepth 1000000
open Go.ChangeShapes Go.WideShapes Go.ChangeAt Go.RowKit
open Um Tm Cm Km

set_option maxHeartbeats 12800000 in
theorem topTime_ok_acc (a b c s x be r r2 u1 u3 t t2 tm d v0 v1 : Int) (y q : Bool) (ao po : Option Addr) (m cap pc pn n : Nat) (L L1 L4 L5 : List Q) (l l1 l2 l3 l4 lm : List Int) (w : World) (hm : LiesO w ao L) (hp : LiesOI w po l) (hx : x ≤ 40) (hv : IntKind.i64.wrap (v1 - v0) = v1 - v0)
    (hT : ∀ W : World, Calls Try.prog 19 #[.agg #[.int .i64 0, .int .i64 7, .int .i64 2]] W fun e w' => e = .returned (.tuple #[.agg #[.int .i64 0, .int .i64 0, .int .i64 (-1), .int .i64 0, .int .i64 1], .int .i64 0]) ∧ Below W.heap.size W w')
    (hLg : ∀ W : World, Calls Try.prog 12 #[.agg #[.int .i64 a, .int .i64 b, .int .i64 c, .slice ao m cap], .slice po pn pc] W fun e w' => e = .returned (.bool false) ∧ Below W.heap.size W w')
    (hR1 : ∀ W : World, LiesO W ao L → LiesOI W po l → Calls Try.prog 27 #[.agg #[.int .i64 a, .int .i64 b, .int .i64 c, .slice ao m cap], .slice po pn pc, .int .i64 x] W fun e w' => RetRun a b c n W.heap.size (L1, l1) e w' ∧ Below W.heap.size W w')
    (hV1 : ∀ (W : World) (g k gm km : Nat), Lies W g 0 L1 → LiesI W gm 0 l1 → Calls Try.prog 14 #[.agg #[.int .i64 a, .int .i64 b, .int .i64 c, .slice (some ⟨g, 0, none⟩) n k], .slice (some ⟨gm, 0, none⟩) n km] W fun e w' => RetV W.heap.size l2 n e w' ∧ Below W.heap.size W w')
    (hE1 : ∀ (W : World) (g k gm km : Nat), Lies W g 0 L1 → LiesI W gm 0 l1 → Calls Try.prog 34 #[.agg #[.int .i64 a, .int .i64 b, .int .i64 c, .slice (some ⟨g, 0, none⟩) n k], .slice (some ⟨gm, 0, none⟩) n km, .int .i64 1] W fun e w' => e = .returned (.tuple #[.int .i64 u1, .int .i64 0]) ∧ Below W.heap.size W w')
    (hE2 : ∀ (W : World) (g k gm km : Nat), Lies W g 0 L1 → LiesI W gm 0 l2 → Calls Try.prog 34 #[.agg #[.int .i64 a, .int .i64 b, .int .i64 c, .slice (some ⟨g, 0, none⟩) n k], .slice (some ⟨gm, 0, none⟩) n km, .int .i64 1] W fun e w' => e = .returned (.tuple #[.int .i64 u1, .int .i64 0]) ∧ Below W.heap.size W w')
    (hR2 : ∀ (W : World) (g k gm km : Nat), Lies W g 0 L1 → LiesI W gm 0 l2 → Calls Try.prog 27 #[.agg #[.int .i64 a, .int .i64 b, .int .i64 c, .slice (some ⟨g, 0, none⟩) n k], .slice (some ⟨gm, 0, none⟩) n km, .int .i64 x] W fun e w' => RetRun a b c n W.heap.size (L, l3) e w' ∧ Below W.heap.size W w')
    (hE3 : ∀ W : World, LiesO W ao L → LiesOI W po l → Calls Try.prog 34 #[.agg #[.int .i64 a, .int .i64 b, .int .i64 c, .slice ao m cap], .slice po pn pc, .int .i64 1] W fun e w' => e = .returned (.tuple #[.int .i64 u3, .int .i64 0]) ∧ Below W.heap.size W w')
    (hE4 : ∀ (W : World) (g k gm km : Nat), Lies W g 0 L → LiesI W gm 0 l3 → Calls Try.prog 34 #[.agg #[.int .i64 a, .int .i64 b, .int .i64 c, .slice (some ⟨g, 0, none⟩) n k], .slice (some ⟨gm, 0, none⟩) n km, .int .i64 1] W fun e w' => e = .returned (.tuple #[.int .i64 u3, .int .i64 0]) ∧ Below W.heap.size W w')
    (hV2 : ∀ (W : World) (g k gm km : Nat), Lies W g 0 L → LiesI W gm 0 l3 → Calls Try.prog 14 #[.agg #[.int .i64 a, .int .i64 b, .int .i64 c, .slice (some ⟨g, 0, none⟩) n k], .slice (some ⟨gm, 0, none⟩) n km] W fun e w' => RetV W.heap.size l n e w' ∧ Below W.heap.size W w')
    (hS1 : ∀ (W : World) (g k : Nat), Lies W g 0 L → LiesO W ao L → Calls Try.prog 29 #[.agg #[.int .i64 a, .int .i64 b, .int .i64 c, .slice (some ⟨g, 0, none⟩) n k], .agg #[.int .i64 a, .int .i64 b, .int .i64 c, .slice ao m cap]] W fun e w' => e = .returned (.bool true) ∧ Below W.heap.size W w')
    (hK1 : ∀ (W : World) (g k : Nat), LiesI W g 0 l → LiesOI W po l → Calls Try.prog 18 #[.slice (some ⟨g, 0, none⟩) n k, .slice po pn pc] W fun e w' => e = .returned (.bool true) ∧ Below W.heap.size W w')
    (hP1 : ∀ W : World, LiesO W ao L → LiesOI W po l → Calls Try.prog 40 #[.agg #[.int .i64 a, .int .i64 b, .int .i64 c, .slice ao m cap], .slice po pn pc, .int .i64 20] W fun e w' => e = .returned (.tuple #[.int .i64 t, .bool y, .int .i64 0]) ∧ Below W.heap.size W w')
    (hP2 : ∀ (W : World) (g k gm km : Nat), Lies W g 0 L1 → LiesI W gm 0 l2 → Calls Try.prog 40 #[.agg #[.int .i64 a, .int .i64 b, .int .i64 c, .slice (some ⟨g, 0, none⟩) n k], .slice (some ⟨gm, 0, none⟩) n km, .int .i64 20] W fun e w' => e = .returned (.tuple #[.int .i64 t, .bool y, .int .i64 0]) ∧ Below W.heap.size W w')
    (hTr : ∀ W : World, LiesO W ao L → Calls Try.prog 41 #[.agg #[.int .i64 a, .int .i64 b, .int .i64 c, .slice ao m cap], .int .i64 s, .int .i64 x, .int .i64 be] W fun e w' => RetT a b c n W.heap.size L5 t2 q e w' ∧ Below W.heap.size W w')
    (hM : ∀ W : World, Calls Try.prog 36 #[.agg #[.int .i64 a, .int .i64 b, .int .i64 c], .int .i64 s] W fun e w' => RetM W.heap.size lm n tm e w' ∧ Below W.heap.size W w')
    (hR3 : ∀ (W : World) (gm km : Nat), LiesO W ao L → LiesI W gm 0 lm → Calls Try.prog 27 #[.agg #[.int .i64 a, .int .i64 b, .int .i64 c, .slice ao m cap], .slice (some ⟨gm, 0, none⟩) n km, .int .i64 x] W fun e w' => RetRun a b c n W.heap.size (L4, l4) e w' ∧ Below W.heap.size W w')
    (hD : ∀ W : World, Calls Try.prog 42 #[.int .i64 tm, .int .i64 1073741824] W fun e w' => e = .returned (.tuple #[.int .i64 d, .int .i64 t2, .int .i64 0]) ∧ Below W.heap.size W w')
    (hE5 : ∀ (W : World) (gm km : Nat), LiesO W ao L → LiesI W gm 0 lm → Calls Try.prog 34 #[.agg #[.int .i64 a, .int .i64 b, .int .i64 c, .slice ao m cap], .slice (some ⟨gm, 0, none⟩) n km, .int .i64 be] W fun e w' => e = .returned (.tuple #[.int .i64 v0, .int .i64 0]) ∧ Below W.heap.size W w')
    (hE6 : ∀ (W : World) (g k gm km : Nat), Lies W g 0 L4 → LiesI W gm 0 l4 → Calls Try.prog 34 #[.agg #[.int .i64 a, .int .i64 b, .int .i64 c, .slice (some ⟨g, 0, none⟩) n k], .slice (some ⟨gm, 0, none⟩) n km, .int .i64 be] W fun e w' => e = .returned (.tuple #[.int .i64 v1, .int .i64 0]) ∧ Below W.heap.size W w')
    (hA : ∀ W : World, Calls Try.prog 38 #[.int .i64 (v1 - v0), .int .i64 d] W fun e w' => e = .returned (.tuple #[.bool q, .int .i64 0]) ∧ W = w')
    (hS2t : q = true → ∀ (W : World) (g k g2 k2 : Nat), Lies W g 0 L5 → Lies W g2 0 L4 → Calls Try.prog 29 #[.agg #[.int .i64 a, .int .i64 b, .int .i64 c, .slice (some ⟨g, 0, none⟩) n k], .agg #[.int .i64 a, .int .i64 b, .int .i64 c, .slice (some ⟨g2, 0, none⟩) n k2]] W fun e w' => e = .returned (.bool true) ∧ Below W.heap.size W w')
    (hS2f : q = false → ∀ (W : World) (g k : Nat), Lies W g 0 L5 → LiesO W ao L → Calls Try.prog 29 #[.agg #[.int .i64 a, .int .i64 b, .int .i64 c, .slice (some ⟨g, 0, none⟩) n k], .agg #[.int .i64 a, .int .i64 b, .int .i64 c, .slice ao m cap]] W fun e w' => e = .returned (.bool true) ∧ Below W.heap.size W w')
    : Calls Try.prog 11 #[.agg #[.int .i64 a, .int .i64 b, .int .i64 c, .slice ao m cap], .slice po pn pc, .agg #[.int .i64 s, .int .i64 x, .int .i64 be]] w fun e w' => e = .returned (.bool true) ∧ Below w.heap.size w w' := by
  have H0 := Lib.hid hm
  have HP0 := Lib.hid hp
  clear hm hp
  go_enter Try.func11, Try.ntmps11
  go_wp2_with (fail)
  refine (hT _).mono ?_
  rintro e w1 ⟨rfl, hw1⟩
  have bw1 : Below w.heap.size w w1 := bel2 hw1
  have TF1 := Lib.hid (FW.n2a.later hw1)
  have TX1 := Lib.hid (C3.n2b.later hw1)
  have H1 := Lib.hid (H0.out.later bw1)
  have HP1 := Lib.hid (HP0.out.later bw1)
  have HB1 := Lib.hid bw1
  clear hw1 bw1 H0 HP0
  obtain ⟨tf1_0, tf1_1, tf1_2, tf1_3, tf1_4, tf1_5⟩ := TF1.out
  obtain ⟨tx1_0, tx1_1, tx1_2, tx1_3, tx1_4⟩ := TX1.out
  go_wp2_with (fail)
  refine (hLg _).mono ?_
  rintro e w2 ⟨rfl, hw2⟩
  clear tf1_0 tf1_1 tf1_2 tf1_3 tf1_4 tf1_5 tx1_0 tx1_1 tx1_2 tx1_3 tx1_4
  have bw2 : Below w1.heap.size w1 w2 := bel1 hw2
  have H2 := Lib.hid (H1.out.later bw2)
  have HP2 := Lib.hid (HP1.out.later bw2)
  have TF2 := Lib.hid (TF1.out.later bw2)
  have TX2 := Lib.hid (TX1.out.later bw2)
  have HB2 := Lib.hid (HB1.out.trans (bw2.mono HB1.out.size))
  clear hw2 bw2 H1 HP1 TF1 TX1 HB1
  obtain ⟨tf2_0, tf2_1, tf2_2, tf2_3, tf2_4, tf2_5⟩ := TF2.out
  obtain ⟨tx2_0, tx2_1, tx2_2, tx2_3, tx2_4⟩ := TX2.out
  go_wp2_with (fail)
  refine (hR1 _ (H2.out) (HP2.out)).mono ?_
  rintro e w3 ⟨⟨g1, k1, m1, j1, rfl, hb1, hi1, -, -, -⟩, hw3⟩
  clear tf2_0 tf2_1 tf2_2 tf2_3 tf2_4 tf2_5 tx2_0 tx2_1 tx2_2 tx2_3 tx2_4
  have bw3 : Below w2.heap.size w2 w3 := hw3
  have H3 := Lib.hid (H2.out.later bw3)
  have HP3 := Lib.hid (HP2.out.later bw3)
  have TF3 := Lib.hid (TF2.out.later bw3)
  have TX3 := Lib.hid (TX2.out.later bw3)
  have HB3 := Lib.hid (HB2.out.trans (bw3.mono HB2.out.size))
  have HL13 := Lib.hid hb1.h
  clear hb1
  have HI13 := Lib.hid hi1.h
  clear hi1
  clear hw3 bw3 H2 HP2 TF2 TX2 HB2
  obtain ⟨tf3_0, tf3_1, tf3_2, tf3_3, tf3_4, tf3_5⟩ := TF3.out
  obtain ⟨tx3_0, tx3_1, tx3_2, tx3_3, tx3_4⟩ := TX3.out
  go_wp2_with (fail)
  refine (hV1 _ _ _ _ _ (HL13.out.later ba1) (HI13.out.later ba1)).mono ?_
  rintro e w4 ⟨⟨g2, k2, rfl, hi2, -⟩, hw4⟩
  clear tf3_0 tf3_1 tf3_2 tf3_3 tf3_4 tf3_5 tx3_0 tx3_1 tx3_2 tx3_3 tx3_4
  have bw4 : Below w3.heap.size w3 w4 := bel1 hw4
  have TA4 := Lib.hid (FW.n1.later hw4)
  have H4 := Lib.hid (H3.out.later bw4)
  have HP4 := Lib.hid (HP3.out.later bw4)
  have TF4 := Lib.hid (TF3.out.later bw4)
  have TX4 := Lib.hid (TX3.out.later bw4)
  have HL14 := Lib.hid (HL13.out.later bw4)
  have HI14 := Lib.hid (HI13.out.later bw4)
  have HB4 := Lib.hid (HB3.out.trans (bw4.mono HB3.out.size))
  have HI24 := Lib.hid hi2
  clear hi2
  clear hw4 bw4 H3 HP3 TF3 TX3 HL13 HI13 HB3
  obtain ⟨tf4_0, tf4_1, tf4_2, tf4_3, tf4_4, tf4_5⟩ := TF4.out
  obtain ⟨tx4_0, tx4_1, tx4_2, tx4_3, tx4_4⟩ := TX4.out
  obtain ⟨ta4_0, ta4_1, ta4_2, ta4_3, ta4_4, ta4_5⟩ := TA4.out
  go_wp2_with (fail)
  refine (hE1 _ _ _ _ _ (HL14.out) (HI14.out)).mono ?_
  rintro e w5 ⟨rfl, hw5⟩
  clear tf4_0 tf4_1 tf4_2 tf4_3 tf4_4 tf4_5 tx4_0 tx4_1 tx4_2 tx4_3 tx4_4 ta4_0 ta4_1 ta4_2 ta4_3 ta4_4 ta4_5
  have bw5 : Below w4.heap.size w4 w5 := hw5
  have H5 := Lib.hid (H4.out.later bw5)
  have HP5 := Lib.hid (HP4.out.later bw5)
  have TF5 := Lib.hid (TF4.out.later bw5)
  have TX5 := Lib.hid (TX4.out.later bw5)
  have HL15 := Lib.hid (HL14.out.later bw5)
  have HI15 := Lib.hid (HI14.out.later bw5)
  have TA5 := Lib.hid (TA4.out.later bw5)
  have HI25 := Lib.hid (HI24.out.later bw5)
  have HB5 := Lib.hid (HB4.out.trans (bw5.mono HB4.out.size))
  clear hw5 bw5 H4 HP4 TF4 TX4 HL14 HI14 TA4 HI24 HB4
  clear HI15
  obtain ⟨tf5_0, tf5_1, tf5_2, tf5_3, tf5_4, tf5_5⟩ := TF5.out
  obtain ⟨tx5_0, tx5_1, tx5_2, tx5_3, tx5_4⟩ := TX5.out
  obtain ⟨ta5_0, ta5_1, ta5_2, ta5_3, ta5_4, ta5_5⟩ := TA5.out
  go_wp2_with (fail)
  refine (hE2 _ _ _ _ _ (HL15.out) (HI25.out)).mono ?_
  rintro e w6 ⟨rfl, hw6⟩
  clear tf5_0 tf5_1 tf5_2 tf5_3 tf5_4 tf5_5 tx5_0 tx5_1 tx5_2 tx5_3 tx5_4 ta5_0 ta5_1 ta5_2 ta5_3 ta5_4 ta5_5
  have bw6 : Below w5.heap.size w5 w6 := hw6
  have H6 := Lib.hid (H5.out.later bw6)
  have HP6 := Lib.hid (HP5.out.later bw6)
  have TF6 := Lib.hid (TF5.out.later bw6)
  have TX6 := Lib.hid (TX5.out.later bw6)
  have HL16 := Lib.hid (HL15.out.later bw6)
  have TA6 := Lib.hid (TA5.out.later bw6)
  have HI26 := Lib.hid (HI25.out.later bw6)
  have HB6 := Lib.hid (HB5.out.trans (bw6.mono HB5.out.size))
  clear hw6 bw6 H5 HP5 TF5 TX5 HL15 TA5 HI25 HB5
  obtain ⟨tf6_0, tf6_1, tf6_2, tf6_3, tf6_4, tf6_5⟩ := TF6.out
  obtain ⟨tx6_0, tx6_1, tx6_2, tx6_3, tx6_4⟩ := TX6.out
  obtain ⟨ta6_0, ta6_1, ta6_2, ta6_3, ta6_4, ta6_5⟩ := TA6.out
  go_wp2_with (fail)
  refine (hR2 _ _ _ _ _ (HL16.out) (HI26.out)).mono ?_
  rintro e w7 ⟨⟨g3, k3, m3, j3, rfl, hb3, hi3, -, -, -⟩, hw7⟩
  clear tf6_0 tf6_1 tf6_2 tf6_3 tf6_4 tf6_5 tx6_0 tx6_1 tx6_2 tx6_3 tx6_4 ta6_0 ta6_1 ta6_2 ta6_3 ta6_4 ta6_5
  have bw7 : Below w6.heap.size w6 w7 := hw7
  have H7 := Lib.hid (H6.out.later bw7)
  have HP7 := Lib.hid (HP6.out.later bw7)
  have TF7 := Lib.hid (TF6.out.later bw7)
  have TX7 := Lib.hid (TX6.out.later bw7)
  have HL17 := Lib.hid (HL16.out.later bw7)
  have TA7 := Lib.hid (TA6.out.later bw7)
  have HI27 := Lib.hid (HI26.out.later bw7)
  have HB7 := Lib.hid (HB6.out.trans (bw7.mono HB6.out.size))
  have HL37 := Lib.hid hb3.h
  clear hb3
  have HI37 := Lib.hid hi3.h
  clear hi3
  clear hw7 bw7 H6 HP6 TF6 TX6 HL16 TA6 HI26 HB6
  obtain ⟨tf7_0, tf7_1, tf7_2, tf7_3, tf7_4, tf7_5⟩ := TF7.out
  obtain ⟨tx7_0, tx7_1, tx7_2, tx7_3, tx7_4⟩ := TX7.out
  obtain ⟨ta7_0, ta7_1, ta7_2, ta7_3, ta7_4, ta7_5⟩ := TA7.out
  go_wp2_with (fail)
  refine (hE3 _ (H7.out.later ba1) (HP7.out.later ba1)).mono ?_
  rintro e w8 ⟨rfl, hw8⟩
  clear tf7_0 tf7_1 tf7_2 tf7_3 tf7_4 tf7_5 tx7_0 tx7_1 tx7_2 tx7_3 tx7_4 ta7_0 ta7_1 ta7_2 ta7_3 ta7_4 ta7_5
  have bw8 : Below w7.heap.size w7 w8 := bel1 hw8
  have TY8 := Lib.hid (FW.n1.later hw8)
  have H8 := Lib.hid (H7.out.later bw8)
  have HP8 := Lib.hid (HP7.out.later bw8)
  have TF8 := Lib.hid (TF7.out.later bw8)
  have TX8 := Lib.hid (TX7.out.later bw8)
  have HL18 := Lib.hid (HL17.out.later bw8)
  have TA8 := Lib.hid (TA7.out.later bw8)
  have HI28 := Lib.hid (HI27.out.later bw8)
  have HL38 := Lib.hid (HL37.out.later bw8)
  have HI38 := Lib.hid (HI37.out.later bw8)
  have HB8 := Lib.hid (HB7.out.trans (bw8.mono HB7.out.size))
  clear hw8 bw8 H7 HP7 TF7 TX7 HL17 TA7 HI27 HL37 HI37 HB7
  obtain ⟨tf8_0, tf8_1, tf8_2, tf8_3, tf8_4, tf8_5⟩ := TF8.out
  obtain ⟨tx8_0, tx8_1, tx8_2, tx8_3, tx8_4⟩ := TX8.out
  obtain ⟨ta8_0, ta8_1, ta8_2, ta8_3, ta8_4, ta8_5⟩ := TA8.out
  obtain ⟨ty8_0, ty8_1, ty8_2, ty8_3, ty8_4, ty8_5⟩ := TY8.out
  go_wp2_with (fail)
  refine (hE4 _ _ _ _ _ (HL38.out) (HI38.out)).mono ?_
  rintro e w9 ⟨rfl, hw9⟩
  clear tf8_0 tf8_1 tf8_2 tf8_3 tf8_4 tf8_5 tx8_0 tx8_1 tx8_2 tx8_3 tx8_4 ta8_0 ta8_1 ta8_2 ta8_3 ta8_4 ta8_5 ty8_0 ty8_1 ty8_2 ty8_3 ty8_4 ty8_5
  have bw9 : Below w8.heap.size w8 w9 := hw9
  have H9 := Lib.hid (H8.out.later bw9)
  have HP9 := Lib.hid (HP8.out.later bw9)
  have TF9 := Lib.hid (TF8.out.later bw9)
  have TX9 := Lib.hid (TX8.out.later bw9)
  have HL19 := Lib.hid (HL18.out.later bw9)
  have TA9 := Lib.hid (TA8.out.later bw9)
  have HI29 := Lib.hid (HI28.out.later bw9)
  have HL39 := Lib.hid (HL38.out.later bw9)
  have HI39 := Lib.hid (HI38.out.later bw9)
  have TY9 := Lib.hid (TY8.out.later bw9)
  have HB9 := Lib.hid (HB8.out.trans (bw9.mono HB8.out.size))
  clear hw9 bw9 H8 HP8 TF8 TX8 HL18 TA8 HI28 HL38 HI38 TY8 HB8
  obtain ⟨tf9_0, tf9_1, tf9_2, tf9_3, tf9_4, tf9_5⟩ := TF9.out
  obtain ⟨tx9_0, tx9_1, tx9_2, tx9_3, tx9_4⟩ := TX9.out
  obtain ⟨ta9_0, ta9_1, ta9_2, ta9_3, ta9_4, ta9_5⟩ := TA9.out
  obtain ⟨ty9_0, ty9_1, ty9_2, ty9_3, ty9_4, ty9_5⟩ := TY9.out
  go_wp2_with (fail)
  refine (hV2 _ _ _ _ _ (HL39.out) (HI39.out)).mono ?_
  rintro e w10 ⟨⟨g4, k4, rfl, hi4, -⟩, hw10⟩
  clear tf9_0 tf9_1 tf9_2 tf9_3 tf9_4 tf9_5 tx9_0 tx9_1 tx9_2 tx9_3 tx9_4 ta9_0 ta9_1 ta9_2 ta9_3 ta9_4 ta9_5 ty9_0 ty9_1 ty9_2 ty9_3 ty9_4 ty9_5
  have bw10 : Below w9.heap.size w9 w10 := hw10
  have H10 := Lib.hid (H9.out.later bw10)
  have HP10 := Lib.hid (HP9.out.later bw10)
  have TF10 := Lib.hid (TF9.out.later bw10)
  have TX10 := Lib.hid (TX9.out.later bw10)
  have HL110 := Lib.hid (HL19.out.later bw10)
  have TA10 := Lib.hid (TA9.out.later bw10)
  have HI210 := Lib.hid (HI29.out.later bw10)
  have HL310 := Lib.hid (HL39.out.later bw10)
  have HI310 := Lib.hid (HI39.out.later bw10)
  have TY10 := Lib.hid (TY9.out.later bw10)
  have HB10 := Lib.hid (HB9.out.trans (bw10.mono HB9.out.size))
  have HI410 := Lib.hid hi4
  clear hi4
  clear hw10 bw10 H9 HP9 TF9 TX9 HL19 TA9 HI29 HL39 HI39 TY9 HB9
  clear HI310
  obtain ⟨tf10_0, tf10_1, tf10_2, tf10_3, tf10_4, tf10_5⟩ := TF10.out
  obtain ⟨tx10_0, tx10_1, tx10_2, tx10_3, tx10_4⟩ := TX10.out
  obtain ⟨ta10_0, ta10_1, ta10_2, ta10_3, ta10_4, ta10_5⟩ := TA10.out
  obtain ⟨ty10_0, ty10_1, ty10_2, ty10_3, ty10_4, ty10_5⟩ := TY10.out
  go_wp2_with (fail)
  refine (hS1 _ _ _ (HL310.out) (H10.out)).mono ?_
  rintro e w11 ⟨rfl, hw11⟩
  clear tf10_0 tf10_1 tf10_2 tf10_3 tf10_4 tf10_5 tx10_0 tx10_1 tx10_2 tx10_3 tx10_4 ta10_0 ta10_1 ta10_2 ta10_3 ta10_4 ta10_5 ty10_0 ty10_1 ty10_2 ty10_3 ty10_4 ty10_5
  have bw11 : Below w10.heap.size w10 w11 := hw11
  have H11 := Lib.hid (H10.out.later bw11)
  have HP11 := Lib.hid (HP10.out.later bw11)
  have TF11 := Lib.hid (TF10.out.later bw11)
  have TX11 := Lib.hid (TX10.out.later bw11)
  have HL111 := Lib.hid (HL110.out.later bw11)
  have TA11 := Lib.hid (TA10.out.later bw11)
  have HI211 := Lib.hid (HI210.out.later bw11)
  have HL311 := Lib.hid (HL310.out.later bw11)
  have TY11 := Lib.hid (TY10.out.later bw11)
  have HI411 := Lib.hid (HI410.out.later bw11)
  have HB11 := Lib.hid (HB10.out.trans (bw11.mono HB10.out.size))
  clear hw11 bw11 H10 HP10 TF10 TX10 HL110 TA10 HI210 HL310 TY10 HI410 HB10
  clear HL311
  clear TY11
  obtain ⟨tf11_0, tf11_1, tf11_2, tf11_3, tf11_4, tf11_5⟩ := TF11.out
  obtain ⟨tx11_0, tx11_1, tx11_2, tx11_3, tx11_4⟩ := TX11.out
  obtain ⟨ta11_0, ta11_1, ta11_2, ta11_3, ta11_4, ta11_5⟩ := TA11.out
  go_wp2_with (fail)
  refine (hK1 _ _ _ (HI411.out) (HP11.out)).mono ?_
  rintro e w12 ⟨rfl, hw12⟩
  clear tf11_0 tf11_1 tf11_2 tf11_3 tf11_4 tf11_5 tx11_0 tx11_1 tx11_2 tx11_3 tx11_4 ta11_0 ta11_1 ta11_2 ta11_3 ta11_4 ta11_5
  have bw12 : Below w11.heap.size w11 w12 := hw12
  have H12 := Lib.hid (H11.out.later bw12)
  have HP12 := Lib.hid (HP11.out.later bw12)
  have TF12 := Lib.hid (TF11.out.later bw12)
  have TX12 := Lib.hid (TX11.out.later bw12)
  have HL112 := Lib.hid (HL111.out.later bw12)
  have TA12 := Lib.hid (TA11.out.later bw12)
  have HI212 := Lib.hid (HI211.out.later bw12)
  have HI412 := Lib.hid (HI411.out.later bw12)
  have HB12 := Lib.hid (HB11.out.trans (bw12.mono HB11.out.size))
  clear hw12 bw12 H11 HP11 TF11 TX11 HL111 TA11 HI211 HI411 HB11
  clear HI412
  obtain ⟨tf12_0, tf12_1, tf12_2, tf12_3, tf12_4, tf12_5⟩ := TF12.out
  obtain ⟨tx12_0, tx12_1, tx12_2, tx12_3, tx12_4⟩ := TX12.out
  obtain ⟨ta12_0, ta12_1, ta12_2, ta12_3, ta12_4, ta12_5⟩ := TA12.out
  go_wp2_with (fail)
  refine (hP1 _ (H12.out) (HP12.out)).mono ?_
  rintro e w13 ⟨rfl, hw13⟩
  clear tf12_0 tf12_1 tf12_2 tf12_3 tf12_4 tf12_5 tx12_0 tx12_1 tx12_2 tx12_3 tx12_4 ta12_0 ta12_1 ta12_2 ta12_3 ta12_4 ta12_5
  have bw13 : Below w12.heap.size w12 w13 := hw13
  have H13 := Lib.hid (H12.out.later bw13)
  have HP13 := Lib.hid (HP12.out.later bw13)
  have TF13 := Lib.hid (TF12.out.later bw13)
  have TX13 := Lib.hid (TX12.out.later bw13)
  have HL113 := Lib.hid (HL112.out.later bw13)
  have TA13 := Lib.hid (TA12.out.later bw13)
  have HI213 := Lib.hid (HI212.out.later bw13)
  have HB13 := Lib.hid (HB12.out.trans (bw13.mono HB12.out.size))
  clear hw13 bw13 H12 HP12 TF12 TX12 HL112 TA12 HI212 HB12
  obtain ⟨tf13_0, tf13_1, tf13_2, tf13_3, tf13_4, tf13_5⟩ := TF13.out
  obtain ⟨tx13_0, tx13_1, tx13_2, tx13_3, tx13_4⟩ := TX13.out
  obtain ⟨ta13_0, ta13_1, ta13_2, ta13_3, ta13_4, ta13_5⟩ := TA13.out
  go_wp2_with (fail)
  refine (hP2 _ _ _ _ _ (HL113.out) (HI213.out)).mono ?_
  rintro e w14 ⟨rfl, hw14⟩
  clear tf13_0 tf13_1 tf13_2 tf13_3 tf13_4 tf13_5 tx13_0 tx13_1 tx13_2 tx13_3 tx13_4 ta13_0 ta13_1 ta13_2 ta13_3 ta13_4 ta13_5
  have bw14 : Below w13.heap.size w13 w14 := hw14
  have H14 := Lib.hid (H13.out.later bw14)
  have HP14 := Lib.hid (HP13.out.later bw14)
  have TF14 := Lib.hid (TF13.out.later bw14)
  have TX14 := Lib.hid (TX13.out.later bw14)
  have HL114 := Lib.hid (HL113.out.later bw14)
  have TA14 := Lib.hid (TA13.out.later bw14)
  have HI214 := Lib.hid (HI213.out.later bw14)
  have HB14 := Lib.hid (HB13.out.trans (bw14.mono HB13.out.size))
  clear hw14 bw14 H13 HP13 TF13 TX13 HL113 TA13 HI213 HB13
  clear HL114
  clear HI214
  clear TA14
  obtain ⟨tf14_0, tf14_1, tf14_2, tf14_3, tf14_4, tf14_5⟩ := TF14.out
  obtain ⟨tx14_0, tx14_1, tx14_2, tx14_3, tx14_4⟩ := TX14.out
  clear HP14
  go_wp2_with (fail)
  refine (hTr _ (H14.out)).mono ?_
  rintro e w15 ⟨⟨g5, k5, rfl, hb5, -⟩, hw15⟩
  clear tf14_0 tf14_1 tf14_2 tf14_3 tf14_4 tf14_5 tx14_0 tx14_1 tx14_2 tx14_3 tx14_4
  have bw15 : Below w14.heap.size w14 w15 := hw15
  have H15 := Lib.hid (H14.out.later bw15)
  have TF15 := Lib.hid (TF14.out.later bw15)
  have TX15 := Lib.hid (TX14.out.later bw15)
  have HB15 := Lib.hid (HB14.out.trans (bw15.mono HB14.out.size))
  have HL515 := Lib.hid hb5.h
  clear hb5
  clear hw15 bw15 H14 TF14 TX14 HB14
  obtain ⟨tf15_0, tf15_1, tf15_2, tf15_3, tf15_4, tf15_5⟩ := TF15.out
  obtain ⟨tx15_0, tx15_1, tx15_2, tx15_3, tx15_4⟩ := TX15.out
  go_wp2_with (fail)
  refine (hM _).mono ?_
  rintro e w16 ⟨⟨g6, k6, rfl, hi6, -⟩, hw16⟩
  clear tf15_0 tf15_1 tf15_2 tf15_3 tf15_4 tf15_5 tx15_0 tx15_1 tx15_2 tx15_3 tx15_4
  have bw16 : Below w15.heap.size w15 w16 := bel1 hw16
  have TG16 := Lib.hid (FW.n1.later hw16)
  have H16 := Lib.hid (H15.out.later bw16)
  have TF16 := Lib.hid (TF15.out.later bw16)
  have TX16 := Lib.hid (TX15.out.later bw16)
  have HL516 := Lib.hid (HL515.out.later bw16)
  have HB16 := Lib.hid (HB15.out.trans (bw16.mono HB15.out.size))
  have HI616 := Lib.hid hi6
  clear hi6
  clear hw16 bw16 H15 TF15 TX15 HL515 HB15
  obtain ⟨tf16_0, tf16_1, tf16_2, tf16_3, tf16_4, tf16_5⟩ := TF16.out
  obtain ⟨tx16_0, tx16_1, tx16_2, tx16_3, tx16_4⟩ := TX16.out
  obtain ⟨tg16_0, tg16_1, tg16_2, tg16_3, tg16_4, tg16_5⟩ := TG16.out
  go_wp2_with (fail)
  refine (hR3 _ _ _ (H16.out) (HI616.out)).mono ?_
  rintro e w17 ⟨⟨g7, k7, m7, j7, rfl, hb7, hi7, -, -, -⟩, hw17⟩
  clear tf16_0 tf16_1 tf16_2 tf16_3 tf16_4 tf16_5 tx16_0 tx16_1 tx16_2 tx16_3 tx16_4 tg16_0 tg16_1 tg16_2 tg16_3 tg16_4 tg16_5
  have bw17 : Below w16.heap.size w16 w17 := hw17
  have H17 := Lib.hid (H16.out.later bw17)
  have TF17 := Lib.hid (TF16.out.later bw17)
  have TX17 := Lib.hid (TX16.out.later bw17)
  have HL517 := Lib.hid (HL516.out.later bw17)
  have TG17 := Lib.hid (TG16.out.later bw17)
  have HI617 := Lib.hid (HI616.out.later bw17)
  have HB17 := Lib.hid (HB16.out.trans (bw17.mono HB16.out.size))
  have HL717 := Lib.hid hb7.h
  clear hb7
  have HI717 := Lib.hid hi7.h
  clear hi7
  clear hw17 bw17 H16 TF16 TX16 HL516 TG16 HI616 HB16
  obtain ⟨tf17_0, tf17_1, tf17_2, tf17_3, tf17_4, tf17_5⟩ := TF17.out
  obtain ⟨tx17_0, tx17_1, tx17_2, tx17_3, tx17_4⟩ := TX17.out
  obtain ⟨tg17_0, tg17_1, tg17_2, tg17_3, tg17_4, tg17_5⟩ := TG17.out
  go_wp2_with (fail)
  refine (hD _).mono ?_
  rintro e w18 ⟨rfl, hw18⟩
  clear tf17_0 tf17_1 tf17_2 tf17_3 tf17_4 tf17_5 tx17_0 tx17_1 tx17_2 tx17_3 tx17_4 tg17_0 tg17_1 tg17_2 tg17_3 tg17_4 tg17_5
  have bw18 : Below w17.heap.size w17 w18 := bel1 hw18
  have TC18 := Lib.hid (FW.n1.later hw18)
  have H18 := Lib.hid (H17.out.later bw18)
  have TF18 := Lib.hid (TF17.out.later bw18)
  have TX18 := Lib.hid (TX17.out.later bw18)
  have HL518 := Lib.hid (HL517.out.later bw18)
  have TG18 := Lib.hid (TG17.out.later bw18)
  have HI618 := Lib.hid (HI617.out.later bw18)
  have HL718 := Lib.hid (HL717.out.later bw18)
  have HI718 := Lib.hid (HI717.out.later bw18)
  have HB18 := Lib.hid (HB17.out.trans (bw18.mono HB17.out.size))
  clear hw18 bw18 H17 TF17 TX17 HL517 TG17 HI617 HL717 HI717 HB17
  obtain ⟨tf18_0, tf18_1, tf18_2, tf18_3, tf18_4, tf18_5⟩ := TF18.out
  obtain ⟨tx18_0, tx18_1, tx18_2, tx18_3, tx18_4⟩ := TX18.out
  obtain ⟨tg18_0, tg18_1, tg18_2, tg18_3, tg18_4, tg18_5⟩ := TG18.out
  obtain ⟨tc18_0, tc18_1, tc18_2, tc18_3, tc18_4, tc18_5⟩ := TC18.out
  go_wp2_with (fail)
  refine (hE5 _ _ _ (H18.out) (HI618.out)).mono ?_
  rintro e w19 ⟨rfl, hw19⟩
  clear tf18_0 tf18_1 tf18_2 tf18_3 tf18_4 tf18_5 tx18_0 tx18_1 tx18_2 tx18_3 tx18_4 tg18_0 tg18_1 tg18_2 tg18_3 tg18_4 tg18_5 tc18_0 tc18_1 tc18_2 tc18_3 tc18_4 tc18_5
  have bw19 : Below w18.heap.size w18 w19 := hw19
  have H19 := Lib.hid (H18.out.later bw19)
  have TF19 := Lib.hid (TF18.out.later bw19)
  have TX19 := Lib.hid (TX18.out.later bw19)
  have HL519 := Lib.hid (HL518.out.later bw19)
  have TG19 := Lib.hid (TG18.out.later bw19)
  have HI619 := Lib.hid (HI618.out.later bw19)
  have HL719 := Lib.hid (HL718.out.later bw19)
  have HI719 := Lib.hid (HI718.out.later bw19)
  have TC19 := Lib.hid (TC18.out.later bw19)
  have HB19 := Lib.hid (HB18.out.trans (bw19.mono HB18.out.size))
  clear hw19 bw19 H18 TF18 TX18 HL518 TG18 HI618 HL718 HI718 TC18 HB18
  obtain ⟨tf19_0, tf19_1, tf19_2, tf19_3, tf19_4, tf19_5⟩ := TF19.out
  obtain ⟨tx19_0, tx19_1, tx19_2, tx19_3, tx19_4⟩ := TX19.out
  obtain ⟨tg19_0, tg19_1, tg19_2, tg19_3, tg19_4, tg19_5⟩ := TG19.out
  obtain ⟨tc19_0, tc19_1, tc19_2, tc19_3, tc19_4, tc19_5⟩ := TC19.out
  go_wp2_with (fail)
  refine (hE6 _ _ _ _ _ (HL719.out) (HI719.out)).mono ?_
  rintro e w20 ⟨rfl, hw20⟩
  clear tf19_0 tf19_1 tf19_2 tf19_3 tf19_4 tf19_5 tx19_0 tx19_1 tx19_2 tx19_3 tx19_4 tg19_0 tg19_1 tg19_2 tg19_3 tg19_4 tg19_5 tc19_0 tc19_1 tc19_2 tc19_3 tc19_4 tc19_5
  have bw20 : Below w19.heap.size w19 w20 := hw20
  have H20 := Lib.hid (H19.out.later bw20)
  have TF20 := Lib.hid (TF19.out.later bw20)
  have TX20 := Lib.hid (TX19.out.later bw20)
  have HL520 := Lib.hid (HL519.out.later bw20)
  have TG20 := Lib.hid (TG19.out.later bw20)
  have HI620 := Lib.hid (HI619.out.later bw20)
  have HL720 := Lib.hid (HL719.out.later bw20)
  have HI720 := Lib.hid (HI719.out.later bw20)
  have TC20 := Lib.hid (TC19.out.later bw20)
  have HB20 := Lib.hid (HB19.out.trans (bw20.mono HB19.out.size))
  clear hw20 bw20 H19 TF19 TX19 HL519 TG19 HI619 HL719 HI719 TC19 HB19
  obtain ⟨tf20_0, tf20_1, tf20_2, tf20_3, tf20_4, tf20_5⟩ := TF20.out
  obtain ⟨tx20_0, tx20_1, tx20_2, tx20_3, tx20_4⟩ := TX20.out
  obtain ⟨tg20_0, tg20_1, tg20_2, tg20_3, tg20_4, tg20_5⟩ := TG20.out
  obtain ⟨tc20_0, tc20_1, tc20_2, tc20_3, tc20_4, tc20_5⟩ := TC20.out
  cases q
  · go_wp2_with (fail)
    refine (hA _).mono ?_
    rintro e wx ⟨rfl, rfl⟩
    go_wp2_with (fail)
    refine (hS2f (by trivial) _ _ _ (HL520.out) (H20.out)).mono ?_
    rintro e w21 ⟨rfl, hw21⟩
    clear tf20_0 tf20_1 tf20_2 tf20_3 tf20_4 tf20_5 tx20_0 tx20_1 tx20_2 tx20_3 tx20_4 tg20_0 tg20_1 tg20_2 tg20_3 tg20_4 tg20_5 tc20_0 tc20_1 tc20_2 tc20_3 tc20_4 tc20_5
    have bw21 : Below w20.heap.size w20 w21 := hw21
    have H21 := Lib.hid (H20.out.later bw21)
    have TF21 := Lib.hid (TF20.out.later bw21)
    have TX21 := Lib.hid (TX20.out.later bw21)
    have HL521 := Lib.hid (HL520.out.later bw21)
    have TG21 := Lib.hid (TG20.out.later bw21)
    have HI621 := Lib.hid (HI620.out.later bw21)
    have HL721 := Lib.hid (HL720.out.later bw21)
    have HI721 := Lib.hid (HI720.out.later bw21)
    have TC21 := Lib.hid (TC20.out.later bw21)
    have HB21 := Lib.hid (HB20.out.trans (bw21.mono HB20.out.size))
    clear hw21 bw21 H20 TF20 TX20 HL520 TG20 HI620 HL720 HI720 TC20 HB20
    go_wp2_with (fail)
    go_ret
    exact ⟨rfl, HB21.out⟩
  · go_wp2_with (fail)
    refine (hA _).mono ?_
    rintro e wx ⟨rfl, rfl⟩
    go_wp2_with (fail)
    refine (hS2t (by trivial) _ _ _ _ _ (HL520.out) (HL720.out)).mono ?_
    rintro e w21 ⟨rfl, hw21⟩
    clear tf20_0 tf20_1 tf20_2 tf20_3 tf20_4 tf20_5 tx20_0 tx20_1 tx20_2 tx20_3 tx20_4 tg20_0 tg20_1 tg20_2 tg20_3 tg20_4 tg20_5 tc20_0 tc20_1 tc20_2 tc20_3 tc20_4 tc20_5
    have bw21 : Below w20.heap.size w20 w21 := hw21
    have H21 := Lib.hid (H20.out.later bw21)
    have TF21 := Lib.hid (TF20.out.later bw21)
    have TX21 := Lib.hid (TX20.out.later bw21)
    have HL521 := Lib.hid (HL520.out.later bw21)
    have TG21 := Lib.hid (TG20.out.later bw21)
    have HI621 := Lib.hid (HI620.out.later bw21)
    have HL721 := Lib.hid (HL720.out.later bw21)
    have HI721 := Lib.hid (HI720.out.later bw21)
    have TC21 := Lib.hid (TC20.out.later bw21)
    have HB21 := Lib.hid (HB20.out.trans (bw21.mono HB20.out.size))
    clear hw21 bw21 H20 TF20 TX20 HL520 TG20 HI620 HL720 HI720 TC20 HB20
    go_wp2_with (fail)
    go_ret
    exact ⟨rfl, HB21.out⟩
end Go.Proofs.Ytilbhcjnkmeecaa
