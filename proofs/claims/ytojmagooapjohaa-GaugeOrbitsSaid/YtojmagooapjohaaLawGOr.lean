/- GaugeOrbits: a field that is transformed by small units is fixed to the same field, turned by the unit of the site 0, and is equivalent by it, for all fields and lists of units.
Conditions: none. -/
import Derived.Test.YtojmagooapjohaaGvA
import Derived.Test.YtojmagooapjohaaSprC
import Derived.Test.YtojmagooapjohaaGzA
import Derived.Test.YtojmagooapjohaaFcB
import Derived.Test.YtojmagooapjohaaHwC
import Derived.Test.YtojmagooapjohaaSameU4
import Derived.Test.YtojmagooapjohaaOpen4
import Derived.Test.YtojmagooapjohaaJFacts
namespace Go.Proofs.Ytojmagooapjohaa
set_option linter.unusedVariables false
set_option linter.unusedSimpArgs false
set_option maxRecDepth 1000000
open Go.ChangeShapes Go.WideShapes Go.ChangeAt Go.RowKit
open Um Tm

set_option maxHeartbeats 3200000 in
theorem gOr_long (a b c : Int) (ao go : Option Addr) (cap gc : Nat) (L G : List Q) (w : World) (h : 200 < L.length) : Calls Try.prog 3 #[.agg #[.int .i64 a, .int .i64 b, .int .i64 c, .slice ao L.length cap], .slice go G.length gc] w fun e w' => e = .returned (.bool true) ∧ Below w.heap.size w w' := by
  have kn := sane4_any
  have c0 := fun W : World => long4_any a b c ao cap L true W (.inl ⟨h, rfl⟩)
  go_enter Try.func3, Try.ntmps3
  go_wp2_with (fail)
  refine (c0 _).mono ?_
  rintro e w1 ⟨rfl, hw1⟩
  have bw1 : Below w.heap.size w w1 := bel1 hw1
  have HB1 := Lib.hid bw1
  clear hw1 bw1
  go_wp2_with (fail)
  refine (kn _).mono ?_
  rintro e w2 ⟨rfl, hw2⟩
  have bw2 : Below w1.heap.size w1 w2 := hw2
  have HB2 := Lib.hid (HB1.out.trans (bw2.mono HB1.out.size))
  clear hw2 bw2 HB1
  go_wp2
  go_ret
  exact ⟨rfl, HB2.out⟩
set_option maxHeartbeats 3200000 in
theorem gOr_many (a b c : Int) (ao go : Option Addr) (cap gc : Nat) (L G : List Q) (w : World) (h : L.length ≤ 200) (h2 : 100 < G.length) : Calls Try.prog 3 #[.agg #[.int .i64 a, .int .i64 b, .int .i64 c, .slice ao L.length cap], .slice go G.length gc] w fun e w' => e = .returned (.bool true) ∧ Below w.heap.size w w' := by
  have kn := sane4_any
  have i1 : (G.length : Int) > 100 := by omega
  have c0 := fun W : World => long4_any a b c ao cap L false W (.inr ⟨h, rfl⟩)
  go_enter Try.func3, Try.ntmps3
  go_wp2_with (fail)
  refine (c0 _).mono ?_
  rintro e w1 ⟨rfl, hw1⟩
  have bw1 : Below w.heap.size w w1 := bel1 hw1
  have HB1 := Lib.hid bw1
  clear hw1 bw1
  go_wp2_with (fail)
  refine (kn _).mono ?_
  rintro e w2 ⟨rfl, hw2⟩
  have bw2 : Below w1.heap.size w1 w2 := hw2
  have HB2 := Lib.hid (HB1.out.trans (bw2.mono HB1.out.size))
  clear hw2 bw2 HB1
  go_wp2
  go_ret
  exact ⟨rfl, HB2.out⟩
set_option maxHeartbeats 3200000 in
theorem gOr_big (a b c : Int) (ao go : Option Addr) (cap gc : Nat) (L G : List Q) (w : World) (h : L.length ≤ 200) (h2 : G.length ≤ 100) (hg : LiesO w go G) (h3 : ¬ N12L G) : Calls Try.prog 3 #[.agg #[.int .i64 a, .int .i64 b, .int .i64 c, .slice ao L.length cap], .slice go G.length gc] w fun e w' => e = .returned (.bool true) ∧ Below w.heap.size w w' := by
  have kn := sane4_any
  have c0 := fun W : World => long4_any a b c ao cap L false W (.inr ⟨h, rfl⟩)
  have cs := fun (W : World) (h : LiesO W go G) => small4_any go gc G false W h (by omega) (.inr ⟨h3, rfl⟩)
  have i1 : ¬ (G.length : Int) > 100 := by omega
  have G0 := Lib.hid hg
  clear hg h3 h h2
  go_enter Try.func3, Try.ntmps3
  go_wp2_with (fail)
  refine (c0 _).mono ?_
  rintro e w1 ⟨rfl, hw1⟩
  have bw1 : Below w.heap.size w w1 := bel1 hw1
  have G1 := Lib.hid (G0.out.later bw1)
  have HB1 := Lib.hid bw1
  clear hw1 bw1 G0
  go_wp2_with (fail)
  refine (cs _ (G1.out)).mono ?_
  rintro e w2 ⟨rfl, hw2⟩
  have bw2 : Below w1.heap.size w1 w2 := hw2
  have G2 := Lib.hid (G1.out.later bw2)
  have HB2 := Lib.hid (HB1.out.trans (bw2.mono HB1.out.size))
  clear hw2 bw2 G1 HB1
  go_wp2_with (fail)
  refine (kn _).mono ?_
  rintro e w3 ⟨rfl, hw3⟩
  have bw3 : Below w2.heap.size w2 w3 := hw3
  have G3 := Lib.hid (G2.out.later bw3)
  have HB3 := Lib.hid (HB2.out.trans (bw3.mono HB2.out.size))
  clear hw3 bw3 G2 HB2
  go_wp2
  go_ret
  exact ⟨rfl, HB3.out⟩
set_option maxHeartbeats 3200000 in
theorem gOr_e1 (a b c r1 r2 : Int) (ao go : Option Addr) (cap gc : Nat) (L G : List Q) (w : World) (h : L.length ≤ 200) (h2 : G.length ≤ 100) (hm : LiesO w ao L) (hg : LiesO w go G) (h3 : N12L G) (h0 : r1 ≠ 0)
    (c1 : ∀ (W : World), LiesO W ao L → Calls Try.prog 12 #[.agg #[.int .i64 a, .int .i64 b, .int .i64 c, .slice ao L.length cap]] W fun e w' => AnyF r1 e ∧ Below W.heap.size W w')
    (c2 : ∀ (W : World), LiesO W ao L → LiesO W go G → Calls Try.prog 13 #[.agg #[.int .i64 a, .int .i64 b, .int .i64 c, .slice ao L.length cap], .slice go G.length gc] W fun e w' => AnyF r2 e ∧ Below W.heap.size W w') : Calls Try.prog 3 #[.agg #[.int .i64 a, .int .i64 b, .int .i64 c, .slice ao L.length cap], .slice go G.length gc] w fun e w' => e = .returned (.bool true) ∧ Below w.heap.size w w' := by
  have kn := sane4_any
  have c0 := fun W : World => long4_any a b c ao cap L false W (.inr ⟨h, rfl⟩)
  have cs := fun (W : World) (h : LiesO W go G) => small4_any go gc G true W h (by omega) (.inl ⟨h3, rfl⟩)
  have i1 : ¬ (G.length : Int) > 100 := by omega
  have H0 := Lib.hid hm
  have G0 := Lib.hid hg
  clear hm hg h3 h h2
  have t0 : (r1 != 0) = true := by simpa using h0
  clear h0
  go_enter Try.func3, Try.ntmps3
  go_wp2_with (fail)
  refine (c0 _).mono ?_
  rintro e w1 ⟨rfl, hw1⟩
  have bw1 : Below w.heap.size w w1 := bel1 hw1
  have F1 := Lib.hid (FW.n1.later hw1)
  have H1 := Lib.hid (H0.out.later bw1)
  have G1 := Lib.hid (G0.out.later bw1)
  have HB1 := Lib.hid bw1
  clear hw1 bw1 H0 G0
  go_wp2_with (fail)
  refine (cs _ (G1.out)).mono ?_
  rintro e w2 ⟨rfl, hw2⟩
  have bw2 : Below w1.heap.size w1 w2 := hw2
  have H2 := Lib.hid (H1.out.later bw2)
  have G2 := Lib.hid (G1.out.later bw2)
  have F2 := Lib.hid (F1.out.later bw2)
  have HB2 := Lib.hid (HB1.out.trans (bw2.mono HB1.out.size))
  clear hw2 bw2 H1 G1 F1 HB1
  obtain ⟨f2_0, f2_1, f2_2, f2_3, f2_4, f2_5⟩ := F2.out
  go_wp2_with (fail)
  refine (c1 _ (H2.out)).mono ?_
  rintro e w3 ⟨⟨x1, y1, z1, s1, n1, k1, rfl⟩, hw3⟩
  clear f2_0 f2_1 f2_2 f2_3 f2_4 f2_5
  have bw3 : Below w2.heap.size w2 w3 := hw3
  have H3 := Lib.hid (H2.out.later bw3)
  have G3 := Lib.hid (G2.out.later bw3)
  have F3 := Lib.hid (F2.out.later bw3)
  have HB3 := Lib.hid (HB2.out.trans (bw3.mono HB2.out.size))
  clear hw3 bw3 H2 G2 F2 HB2
  obtain ⟨f3_0, f3_1, f3_2, f3_3, f3_4, f3_5⟩ := F3.out
  go_wp2_with (fail)
  refine (c2 _ (H3.out.later ba1) (G3.out.later ba1)).mono ?_
  rintro e w4 ⟨⟨x2, y2, z2, s2, n2, k2, rfl⟩, hw4⟩
  clear f3_0 f3_1 f3_2 f3_3 f3_4 f3_5
  have bw4 : Below w3.heap.size w3 w4 := bel1 hw4
  have H4 := Lib.hid (H3.out.later bw4)
  have G4 := Lib.hid (G3.out.later bw4)
  have F4 := Lib.hid (F3.out.later bw4)
  have HB4 := Lib.hid (HB3.out.trans (bw4.mono HB3.out.size))
  clear hw4 bw4 H3 G3 F3 HB3
  go_wp2_with (fail)
  refine (kn _).mono ?_
  rintro e w5 ⟨rfl, hw5⟩
  have bw5 : Below w4.heap.size w4 w5 := bel1 hw5
  have H5 := Lib.hid (H4.out.later bw5)
  have G5 := Lib.hid (G4.out.later bw5)
  have F5 := Lib.hid (F4.out.later bw5)
  have HB5 := Lib.hid (HB4.out.trans (bw5.mono HB4.out.size))
  clear hw5 bw5 H4 G4 F4 HB4
  go_wp2
  go_ret
  exact ⟨rfl, HB5.out⟩
set_option maxHeartbeats 3200000 in
theorem gOr_e2 (a b c r2 : Int) (ao go : Option Addr) (cap gc : Nat) (L G : List Q) (w : World) (h : L.length ≤ 200) (h2 : G.length ≤ 100) (hm : LiesO w ao L) (hg : LiesO w go G) (h3 : N12L G) (h0 : r2 ≠ 0)
    (c1 : ∀ (W : World), LiesO W ao L → Calls Try.prog 12 #[.agg #[.int .i64 a, .int .i64 b, .int .i64 c, .slice ao L.length cap]] W fun e w' => AnyF 0 e ∧ Below W.heap.size W w')
    (c2 : ∀ (W : World), LiesO W ao L → LiesO W go G → Calls Try.prog 13 #[.agg #[.int .i64 a, .int .i64 b, .int .i64 c, .slice ao L.length cap], .slice go G.length gc] W fun e w' => AnyF r2 e ∧ Below W.heap.size W w') : Calls Try.prog 3 #[.agg #[.int .i64 a, .int .i64 b, .int .i64 c, .slice ao L.length cap], .slice go G.length gc] w fun e w' => e = .returned (.bool true) ∧ Below w.heap.size w w' := by
  have kn := sane4_any
  have c0 := fun W : World => long4_any a b c ao cap L false W (.inr ⟨h, rfl⟩)
  have cs := fun (W : World) (h : LiesO W go G) => small4_any go gc G true W h (by omega) (.inl ⟨h3, rfl⟩)
  have i1 : ¬ (G.length : Int) > 100 := by omega
  have H0 := Lib.hid hm
  have G0 := Lib.hid hg
  clear hm hg h3 h h2
  have t0 : (r2 != 0) = true := by simpa using h0
  clear h0
  go_enter Try.func3, Try.ntmps3
  go_wp2_with (fail)
  refine (c0 _).mono ?_
  rintro e w1 ⟨rfl, hw1⟩
  have bw1 : Below w.heap.size w w1 := bel1 hw1
  have F1 := Lib.hid (FW.n1.later hw1)
  have H1 := Lib.hid (H0.out.later bw1)
  have G1 := Lib.hid (G0.out.later bw1)
  have HB1 := Lib.hid bw1
  clear hw1 bw1 H0 G0
  go_wp2_with (fail)
  refine (cs _ (G1.out)).mono ?_
  rintro e w2 ⟨rfl, hw2⟩
  have bw2 : Below w1.heap.size w1 w2 := hw2
  have H2 := Lib.hid (H1.out.later bw2)
  have G2 := Lib.hid (G1.out.later bw2)
  have F2 := Lib.hid (F1.out.later bw2)
  have HB2 := Lib.hid (HB1.out.trans (bw2.mono HB1.out.size))
  clear hw2 bw2 H1 G1 F1 HB1
  obtain ⟨f2_0, f2_1, f2_2, f2_3, f2_4, f2_5⟩ := F2.out
  go_wp2_with (fail)
  refine (c1 _ (H2.out)).mono ?_
  rintro e w3 ⟨⟨x1, y1, z1, s1, n1, k1, rfl⟩, hw3⟩
  clear f2_0 f2_1 f2_2 f2_3 f2_4 f2_5
  have bw3 : Below w2.heap.size w2 w3 := hw3
  have H3 := Lib.hid (H2.out.later bw3)
  have G3 := Lib.hid (G2.out.later bw3)
  have F3 := Lib.hid (F2.out.later bw3)
  have HB3 := Lib.hid (HB2.out.trans (bw3.mono HB2.out.size))
  clear hw3 bw3 H2 G2 F2 HB2
  obtain ⟨f3_0, f3_1, f3_2, f3_3, f3_4, f3_5⟩ := F3.out
  go_wp2_with (fail)
  refine (c2 _ (H3.out.later ba1) (G3.out.later ba1)).mono ?_
  rintro e w4 ⟨⟨x2, y2, z2, s2, n2, k2, rfl⟩, hw4⟩
  clear f3_0 f3_1 f3_2 f3_3 f3_4 f3_5
  have bw4 : Below w3.heap.size w3 w4 := bel1 hw4
  have H4 := Lib.hid (H3.out.later bw4)
  have G4 := Lib.hid (G3.out.later bw4)
  have F4 := Lib.hid (F3.out.later bw4)
  have HB4 := Lib.hid (HB3.out.trans (bw4.mono HB3.out.size))
  clear hw4 bw4 H3 G3 F3 HB3
  go_wp2_with (fail)
  refine (kn _).mono ?_
  rintro e w5 ⟨rfl, hw5⟩
  have bw5 : Below w4.heap.size w4 w5 := bel1 hw5
  have H5 := Lib.hid (H4.out.later bw5)
  have G5 := Lib.hid (G4.out.later bw5)
  have F5 := Lib.hid (F4.out.later bw5)
  have HB5 := Lib.hid (HB4.out.trans (bw5.mono HB4.out.size))
  clear hw5 bw5 H4 G4 F4 HB4
  go_wp2
  go_ret
  exact ⟨rfl, HB5.out⟩
set_option maxHeartbeats 6400000 in
theorem gOr_ok (a b c : Int) (ao go : Option Addr) (cap gc : Nat) (L G : List Q) (w : World) (h : L.length ≤ 200) (h2 : G.length ≤ 100) (hm : LiesO w ao L) (hg : LiesO w go G) (h3 : N12L G) (N : Nat) (x : Q) (T1 T2 T3 R : List Q) (gl goff : Nat) (hgo : go = some ⟨gl, goff, none⟩) (hx : Lies w gl goff [x]) (hG0 : 0 < G.length)
    (c1 : ∀ (W : World), LiesO W ao L → Calls Try.prog 12 #[.agg #[.int .i64 a, .int .i64 b, .int .i64 c, .slice ao L.length cap]] W fun e w' => RetTf a b c L.length T1 e w' ∧ Below W.heap.size W w')
    (c2 : ∀ (W : World), LiesO W ao L → LiesO W go G → Calls Try.prog 13 #[.agg #[.int .i64 a, .int .i64 b, .int .i64 c, .slice ao L.length cap], .slice go G.length gc] W fun e w' => RetTf a b c L.length T2 e w' ∧ Below W.heap.size W w')
    (c3 : ∀ (W : World) (g k : Nat), LBox W g T2 → Calls Try.prog 12 #[.agg #[.int .i64 a, .int .i64 b, .int .i64 c, .slice (some ⟨g, 0, none⟩) L.length k]] W fun e w' => RetTf a b c L.length T3 e w' ∧ Below W.heap.size W w')
    (c4 : ∀ (W : World) (g k : Nat), LBox W g T1 → Calls Try.prog 14 #[.agg #[.int .i64 a, .int .i64 b, .int .i64 c, .slice (some ⟨g, 0, none⟩) L.length k], .agg #[.int .i64 x.a, .int .i64 x.b, .int .i64 x.c, .int .i64 x.d, .int .i64 x.n]] W fun e w' => (∃ g k : Nat, e = .returned (.tuple #[.slice (some ⟨g, 0, none⟩) N k, .int .i64 0]) ∧ LBox w' g R) ∧ Below W.heap.size W w')
    (c5 : ∀ (W : World) (g k g' k' : Nat), LBox W g T1 → LBox W g' R → Calls Try.prog 13 #[.agg #[.int .i64 a, .int .i64 b, .int .i64 c, .slice (some ⟨g, 0, none⟩) L.length k], .slice (some ⟨g', 0, none⟩) N k'] W fun e w' => RetTf a b c L.length T3 e w' ∧ Below W.heap.size W w')
    (c6 : ∀ (W : World) (g k : Nat), LiesO W ao L → LBox W g T2 → Calls Try.prog 15 #[.agg #[.int .i64 a, .int .i64 b, .int .i64 c, .slice ao L.length cap], .agg #[.int .i64 a, .int .i64 b, .int .i64 c, .slice (some ⟨g, 0, none⟩) L.length k]] W fun e w' => e = .returned (.tuple #[.bool true, .int .i64 0]) ∧ Below W.heap.size W w')
    (s1 : ∀ (W : World) (g k g' k' : Nat), LBox W g T3 → LBox W g' T3 → Calls Try.prog 16 #[.agg #[.int .i64 a, .int .i64 b, .int .i64 c, .slice (some ⟨g, 0, none⟩) L.length k], .agg #[.int .i64 a, .int .i64 b, .int .i64 c, .slice (some ⟨g', 0, none⟩) L.length k']] W fun e w' => e = .returned (.bool true) ∧ Below W.heap.size W w')
    (c7 : ∀ (W : World) (g k : Nat), LiesO W ao L → LBox W g T2 → Calls Try.prog 17 #[.agg #[.int .i64 a, .int .i64 b, .int .i64 c, .slice ao L.length cap], .agg #[.int .i64 a, .int .i64 b, .int .i64 c, .slice (some ⟨g, 0, none⟩) L.length k], .agg #[.int .i64 x.a, .int .i64 x.b, .int .i64 x.c, .int .i64 x.d]] W fun e w' => e = .returned (.int .i64 0) ∧ Below W.heap.size W w') : Calls Try.prog 3 #[.agg #[.int .i64 a, .int .i64 b, .int .i64 c, .slice ao L.length cap], .slice go G.length gc] w fun e w' => e = .returned (.bool true) ∧ Below w.heap.size w w' := by
  have kn := sane4_any
  have c0 := fun W : World => long4_any a b c ao cap L false W (.inr ⟨h, rfl⟩)
  have cs := fun (W : World) (h : LiesO W go G) => small4_any go gc G true W h (by omega) (.inl ⟨h3, rfl⟩)
  have i2 : (0 : Int) < (G.length : Int) := by omega
  subst hgo
  have X0 := Lib.hid hx
  clear hx
  have i1 : ¬ (G.length : Int) > 100 := by omega
  have H0 := Lib.hid hm
  have G0 := Lib.hid hg
  clear hm hg h3 h h2
  go_enter Try.func3, Try.ntmps3
  go_wp2_with (fail)
  refine (c0 _).mono ?_
  rintro e w1 ⟨rfl, hw1⟩
  have bw1 : Below w.heap.size w w1 := bel1 hw1
  have F1 := Lib.hid (FW.n1.later hw1)
  have H1 := Lib.hid (H0.out.later bw1)
  have G1 := Lib.hid (G0.out.later bw1)
  have X1 := Lib.hid (X0.out.later bw1)
  have HB1 := Lib.hid bw1
  clear hw1 bw1 H0 G0 X0
  go_wp2_with (fail)
  refine (cs _ (G1.out)).mono ?_
  rintro e w2 ⟨rfl, hw2⟩
  have bw2 : Below w1.heap.size w1 w2 := hw2
  have H2 := Lib.hid (H1.out.later bw2)
  have G2 := Lib.hid (G1.out.later bw2)
  have X2 := Lib.hid (X1.out.later bw2)
  have F2 := Lib.hid (F1.out.later bw2)
  have HB2 := Lib.hid (HB1.out.trans (bw2.mono HB1.out.size))
  clear hw2 bw2 H1 G1 X1 F1 HB1
  obtain ⟨f2_0, f2_1, f2_2, f2_3, f2_4, f2_5⟩ := F2.out
  go_wp2_with (fail)
  refine (c1 _ (H2.out)).mono ?_
  rintro e w3 ⟨⟨g3, k3, rfl, hb3⟩, hw3⟩
  clear f2_0 f2_1 f2_2 f2_3 f2_4 f2_5
  have bw3 : Below w2.heap.size w2 w3 := hw3
  have H3 := Lib.hid (H2.out.later bw3)
  have G3 := Lib.hid (G2.out.later bw3)
  have X3 := Lib.hid (X2.out.later bw3)
  have F3 := Lib.hid (F2.out.later bw3)
  have HB3 := Lib.hid (HB2.out.trans (bw3.mono HB2.out.size))
  have TA3 := Lib.hid hb3
  clear hb3
  clear hw3 bw3 H2 G2 X2 F2 HB2
  obtain ⟨f3_0, f3_1, f3_2, f3_3, f3_4, f3_5⟩ := F3.out
  go_wp2_with (fail)
  refine (c2 _ (H3.out.later ba1) (G3.out.later ba1)).mono ?_
  rintro e w4 ⟨⟨g4, k4, rfl, hb4⟩, hw4⟩
  clear f3_0 f3_1 f3_2 f3_3 f3_4 f3_5
  have bw4 : Below w3.heap.size w3 w4 := bel1 hw4
  have A4 := Lib.hid (FW.n1.later hw4)
  have H4 := Lib.hid (H3.out.later bw4)
  have G4 := Lib.hid (G3.out.later bw4)
  have X4 := Lib.hid (X3.out.later bw4)
  have F4 := Lib.hid (F3.out.later bw4)
  have TA4 := Lib.hid (TA3.out.later bw4)
  have HB4 := Lib.hid (HB3.out.trans (bw4.mono HB3.out.size))
  have TH4 := Lib.hid hb4
  clear hb4
  clear hw4 bw4 H3 G3 X3 F3 TA3 HB3
  go_wp2_with (fail)
  refine (c3 _ _ _ (TH4.out.later ba1)).mono ?_
  rintro e w5 ⟨⟨g5, k5, rfl, hb5⟩, hw5⟩
  have bw5 : Below w4.heap.size w4 w5 := bel1 hw5
  have HF5 := Lib.hid (FW.n1.later hw5)
  have H5 := Lib.hid (H4.out.later bw5)
  have G5 := Lib.hid (G4.out.later bw5)
  have X5 := Lib.hid (X4.out.later bw5)
  have F5 := Lib.hid (F4.out.later bw5)
  have TA5 := Lib.hid (TA4.out.later bw5)
  have A5 := Lib.hid (A4.out.later bw5)
  have TH5 := Lib.hid (TH4.out.later bw5)
  have HB5 := Lib.hid (HB4.out.trans (bw5.mono HB4.out.size))
  have TB5 := Lib.hid hb5
  clear hb5
  clear hw5 bw5 H4 G4 X4 F4 TA4 A4 TH4 HB4
  go_wp2_with (fail)
  have bw6 : Below w5.heap.size w5 (w5.alloc (.cells #[.int .i64 a, .int .i64 b, .int .i64 c, .slice (some ⟨g5, 0, none⟩) L.length k5] 25)) := ba1
  have BF6 := Lib.hid (FW.n1 (w := w5) (x := a) (y := b) (z := c) (v := .slice (some ⟨g5, 0, none⟩) L.length k5) (T := 25))
  have H6 := Lib.hid (H5.out.later bw6)
  have G6 := Lib.hid (G5.out.later bw6)
  have X6 := Lib.hid (X5.out.later bw6)
  have F6 := Lib.hid (F5.out.later bw6)
  have TA6 := Lib.hid (TA5.out.later bw6)
  have A6 := Lib.hid (A5.out.later bw6)
  have TH6 := Lib.hid (TH5.out.later bw6)
  have HF6 := Lib.hid (HF5.out.later bw6)
  have TB6 := Lib.hid (TB5.out.later bw6)
  have HB6 := Lib.hid (HB5.out.trans (bw6.mono HB5.out.size))
  clear bw6 H5 G5 X5 F5 TA5 A5 TH5 HF5 TB5 HB5
  generalize w5.alloc (.cells #[.int .i64 a, .int .i64 b, .int .i64 c, .slice (some ⟨g5, 0, none⟩) L.length k5] 25) = w6 at *
  obtain ⟨a6_0, a6_1, a6_2, a6_3, a6_4, a6_5⟩ := A6.out
  obtain ⟨x0, x1, x2, x3, x4⟩ := X6.out 0 x rfl
  simp only [Nat.zero_mul, Nat.add_zero] at x0 x1 x2 x3 x4
  have lx := World.block_lt_of_cell? _ _ x0
  have K5 : Hid (∀ w' : World, Below w6.heap.size w6 w' → (w'.cell? ⟨gl, goff, none⟩ = some (.int .i64 x.a) ∧ w'.cell? ⟨gl, goff + 1, none⟩ = some (.int .i64 x.b) ∧ w'.cell? ⟨gl, goff + 2, none⟩ = some (.int .i64 x.c) ∧ w'.cell? ⟨gl, goff + 3, none⟩ = some (.int .i64 x.d) ∧ w'.cell? ⟨gl, goff + 4, none⟩ = some (.int .i64 x.n) ∧ w'.cell? ⟨w3.heap.size, 0, none⟩ = some (.int .i64 a) ∧ w'.cell? ⟨w3.heap.size, 1, none⟩ = some (.int .i64 b) ∧ w'.cell? ⟨w3.heap.size, 2, none⟩ = some (.int .i64 c) ∧ w'.cell? ⟨w3.heap.size, 3, none⟩ = some (.slice (some ⟨g3, 0, none⟩) L.length k3))) := Lib.hid (fun w' h => ⟨held_belowG h x0, held_belowG h x1, held_belowG h x2, held_belowG h x3, held_belowG h x4, held_belowG h a6_0, held_belowG h a6_1, held_belowG h a6_2, held_belowG h a6_3⟩)
  go_region_held3 (fun w' => w'.cell? ⟨gl, goff, none⟩ = some (.int .i64 x.a) ∧ w'.cell? ⟨gl, goff + 1, none⟩ = some (.int .i64 x.b) ∧ w'.cell? ⟨gl, goff + 2, none⟩ = some (.int .i64 x.c) ∧ w'.cell? ⟨gl, goff + 3, none⟩ = some (.int .i64 x.d) ∧ w'.cell? ⟨gl, goff + 4, none⟩ = some (.int .i64 x.n) ∧ w'.cell? ⟨w3.heap.size, 0, none⟩ = some (.int .i64 a) ∧ w'.cell? ⟨w3.heap.size, 1, none⟩ = some (.int .i64 b) ∧ w'.cell? ⟨w3.heap.size, 2, none⟩ = some (.int .i64 c) ∧ w'.cell? ⟨w3.heap.size, 3, none⟩ = some (.slice (some ⟨g3, 0, none⟩) L.length k3))
    (first | (with_reducible exact K5.out _ B5) | (with_reducible exact K5.out _ (Below.refl _ _)) | go_keep)
    (first | ((with_reducible refine (c4 _ _ _ (TA6.out.later (Below.drew (Below.refl _ _)))).mono ?_); rintro e w7 ⟨⟨g7, k7, rfl, hb7⟩, hw7⟩; have B5 := belDG hw7; have TSx := Lib.hid hb7))
  clear K5 x0 x1 x2 x3 x4 lx hb7 hw7 a6_0 a6_1 a6_2 a6_3 a6_4 a6_5
  have H7 := Lib.hid (H6.out.later B5)
  have G7 := Lib.hid (G6.out.later B5)
  have X7 := Lib.hid (X6.out.later B5)
  have F7 := Lib.hid (F6.out.later B5)
  have TA7 := Lib.hid (TA6.out.later B5)
  have A7 := Lib.hid (A6.out.later B5)
  have TH7 := Lib.hid (TH6.out.later B5)
  have HF7 := Lib.hid (HF6.out.later B5)
  have TB7 := Lib.hid (TB6.out.later B5)
  have BF7 := Lib.hid (BF6.out.later B5)
  have HB7 := Lib.hid (HB6.out.trans (B5.mono HB6.out.size))
  clear B5 H6 G6 X6 F6 TA6 A6 TH6 HF6 TB6 BF6 HB6
  have TS7 := Lib.hid TSx.out
  clear TSx
  obtain ⟨a7_0, a7_1, a7_2, a7_3, a7_4, a7_5⟩ := A7.out
  go_wp2_with (fail)
  refine (c5 _ _ _ _ _ (TA7.out) (TS7.out)).mono ?_
  rintro e w8 ⟨⟨g8, k8, rfl, hb8⟩, hw8⟩
  clear a7_0 a7_1 a7_2 a7_3 a7_4 a7_5
  have bw8 : Below w7.heap.size w7 w8 := hw8
  have H8 := Lib.hid (H7.out.later bw8)
  have G8 := Lib.hid (G7.out.later bw8)
  have X8 := Lib.hid (X7.out.later bw8)
  have F8 := Lib.hid (F7.out.later bw8)
  have TA8 := Lib.hid (TA7.out.later bw8)
  have A8 := Lib.hid (A7.out.later bw8)
  have TH8 := Lib.hid (TH7.out.later bw8)
  have HF8 := Lib.hid (HF7.out.later bw8)
  have TB8 := Lib.hid (TB7.out.later bw8)
  have BF8 := Lib.hid (BF7.out.later bw8)
  have TS8 := Lib.hid (TS7.out.later bw8)
  have HB8 := Lib.hid (HB7.out.trans (bw8.mono HB7.out.size))
  have TC8 := Lib.hid hb8
  clear hb8
  clear hw8 bw8 H7 G7 X7 F7 TA7 A7 TH7 HF7 TB7 BF7 TS7 HB7
  go_wp2_with (fail)
  have bw9 : Below w8.heap.size w8 (w8.alloc (.cells #[.int .i64 a, .int .i64 b, .int .i64 c, .slice (some ⟨g8, 0, none⟩) L.length k8] 25)) := ba1
  have CF9 := Lib.hid (FW.n1 (w := w8) (x := a) (y := b) (z := c) (v := .slice (some ⟨g8, 0, none⟩) L.length k8) (T := 25))
  have H9 := Lib.hid (H8.out.later bw9)
  have G9 := Lib.hid (G8.out.later bw9)
  have X9 := Lib.hid (X8.out.later bw9)
  have F9 := Lib.hid (F8.out.later bw9)
  have TA9 := Lib.hid (TA8.out.later bw9)
  have A9 := Lib.hid (A8.out.later bw9)
  have TH9 := Lib.hid (TH8.out.later bw9)
  have HF9 := Lib.hid (HF8.out.later bw9)
  have TB9 := Lib.hid (TB8.out.later bw9)
  have BF9 := Lib.hid (BF8.out.later bw9)
  have TS9 := Lib.hid (TS8.out.later bw9)
  have TC9 := Lib.hid (TC8.out.later bw9)
  have HB9 := Lib.hid (HB8.out.trans (bw9.mono HB8.out.size))
  clear bw9 H8 G8 X8 F8 TA8 A8 TH8 HF8 TB8 BF8 TS8 TC8 HB8
  generalize w8.alloc (.cells #[.int .i64 a, .int .i64 b, .int .i64 c, .slice (some ⟨g8, 0, none⟩) L.length k8] 25) = w9 at *
  obtain ⟨x0, x1, x2, x3, x4⟩ := X9.out 0 x rfl
  simp only [Nat.zero_mul, Nat.add_zero] at x0 x1 x2 x3 x4
  have lx := World.block_lt_of_cell? _ _ x0
  apply Made.region_one 17 (.cells #[.int .i64 0, .int .i64 0, .int .i64 0, .int .i64 0] 37) (fun g => .pointer (some ⟨g, 0, none⟩)) (some 15) (by kernel_rfl) (by kernel_rfl) (by kernel_rfl)
  · intro B hB
    have kc := @Tail.cell_re
    have hcB := Tail.cells hB
    have zB0 := Nat.lt_of_lt_of_le lx hB.size
    simp only [List.take_succ_cons, List.take_zero]
    repeat (go_big_quiet_step (fail))
    exact wpQuiet_nil rfl
  · refine ⟨_, rfl, rfl, fun W => ⟨rfl, ?_⟩⟩
    simp [execOp, go_sem]
  intro q wq hq hwq hxq
  show wpList _ _ _ (List.drop 18 _) _ _
  simp only [List.drop_succ_cons, List.drop_zero]
  have y0 := Wide.cell_at hxq 0 _ rfl
  have y1 := Wide.cell_at hxq 1 _ rfl
  have y2 := Wide.cell_at hxq 2 _ rfl
  have y3 := Wide.cell_at hxq 3 _ rfl
  have hql : q < wq.heap.size := (Array.getElem?_eq_some_iff.1 hxq).1
  have hqf : ∀ j, wq.frozen? ⟨q, j, none⟩ = false := fun j => by simp [World.frozen?, hxq]
  have bz : Below w9.heap.size w9 ((((wq.setCell ⟨q, 0, none⟩ (.int .i64 x.a)).setCell ⟨q, 1, none⟩ (.int .i64 x.b)).setCell ⟨q, 2, none⟩ (.int .i64 x.c)).setCell ⟨q, 3, none⟩ (.int .i64 x.d)) := (((hwq.setCell (p := ⟨q, 0, none⟩) hq _).setCell (p := ⟨q, 1, none⟩) hq _).setCell (p := ⟨q, 2, none⟩) hq _).setCell (p := ⟨q, 3, none⟩) hq _
  have q4 : IBox wq q [0, 0, 0, 0] := ⟨fun i v hv => by
    rw [Nat.zero_add]
    match i, hv with
    | 0, hv => simp at hv; subst hv; exact y0
    | 1, hv => simp at hv; subst hv; exact y1
    | 2, hv => simp at hv; subst hv; exact y2
    | 3, hv => simp at hv; subst hv; exact y3
    | i + 4, hv => simp at hv, hqf, hql⟩
  have QZ : Hid (IBox ((((wq.setCell ⟨q, 0, none⟩ (.int .i64 x.a)).setCell ⟨q, 1, none⟩ (.int .i64 x.b)).setCell ⟨q, 2, none⟩ (.int .i64 x.c)).setCell ⟨q, 3, none⟩ (.int .i64 x.d)) q [x.a, x.b, x.c, x.d]) := Lib.hid ((((q4.put 0 (by simp) x.a).put 1 (by simp) x.b).put 2 (by simp) x.c).put 3 (by simp) x.d)
  obtain ⟨f0, f1, f2, f3, ff, fl⟩ := F9.out.later hwq
  obtain ⟨h0, h1, h2, h3, hf, hl⟩ := HF9.out.later hwq
  have n1 : ¬ w.heap.size = q := by have := F9.out.lt; omega
  have n2 : ¬ w4.heap.size = q := by have := HF9.out.lt; omega
  clear q4 x0 x1 x2 x3 x4 lx
  go_wp2_with (fail)
  refine (c6 _ _ _ (H9.out.later bz) (TH9.out.later bz)).mono ?_
  rintro e w10 ⟨rfl, hw10⟩
  have bw : Below w9.heap.size w9 w10 := bz.trans (hw10.mono bz.size)
  have QB10 := Lib.hid (QZ.out.later hw10)
  clear y0 y1 y2 y3 hql hqf f0 f1 f2 f3 ff fl h0 h1 h2 h3 hf hl n1 n2 bz hw10 QZ hwq hxq hq
  have H10 := Lib.hid (H9.out.later bw)
  have G10 := Lib.hid (G9.out.later bw)
  have X10 := Lib.hid (X9.out.later bw)
  have F10 := Lib.hid (F9.out.later bw)
  have TA10 := Lib.hid (TA9.out.later bw)
  have A10 := Lib.hid (A9.out.later bw)
  have TH10 := Lib.hid (TH9.out.later bw)
  have HF10 := Lib.hid (HF9.out.later bw)
  have TB10 := Lib.hid (TB9.out.later bw)
  have BF10 := Lib.hid (BF9.out.later bw)
  have TS10 := Lib.hid (TS9.out.later bw)
  have TC10 := Lib.hid (TC9.out.later bw)
  have CF10 := Lib.hid (CF9.out.later bw)
  have HB10 := Lib.hid (HB9.out.trans (bw.mono HB9.out.size))
  clear bw H9 G9 X9 F9 TA9 A9 TH9 HF9 TB9 BF9 TS9 TC9 CF9 HB9
  obtain ⟨bf10_0, bf10_1, bf10_2, bf10_3, bf10_4, bf10_5⟩ := BF10.out
  obtain ⟨cf10_0, cf10_1, cf10_2, cf10_3, cf10_4, cf10_5⟩ := CF10.out
  go_wp2_with (fail)
  refine (s1 _ _ _ _ _ (TB10.out) (TC10.out)).mono ?_
  rintro e w11 ⟨rfl, hw11⟩
  clear bf10_0 bf10_1 bf10_2 bf10_3 bf10_4 bf10_5 cf10_0 cf10_1 cf10_2 cf10_3 cf10_4 cf10_5
  have bw11 : Below w10.heap.size w10 w11 := hw11
  have H11 := Lib.hid (H10.out.later bw11)
  have G11 := Lib.hid (G10.out.later bw11)
  have X11 := Lib.hid (X10.out.later bw11)
  have F11 := Lib.hid (F10.out.later bw11)
  have TA11 := Lib.hid (TA10.out.later bw11)
  have A11 := Lib.hid (A10.out.later bw11)
  have TH11 := Lib.hid (TH10.out.later bw11)
  have HF11 := Lib.hid (HF10.out.later bw11)
  have TB11 := Lib.hid (TB10.out.later bw11)
  have BF11 := Lib.hid (BF10.out.later bw11)
  have TS11 := Lib.hid (TS10.out.later bw11)
  have TC11 := Lib.hid (TC10.out.later bw11)
  have CF11 := Lib.hid (CF10.out.later bw11)
  have QB11 := Lib.hid (QB10.out.later bw11)
  have HB11 := Lib.hid (HB10.out.trans (bw11.mono HB10.out.size))
  clear hw11 bw11 H10 G10 X10 F10 TA10 A10 TH10 HF10 TB10 BF10 TS10 TC10 CF10 QB10 HB10
  obtain ⟨f11_0, f11_1, f11_2, f11_3, f11_4, f11_5⟩ := F11.out
  obtain ⟨hf11_0, hf11_1, hf11_2, hf11_3, hf11_4, hf11_5⟩ := HF11.out
  have qa := QB11.out.at (i := 0) (x := x.a) rfl
  have qb := QB11.out.at (i := 1) (x := x.b) rfl
  have qc := QB11.out.at (i := 2) (x := x.c) rfl
  have qd := QB11.out.at (i := 3) (x := x.d) rfl
  go_wp2_with (fail)
  refine (c7 _ _ _ (H11.out) (TH11.out)).mono ?_
  rintro e w12 ⟨rfl, hw12⟩
  clear f11_0 f11_1 f11_2 f11_3 f11_4 f11_5 hf11_0 hf11_1 hf11_2 hf11_3 hf11_4 hf11_5 qa qb qc qd
  have bw12 : Below w11.heap.size w11 w12 := hw12
  have H12 := Lib.hid (H11.out.later bw12)
  have G12 := Lib.hid (G11.out.later bw12)
  have X12 := Lib.hid (X11.out.later bw12)
  have F12 := Lib.hid (F11.out.later bw12)
  have TA12 := Lib.hid (TA11.out.later bw12)
  have A12 := Lib.hid (A11.out.later bw12)
  have TH12 := Lib.hid (TH11.out.later bw12)
  have HF12 := Lib.hid (HF11.out.later bw12)
  have TB12 := Lib.hid (TB11.out.later bw12)
  have BF12 := Lib.hid (BF11.out.later bw12)
  have TS12 := Lib.hid (TS11.out.later bw12)
  have TC12 := Lib.hid (TC11.out.later bw12)
  have CF12 := Lib.hid (CF11.out.later bw12)
  have QB12 := Lib.hid (QB11.out.later bw12)
  have HB12 := Lib.hid (HB11.out.trans (bw12.mono HB11.out.size))
  clear hw12 bw12 H11 G11 X11 F11 TA11 A11 TH11 HF11 TB11 BF11 TS11 TC11 CF11 QB11 HB11
  go_wp2_with (fail)
  refine (kn _).mono ?_
  rintro e w13 ⟨rfl, hw13⟩
  have bw13 : Below w12.heap.size w12 w13 := hw13
  have H13 := Lib.hid (H12.out.later bw13)
  have G13 := Lib.hid (G12.out.later bw13)
  have X13 := Lib.hid (X12.out.later bw13)
  have F13 := Lib.hid (F12.out.later bw13)
  have TA13 := Lib.hid (TA12.out.later bw13)
  have A13 := Lib.hid (A12.out.later bw13)
  have TH13 := Lib.hid (TH12.out.later bw13)
  have HF13 := Lib.hid (HF12.out.later bw13)
  have TB13 := Lib.hid (TB12.out.later bw13)
  have BF13 := Lib.hid (BF12.out.later bw13)
  have TS13 := Lib.hid (TS12.out.later bw13)
  have TC13 := Lib.hid (TC12.out.later bw13)
  have CF13 := Lib.hid (CF12.out.later bw13)
  have QB13 := Lib.hid (QB12.out.later bw13)
  have HB13 := Lib.hid (HB12.out.trans (bw13.mono HB12.out.size))
  clear hw13 bw13 H12 G12 X12 F12 TA12 A12 TH12 HF12 TB12 BF12 TS12 TC12 CF12 QB12 HB12
  go_wp2
  go_ret
  exact ⟨rfl, HB13.out⟩
theorem gaugeOrbits_walk (a b c : Int) (ao : Option Addr) (L : List Q) (cap : Nat) (go : Option Addr) (G : List Q) (gc : Nat) (w : World) (_ : L.length ≤ maxLen) (hm : LiesO w ao L) (_ : G.length ≤ maxLen) (hg : LiesO w go G) : Calls Try.prog 3 #[.agg #[.int .i64 a, .int .i64 b, .int .i64 c, .slice ao L.length cap], .slice go G.length gc] w fun e w' => e = .returned (.bool true) ∧ Below w.heap.size w w' := by
  by_cases h : 200 < L.length
  · exact gOr_long a b c ao go cap gc L G w h
  by_cases h2 : 100 < G.length
  · exact gOr_many a b c ao go cap gc L G w (by omega) h2
  by_cases h3 : N12L G
  · obtain ⟨ns, r, hr⟩ := numsR_exG a b c L
    by_cases h0 : r = 0
    · subst h0
      obtain ⟨hfl, hS, hF, N, hN⟩ := numsR_okG hr
      have hz := hF.z
      have hn := hF.n
      obtain ⟨-, -, p3, -⟩ := mul_rng hz.a1 hz.a4 hz.b1 hz.b4 hz.c1 hz.c4
      obtain ⟨bl, off, rfl, hL⟩ := liesO_one hm (by omega)
      have c1 : ∀ (W : World), LiesO W (some ⟨bl, off, none⟩) L → Calls Try.prog 12 #[.agg #[.int .i64 a, .int .i64 b, .int .i64 c, .slice (some ⟨bl, off, none⟩) L.length cap]] W fun e w' => RetTf a b c L.length (fxL a b c N L) e w' ∧ Below W.heap.size W w' := fun W l1 => by
        obtain ⟨b1, o1, e1, m1⟩ := liesO_one l1 (by omega)
        cases e1
        exact (gaFix_ok a b c bl off cap N L ns W m1 hfl hS hr hN).mono fun e w' ⟨⟨g, k, e1, e2, _⟩, hw⟩ => ⟨⟨g, k, e1, e2⟩, hw⟩
      obtain ⟨r2, hr2⟩ := gaR_ex a b c L G
      by_cases h4 : r2 = 0
      · subst h4
        have hgn := (gaR_ok hr2).2.1
        have hG : AllS G := fun i x hx => ⟨((gaR_ok hr2).2.2 i x hx).1, (h3 i x hx).2⟩
        have hgN : G.length = N := by omega
        obtain ⟨gl, goff, rfl, hGl⟩ := liesO_one hg (by omega)
        have hA := AllS.tf hz hn hgn hS hG
        have hA1 := fxL_all hF hS hN
        have l1' : (fxL a b c N L).length = L.length := fxL_len _ _ _ _ _
        have l2' : (tfL a b c L G).length = L.length := tfL_len _ _ _ _ _
        have hfl2 : fldR a b c (tfL a b c L G) 0 := fldR_small hz (by rw [l2']; exact hn) hA
        have hF2 : Fl a b c (tfL a b c L G) := ⟨(fldR_ok hfl2).1, (fldR_ok hfl2).2.1, (fldR_ok hfl2).2.2⟩
        obtain ⟨ns2, hq2⟩ := smR_all hA
        have hr' : numsR a b c (tfL a b c L G) ns2 0 := .inr ⟨hfl2, .inl ⟨hq2, rfl⟩⟩
        obtain ⟨ns1, hq1⟩ := smR_all hS
        have s0 : Sm2 (lk G 0) := hG.lk (by omega) (by omega)
        have hx0 : G[0]? = some (lk G 0) := lk_get (L := G) (i := 0) (by omega) (by omega)
        have e3 := fx_tf hF hN hgN hS hG
        have hR : AllS (List.replicate N (lk G 0)) := AllS.rep s0 N
        have hRl : 3 * (List.replicate N (lk G 0)).length = (fxL a b c N L).length := by rw [List.length_replicate]; omega
        have e5 := lp_tf hF hN hgN hS hG
        obtain ⟨hX, hX48⟩ := lp_good hF hS hN
        obtain ⟨hY, -⟩ := lp_good hF2 hA hN
        have hYl : (lpL a b c N (tfL a b c L G)).length = (lpL a b c N L).length := lp_same l2'.symm
        have hcar : carP (lpL a b c N L) (lpL a b c N (tfL a b c L G)) (lk G 0) := by rw [e5]; exact car_cj hX s0.1.u
        have hnz : ¬ Z4 (lk G 0) := fun hzz => by
          have h1 := s0.1.u.len
          have h2 := s0.1.u.pos
          obtain ⟨z1, z2, z3, z4⟩ := hzz
          rw [z1, z2, z3, z4] at h1
          have := Int.mul_pos h2 h2
          omega
        have hb4 : B4 (lk G 0) 1000 := by
          have hd := dbl_bnd s0
          rcases sm2_n s0 with h1 | h1
          · unfold dbl at hd; rw [if_pos h1] at hd
            exact ⟨by have := hd.a; dsimp only at this; omega, by have := hd.b; dsimp only at this; omega, by have := hd.c; dsimp only at this; omega, by have := hd.d; dsimp only at this; omega⟩
          · unfold dbl at hd; rw [if_neg (by omega)] at hd
            exact ⟨by have := hd.a; dsimp only at this; omega, by have := hd.b; dsimp only at this; omega, by have := hd.c; dsimp only at this; omega, by have := hd.d; dsimp only at this; omega⟩
        refine gOr_ok a b c (some ⟨bl, off, none⟩) (some ⟨gl, goff, none⟩) cap gc L G w (by omega) (by omega) hm hg h3 N (lk G 0) (fxL a b c N L) (tfL a b c L G) (fxL a b c N (tfL a b c L G)) (List.replicate N (lk G 0)) gl goff rfl (fun i u hu => ?_) (by omega) c1 ?_ ?_ ?_ ?_ ?_ ?_ ?_
        · match i, hu with
          | 0, hu =>
            simp at hu
            subst hu
            exact hGl 0 _ hx0
          | n + 1, hu => simp at hu
        · intro W k1 k2
          obtain ⟨b1, o1, e1, m1⟩ := liesO_one k1 (by omega)
          cases e1
          obtain ⟨b2, o2, e2, m2⟩ := liesO_one k2 (by omega)
          cases e2
          exact gaT_lim a b c bl off gl goff cap gc L G W m1 m2 hr2 hA.lim
        · intro W g k k1
          have := gaFix_ok a b c g 0 k N (tfL a b c L G) ns2 W k1.h hfl2 hA hr' hN
          rw [l2'] at this
          exact this.mono fun e w' ⟨⟨g, k, e1, e2, _⟩, hw⟩ => ⟨⟨g, k, e1, e2⟩, hw⟩
        · intro W g k k1
          have := spr_ok a b c g 0 k N (fxL a b c N L) (lk G 0) W k1.h (fx_Fl hF hS hN) hN s0
          rw [l1'] at this
          exact this.mono fun e w' ⟨⟨g, k, e1, e2, _⟩, hw⟩ => ⟨⟨g, k, e1, e2⟩, hw⟩
        · intro W g k g' k' k1 k2
          have hl : (List.replicate N (lk G 0)).length = N := List.length_replicate
          have hA3 : AllS (tfL a b c (fxL a b c N L) (List.replicate N (lk G 0))) := AllS.tf hz (by rw [l1']; exact hn) hRl hA1 hR
          have := gaT_lim a b c g 0 g' 0 k k' (fxL a b c N L) (List.replicate N (lk G 0)) W k1.h k2.h (gaR_mk (fx_Fl hF hS hN) (hR.gg hRl)) hA3.lim
          rw [hl, l1', ← e3] at this
          exact this
        · intro W g k k1 k2
          have cB : ∀ W : World, LiesO W (some ⟨bl, off, none⟩) L → LiesO W (some ⟨g, 0, none⟩) (tfL a b c L G) → Calls Try.prog 45 #[.agg #[.int .i64 a, .int .i64 b, .int .i64 c, .slice (some ⟨bl, off, none⟩) L.length cap], .agg #[.int .i64 a, .int .i64 b, .int .i64 c, .slice (some ⟨g, 0, none⟩) (tfL a b c L G).length k]] W fun e w' => (∃ (ao : Option Addr) (k : Nat), e = .returned (.tuple #[.slice ao ((lpL a b c N L).length * 4) k, .int .i64 0]) ∧ LiesOI w' ao (eqL (lpL a b c N L) (lpL a b c N (tfL a b c L G)) (lpL a b c N L).length)) ∧ Below W.heap.size W w' := fun W j1 j2 => by
            obtain ⟨b1, o1, e1, m1⟩ := liesO_one j1 (by omega)
            cases e1
            obtain ⟨b2, o2, e2, m2⟩ := liesO_one j2 (by omega)
            cases e2
            exact bw_ok a b c bl off g 0 cap k N L (tfL a b c L G) ns1 ns2 W m1 m2 hfl hfl2 hq1 hq2 hN
          have cC := fun (W : World) (j1 : LiesO W (some ⟨bl, off, none⟩) L) (j2 : LiesO W (some ⟨g, 0, none⟩) (tfL a b c L G)) => cert_ok a b c a b c (some ⟨bl, off, none⟩) (some ⟨g, 0, none⟩) cap k L (tfL a b c L G) _ _ W j1 j2 hX hY hYl (by omega) cB
          have := equiv_ok a b c a b c (some ⟨bl, off, none⟩) (some ⟨g, 0, none⟩) cap k L (tfL a b c L G) _ _ W k1 (.inr ⟨g, 0, rfl, k2.h⟩) cC
          rw [l2'] at this
          refine this.mono fun e w' ⟨⟨B, hB, hc⟩, hw⟩ => ⟨?_, hw⟩
          rcases hc with ⟨rfl, _⟩ | ⟨_, he⟩
          · exact absurd (hB.nil hX hY hYl hcar) hnz
          · exact he
        · intro W g k g' k' k1 k2
          have := sameF4_any a b c (some ⟨g, 0, none⟩) (some ⟨g', 0, none⟩) k k' (fxL a b c N (tfL a b c L G)) W (.inr ⟨g, 0, rfl, k1.h⟩) (.inr ⟨g', 0, rfl, k2.h⟩) (by rw [fxL_len, l2']; omega)
          rw [fxL_len, l2'] at this
          exact this
        · intro W g k k1 k2
          obtain ⟨b1, o1, e1, m1⟩ := liesO_one k1 (by omega)
          cases e1
          have := gaCk_ok a b c bl off g 0 cap k N L (tfL a b c L G) ns1 ns2 (lk G 0) 0 W m1 k2.h hfl hfl2 hq1 hq2 hN (.inr (.inr (.inl ⟨hb4, hnz, hcar, rfl⟩)))
          rw [l2'] at this
          exact this
      · exact gOr_e2 a b c r2 (some ⟨bl, off, none⟩) go cap gc L G w (by omega) (by omega) hm hg h3 h4 (fun W k1 => (c1 W k1).mono fun e w' ⟨⟨g, k, e1, _⟩, hw⟩ => ⟨⟨_, _, _, _, _, _, e1⟩, hw⟩) (fun W k1 k2 => (gaT_bad a b c r2 (some ⟨bl, off, none⟩) go cap gc L G W k1 k2 hr2 h4 (by omega) (by omega)).mono fun e w' ⟨e1, hw⟩ => ⟨⟨_, _, _, _, _, _, e1⟩, hw⟩)
    · obtain ⟨r2, c2⟩ := trf_any a b c ao go cap gc L G (by omega) (by omega)
      exact gOr_e1 a b c r r2 ao go cap gc L G w (by omega) (by omega) hm hg h3 h0 (fun W k1 => (gaFix_bad a b c r ao cap L ns W k1 hr h0 (by omega)).mono fun e w' ⟨e1, hw⟩ => ⟨⟨_, _, _, _, _, _, e1⟩, hw⟩) c2
  · exact gOr_big a b c ao go cap gc L G w (by omega) (by omega) hg h3

/-! ### The statement of the law GaugeOrbits, out of its walk -/
set_option maxRecDepth 100000 in
theorem gaugeOrbits_lifted (os : Os) (started : os.Started) (H : Type) (enc : TypeId × Value → H) :
    ReturnsInHanded {} Try.checked os 3 .any (Rows.gaugeOrbitsSpec.pre6 enc Try.prog Try.f3 Rows.gaugeOrbitsRow.domain false) (Rows.gaugeOrbitsSpec.post enc Try.prog Try.f3 false true false false) := by
  refine returnsInHanded_of_change (C := Try.checked) own started (by kernel_rfl) Try.func3
    (ChangeSpec.witness6 (enc := enc) (C := Try.checked) false ⟨#[], #[.agg #[.int .i64 0, .int .i64 0, .int .i64 0, .slice none 0 0], .slice none 0 0], []⟩ 8 (by kernel_rfl) (by kernel_rfl) (by kernel_rfl) (by kernel_rfl)) ?_
  intro W base args ds gs before hval0 hW hcnd _
  have hval : ∀ (j : Nat) t v, Try.f3.params[j]? = some t → args[j]? = some v → Value.okWide Try.prog W .any base t v := hval0
  have hW' := hW
  obtain ⟨p, q, hA0, hV, rfl, hfz, hnd⟩ := hW
  have hA : DataW.TrodAll enc Try.prog W 0 (fun _ => true) true Try.f3.params.toList args.toList ds p := hA0
  rw [Try.params3] at hA hval
  obtain ⟨v0, vs0, d0, ds0, p0, q0, hargs, rfl, rfl, h0, r0⟩ := trodAll_cons hA
  obtain ⟨v1, vs1, d1, ds1, p1, q1, rfl, rfl, rfl, h1, r1⟩ := trodAll_cons r0
  obtain ⟨rfl, rfl, rfl⟩ := trodAll_nil r1
  obtain rfl : args = #[v0, v1] := by cases args; simp_all
  obtain ⟨rfl, rfl⟩ := trodVars_none hV
  have k0 := h0
  have lt0 : ∀ x ∈ p0, x.block < W.heap.size := by obtain ⟨m, hm⟩ := k0; exact DataW.trod_lt m _ _ _ hm
  obtain ⟨x0, y0, z0, ao0, L0, cap0, rfl, hl0, hm0⟩ := open_field (hval 0 25 v0 rfl rfl) h0
  have k1 := h1
  have lt1 : ∀ x ∈ p1, x.block < W.heap.size := by obtain ⟨m, hm⟩ := k1; exact DataW.trod_lt m _ _ _ hm
  obtain ⟨ao1, L1, cap1, rfl, hl1, hm1⟩ := open_units (hval 1 23 v1 rfl rfl) h1
  clear hA0 hval0
  refine (gaugeOrbits_walk x0 y0 z0 ao0 L0 cap0 ao1 L1 cap1 W hl0 hm0 hl1 hm1).mono fun e W' ⟨he, bel⟩ => ?_
  subst he
  exact ⟨_, rfl, _, _, _, [], _, [], hW', trodAll_mk1 (shut_bool Try.underlying4 _), (trodAll_cons_mk (Below.trod laidOut (by kernel_rfl) (of_decide_eq_true (by kernel_rfl)) k0 bel lt0) (trodAll_cons_mk (Below.trod laidOut (by kernel_rfl) (of_decide_eq_true (by kernel_rfl)) k1 bel lt1) trodAll_mk0)), rfl, bel.frame _, fun h => by cases h⟩

theorem gaugeOrbits_jf9 : (Rows.gaugeOrbitsRow.inPlace == Try.prog.inPlace 3) = true := by kernel_rfl
theorem gaugeOrbits_jf10 : (Rows.gaugeOrbitsRow.unfollowed == Try.prog.unfollowed 3) = true := by kernel_rfl
theorem gaugeOrbits_jf11 : (Rows.gaugeOrbitsRow.recurses == Try.prog.recurses 3) = true := by kernel_rfl
theorem gaugeOrbits_jf12 : (Rows.gaugeOrbitsRow.named == Try.prog.varsNamed 3) = true := by kernel_rfl
theorem gaugeOrbits_facts : joinedFacts Try.prog 3 Try.f3 Rows.gaugeOrbitsSpec Rows.gaugeOrbitsRow = true := by
  unfold joinedFacts
  exact (band (band (band (band (band (band (band (band (band (band (band (band (band (band (band (band (band (band (band (band (band (band (band (band (band (band (band (band (band (band (band (by kernel_rfl) jf1) jf2) (by kernel_rfl)) (by kernel_rfl)) (by kernel_rfl)) jf6) (by kernel_rfl)) jf8) gaugeOrbits_jf9) gaugeOrbits_jf10) gaugeOrbits_jf11) gaugeOrbits_jf12) (by kernel_rfl)) (by kernel_rfl)) (by kernel_rfl)) (by kernel_rfl)) (by kernel_rfl)) (by kernel_rfl)) (by kernel_rfl)) (by kernel_rfl)) (by kernel_rfl)) (by kernel_rfl)) (by kernel_rfl)) jf24) jf25) jf26) jf27) (by kernel_rfl)) (by kernel_rfl)) (by kernel_rfl)) (by kernel_rfl))

theorem gaugeOrbits_over : Rows.gaugeOrbitsRow.holds Try.pinned (OpenSpec.ofChange Rows.gaugeOrbitsSpec) :=
  OpenClaim.holds_of_wide 3 Try.f3 rfl rfl rfl rfl rfl rfl rfl ⟨rfl, rfl, rfl, rfl, rfl⟩ rfl rfl rfl rfl rfl (by kernel_rfl) Try.func3 gaugeOrbits_facts
    (of_decide_eq_true (by kernel_rfl)) (by unfold Func.isWrapper; first | (rw [if_pos (by decide +kernel)]; kernel_rfl) | (rw [if_neg (by decide +kernel)]; exact ⟨rfl, rfl⟩))
    (fun os started H enc _ => gaugeOrbits_lifted os started H enc)

theorem gaugeOrbits_holds : Rows.GaugeOrbitsSaid := gaugeOrbits_over
#print axioms gaugeOrbits_holds

end Go.Proofs.Ytojmagooapjohaa
