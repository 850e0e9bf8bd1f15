/- GaugeEqual: equivalence is the same in both directions, and equivalent fields have the same traces along closed paths, for all fields and paths.
Conditions: none. -/
import Derived.Test.YtojmagooapjohaaEqA
import Derived.Test.YtojmagooapjohaaLtA
import Derived.Test.YtojmagooapjohaaHwC
import Derived.Test.YtojmagooapjohaaOpenP4
import Derived.Test.YtojmagooapjohaaOpen4
import Derived.Test.YtojmagooapjohaaJFacts
namespace Go.Proofs.Ytojmagooapjohaa
set_option linter.unusedVariables false
set_option linter.unusedSimpArgs false
set_option maxRecDepth 1000000
open Go.ChangeShapes Go.WideShapes Go.ChangeAt Go.RowKit
open Um Tm

set_option maxHeartbeats 3200000 in
theorem gEq_l1 (a b c a' b' c' s : Int) (ao bo po : Option Addr) (cap cap' pc : Nat) (L M : List Q) (l : List Int) (w : World) (h : 200 < L.length) : Calls Try.prog 4 #[.agg #[.int .i64 a, .int .i64 b, .int .i64 c, .slice ao L.length cap], .agg #[.int .i64 a', .int .i64 b', .int .i64 c', .slice bo M.length cap'], .agg #[.int .i64 s, .slice po l.length pc]] w fun e w' => e = .returned (.bool true) ∧ Below w.heap.size w w' := by
  have kn := sane4_any
  have c0 := fun W : World => long4_any a b c ao cap L true W (.inl ⟨h, rfl⟩)
  go_enter Try.func4, Try.ntmps4
  go_wp2_with (fail)
  refine (c0 _).mono ?_
  rintro e w1 ⟨rfl, hw1⟩
  have bw1 : Below w.heap.size w w1 := bel3 hw1
  have F1 := Lib.hid (FW.n3a.later hw1)
  have E1 := Lib.hid (FW.n3b.later hw1)
  have PB1 := Lib.hid (C2.n3c.later hw1)
  have HB1 := Lib.hid bw1
  clear hw1 bw1
  obtain ⟨pb1_0, pb1_1, pb1_2, pb1_3⟩ := PB1.out
  go_wp2_with (fail)
  refine (kn _).mono ?_
  rintro e w2 ⟨rfl, hw2⟩
  clear pb1_0 pb1_1 pb1_2 pb1_3
  have bw2 : Below w1.heap.size w1 w2 := hw2
  have F2 := Lib.hid (F1.out.later bw2)
  have E2 := Lib.hid (E1.out.later bw2)
  have PB2 := Lib.hid (PB1.out.later bw2)
  have HB2 := Lib.hid (HB1.out.trans (bw2.mono HB1.out.size))
  clear hw2 bw2 F1 E1 PB1 HB1
  go_wp2
  go_ret
  exact ⟨rfl, HB2.out⟩
set_option maxHeartbeats 3200000 in
theorem gEq_l2 (a b c a' b' c' s : Int) (ao bo po : Option Addr) (cap cap' pc : Nat) (L M : List Q) (l : List Int) (w : World) (h : L.length ≤ 200) (h2 : 200 < M.length) : Calls Try.prog 4 #[.agg #[.int .i64 a, .int .i64 b, .int .i64 c, .slice ao L.length cap], .agg #[.int .i64 a', .int .i64 b', .int .i64 c', .slice bo M.length cap'], .agg #[.int .i64 s, .slice po l.length pc]] w fun e w' => e = .returned (.bool true) ∧ Below w.heap.size w w' := by
  have kn := sane4_any
  have c0 := fun W : World => long4_any a b c ao cap L false W (.inr ⟨h, rfl⟩)
  have d0 := fun W : World => long4_any a' b' c' bo cap' M true W (.inl ⟨h2, rfl⟩)
  go_enter Try.func4, Try.ntmps4
  go_wp2_with (fail)
  refine (c0 _).mono ?_
  rintro e w1 ⟨rfl, hw1⟩
  have bw1 : Below w.heap.size w w1 := bel3 hw1
  have F1 := Lib.hid (FW.n3a.later hw1)
  have E1 := Lib.hid (FW.n3b.later hw1)
  have PB1 := Lib.hid (C2.n3c.later hw1)
  have HB1 := Lib.hid bw1
  clear hw1 bw1
  obtain ⟨e1_0, e1_1, e1_2, e1_3, e1_4, e1_5⟩ := E1.out
  go_wp2_with (fail)
  refine (d0 _).mono ?_
  rintro e w2 ⟨rfl, hw2⟩
  clear e1_0 e1_1 e1_2 e1_3 e1_4 e1_5
  have bw2 : Below w1.heap.size w1 w2 := hw2
  have F2 := Lib.hid (F1.out.later bw2)
  have E2 := Lib.hid (E1.out.later bw2)
  have PB2 := Lib.hid (PB1.out.later bw2)
  have HB2 := Lib.hid (HB1.out.trans (bw2.mono HB1.out.size))
  clear hw2 bw2 F1 E1 PB1 HB1
  obtain ⟨pb2_0, pb2_1, pb2_2, pb2_3⟩ := PB2.out
  go_wp2_with (fail)
  refine (kn _).mono ?_
  rintro e w3 ⟨rfl, hw3⟩
  clear pb2_0 pb2_1 pb2_2 pb2_3
  have bw3 : Below w2.heap.size w2 w3 := hw3
  have F3 := Lib.hid (F2.out.later bw3)
  have E3 := Lib.hid (E2.out.later bw3)
  have PB3 := Lib.hid (PB2.out.later bw3)
  have HB3 := Lib.hid (HB2.out.trans (bw3.mono HB2.out.size))
  clear hw3 bw3 F2 E2 PB2 HB2
  go_wp2
  go_ret
  exact ⟨rfl, HB3.out⟩
set_option maxHeartbeats 3200000 in
theorem gEq_l3 (a b c a' b' c' s : Int) (ao bo po : Option Addr) (cap cap' pc : Nat) (L M : List Q) (l : List Int) (w : World) (h : L.length ≤ 200) (h2 : M.length ≤ 200) (h3 : 100 < l.length) : Calls Try.prog 4 #[.agg #[.int .i64 a, .int .i64 b, .int .i64 c, .slice ao L.length cap], .agg #[.int .i64 a', .int .i64 b', .int .i64 c', .slice bo M.length cap'], .agg #[.int .i64 s, .slice po l.length pc]] w fun e w' => e = .returned (.bool true) ∧ Below w.heap.size w w' := by
  have kn := sane4_any
  have i1 : (l.length : Int) > 100 := by omega
  have c0 := fun W : World => long4_any a b c ao cap L false W (.inr ⟨h, rfl⟩)
  have d0 := fun W : World => long4_any a' b' c' bo cap' M false W (.inr ⟨h2, rfl⟩)
  go_enter Try.func4, Try.ntmps4
  go_wp2_with (fail)
  refine (c0 _).mono ?_
  rintro e w1 ⟨rfl, hw1⟩
  have bw1 : Below w.heap.size w w1 := bel3 hw1
  have F1 := Lib.hid (FW.n3a.later hw1)
  have E1 := Lib.hid (FW.n3b.later hw1)
  have PB1 := Lib.hid (C2.n3c.later hw1)
  have HB1 := Lib.hid bw1
  clear hw1 bw1
  obtain ⟨e1_0, e1_1, e1_2, e1_3, e1_4, e1_5⟩ := E1.out
  go_wp2_with (fail)
  refine (d0 _).mono ?_
  rintro e w2 ⟨rfl, hw2⟩
  clear e1_0 e1_1 e1_2 e1_3 e1_4 e1_5
  have bw2 : Below w1.heap.size w1 w2 := hw2
  have F2 := Lib.hid (F1.out.later bw2)
  have E2 := Lib.hid (E1.out.later bw2)
  have PB2 := Lib.hid (PB1.out.later bw2)
  have HB2 := Lib.hid (HB1.out.trans (bw2.mono HB1.out.size))
  clear hw2 bw2 F1 E1 PB1 HB1
  obtain ⟨pb2_0, pb2_1, pb2_2, pb2_3⟩ := PB2.out
  go_wp2_with (fail)
  refine (kn _).mono ?_
  rintro e w3 ⟨rfl, hw3⟩
  clear pb2_0 pb2_1 pb2_2 pb2_3
  have bw3 : Below w2.heap.size w2 w3 := hw3
  have F3 := Lib.hid (F2.out.later bw3)
  have E3 := Lib.hid (E2.out.later bw3)
  have PB3 := Lib.hid (PB2.out.later bw3)
  have HB3 := Lib.hid (HB2.out.trans (bw3.mono HB2.out.size))
  clear hw3 bw3 F2 E2 PB2 HB2
  go_wp2
  go_ret
  exact ⟨rfl, HB3.out⟩
set_option maxHeartbeats 6400000 in
theorem gEq_err (a b c a' b' c' s r1 r2 u1 u2 v1 v2 g h : Int) (ao bo po : Option Addr) (cap cap' pc : Nat) (L M : List Q) (l : List Int) (w : World) (k1 : L.length ≤ 200) (k2 : M.length ≤ 200) (k3 : l.length ≤ 100) (hm : LiesO w ao L) (hn : LiesO w bo M) (hp : LiesOI w po l) (hr : r1 ≠ 0) (hq : r2 ≠ 0)
    (c1 : ∀ (W : World), LiesO W ao L → LiesO W bo M → Calls Try.prog 15 #[.agg #[.int .i64 a, .int .i64 b, .int .i64 c, .slice ao L.length cap], .agg #[.int .i64 a', .int .i64 b', .int .i64 c', .slice bo M.length cap']] W fun e w' => e = .returned (.tuple #[.bool false, .int .i64 r1]) ∧ Below W.heap.size W w')
    (c2 : ∀ (W : World), LiesO W ao L → LiesO W bo M → Calls Try.prog 15 #[.agg #[.int .i64 a', .int .i64 b', .int .i64 c', .slice bo M.length cap'], .agg #[.int .i64 a, .int .i64 b, .int .i64 c, .slice ao L.length cap]] W fun e w' => e = .returned (.tuple #[.bool false, .int .i64 r2]) ∧ Below W.heap.size W w')
    (c3 : ∀ (W : World), LiesO W ao L → LiesOI W po l → Calls Try.prog 18 #[.agg #[.int .i64 a, .int .i64 b, .int .i64 c, .slice ao L.length cap], .int .i64 s, .slice po l.length pc] W fun e w' => e = .returned (.tuple #[.agg #[.int .i64 u1, .int .i64 u2], .int .i64 g]) ∧ Below W.heap.size W w')
    (c4 : ∀ (W : World), LiesO W bo M → LiesOI W po l → Calls Try.prog 18 #[.agg #[.int .i64 a', .int .i64 b', .int .i64 c', .slice bo M.length cap'], .int .i64 s, .slice po l.length pc] W fun e w' => e = .returned (.tuple #[.agg #[.int .i64 v1, .int .i64 v2], .int .i64 h]) ∧ Below W.heap.size W w') : Calls Try.prog 4 #[.agg #[.int .i64 a, .int .i64 b, .int .i64 c, .slice ao L.length cap], .agg #[.int .i64 a', .int .i64 b', .int .i64 c', .slice bo M.length cap'], .agg #[.int .i64 s, .slice po l.length pc]] w fun e w' => e = .returned (.bool true) ∧ Below w.heap.size w w' := by
  have kn := sane4_any
  have c0 := fun W : World => long4_any a b c ao cap L false W (.inr ⟨k1, rfl⟩)
  have d0 := fun W : World => long4_any a' b' c' bo cap' M false W (.inr ⟨k2, rfl⟩)
  have i1 : ¬ (l.length : Int) > 100 := by omega
  have H0 := Lib.hid hm
  have K0 := Lib.hid hn
  have P0 := Lib.hid hp
  clear hm hn hp k1 k2 k3
  have t1 : (r1 == 0) = false := by simpa using hr
  have t2 : (r2 == 0) = false := by simpa using hq
  clear hr hq
  go_enter Try.func4, Try.ntmps4
  go_wp2_with (fail)
  refine (c0 _).mono ?_
  rintro e w1 ⟨rfl, hw1⟩
  have bw1 : Below w.heap.size w w1 := bel3 hw1
  have F1 := Lib.hid (FW.n3a.later hw1)
  have E1 := Lib.hid (FW.n3b.later hw1)
  have PB1 := Lib.hid (C2.n3c.later hw1)
  have H1 := Lib.hid (H0.out.later bw1)
  have K1 := Lib.hid (K0.out.later bw1)
  have P1 := Lib.hid (P0.out.later bw1)
  have HB1 := Lib.hid bw1
  clear hw1 bw1 H0 K0 P0
  obtain ⟨e1_0, e1_1, e1_2, e1_3, e1_4, e1_5⟩ := E1.out
  go_wp2_with (fail)
  refine (d0 _).mono ?_
  rintro e w2 ⟨rfl, hw2⟩
  clear e1_0 e1_1 e1_2 e1_3 e1_4 e1_5
  have bw2 : Below w1.heap.size w1 w2 := hw2
  have H2 := Lib.hid (H1.out.later bw2)
  have K2 := Lib.hid (K1.out.later bw2)
  have P2 := Lib.hid (P1.out.later bw2)
  have F2 := Lib.hid (F1.out.later bw2)
  have E2 := Lib.hid (E1.out.later bw2)
  have PB2 := Lib.hid (PB1.out.later bw2)
  have HB2 := Lib.hid (HB1.out.trans (bw2.mono HB1.out.size))
  clear hw2 bw2 H1 K1 P1 F1 E1 PB1 HB1
  obtain ⟨pb2_0, pb2_1, pb2_2, pb2_3⟩ := PB2.out
  obtain ⟨f2_0, f2_1, f2_2, f2_3, f2_4, f2_5⟩ := F2.out
  obtain ⟨e2_0, e2_1, e2_2, e2_3, e2_4, e2_5⟩ := E2.out
  go_wp2_with (fail)
  refine (c1 _ (H2.out) (K2.out)).mono ?_
  rintro e w3 ⟨rfl, hw3⟩
  clear pb2_0 pb2_1 pb2_2 pb2_3 f2_0 f2_1 f2_2 f2_3 f2_4 f2_5 e2_0 e2_1 e2_2 e2_3 e2_4 e2_5
  have bw3 : Below w2.heap.size w2 w3 := hw3
  have H3 := Lib.hid (H2.out.later bw3)
  have K3 := Lib.hid (K2.out.later bw3)
  have P3 := Lib.hid (P2.out.later bw3)
  have F3 := Lib.hid (F2.out.later bw3)
  have E3 := Lib.hid (E2.out.later bw3)
  have PB3 := Lib.hid (PB2.out.later bw3)
  have HB3 := Lib.hid (HB2.out.trans (bw3.mono HB2.out.size))
  clear hw3 bw3 H2 K2 P2 F2 E2 PB2 HB2
  obtain ⟨f3_0, f3_1, f3_2, f3_3, f3_4, f3_5⟩ := F3.out
  obtain ⟨e3_0, e3_1, e3_2, e3_3, e3_4, e3_5⟩ := E3.out
  go_wp2_with (fail)
  refine (c2 _ (H3.out) (K3.out)).mono ?_
  rintro e w4 ⟨rfl, hw4⟩
  clear f3_0 f3_1 f3_2 f3_3 f3_4 f3_5 e3_0 e3_1 e3_2 e3_3 e3_4 e3_5
  have bw4 : Below w3.heap.size w3 w4 := hw4
  have H4 := Lib.hid (H3.out.later bw4)
  have K4 := Lib.hid (K3.out.later bw4)
  have P4 := Lib.hid (P3.out.later bw4)
  have F4 := Lib.hid (F3.out.later bw4)
  have E4 := Lib.hid (E3.out.later bw4)
  have PB4 := Lib.hid (PB3.out.later bw4)
  have HB4 := Lib.hid (HB3.out.trans (bw4.mono HB3.out.size))
  clear hw4 bw4 H3 K3 P3 F3 E3 PB3 HB3
  obtain ⟨f4_0, f4_1, f4_2, f4_3, f4_4, f4_5⟩ := F4.out
  obtain ⟨pb4_0, pb4_1, pb4_2, pb4_3⟩ := PB4.out
  go_wp2_with (fail)
  refine (c3 _ (H4.out) (P4.out)).mono ?_
  rintro e w5 ⟨rfl, hw5⟩
  clear f4_0 f4_1 f4_2 f4_3 f4_4 f4_5 pb4_0 pb4_1 pb4_2 pb4_3
  have bw5 : Below w4.heap.size w4 w5 := hw5
  have H5 := Lib.hid (H4.out.later bw5)
  have K5 := Lib.hid (K4.out.later bw5)
  have P5 := Lib.hid (P4.out.later bw5)
  have F5 := Lib.hid (F4.out.later bw5)
  have E5 := Lib.hid (E4.out.later bw5)
  have PB5 := Lib.hid (PB4.out.later bw5)
  have HB5 := Lib.hid (HB4.out.trans (bw5.mono HB4.out.size))
  clear hw5 bw5 H4 K4 P4 F4 E4 PB4 HB4
  obtain ⟨e5_0, e5_1, e5_2, e5_3, e5_4, e5_5⟩ := E5.out
  obtain ⟨pb5_0, pb5_1, pb5_2, pb5_3⟩ := PB5.out
  go_wp2_with (fail)
  refine (c4 _ (K5.out.later ba1) (P5.out.later ba1)).mono ?_
  rintro e w6 ⟨rfl, hw6⟩
  clear e5_0 e5_1 e5_2 e5_3 e5_4 e5_5 pb5_0 pb5_1 pb5_2 pb5_3
  have bw6 : Below w5.heap.size w5 w6 := bel1 hw6
  have R6 := Lib.hid (C2.n1.later hw6)
  have H6 := Lib.hid (H5.out.later bw6)
  have K6 := Lib.hid (K5.out.later bw6)
  have P6 := Lib.hid (P5.out.later bw6)
  have F6 := Lib.hid (F5.out.later bw6)
  have E6 := Lib.hid (E5.out.later bw6)
  have PB6 := Lib.hid (PB5.out.later bw6)
  have HB6 := Lib.hid (HB5.out.trans (bw6.mono HB5.out.size))
  clear hw6 bw6 H5 K5 P5 F5 E5 PB5 HB5
  obtain ⟨r6_0, r6_1, r6_2, r6_3⟩ := R6.out
  go_wp2_with (fail)
  refine (kn _).mono ?_
  rintro e w7 ⟨rfl, hw7⟩
  clear r6_0 r6_1 r6_2 r6_3
  have bw7 : Below w6.heap.size w6 w7 := bel1 hw7
  have S7 := Lib.hid (C2.n1.later hw7)
  have H7 := Lib.hid (H6.out.later bw7)
  have K7 := Lib.hid (K6.out.later bw7)
  have P7 := Lib.hid (P6.out.later bw7)
  have F7 := Lib.hid (F6.out.later bw7)
  have E7 := Lib.hid (E6.out.later bw7)
  have PB7 := Lib.hid (PB6.out.later bw7)
  have R7 := Lib.hid (R6.out.later bw7)
  have HB7 := Lib.hid (HB6.out.trans (bw7.mono HB6.out.size))
  clear hw7 bw7 H6 K6 P6 F6 E6 PB6 R6 HB6
  go_wp2
  go_ret
  exact ⟨rfl, HB7.out⟩
set_option maxHeartbeats 6400000 in
theorem gEq_no (a b c a' b' c' s u1 u2 v1 v2 g h : Int) (ao bo po : Option Addr) (cap cap' pc : Nat) (L M : List Q) (l : List Int) (w : World) (k1 : L.length ≤ 200) (k2 : M.length ≤ 200) (k3 : l.length ≤ 100) (hm : LiesO w ao L) (hn : LiesO w bo M) (hp : LiesOI w po l)
    (c1 : ∀ (W : World), LiesO W ao L → LiesO W bo M → Calls Try.prog 15 #[.agg #[.int .i64 a, .int .i64 b, .int .i64 c, .slice ao L.length cap], .agg #[.int .i64 a', .int .i64 b', .int .i64 c', .slice bo M.length cap']] W fun e w' => e = .returned (.tuple #[.bool false, .int .i64 0]) ∧ Below W.heap.size W w')
    (c2 : ∀ (W : World), LiesO W ao L → LiesO W bo M → Calls Try.prog 15 #[.agg #[.int .i64 a', .int .i64 b', .int .i64 c', .slice bo M.length cap'], .agg #[.int .i64 a, .int .i64 b, .int .i64 c, .slice ao L.length cap]] W fun e w' => e = .returned (.tuple #[.bool false, .int .i64 0]) ∧ Below W.heap.size W w')
    (c3 : ∀ (W : World), LiesO W ao L → LiesOI W po l → Calls Try.prog 18 #[.agg #[.int .i64 a, .int .i64 b, .int .i64 c, .slice ao L.length cap], .int .i64 s, .slice po l.length pc] W fun e w' => e = .returned (.tuple #[.agg #[.int .i64 u1, .int .i64 u2], .int .i64 g]) ∧ Below W.heap.size W w')
    (c4 : ∀ (W : World), LiesO W bo M → LiesOI W po l → Calls Try.prog 18 #[.agg #[.int .i64 a', .int .i64 b', .int .i64 c', .slice bo M.length cap'], .int .i64 s, .slice po l.length pc] W fun e w' => e = .returned (.tuple #[.agg #[.int .i64 v1, .int .i64 v2], .int .i64 h]) ∧ Below W.heap.size W w') : Calls Try.prog 4 #[.agg #[.int .i64 a, .int .i64 b, .int .i64 c, .slice ao L.length cap], .agg #[.int .i64 a', .int .i64 b', .int .i64 c', .slice bo M.length cap'], .agg #[.int .i64 s, .slice po l.length pc]] w fun e w' => e = .returned (.bool true) ∧ Below w.heap.size w w' := by
  have kn := sane4_any
  have c0 := fun W : World => long4_any a b c ao cap L false W (.inr ⟨k1, rfl⟩)
  have d0 := fun W : World => long4_any a' b' c' bo cap' M false W (.inr ⟨k2, rfl⟩)
  have i1 : ¬ (l.length : Int) > 100 := by omega
  have H0 := Lib.hid hm
  have K0 := Lib.hid hn
  have P0 := Lib.hid hp
  clear hm hn hp k1 k2 k3
  go_enter Try.func4, Try.ntmps4
  go_wp2_with (fail)
  refine (c0 _).mono ?_
  rintro e w1 ⟨rfl, hw1⟩
  have bw1 : Below w.heap.size w w1 := bel3 hw1
  have F1 := Lib.hid (FW.n3a.later hw1)
  have E1 := Lib.hid (FW.n3b.later hw1)
  have PB1 := Lib.hid (C2.n3c.later hw1)
  have H1 := Lib.hid (H0.out.later bw1)
  have K1 := Lib.hid (K0.out.later bw1)
  have P1 := Lib.hid (P0.out.later bw1)
  have HB1 := Lib.hid bw1
  clear hw1 bw1 H0 K0 P0
  obtain ⟨e1_0, e1_1, e1_2, e1_3, e1_4, e1_5⟩ := E1.out
  go_wp2_with (fail)
  refine (d0 _).mono ?_
  rintro e w2 ⟨rfl, hw2⟩
  clear e1_0 e1_1 e1_2 e1_3 e1_4 e1_5
  have bw2 : Below w1.heap.size w1 w2 := hw2
  have H2 := Lib.hid (H1.out.later bw2)
  have K2 := Lib.hid (K1.out.later bw2)
  have P2 := Lib.hid (P1.out.later bw2)
  have F2 := Lib.hid (F1.out.later bw2)
  have E2 := Lib.hid (E1.out.later bw2)
  have PB2 := Lib.hid (PB1.out.later bw2)
  have HB2 := Lib.hid (HB1.out.trans (bw2.mono HB1.out.size))
  clear hw2 bw2 H1 K1 P1 F1 E1 PB1 HB1
  obtain ⟨pb2_0, pb2_1, pb2_2, pb2_3⟩ := PB2.out
  obtain ⟨f2_0, f2_1, f2_2, f2_3, f2_4, f2_5⟩ := F2.out
  obtain ⟨e2_0, e2_1, e2_2, e2_3, e2_4, e2_5⟩ := E2.out
  go_wp2_with (fail)
  refine (c1 _ (H2.out) (K2.out)).mono ?_
  rintro e w3 ⟨rfl, hw3⟩
  clear pb2_0 pb2_1 pb2_2 pb2_3 f2_0 f2_1 f2_2 f2_3 f2_4 f2_5 e2_0 e2_1 e2_2 e2_3 e2_4 e2_5
  have bw3 : Below w2.heap.size w2 w3 := hw3
  have H3 := Lib.hid (H2.out.later bw3)
  have K3 := Lib.hid (K2.out.later bw3)
  have P3 := Lib.hid (P2.out.later bw3)
  have F3 := Lib.hid (F2.out.later bw3)
  have E3 := Lib.hid (E2.out.later bw3)
  have PB3 := Lib.hid (PB2.out.later bw3)
  have HB3 := Lib.hid (HB2.out.trans (bw3.mono HB2.out.size))
  clear hw3 bw3 H2 K2 P2 F2 E2 PB2 HB2
  obtain ⟨f3_0, f3_1, f3_2, f3_3, f3_4, f3_5⟩ := F3.out
  obtain ⟨e3_0, e3_1, e3_2, e3_3, e3_4, e3_5⟩ := E3.out
  go_wp2_with (fail)
  refine (c2 _ (H3.out) (K3.out)).mono ?_
  rintro e w4 ⟨rfl, hw4⟩
  clear f3_0 f3_1 f3_2 f3_3 f3_4 f3_5 e3_0 e3_1 e3_2 e3_3 e3_4 e3_5
  have bw4 : Below w3.heap.size w3 w4 := hw4
  have H4 := Lib.hid (H3.out.later bw4)
  have K4 := Lib.hid (K3.out.later bw4)
  have P4 := Lib.hid (P3.out.later bw4)
  have F4 := Lib.hid (F3.out.later bw4)
  have E4 := Lib.hid (E3.out.later bw4)
  have PB4 := Lib.hid (PB3.out.later bw4)
  have HB4 := Lib.hid (HB3.out.trans (bw4.mono HB3.out.size))
  clear hw4 bw4 H3 K3 P3 F3 E3 PB3 HB3
  obtain ⟨f4_0, f4_1, f4_2, f4_3, f4_4, f4_5⟩ := F4.out
  obtain ⟨pb4_0, pb4_1, pb4_2, pb4_3⟩ := PB4.out
  go_wp2_with (fail)
  refine (c3 _ (H4.out) (P4.out)).mono ?_
  rintro e w5 ⟨rfl, hw5⟩
  clear f4_0 f4_1 f4_2 f4_3 f4_4 f4_5 pb4_0 pb4_1 pb4_2 pb4_3
  have bw5 : Below w4.heap.size w4 w5 := hw5
  have H5 := Lib.hid (H4.out.later bw5)
  have K5 := Lib.hid (K4.out.later bw5)
  have P5 := Lib.hid (P4.out.later bw5)
  have F5 := Lib.hid (F4.out.later bw5)
  have E5 := Lib.hid (E4.out.later bw5)
  have PB5 := Lib.hid (PB4.out.later bw5)
  have HB5 := Lib.hid (HB4.out.trans (bw5.mono HB4.out.size))
  clear hw5 bw5 H4 K4 P4 F4 E4 PB4 HB4
  obtain ⟨e5_0, e5_1, e5_2, e5_3, e5_4, e5_5⟩ := E5.out
  obtain ⟨pb5_0, pb5_1, pb5_2, pb5_3⟩ := PB5.out
  go_wp2_with (fail)
  refine (c4 _ (K5.out.later ba1) (P5.out.later ba1)).mono ?_
  rintro e w6 ⟨rfl, hw6⟩
  clear e5_0 e5_1 e5_2 e5_3 e5_4 e5_5 pb5_0 pb5_1 pb5_2 pb5_3
  have bw6 : Below w5.heap.size w5 w6 := bel1 hw6
  have R6 := Lib.hid (C2.n1.later hw6)
  have H6 := Lib.hid (H5.out.later bw6)
  have K6 := Lib.hid (K5.out.later bw6)
  have P6 := Lib.hid (P5.out.later bw6)
  have F6 := Lib.hid (F5.out.later bw6)
  have E6 := Lib.hid (E5.out.later bw6)
  have PB6 := Lib.hid (PB5.out.later bw6)
  have HB6 := Lib.hid (HB5.out.trans (bw6.mono HB5.out.size))
  clear hw6 bw6 H5 K5 P5 F5 E5 PB5 HB5
  obtain ⟨r6_0, r6_1, r6_2, r6_3⟩ := R6.out
  go_wp2_with (fail)
  refine (kn _).mono ?_
  rintro e w7 ⟨rfl, hw7⟩
  clear r6_0 r6_1 r6_2 r6_3
  have bw7 : Below w6.heap.size w6 w7 := bel1 hw7
  have S7 := Lib.hid (C2.n1.later hw7)
  have H7 := Lib.hid (H6.out.later bw7)
  have K7 := Lib.hid (K6.out.later bw7)
  have P7 := Lib.hid (P6.out.later bw7)
  have F7 := Lib.hid (F6.out.later bw7)
  have E7 := Lib.hid (E6.out.later bw7)
  have PB7 := Lib.hid (PB6.out.later bw7)
  have R7 := Lib.hid (R6.out.later bw7)
  have HB7 := Lib.hid (HB6.out.trans (bw7.mono HB6.out.size))
  clear hw7 bw7 H6 K6 P6 F6 E6 PB6 R6 HB6
  go_wp2
  go_ret
  exact ⟨rfl, HB7.out⟩
set_option maxHeartbeats 6400000 in
theorem gEq_yes (a b c a' b' c' s u1 u2 g : Int) (ao bo po : Option Addr) (cap cap' pc : Nat) (L M : List Q) (l : List Int) (w : World) (k1 : L.length ≤ 200) (k2 : M.length ≤ 200) (k3 : l.length ≤ 100) (hm : LiesO w ao L) (hn : LiesO w bo M) (hp : LiesOI w po l)
    (c1 : ∀ (W : World), LiesO W ao L → LiesO W bo M → Calls Try.prog 15 #[.agg #[.int .i64 a, .int .i64 b, .int .i64 c, .slice ao L.length cap], .agg #[.int .i64 a', .int .i64 b', .int .i64 c', .slice bo M.length cap']] W fun e w' => e = .returned (.tuple #[.bool true, .int .i64 0]) ∧ Below W.heap.size W w')
    (c2 : ∀ (W : World), LiesO W ao L → LiesO W bo M → Calls Try.prog 15 #[.agg #[.int .i64 a', .int .i64 b', .int .i64 c', .slice bo M.length cap'], .agg #[.int .i64 a, .int .i64 b, .int .i64 c, .slice ao L.length cap]] W fun e w' => e = .returned (.tuple #[.bool true, .int .i64 0]) ∧ Below W.heap.size W w')
    (c3 : ∀ (W : World), LiesO W ao L → LiesOI W po l → Calls Try.prog 18 #[.agg #[.int .i64 a, .int .i64 b, .int .i64 c, .slice ao L.length cap], .int .i64 s, .slice po l.length pc] W fun e w' => e = .returned (.tuple #[.agg #[.int .i64 u1, .int .i64 u2], .int .i64 g]) ∧ Below W.heap.size W w')
    (c4 : ∀ (W : World), LiesO W bo M → LiesOI W po l → Calls Try.prog 18 #[.agg #[.int .i64 a', .int .i64 b', .int .i64 c', .slice bo M.length cap'], .int .i64 s, .slice po l.length pc] W fun e w' => e = .returned (.tuple #[.agg #[.int .i64 u1, .int .i64 u2], .int .i64 g]) ∧ Below W.heap.size W w') : Calls Try.prog 4 #[.agg #[.int .i64 a, .int .i64 b, .int .i64 c, .slice ao L.length cap], .agg #[.int .i64 a', .int .i64 b', .int .i64 c', .slice bo M.length cap'], .agg #[.int .i64 s, .slice po l.length pc]] w fun e w' => e = .returned (.bool true) ∧ Below w.heap.size w w' := by
  have kn := sane4_any
  have c0 := fun W : World => long4_any a b c ao cap L false W (.inr ⟨k1, rfl⟩)
  have d0 := fun W : World => long4_any a' b' c' bo cap' M false W (.inr ⟨k2, rfl⟩)
  have i1 : ¬ (l.length : Int) > 100 := by omega
  have H0 := Lib.hid hm
  have K0 := Lib.hid hn
  have P0 := Lib.hid hp
  clear hm hn hp k1 k2 k3
  have t2 : (g == g) = true := by simp
  have qT : ∀ W, Sem.run Try.prog (Op.equalIn 10000 47 (.agg #[.int .i64 u1, .int .i64 u2]) (.agg #[.int .i64 u1, .int .i64 u2])) W = .ok true W := fun W => by simp [go_sem]
  go_enter Try.func4, Try.ntmps4
  go_wp2_with (fail)
  refine (c0 _).mono ?_
  rintro e w1 ⟨rfl, hw1⟩
  have bw1 : Below w.heap.size w w1 := bel3 hw1
  have F1 := Lib.hid (FW.n3a.later hw1)
  have E1 := Lib.hid (FW.n3b.later hw1)
  have PB1 := Lib.hid (C2.n3c.later hw1)
  have H1 := Lib.hid (H0.out.later bw1)
  have K1 := Lib.hid (K0.out.later bw1)
  have P1 := Lib.hid (P0.out.later bw1)
  have HB1 := Lib.hid bw1
  clear hw1 bw1 H0 K0 P0
  obtain ⟨e1_0, e1_1, e1_2, e1_3, e1_4, e1_5⟩ := E1.out
  go_wp2_with (fail)
  refine (d0 _).mono ?_
  rintro e w2 ⟨rfl, hw2⟩
  clear e1_0 e1_1 e1_2 e1_3 e1_4 e1_5
  have bw2 : Below w1.heap.size w1 w2 := hw2
  have H2 := Lib.hid (H1.out.later bw2)
  have K2 := Lib.hid (K1.out.later bw2)
  have P2 := Lib.hid (P1.out.later bw2)
  have F2 := Lib.hid (F1.out.later bw2)
  have E2 := Lib.hid (E1.out.later bw2)
  have PB2 := Lib.hid (PB1.out.later bw2)
  have HB2 := Lib.hid (HB1.out.trans (bw2.mono HB1.out.size))
  clear hw2 bw2 H1 K1 P1 F1 E1 PB1 HB1
  obtain ⟨pb2_0, pb2_1, pb2_2, pb2_3⟩ := PB2.out
  obtain ⟨f2_0, f2_1, f2_2, f2_3, f2_4, f2_5⟩ := F2.out
  obtain ⟨e2_0, e2_1, e2_2, e2_3, e2_4, e2_5⟩ := E2.out
  go_wp2_with (fail)
  refine (c1 _ (H2.out) (K2.out)).mono ?_
  rintro e w3 ⟨rfl, hw3⟩
  clear pb2_0 pb2_1 pb2_2 pb2_3 f2_0 f2_1 f2_2 f2_3 f2_4 f2_5 e2_0 e2_1 e2_2 e2_3 e2_4 e2_5
  have bw3 : Below w2.heap.size w2 w3 := hw3
  have H3 := Lib.hid (H2.out.later bw3)
  have K3 := Lib.hid (K2.out.later bw3)
  have P3 := Lib.hid (P2.out.later bw3)
  have F3 := Lib.hid (F2.out.later bw3)
  have E3 := Lib.hid (E2.out.later bw3)
  have PB3 := Lib.hid (PB2.out.later bw3)
  have HB3 := Lib.hid (HB2.out.trans (bw3.mono HB2.out.size))
  clear hw3 bw3 H2 K2 P2 F2 E2 PB2 HB2
  obtain ⟨f3_0, f3_1, f3_2, f3_3, f3_4, f3_5⟩ := F3.out
  obtain ⟨e3_0, e3_1, e3_2, e3_3, e3_4, e3_5⟩ := E3.out
  go_wp2_with (fail)
  refine (c2 _ (H3.out) (K3.out)).mono ?_
  rintro e w4 ⟨rfl, hw4⟩
  clear f3_0 f3_1 f3_2 f3_3 f3_4 f3_5 e3_0 e3_1 e3_2 e3_3 e3_4 e3_5
  have bw4 : Below w3.heap.size w3 w4 := hw4
  have H4 := Lib.hid (H3.out.later bw4)
  have K4 := Lib.hid (K3.out.later bw4)
  have P4 := Lib.hid (P3.out.later bw4)
  have F4 := Lib.hid (F3.out.later bw4)
  have E4 := Lib.hid (E3.out.later bw4)
  have PB4 := Lib.hid (PB3.out.later bw4)
  have HB4 := Lib.hid (HB3.out.trans (bw4.mono HB3.out.size))
  clear hw4 bw4 H3 K3 P3 F3 E3 PB3 HB3
  obtain ⟨f4_0, f4_1, f4_2, f4_3, f4_4, f4_5⟩ := F4.out
  obtain ⟨pb4_0, pb4_1, pb4_2, pb4_3⟩ := PB4.out
  go_wp2_with (fail)
  refine (c3 _ (H4.out) (P4.out)).mono ?_
  rintro e w5 ⟨rfl, hw5⟩
  clear f4_0 f4_1 f4_2 f4_3 f4_4 f4_5 pb4_0 pb4_1 pb4_2 pb4_3
  have bw5 : Below w4.heap.size w4 w5 := hw5
  have H5 := Lib.hid (H4.out.later bw5)
  have K5 := Lib.hid (K4.out.later bw5)
  have P5 := Lib.hid (P4.out.later bw5)
  have F5 := Lib.hid (F4.out.later bw5)
  have E5 := Lib.hid (E4.out.later bw5)
  have PB5 := Lib.hid (PB4.out.later bw5)
  have HB5 := Lib.hid (HB4.out.trans (bw5.mono HB4.out.size))
  clear hw5 bw5 H4 K4 P4 F4 E4 PB4 HB4
  obtain ⟨e5_0, e5_1, e5_2, e5_3, e5_4, e5_5⟩ := E5.out
  obtain ⟨pb5_0, pb5_1, pb5_2, pb5_3⟩ := PB5.out
  go_wp2_with (fail)
  refine (c4 _ (K5.out.later ba1) (P5.out.later ba1)).mono ?_
  rintro e w6 ⟨rfl, hw6⟩
  clear e5_0 e5_1 e5_2 e5_3 e5_4 e5_5 pb5_0 pb5_1 pb5_2 pb5_3
  have bw6 : Below w5.heap.size w5 w6 := bel1 hw6
  have R6 := Lib.hid (C2.n1.later hw6)
  have H6 := Lib.hid (H5.out.later bw6)
  have K6 := Lib.hid (K5.out.later bw6)
  have P6 := Lib.hid (P5.out.later bw6)
  have F6 := Lib.hid (F5.out.later bw6)
  have E6 := Lib.hid (E5.out.later bw6)
  have PB6 := Lib.hid (PB5.out.later bw6)
  have HB6 := Lib.hid (HB5.out.trans (bw6.mono HB5.out.size))
  clear hw6 bw6 H5 K5 P5 F5 E5 PB5 HB5
  obtain ⟨r6_0, r6_1, r6_2, r6_3⟩ := R6.out
  go_wp2_with (fail)
  refine (kn _).mono ?_
  rintro e w7 ⟨rfl, hw7⟩
  clear r6_0 r6_1 r6_2 r6_3
  have bw7 : Below w6.heap.size w6 w7 := bel1 hw7
  have S7 := Lib.hid (C2.n1.later hw7)
  have H7 := Lib.hid (H6.out.later bw7)
  have K7 := Lib.hid (K6.out.later bw7)
  have P7 := Lib.hid (P6.out.later bw7)
  have F7 := Lib.hid (F6.out.later bw7)
  have E7 := Lib.hid (E6.out.later bw7)
  have PB7 := Lib.hid (PB6.out.later bw7)
  have R7 := Lib.hid (R6.out.later bw7)
  have HB7 := Lib.hid (HB6.out.trans (bw7.mono HB6.out.size))
  clear hw7 bw7 H6 K6 P6 F6 E6 PB6 R6 HB6
  go_wp2
  go_ret
  exact ⟨rfl, HB7.out⟩
theorem BasE.ne {X Y B : List Q} {q : Q} (h : BasE X Y (q :: B)) : ¬ Z4 q := fun ⟨h1, h2, h3, h4⟩ => by
  have z : ∀ k, k < 4 → cmp k q = 0 := fun k hk => by
    rcases cases4 hk with rfl | rfl | rfl | rfl
    · exact h1
    · exact h2
    · exact h3
    · exact h4
  have := h.1.i (1 :: List.replicate B.length 0) (by simp) (fun k hk => by
    have e : ∀ (B : List Q) (n : Nat), smf (cmp k) (List.replicate n 0) B = 0 := by
      intro B
      induction B with
      | nil => intro n; exact smf_nil _ _
      | cons p B ih => intro n; cases n with
        | zero => rfl
        | succ n => show 0 * cmp k p + smf (cmp k) (List.replicate n 0) B = 0; rw [ih]; omega
    show 1 * cmp k q + smf (cmp k) (List.replicate B.length 0) B = 0
    rw [e, z k hk]; rfl) 1 List.mem_cons_self
  cases this
theorem trc_ans (a b c s : Int) (ao po : Option Addr) (cap pc : Nat) (L : List Q) (l : List Int) (hlen : L.length ≤ 1000000) (hlen2 : l.length ≤ 1000000) : ∃ x y r : Int, ∀ W : World, LiesO W ao L → LiesOI W po l → Calls Try.prog 18 #[.agg #[.int .i64 a, .int .i64 b, .int .i64 c, .slice ao L.length cap], .int .i64 s, .slice po l.length pc] W fun e w' => e = .returned (.tuple #[.agg #[.int .i64 x, .int .i64 y], .int .i64 r]) ∧ Below W.heap.size W w' := by
  obtain ⟨r, hr⟩ := asR_ex a b c L s l
  by_cases h0 : r = 0
  · subst h0
    have hp := fld_pos1 (a := a) (b := b) (c := c) (L := L) (by
      rcases hr with ⟨_, h⟩ | ⟨h, _⟩
      · exact absurd rfl h
      · exact h)
    by_cases hc : en a b c s l = s
    · refine ⟨(tr (al a b c L s l)).1, (tr (al a b c L s l)).2, 0, fun W k1 k2 => ?_⟩
      obtain ⟨b1, o1, rfl, m1⟩ := liesO_one k1 hp
      exact traceL_ok a b c s b1 o1 po cap pc L l W m1 k2 hr hc
    · refine ⟨0, 0, 6, fun W k1 k2 => ?_⟩
      obtain ⟨b1, o1, rfl, m1⟩ := liesO_one k1 hp
      exact traceL_open a b c s b1 o1 po cap pc L l W m1 k2 hr hc
  · exact ⟨0, 0, r, fun W k1 k2 => traceL_bad a b c s r ao po cap pc L l W k1 k2 hr h0 hlen hlen2⟩
theorem trc_same (a b c s : Int) (ao bo po : Option Addr) (cap cap' pc : Nat) (L M : List Q) (l : List Int) (hf : fldR a b c L 0) (hf' : fldR a b c M 0) (hlen : L.length ≤ 1000000) (hlen' : M.length ≤ 1000000) (hlen2 : l.length ≤ 1000000)
    (ht : 0 ≤ s → s < a * b * c → (∀ t ∈ l, IsStep t) → en a b c s l = s → tr (al a b c L s l) = tr (al a b c M s l)) : ∃ x y r : Int, (∀ W : World, LiesO W ao L → LiesOI W po l → Calls Try.prog 18 #[.agg #[.int .i64 a, .int .i64 b, .int .i64 c, .slice ao L.length cap], .int .i64 s, .slice po l.length pc] W fun e w' => e = .returned (.tuple #[.agg #[.int .i64 x, .int .i64 y], .int .i64 r]) ∧ Below W.heap.size W w') ∧ (∀ W : World, LiesO W bo M → LiesOI W po l → Calls Try.prog 18 #[.agg #[.int .i64 a, .int .i64 b, .int .i64 c, .slice bo M.length cap'], .int .i64 s, .slice po l.length pc] W fun e w' => e = .returned (.tuple #[.agg #[.int .i64 x, .int .i64 y], .int .i64 r]) ∧ Below W.heap.size W w') := by
  obtain ⟨r, hw⟩ := wkR_ex a b c s l
  have hr : asR a b c L s l r := .inr ⟨hf, hw⟩
  have hr' : asR a b c M s l r := .inr ⟨hf', hw⟩
  have hp := fld_pos1 hf
  have hp' := fld_pos1 hf'
  by_cases h0 : r = 0
  · subst h0
    obtain ⟨-, s0, s1, hs, -⟩ := asR_ok hr
    by_cases hc : en a b c s l = s
    · have e := ht s0 s1 hs hc
      refine ⟨(tr (al a b c L s l)).1, (tr (al a b c L s l)).2, 0, fun W k1 k2 => ?_, fun W k1 k2 => ?_⟩
      · obtain ⟨b1, o1, rfl, m1⟩ := liesO_one k1 hp
        exact traceL_ok a b c s b1 o1 po cap pc L l W m1 k2 hr hc
      · obtain ⟨b1, o1, rfl, m1⟩ := liesO_one k1 hp'
        rw [e]
        exact traceL_ok a b c s b1 o1 po cap' pc M l W m1 k2 hr' hc
    · refine ⟨0, 0, 6, fun W k1 k2 => ?_, fun W k1 k2 => ?_⟩
      · obtain ⟨b1, o1, rfl, m1⟩ := liesO_one k1 hp
        exact traceL_open a b c s b1 o1 po cap pc L l W m1 k2 hr hc
      · obtain ⟨b1, o1, rfl, m1⟩ := liesO_one k1 hp'
        exact traceL_open a b c s b1 o1 po cap' pc M l W m1 k2 hr' hc
  · exact ⟨0, 0, r, fun W k1 k2 => traceL_bad a b c s r ao po cap pc L l W k1 k2 hr h0 hlen hlen2, fun W k1 k2 => traceL_bad a b c s r bo po cap' pc M l W k1 k2 hr' h0 hlen' hlen2⟩
/-- Equivalent's answer, by whether there is a certificate -/
theorem eqv_good (a b c : Int) (ao bo : Option Addr) (cap cap' N : Nat) (L M : List Q) (ms ns : List Int) (hf : fldR a b c L 0) (hf' : fldR a b c M 0) (hS : smR L ms true) (hS' : smR M ns true) (hN : (N : Int) = a * b * c) (d : Bool) (hd : ((∃ q, carP (lpL a b c N L) (lpL a b c N M) q ∧ ¬ Z4 q) ∧ d = true) ∨ ((¬ ∃ q, carP (lpL a b c N L) (lpL a b c N M) q ∧ ¬ Z4 q) ∧ d = false)) (W : World) (k1 : LiesO W ao L) (k2 : LiesO W bo M) : Calls Try.prog 15 #[.agg #[.int .i64 a, .int .i64 b, .int .i64 c, .slice ao L.length cap], .agg #[.int .i64 a, .int .i64 b, .int .i64 c, .slice bo M.length cap']] W fun e w' => e = .returned (.tuple #[.bool d, .int .i64 0]) ∧ Below W.heap.size W w' := by
  have hF : Fl a b c L := ⟨(fldR_ok hf).1, (fldR_ok hf).2.1, (fldR_ok hf).2.2⟩
  have hF' : Fl a b c M := ⟨(fldR_ok hf').1, (fldR_ok hf').2.1, (fldR_ok hf').2.2⟩
  have hA := AllS.num hS
  have hA' := AllS.num hS'
  obtain ⟨hX, hX48⟩ := lp_good hF hA hN
  obtain ⟨hY, -⟩ := lp_good hF' hA' hN
  have hYl : (lpL a b c N M).length = (lpL a b c N L).length := lp_same (by have := hF.n; have := hF'.n; omega)
  have hp := fld_pos1 hf
  have hp' := fld_pos1 hf'
  have cB : ∀ W : World, LiesO W ao L → LiesO W bo M → Calls Try.prog 45 #[.agg #[.int .i64 a, .int .i64 b, .int .i64 c, .slice ao L.length cap], .agg #[.int .i64 a, .int .i64 b, .int .i64 c, .slice bo M.length cap']] W fun e w' => (∃ (ao : Option Addr) (k : Nat), e = .returned (.tuple #[.slice ao ((lpL a b c N L).length * 4) k, .int .i64 0]) ∧ LiesOI w' ao (eqL (lpL a b c N L) (lpL a b c N M) (lpL a b c N L).length)) ∧ Below W.heap.size W w' := fun W j1 j2 => by
    obtain ⟨b1, o1, rfl, m1⟩ := liesO_one j1 hp
    obtain ⟨b2, o2, rfl, m2⟩ := liesO_one j2 hp'
    exact bw_ok a b c b1 o1 b2 o2 cap cap' N L M ms ns W m1 m2 hf hf' hS hS' hN
  have cC := fun (W : World) (j1 : LiesO W ao L) (j2 : LiesO W bo M) => cert_ok a b c a b c ao bo cap cap' L M _ _ W j1 j2 hX hY hYl (by omega) cB
  refine (equiv_ok a b c a b c ao bo cap cap' L M _ _ W k1 k2 cC).mono fun e w' ⟨⟨B, hB, hc⟩, hw⟩ => ⟨?_, hw⟩
  rcases hc with ⟨rfl, he⟩ | ⟨hne, he⟩
  · rcases hd with ⟨⟨q, h1, h2⟩, rfl⟩ | ⟨_, rfl⟩
    · exact absurd (hB.nil hX hY hYl h1) h2
    · exact he
  · rcases hd with ⟨_, rfl⟩ | ⟨h, rfl⟩
    · exact he
    · cases B with
      | nil => exact absurd rfl hne
      | cons q B => exact absurd ⟨q, hB.car hX hY hYl List.mem_cons_self, hB.ne⟩ h
theorem eqv_bad (a b c a' b' c' r : Int) (ao bo : Option Addr) (cap cap' : Nat) (L M : List Q) (h0 : r ≠ 0) (cB : ∀ W : World, LiesO W ao L → LiesO W bo M → Calls Try.prog 45 #[.agg #[.int .i64 a, .int .i64 b, .int .i64 c, .slice ao L.length cap], .agg #[.int .i64 a', .int .i64 b', .int .i64 c', .slice bo M.length cap']] W fun e w' => e = .returned (.tuple #[.slice none 0 0, .int .i64 r]) ∧ Below W.heap.size W w') (W : World) (k1 : LiesO W ao L) (k2 : LiesO W bo M) : Calls Try.prog 15 #[.agg #[.int .i64 a, .int .i64 b, .int .i64 c, .slice ao L.length cap], .agg #[.int .i64 a', .int .i64 b', .int .i64 c', .slice bo M.length cap']] W fun e w' => e = .returned (.tuple #[.bool false, .int .i64 r]) ∧ Below W.heap.size W w' :=
  equiv_err a b c a' b' c' r ao bo cap cap' L M W k1 k2 (fun W j1 j2 => cert_err a b c a' b' c' r ao bo cap cap' L M W j1 j2 h0 cB)
theorem gaugeEqual_walk (a b c : Int) (ao : Option Addr) (L : List Q) (cap : Nat) (a' b' c' : Int) (bo : Option Addr) (M : List Q) (cap' : Nat) (s : Int) (po : Option Addr) (l : List Int) (pc : Nat) (w : World) (_ : L.length ≤ maxLen) (hm : LiesO w ao L) (_ : M.length ≤ maxLen) (hn : LiesO w bo M) (_ : l.length ≤ pc) (_ : pc ≤ maxLen) (hp : LiesOI w po l) : Calls Try.prog 4 #[.agg #[.int .i64 a, .int .i64 b, .int .i64 c, .slice ao L.length cap], .agg #[.int .i64 a', .int .i64 b', .int .i64 c', .slice bo M.length cap'], .agg #[.int .i64 s, .slice po l.length pc]] w fun e w' => e = .returned (.bool true) ∧ Below w.heap.size w w' := by
  by_cases k1 : 200 < L.length
  · exact gEq_l1 a b c a' b' c' s ao bo po cap cap' pc L M l w k1
  by_cases k2 : 200 < M.length
  · exact gEq_l2 a b c a' b' c' s ao bo po cap cap' pc L M l w (by omega) k2
  by_cases k3 : 100 < l.length
  · exact gEq_l3 a b c a' b' c' s ao bo po cap cap' pc L M l w (by omega) (by omega) k3
  by_cases hC : ∃ (N : Nat) (ms ns : List Int), (a = a' ∧ b = b' ∧ c = c') ∧ fldR a b c L 0 ∧ fldR a b c M 0 ∧ smR L ms true ∧ smR M ns true ∧ (N : Int) = a * b * c
  · obtain ⟨N, ms, ns, ⟨rfl, rfl, rfl⟩, hf, hf', hS, hS', hN⟩ := hC
    have hF : Fl a b c L := ⟨(fldR_ok hf).1, (fldR_ok hf).2.1, (fldR_ok hf).2.2⟩
    have hF' : Fl a b c M := ⟨(fldR_ok hf').1, (fldR_ok hf').2.1, (fldR_ok hf').2.2⟩
    have hA := AllS.num hS
    have hA' := AllS.num hS'
    obtain ⟨hX, -⟩ := lp_good hF hA hN
    obtain ⟨hY, -⟩ := lp_good hF' hA' hN
    have hLM : L.length = M.length := by have := hF.n; have := hF'.n; omega
    have hYl : (lpL a b c N M).length = (lpL a b c N L).length := lp_same hLM
    by_cases hq : ∃ q, carP (lpL a b c N L) (lpL a b c N M) q ∧ ¬ Z4 q
    · have hq' : ∃ q, carP (lpL a b c N M) (lpL a b c N L) q ∧ ¬ Z4 q := by
        obtain ⟨q, h1, h2⟩ := hq
        exact ⟨bar q, car_back hX hY hYl h1, fun h => h2 (Z4_bar h)⟩
      obtain ⟨x, y, r, t1, t2⟩ := trc_same a b c s ao bo po cap cap' pc L M l hf hf' (by omega) (by omega) (by omega) (fun s0 s1 hs hc => by
        obtain ⟨q, h1, h2⟩ := hq
        exact car_trace hF hF' hA hA' hN h1 h2 s0 s1 hs hc)
      exact gEq_yes a b c a b c s x y r ao bo po cap cap' pc L M l w (by omega) (by omega) (by omega) hm hn hp
        (fun W j1 j2 => eqv_good a b c ao bo cap cap' N L M ms ns hf hf' hS hS' hN true (.inl ⟨hq, rfl⟩) W j1 j2)
        (fun W j1 j2 => eqv_good a b c bo ao cap' cap N M L ns ms hf' hf hS' hS hN true (.inl ⟨hq', rfl⟩) W j2 j1) t1 t2
    · have hq' : ¬ ∃ q, carP (lpL a b c N M) (lpL a b c N L) q ∧ ¬ Z4 q := fun ⟨q, h1, h2⟩ => hq ⟨bar q, car_back hY hX hYl.symm h1, fun h => h2 (Z4_bar h)⟩
      obtain ⟨x, y, r, t1⟩ := trc_ans a b c s ao po cap pc L l (by omega) (by omega)
      obtain ⟨x', y', r', t2⟩ := trc_ans a b c s bo po cap' pc M l (by omega) (by omega)
      exact gEq_no a b c a b c s x y x' y' r r' ao bo po cap cap' pc L M l w (by omega) (by omega) (by omega) hm hn hp
        (fun W j1 j2 => eqv_good a b c ao bo cap cap' N L M ms ns hf hf' hS hS' hN false (.inr ⟨hq, rfl⟩) W j1 j2)
        (fun W j1 j2 => eqv_good a b c bo ao cap' cap N M L ns ms hf' hf hS' hS hN false (.inr ⟨hq', rfl⟩) W j2 j1) t1 t2
  · obtain ⟨x, y, r, t1⟩ := trc_ans a b c s ao po cap pc L l (by omega) (by omega)
    obtain ⟨x', y', r', t2⟩ := trc_ans a' b' c' s bo po cap' pc M l (by omega) (by omega)
    rcases bw_ans a b c a' b' c' ao bo cap cap' L M (by omega) (by omega) with ⟨r1, n1, b1⟩ | h
    · rcases bw_ans a' b' c' a b c bo ao cap' cap M L (by omega) (by omega) with ⟨r2, n2, b2⟩ | ⟨N, ms, ns, ⟨rfl, rfl, rfl⟩, h1, h2, h3, h4, h5⟩
      · exact gEq_err a b c a' b' c' s r1 r2 x y x' y' r r' ao bo po cap cap' pc L M l w (by omega) (by omega) (by omega) hm hn hp n1 n2
          (fun W j1 j2 => eqv_bad a b c a' b' c' r1 ao bo cap cap' L M n1 b1 W j1 j2)
          (fun W j1 j2 => eqv_bad a' b' c' a b c r2 bo ao cap' cap M L n2 b2 W j2 j1) t1 t2
      · exact absurd ⟨N, ns, ms, ⟨rfl, rfl, rfl⟩, h2, h1, h4, h3, h5⟩ hC
    · exact absurd h hC

/-! ### The statement of the law GaugeEqual, out of its walk -/
set_option maxRecDepth 100000 in
theorem gaugeEqual_lifted (os : Os) (started : os.Started) (H : Type) (enc : TypeId × Value → H) :
    ReturnsInHanded {} Try.checked os 4 .any (Rows.gaugeEqualSpec.pre6 enc Try.prog Try.f4 Rows.gaugeEqualRow.domain false) (Rows.gaugeEqualSpec.post enc Try.prog Try.f4 false true false false) := by
  refine returnsInHanded_of_change (C := Try.checked) own started (by kernel_rfl) Try.func4
    (ChangeSpec.witness6 (enc := enc) (C := Try.checked) false ⟨#[], #[.agg #[.int .i64 0, .int .i64 0, .int .i64 0, .slice none 0 0], .agg #[.int .i64 0, .int .i64 0, .int .i64 0, .slice none 0 0], .agg #[.int .i64 0, .slice none 0 0]], []⟩ 8 (by kernel_rfl) (by kernel_rfl) (by kernel_rfl) (by kernel_rfl)) ?_
  intro W base args ds gs before hval0 hW hcnd _
  have hval : ∀ (j : Nat) t v, Try.f4.params[j]? = some t → args[j]? = some v → Value.okWide Try.prog W .any base t v := hval0
  have hW' := hW
  obtain ⟨p, q, hA0, hV, rfl, hfz, hnd⟩ := hW
  have hA : DataW.TrodAll enc Try.prog W 0 (fun _ => true) true Try.f4.params.toList args.toList ds p := hA0
  rw [Try.params4] at hA hval
  obtain ⟨v0, vs0, d0, ds0, p0, q0, hargs, rfl, rfl, h0, r0⟩ := trodAll_cons hA
  obtain ⟨v1, vs1, d1, ds1, p1, q1, rfl, rfl, rfl, h1, r1⟩ := trodAll_cons r0
  obtain ⟨v2, vs2, d2, ds2, p2, q2, rfl, rfl, rfl, h2, r2⟩ := trodAll_cons r1
  obtain ⟨rfl, rfl, rfl⟩ := trodAll_nil r2
  obtain rfl : args = #[v0, v1, v2] := by cases args; simp_all
  obtain ⟨rfl, rfl⟩ := trodVars_none hV
  have k0 := h0
  have lt0 : ∀ x ∈ p0, x.block < W.heap.size := by obtain ⟨m, hm⟩ := k0; exact DataW.trod_lt m _ _ _ hm
  obtain ⟨x0, y0, z0, ao0, L0, cap0, rfl, hl0, hm0⟩ := open_field (hval 0 25 v0 rfl rfl) h0
  have k1 := h1
  have lt1 : ∀ x ∈ p1, x.block < W.heap.size := by obtain ⟨m, hm⟩ := k1; exact DataW.trod_lt m _ _ _ hm
  obtain ⟨x1, y1, z1, ao1, L1, cap1, rfl, hl1, hm1⟩ := open_field (hval 1 25 v1 rfl rfl) h1
  have k2 := h2
  have lt2 : ∀ x ∈ p2, x.block < W.heap.size := by obtain ⟨m, hm⟩ := k2; exact DataW.trod_lt m _ _ _ hm
  obtain ⟨s2, ao2, l2, cap2, rfl, hl2, hc2, hm2⟩ := open_path4 (hval 2 45 v2 rfl rfl) h2
  clear hA0 hval0
  refine (gaugeEqual_walk x0 y0 z0 ao0 L0 cap0 x1 y1 z1 ao1 L1 cap1 s2 ao2 l2 cap2 W hl0 hm0 hl1 hm1 hl2 hc2 hm2).mono fun e W' ⟨he, bel⟩ => ?_
  subst he
  exact ⟨_, rfl, _, _, _, [], _, [], hW', trodAll_mk1 (shut_bool Try.underlying4 _), (trodAll_cons_mk (Below.trod laidOut (by kernel_rfl) (of_decide_eq_true (by kernel_rfl)) k0 bel lt0) (trodAll_cons_mk (Below.trod laidOut (by kernel_rfl) (of_decide_eq_true (by kernel_rfl)) k1 bel lt1) (trodAll_cons_mk (Below.trod laidOut (by kernel_rfl) (of_decide_eq_true (by kernel_rfl)) k2 bel lt2) trodAll_mk0))), rfl, bel.frame _, fun h => by cases h⟩

theorem gaugeEqual_jf9 : (Rows.gaugeEqualRow.inPlace == Try.prog.inPlace 4) = true := by kernel_rfl
theorem gaugeEqual_jf10 : (Rows.gaugeEqualRow.unfollowed == Try.prog.unfollowed 4) = true := by kernel_rfl
theorem gaugeEqual_jf11 : (Rows.gaugeEqualRow.recurses == Try.prog.recurses 4) = true := by kernel_rfl
theorem gaugeEqual_jf12 : (Rows.gaugeEqualRow.named == Try.prog.varsNamed 4) = true := by kernel_rfl
theorem gaugeEqual_facts : joinedFacts Try.prog 4 Try.f4 Rows.gaugeEqualSpec Rows.gaugeEqualRow = true := by
  unfold joinedFacts
  exact (band (band (band (band (band (band (band (band (band (band (band (band (band (band (band (band (band (band (band (band (band (band (band (band (band (band (band (band (band (band (band (by kernel_rfl) jf1) jf2) (by kernel_rfl)) (by kernel_rfl)) (by kernel_rfl)) jf6) (by kernel_rfl)) jf8) gaugeEqual_jf9) gaugeEqual_jf10) gaugeEqual_jf11) gaugeEqual_jf12) (by kernel_rfl)) (by kernel_rfl)) (by kernel_rfl)) (by kernel_rfl)) (by kernel_rfl)) (by kernel_rfl)) (by kernel_rfl)) (by kernel_rfl)) (by kernel_rfl)) (by kernel_rfl)) (by kernel_rfl)) jf24) jf25) jf26) jf27) (by kernel_rfl)) (by kernel_rfl)) (by kernel_rfl)) (by kernel_rfl))

theorem gaugeEqual_over : Rows.gaugeEqualRow.holds Try.pinned (OpenSpec.ofChange Rows.gaugeEqualSpec) :=
  OpenClaim.holds_of_wide 4 Try.f4 rfl rfl rfl rfl rfl rfl rfl ⟨rfl, rfl, rfl, rfl, rfl⟩ rfl rfl rfl rfl rfl (by kernel_rfl) Try.func4 gaugeEqual_facts
    (of_decide_eq_true (by kernel_rfl)) (by unfold Func.isWrapper; first | (rw [if_pos (by decide +kernel)]; kernel_rfl) | (rw [if_neg (by decide +kernel)]; exact ⟨rfl, rfl⟩))
    (fun os started H enc _ => gaugeEqual_lifted os started H enc)

theorem gaugeEqual_holds : Rows.GaugeEqualSaid := gaugeEqual_over
#print axioms gaugeEqual_holds

end Go.Proofs.Ytojmagooapjohaa
