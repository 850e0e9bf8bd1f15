/- ChanceBalances: a value's weight times the flow to another one is the other's weight times the flow back, and all flows add up to the number of draws, for all fields, weights, links and values.
Conditions: none. -/
import Derived.Test.YtpfhjdmgkckjfaaDoorQHbC
import Derived.Test.YtpfhjdmgkckjfaaDoorQOpenA5
import Derived.Test.YtpfhjdmgkckjfaaDoorQRwsC
import Derived.Test.YtpfhjdmgkckjfaaDoorQSane5
import Derived.Test.YtpfhjdmgkckjfaaDoorQOpen4
import Derived.Deep.CutRange
namespace Go.Proofs.YtpfhjdmgkckjfaaDoor
set_option linter.unusedVariables false
set_option linter.unusedSimpArgs false
set_option maxRecDepth 1000000
open Go.ChangeShapes Go.WideShapes Go.ChangeAt Go.RowKit
open Um Tm Cm
open Go.Sort

set_option maxHeartbeats 3200000 in
theorem cBa_l (a b c p0 p1 p2 p3 p4 l x y : Int) (ao : Option Addr) (cap : Nat) (L : List Q) (w : World) (h : 200 < L.length) : Calls Tryd.prog 3 #[.agg #[.int .i64 a, .int .i64 b, .int .i64 c, .slice ao L.length cap], .agg #[.int .i64 p0, .int .i64 p1, .int .i64 p2, .int .i64 p3, .int .i64 p4], .agg #[.int .i64 l, .int .i64 x, .int .i64 y]] w fun e w' => e = .returned (.bool true) ∧ Below w.heap.size w w' := by
  have kn := sane5_any
  have c0 := fun W : World => long5_any a b c ao cap L true W (.inl ⟨h, rfl⟩)
  go_enter Tryd.func3, Tryd.ntmps3
  go_wp2_with (fail)
  refine (c0 _).mono ?_
  rintro e w1 ⟨rfl, hw1⟩
  have bw1 : Below w.heap.size w w1 := bel3 hw1
  have F1 := Lib.hid (FW.n3a.later hw1)
  have E1 := Lib.hid (C5.n3b.later hw1)
  have X1 := Lib.hid (C3.n3c.later hw1)
  have HB1 := Lib.hid bw1
  clear hw1 bw1
  go_wp2_with (fail)
  refine (kn _).mono ?_
  rintro e w2 ⟨rfl, hw2⟩
  have bw2 : Below w1.heap.size w1 w2 := hw2
  have F2 := Lib.hid (F1.out.later bw2)
  have E2 := Lib.hid (E1.out.later bw2)
  have X2 := Lib.hid (X1.out.later bw2)
  have HB2 := Lib.hid (HB1.out.trans (bw2.mono HB1.out.size))
  clear hw2 bw2 F1 E1 X1 HB1
  go_wp2
  go_ret
  exact ⟨rfl, HB2.out⟩
set_option maxHeartbeats 12800000 in
theorem cBa_e (a b c p0 p1 p2 p3 p4 l x y r : Int) (ao : Option Addr) (cap : Nat) (L : List Q) (w : World) (A : Array Value) (hA : R24 A) (k1 : L.length ≤ 200) (hm : LiesO w ao L) (hst : StA w) (hr : r ≠ 0)
    (c1 : ∀ (W : World), LiesO W ao L → StA W → Calls Tryd.prog 8 #[.agg #[.int .i64 a, .int .i64 b, .int .i64 c, .slice ao L.length cap], .agg #[.int .i64 p0, .int .i64 p1, .int .i64 p2, .int .i64 p3, .int .i64 p4], .int .i64 l] W fun e w' => e = .returned (.tuple #[.agg A, .int .i64 r]) ∧ Below W.heap.size W w') : Calls Tryd.prog 3 #[.agg #[.int .i64 a, .int .i64 b, .int .i64 c, .slice ao L.length cap], .agg #[.int .i64 p0, .int .i64 p1, .int .i64 p2, .int .i64 p3, .int .i64 p4], .agg #[.int .i64 l, .int .i64 x, .int .i64 y]] w fun e w' => e = .returned (.bool true) ∧ Below w.heap.size w w' := by
  have kn := sane5_any
  have c0 := fun W : World => long5_any a b c ao cap L false W (.inr ⟨k1, rfl⟩)
  have t1 : (r != 0) = true := by simpa using hr
  have t2 : (r == 0) = false := by simpa using hr
  clear hr
  have H0 := Lib.hid hm
  have S0 := Lib.hid hst
  have SZ := Lib.hid hA.sz
  have OL := Lib.hid hA.ol
  have ON := Lib.hid hA.one
  clear hm hst k1 hA
  go_enter Tryd.func3, Tryd.ntmps3
  go_wp2_with (fail)
  refine (c0 _).mono ?_
  rintro e w1 ⟨rfl, hw1⟩
  have bw1 : Below w.heap.size w w1 := bel3 hw1
  have F1 := Lib.hid (FW.n3a.later hw1)
  have E1 := Lib.hid (C5.n3b.later hw1)
  have X1 := Lib.hid (C3.n3c.later hw1)
  have H1 := Lib.hid (H0.out.later bw1)
  have S1 := Lib.hid (S0.out.later bw1)
  have HB1 := Lib.hid bw1
  clear hw1 bw1 H0 S0
  obtain ⟨f1_0, f1_1, f1_2, f1_3, f1_4, f1_5⟩ := F1.out
  obtain ⟨e1_0, e1_1, e1_2, e1_3, e1_4, e1_5, e1_6⟩ := E1.out
  obtain ⟨x1_0, x1_1, x1_2, x1_3, x1_4⟩ := X1.out
  go_wp2_with (fail)
  refine (c1 _ (H1.out) (S1.out)).mono ?_
  rintro e w2 ⟨rfl, hw2⟩
  clear f1_0 f1_1 f1_2 f1_3 f1_4 f1_5 e1_0 e1_1 e1_2 e1_3 e1_4 e1_5 e1_6 x1_0 x1_1 x1_2 x1_3 x1_4
  have bw2 : Below w1.heap.size w1 w2 := hw2
  have H2 := Lib.hid (H1.out.later bw2)
  have S2 := Lib.hid (S1.out.later bw2)
  have F2 := Lib.hid (F1.out.later bw2)
  have E2 := Lib.hid (E1.out.later bw2)
  have X2 := Lib.hid (X1.out.later bw2)
  have HB2 := Lib.hid (HB1.out.trans (bw2.mono HB1.out.size))
  clear hw2 bw2 H1 S1 F1 E1 X1 HB1
  clear F2
  clear E2
  clear H2
  clear S2
  have TZ := Lib.hid (ABx.news (w := w2) (T := 31) #[.int .i64 0, .int .i64 0, .int .i64 0, .int .i64 0, .int .i64 0, .int .i64 0, .int .i64 0, .int .i64 0, .int .i64 0, .int .i64 0, .int .i64 0, .int .i64 0, .int .i64 0, .int .i64 0, .int .i64 0, .int .i64 0, .int .i64 0, .int .i64 0, .int .i64 0, .int .i64 0, .int .i64 0, .int .i64 0, .int .i64 0, .int .i64 0])
  have nx := r24_below w2 A
  have X3 := Lib.hid (X2.out.later nx)
  have HB3 := Lib.hid (HB2.out.trans (nx.mono HB2.out.size))
  have A3 : Hid (RowT _ _ _ _) := Lib.hid ⟨r24_new w2 A⟩
  clear nx HB2 X2
  obtain ⟨x3_0, x3_1, x3_2, x3_3, x3_4⟩ := X3.out
  go_wp2_with (first | (refine wpList_store_row rfl 31 (.tmp 7) (.tmp 33) rfl w2.heap.size A rfl rfl 31 _ TZ.out.h SZ.out OL.out ON.out ?_))
  generalize (w2.alloc (.cells #[.int .i64 0, .int .i64 0, .int .i64 0, .int .i64 0, .int .i64 0, .int .i64 0, .int .i64 0, .int .i64 0, .int .i64 0, .int .i64 0, .int .i64 0, .int .i64 0, .int .i64 0, .int .i64 0, .int .i64 0, .int .i64 0, .int .i64 0, .int .i64 0, .int .i64 0, .int .i64 0, .int .i64 0, .int .i64 0, .int .i64 0, .int .i64 0] 31)).setRow w2.heap.size A = w3 at *
  refine (kn _).mono ?_
  rintro e w4 ⟨rfl, hw4⟩
  clear x3_0 x3_1 x3_2 x3_3 x3_4
  have bw4 : Below w3.heap.size w3 w4 := hw4
  have X4 := Lib.hid (X3.out.later bw4)
  have A4 := Lib.hid (A3.out.later bw4)
  have HB4 := Lib.hid (HB3.out.trans (bw4.mono HB3.out.size))
  clear hw4 bw4 X3 A3 HB3
  go_wp2
  go_ret
  exact ⟨rfl, HB4.out⟩
set_option maxHeartbeats 12800000 in
theorem cBa_a (a b c p0 p1 p2 p3 p4 l x y : Int) (ao : Option Addr) (cap : Nat) (L : List Q) (w : World) (A : Array Value) (hA : R24 A) (k1 : L.length ≤ 200) (hm : LiesO w ao L) (hst : StA w) (hx : x < 0)
    (c1 : ∀ (W : World), LiesO W ao L → StA W → Calls Tryd.prog 8 #[.agg #[.int .i64 a, .int .i64 b, .int .i64 c, .slice ao L.length cap], .agg #[.int .i64 p0, .int .i64 p1, .int .i64 p2, .int .i64 p3, .int .i64 p4], .int .i64 l] W fun e w' => e = .returned (.tuple #[.agg A, .int .i64 0]) ∧ Below W.heap.size W w') : Calls Tryd.prog 3 #[.agg #[.int .i64 a, .int .i64 b, .int .i64 c, .slice ao L.length cap], .agg #[.int .i64 p0, .int .i64 p1, .int .i64 p2, .int .i64 p3, .int .i64 p4], .agg #[.int .i64 l, .int .i64 x, .int .i64 y]] w fun e w' => e = .returned (.bool true) ∧ Below w.heap.size w w' := by
  have kn := sane5_any
  have c0 := fun W : World => long5_any a b c ao cap L false W (.inr ⟨k1, rfl⟩)
  have H0 := Lib.hid hm
  have S0 := Lib.hid hst
  have SZ := Lib.hid hA.sz
  have OL := Lib.hid hA.ol
  have ON := Lib.hid hA.one
  clear hm hst k1 hA
  go_enter Tryd.func3, Tryd.ntmps3
  go_wp2_with (fail)
  refine (c0 _).mono ?_
  rintro e w1 ⟨rfl, hw1⟩
  have bw1 : Below w.heap.size w w1 := bel3 hw1
  have F1 := Lib.hid (FW.n3a.later hw1)
  have E1 := Lib.hid (C5.n3b.later hw1)
  have X1 := Lib.hid (C3.n3c.later hw1)
  have H1 := Lib.hid (H0.out.later bw1)
  have S1 := Lib.hid (S0.out.later bw1)
  have HB1 := Lib.hid bw1
  clear hw1 bw1 H0 S0
  obtain ⟨f1_0, f1_1, f1_2, f1_3, f1_4, f1_5⟩ := F1.out
  obtain ⟨e1_0, e1_1, e1_2, e1_3, e1_4, e1_5, e1_6⟩ := E1.out
  obtain ⟨x1_0, x1_1, x1_2, x1_3, x1_4⟩ := X1.out
  go_wp2_with (fail)
  refine (c1 _ (H1.out) (S1.out)).mono ?_
  rintro e w2 ⟨rfl, hw2⟩
  clear f1_0 f1_1 f1_2 f1_3 f1_4 f1_5 e1_0 e1_1 e1_2 e1_3 e1_4 e1_5 e1_6 x1_0 x1_1 x1_2 x1_3 x1_4
  have bw2 : Below w1.heap.size w1 w2 := hw2
  have H2 := Lib.hid (H1.out.later bw2)
  have S2 := Lib.hid (S1.out.later bw2)
  have F2 := Lib.hid (F1.out.later bw2)
  have E2 := Lib.hid (E1.out.later bw2)
  have X2 := Lib.hid (X1.out.later bw2)
  have HB2 := Lib.hid (HB1.out.trans (bw2.mono HB1.out.size))
  clear hw2 bw2 H1 S1 F1 E1 X1 HB1
  clear F2
  clear E2
  clear H2
  clear S2
  have TZ := Lib.hid (ABx.news (w := w2) (T := 31) #[.int .i64 0, .int .i64 0, .int .i64 0, .int .i64 0, .int .i64 0, .int .i64 0, .int .i64 0, .int .i64 0, .int .i64 0, .int .i64 0, .int .i64 0, .int .i64 0, .int .i64 0, .int .i64 0, .int .i64 0, .int .i64 0, .int .i64 0, .int .i64 0, .int .i64 0, .int .i64 0, .int .i64 0, .int .i64 0, .int .i64 0, .int .i64 0])
  have nx := r24_below w2 A
  have X3 := Lib.hid (X2.out.later nx)
  have HB3 := Lib.hid (HB2.out.trans (nx.mono HB2.out.size))
  have A3 : Hid (RowT _ _ _ _) := Lib.hid ⟨r24_new w2 A⟩
  clear nx HB2 X2
  obtain ⟨x3_0, x3_1, x3_2, x3_3, x3_4⟩ := X3.out
  go_wp2_with (first | (refine wpList_store_row rfl 31 (.tmp 7) (.tmp 33) rfl w2.heap.size A rfl rfl 31 _ TZ.out.h SZ.out OL.out ON.out ?_))
  generalize (w2.alloc (.cells #[.int .i64 0, .int .i64 0, .int .i64 0, .int .i64 0, .int .i64 0, .int .i64 0, .int .i64 0, .int .i64 0, .int .i64 0, .int .i64 0, .int .i64 0, .int .i64 0, .int .i64 0, .int .i64 0, .int .i64 0, .int .i64 0, .int .i64 0, .int .i64 0, .int .i64 0, .int .i64 0, .int .i64 0, .int .i64 0, .int .i64 0, .int .i64 0] 31)).setRow w2.heap.size A = w3 at *
  refine (kn _).mono ?_
  rintro e w4 ⟨rfl, hw4⟩
  clear x3_0 x3_1 x3_2 x3_3 x3_4
  have bw4 : Below w3.heap.size w3 w4 := hw4
  have X4 := Lib.hid (X3.out.later bw4)
  have A4 := Lib.hid (A3.out.later bw4)
  have HB4 := Lib.hid (HB3.out.trans (bw4.mono HB3.out.size))
  clear hw4 bw4 X3 A3 HB3
  go_wp2
  go_ret
  exact ⟨rfl, HB4.out⟩
set_option maxHeartbeats 12800000 in
theorem cBa_b (a b c p0 p1 p2 p3 p4 l x y : Int) (ao : Option Addr) (cap : Nat) (L : List Q) (w : World) (A : Array Value) (hA : R24 A) (k1 : L.length ≤ 200) (hm : LiesO w ao L) (hst : StA w) (hx0 : ¬ x < 0) (hx : x > 23)
    (c1 : ∀ (W : World), LiesO W ao L → StA W → Calls Tryd.prog 8 #[.agg #[.int .i64 a, .int .i64 b, .int .i64 c, .slice ao L.length cap], .agg #[.int .i64 p0, .int .i64 p1, .int .i64 p2, .int .i64 p3, .int .i64 p4], .int .i64 l] W fun e w' => e = .returned (.tuple #[.agg A, .int .i64 0]) ∧ Below W.heap.size W w') : Calls Tryd.prog 3 #[.agg #[.int .i64 a, .int .i64 b, .int .i64 c, .slice ao L.length cap], .agg #[.int .i64 p0, .int .i64 p1, .int .i64 p2, .int .i64 p3, .int .i64 p4], .agg #[.int .i64 l, .int .i64 x, .int .i64 y]] w fun e w' => e = .returned (.bool true) ∧ Below w.heap.size w w' := by
  have kn := sane5_any
  have c0 := fun W : World => long5_any a b c ao cap L false W (.inr ⟨k1, rfl⟩)
  have H0 := Lib.hid hm
  have S0 := Lib.hid hst
  have SZ := Lib.hid hA.sz
  have OL := Lib.hid hA.ol
  have ON := Lib.hid hA.one
  clear hm hst k1 hA
  go_enter Tryd.func3, Tryd.ntmps3
  go_wp2_with (fail)
  refine (c0 _).mono ?_
  rintro e w1 ⟨rfl, hw1⟩
  have bw1 : Below w.heap.size w w1 := bel3 hw1
  have F1 := Lib.hid (FW.n3a.later hw1)
  have E1 := Lib.hid (C5.n3b.later hw1)
  have X1 := Lib.hid (C3.n3c.later hw1)
  have H1 := Lib.hid (H0.out.later bw1)
  have S1 := Lib.hid (S0.out.later bw1)
  have HB1 := Lib.hid bw1
  clear hw1 bw1 H0 S0
  obtain ⟨f1_0, f1_1, f1_2, f1_3, f1_4, f1_5⟩ := F1.out
  obtain ⟨e1_0, e1_1, e1_2, e1_3, e1_4, e1_5, e1_6⟩ := E1.out
  obtain ⟨x1_0, x1_1, x1_2, x1_3, x1_4⟩ := X1.out
  go_wp2_with (fail)
  refine (c1 _ (H1.out) (S1.out)).mono ?_
  rintro e w2 ⟨rfl, hw2⟩
  clear f1_0 f1_1 f1_2 f1_3 f1_4 f1_5 e1_0 e1_1 e1_2 e1_3 e1_4 e1_5 e1_6 x1_0 x1_1 x1_2 x1_3 x1_4
  have bw2 : Below w1.heap.size w1 w2 := hw2
  have H2 := Lib.hid (H1.out.later bw2)
  have S2 := Lib.hid (S1.out.later bw2)
  have F2 := Lib.hid (F1.out.later bw2)
  have E2 := Lib.hid (E1.out.later bw2)
  have X2 := Lib.hid (X1.out.later bw2)
  have HB2 := Lib.hid (HB1.out.trans (bw2.mono HB1.out.size))
  clear hw2 bw2 H1 S1 F1 E1 X1 HB1
  clear F2
  clear E2
  clear H2
  clear S2
  have TZ := Lib.hid (ABx.news (w := w2) (T := 31) #[.int .i64 0, .int .i64 0, .int .i64 0, .int .i64 0, .int .i64 0, .int .i64 0, .int .i64 0, .int .i64 0, .int .i64 0, .int .i64 0, .int .i64 0, .int .i64 0, .int .i64 0, .int .i64 0, .int .i64 0, .int .i64 0, .int .i64 0, .int .i64 0, .int .i64 0, .int .i64 0, .int .i64 0, .int .i64 0, .int .i64 0, .int .i64 0])
  have nx := r24_below w2 A
  have X3 := Lib.hid (X2.out.later nx)
  have HB3 := Lib.hid (HB2.out.trans (nx.mono HB2.out.size))
  have A3 : Hid (RowT _ _ _ _) := Lib.hid ⟨r24_new w2 A⟩
  clear nx HB2 X2
  obtain ⟨x3_0, x3_1, x3_2, x3_3, x3_4⟩ := X3.out
  go_wp2_with (first | (refine wpList_store_row rfl 31 (.tmp 7) (.tmp 33) rfl w2.heap.size A rfl rfl 31 _ TZ.out.h SZ.out OL.out ON.out ?_))
  generalize (w2.alloc (.cells #[.int .i64 0, .int .i64 0, .int .i64 0, .int .i64 0, .int .i64 0, .int .i64 0, .int .i64 0, .int .i64 0, .int .i64 0, .int .i64 0, .int .i64 0, .int .i64 0, .int .i64 0, .int .i64 0, .int .i64 0, .int .i64 0, .int .i64 0, .int .i64 0, .int .i64 0, .int .i64 0, .int .i64 0, .int .i64 0, .int .i64 0, .int .i64 0] 31)).setRow w2.heap.size A = w3 at *
  refine (kn _).mono ?_
  rintro e w4 ⟨rfl, hw4⟩
  clear x3_0 x3_1 x3_2 x3_3 x3_4
  have bw4 : Below w3.heap.size w3 w4 := hw4
  have X4 := Lib.hid (X3.out.later bw4)
  have A4 := Lib.hid (A3.out.later bw4)
  have HB4 := Lib.hid (HB3.out.trans (bw4.mono HB3.out.size))
  clear hw4 bw4 X3 A3 HB3
  go_wp2
  go_ret
  exact ⟨rfl, HB4.out⟩
set_option maxHeartbeats 12800000 in
theorem cBa_c (a b c p0 p1 p2 p3 p4 l x y : Int) (ao : Option Addr) (cap : Nat) (L : List Q) (w : World) (A : Array Value) (hA : R24 A) (k1 : L.length ≤ 200) (hm : LiesO w ao L) (hst : StA w) (hx0 : ¬ x < 0) (hx : ¬ x > 23) (hy : y < 0)
    (c1 : ∀ (W : World), LiesO W ao L → StA W → Calls Tryd.prog 8 #[.agg #[.int .i64 a, .int .i64 b, .int .i64 c, .slice ao L.length cap], .agg #[.int .i64 p0, .int .i64 p1, .int .i64 p2, .int .i64 p3, .int .i64 p4], .int .i64 l] W fun e w' => e = .returned (.tuple #[.agg A, .int .i64 0]) ∧ Below W.heap.size W w') : Calls Tryd.prog 3 #[.agg #[.int .i64 a, .int .i64 b, .int .i64 c, .slice ao L.length cap], .agg #[.int .i64 p0, .int .i64 p1, .int .i64 p2, .int .i64 p3, .int .i64 p4], .agg #[.int .i64 l, .int .i64 x, .int .i64 y]] w fun e w' => e = .returned (.bool true) ∧ Below w.heap.size w w' := by
  have kn := sane5_any
  have c0 := fun W : World => long5_any a b c ao cap L false W (.inr ⟨k1, rfl⟩)
  have H0 := Lib.hid hm
  have S0 := Lib.hid hst
  have SZ := Lib.hid hA.sz
  have OL := Lib.hid hA.ol
  have ON := Lib.hid hA.one
  clear hm hst k1 hA
  go_enter Tryd.func3, Tryd.ntmps3
  go_wp2_with (fail)
  refine (c0 _).mono ?_
  rintro e w1 ⟨rfl, hw1⟩
  have bw1 : Below w.heap.size w w1 := bel3 hw1
  have F1 := Lib.hid (FW.n3a.later hw1)
  have E1 := Lib.hid (C5.n3b.later hw1)
  have X1 := Lib.hid (C3.n3c.later hw1)
  have H1 := Lib.hid (H0.out.later bw1)
  have S1 := Lib.hid (S0.out.later bw1)
  have HB1 := Lib.hid bw1
  clear hw1 bw1 H0 S0
  obtain ⟨f1_0, f1_1, f1_2, f1_3, f1_4, f1_5⟩ := F1.out
  obtain ⟨e1_0, e1_1, e1_2, e1_3, e1_4, e1_5, e1_6⟩ := E1.out
  obtain ⟨x1_0, x1_1, x1_2, x1_3, x1_4⟩ := X1.out
  go_wp2_with (fail)
  refine (c1 _ (H1.out) (S1.out)).mono ?_
  rintro e w2 ⟨rfl, hw2⟩
  clear f1_0 f1_1 f1_2 f1_3 f1_4 f1_5 e1_0 e1_1 e1_2 e1_3 e1_4 e1_5 e1_6 x1_0 x1_1 x1_2 x1_3 x1_4
  have bw2 : Below w1.heap.size w1 w2 := hw2
  have H2 := Lib.hid (H1.out.later bw2)
  have S2 := Lib.hid (S1.out.later bw2)
  have F2 := Lib.hid (F1.out.later bw2)
  have E2 := Lib.hid (E1.out.later bw2)
  have X2 := Lib.hid (X1.out.later bw2)
  have HB2 := Lib.hid (HB1.out.trans (bw2.mono HB1.out.size))
  clear hw2 bw2 H1 S1 F1 E1 X1 HB1
  clear F2
  clear E2
  clear H2
  clear S2
  have TZ := Lib.hid (ABx.news (w := w2) (T := 31) #[.int .i64 0, .int .i64 0, .int .i64 0, .int .i64 0, .int .i64 0, .int .i64 0, .int .i64 0, .int .i64 0, .int .i64 0, .int .i64 0, .int .i64 0, .int .i64 0, .int .i64 0, .int .i64 0, .int .i64 0, .int .i64 0, .int .i64 0, .int .i64 0, .int .i64 0, .int .i64 0, .int .i64 0, .int .i64 0, .int .i64 0, .int .i64 0])
  have nx := r24_below w2 A
  have X3 := Lib.hid (X2.out.later nx)
  have HB3 := Lib.hid (HB2.out.trans (nx.mono HB2.out.size))
  have A3 : Hid (RowT _ _ _ _) := Lib.hid ⟨r24_new w2 A⟩
  clear nx HB2 X2
  obtain ⟨x3_0, x3_1, x3_2, x3_3, x3_4⟩ := X3.out
  go_wp2_with (first | (refine wpList_store_row rfl 31 (.tmp 7) (.tmp 33) rfl w2.heap.size A rfl rfl 31 _ TZ.out.h SZ.out OL.out ON.out ?_))
  generalize (w2.alloc (.cells #[.int .i64 0, .int .i64 0, .int .i64 0, .int .i64 0, .int .i64 0, .int .i64 0, .int .i64 0, .int .i64 0, .int .i64 0, .int .i64 0, .int .i64 0, .int .i64 0, .int .i64 0, .int .i64 0, .int .i64 0, .int .i64 0, .int .i64 0, .int .i64 0, .int .i64 0, .int .i64 0, .int .i64 0, .int .i64 0, .int .i64 0, .int .i64 0] 31)).setRow w2.heap.size A = w3 at *
  refine (kn _).mono ?_
  rintro e w4 ⟨rfl, hw4⟩
  clear x3_0 x3_1 x3_2 x3_3 x3_4
  have bw4 : Below w3.heap.size w3 w4 := hw4
  have X4 := Lib.hid (X3.out.later bw4)
  have A4 := Lib.hid (A3.out.later bw4)
  have HB4 := Lib.hid (HB3.out.trans (bw4.mono HB3.out.size))
  clear hw4 bw4 X3 A3 HB3
  go_wp2
  go_ret
  exact ⟨rfl, HB4.out⟩
set_option maxHeartbeats 12800000 in
theorem cBa_d (a b c p0 p1 p2 p3 p4 l x y : Int) (ao : Option Addr) (cap : Nat) (L : List Q) (w : World) (A : Array Value) (hA : R24 A) (k1 : L.length ≤ 200) (hm : LiesO w ao L) (hst : StA w) (hx0 : ¬ x < 0) (hx : ¬ x > 23) (hy0 : ¬ y < 0) (hy : y > 23)
    (c1 : ∀ (W : World), LiesO W ao L → StA W → Calls Tryd.prog 8 #[.agg #[.int .i64 a, .int .i64 b, .int .i64 c, .slice ao L.length cap], .agg #[.int .i64 p0, .int .i64 p1, .int .i64 p2, .int .i64 p3, .int .i64 p4], .int .i64 l] W fun e w' => e = .returned (.tuple #[.agg A, .int .i64 0]) ∧ Below W.heap.size W w') : Calls Tryd.prog 3 #[.agg #[.int .i64 a, .int .i64 b, .int .i64 c, .slice ao L.length cap], .agg #[.int .i64 p0, .int .i64 p1, .int .i64 p2, .int .i64 p3, .int .i64 p4], .agg #[.int .i64 l, .int .i64 x, .int .i64 y]] w fun e w' => e = .returned (.bool true) ∧ Below w.heap.size w w' := by
  have kn := sane5_any
  have c0 := fun W : World => long5_any a b c ao cap L false W (.inr ⟨k1, rfl⟩)
  have H0 := Lib.hid hm
  have S0 := Lib.hid hst
  have SZ := Lib.hid hA.sz
  have OL := Lib.hid hA.ol
  have ON := Lib.hid hA.one
  clear hm hst k1 hA
  go_enter Tryd.func3, Tryd.ntmps3
  go_wp2_with (fail)
  refine (c0 _).mono ?_
  rintro e w1 ⟨rfl, hw1⟩
  have bw1 : Below w.heap.size w w1 := bel3 hw1
  have F1 := Lib.hid (FW.n3a.later hw1)
  have E1 := Lib.hid (C5.n3b.later hw1)
  have X1 := Lib.hid (C3.n3c.later hw1)
  have H1 := Lib.hid (H0.out.later bw1)
  have S1 := Lib.hid (S0.out.later bw1)
  have HB1 := Lib.hid bw1
  clear hw1 bw1 H0 S0
  obtain ⟨f1_0, f1_1, f1_2, f1_3, f1_4, f1_5⟩ := F1.out
  obtain ⟨e1_0, e1_1, e1_2, e1_3, e1_4, e1_5, e1_6⟩ := E1.out
  obtain ⟨x1_0, x1_1, x1_2, x1_3, x1_4⟩ := X1.out
  go_wp2_with (fail)
  refine (c1 _ (H1.out) (S1.out)).mono ?_
  rintro e w2 ⟨rfl, hw2⟩
  clear f1_0 f1_1 f1_2 f1_3 f1_4 f1_5 e1_0 e1_1 e1_2 e1_3 e1_4 e1_5 e1_6 x1_0 x1_1 x1_2 x1_3 x1_4
  have bw2 : Below w1.heap.size w1 w2 := hw2
  have H2 := Lib.hid (H1.out.later bw2)
  have S2 := Lib.hid (S1.out.later bw2)
  have F2 := Lib.hid (F1.out.later bw2)
  have E2 := Lib.hid (E1.out.later bw2)
  have X2 := Lib.hid (X1.out.later bw2)
  have HB2 := Lib.hid (HB1.out.trans (bw2.mono HB1.out.size))
  clear hw2 bw2 H1 S1 F1 E1 X1 HB1
  clear F2
  clear E2
  clear H2
  clear S2
  have TZ := Lib.hid (ABx.news (w := w2) (T := 31) #[.int .i64 0, .int .i64 0, .int .i64 0, .int .i64 0, .int .i64 0, .int .i64 0, .int .i64 0, .int .i64 0, .int .i64 0, .int .i64 0, .int .i64 0, .int .i64 0, .int .i64 0, .int .i64 0, .int .i64 0, .int .i64 0, .int .i64 0, .int .i64 0, .int .i64 0, .int .i64 0, .int .i64 0, .int .i64 0, .int .i64 0, .int .i64 0])
  have nx := r24_below w2 A
  have X3 := Lib.hid (X2.out.later nx)
  have HB3 := Lib.hid (HB2.out.trans (nx.mono HB2.out.size))
  have A3 : Hid (RowT _ _ _ _) := Lib.hid ⟨r24_new w2 A⟩
  clear nx HB2 X2
  obtain ⟨x3_0, x3_1, x3_2, x3_3, x3_4⟩ := X3.out
  go_wp2_with (first | (refine wpList_store_row rfl 31 (.tmp 7) (.tmp 33) rfl w2.heap.size A rfl rfl 31 _ TZ.out.h SZ.out OL.out ON.out ?_))
  generalize (w2.alloc (.cells #[.int .i64 0, .int .i64 0, .int .i64 0, .int .i64 0, .int .i64 0, .int .i64 0, .int .i64 0, .int .i64 0, .int .i64 0, .int .i64 0, .int .i64 0, .int .i64 0, .int .i64 0, .int .i64 0, .int .i64 0, .int .i64 0, .int .i64 0, .int .i64 0, .int .i64 0, .int .i64 0, .int .i64 0, .int .i64 0, .int .i64 0, .int .i64 0] 31)).setRow w2.heap.size A = w3 at *
  refine (kn _).mono ?_
  rintro e w4 ⟨rfl, hw4⟩
  clear x3_0 x3_1 x3_2 x3_3 x3_4
  have bw4 : Below w3.heap.size w3 w4 := hw4
  have X4 := Lib.hid (X3.out.later bw4)
  have A4 := Lib.hid (A3.out.later bw4)
  have HB4 := Lib.hid (HB3.out.trans (bw4.mono HB3.out.size))
  clear hw4 bw4 X3 A3 HB3
  go_wp2
  go_ret
  exact ⟨rfl, HB4.out⟩
set_option maxHeartbeats 25600000 in
theorem cBa_g (a b c p0 p1 p2 p3 p4 l : Int) (i k : Nat) (ao : Option Addr) (cap : Nat) (L : List Q) (w : World) (ls : List Int) (hl : WL ls) (hi : i < 24) (hk : k < 24) (k1 : L.length ≤ 200) (hm : LiesO w ao L) (hst : StA w)
    (c1 : ∀ (W : World), LiesO W ao L → StA W → Calls Tryd.prog 8 #[.agg #[.int .i64 a, .int .i64 b, .int .i64 c, .slice ao L.length cap], .agg #[.int .i64 p0, .int .i64 p1, .int .i64 p2, .int .i64 p3, .int .i64 p4], .int .i64 l] W fun e w' => e = .returned (.tuple #[.agg (ls.map vi).toArray, .int .i64 0]) ∧ Below W.heap.size W w')
    (hw : ∀ (x : Int) (k : Nat) (W : World), 0 ≤ x → x < 24 → k < 24 → LiesO W ao L → StA W → Calls Tryd.prog 9 #[.agg #[.int .i64 a, .int .i64 b, .int .i64 c, .slice ao L.length cap], .agg #[.int .i64 p0, .int .i64 p1, .int .i64 p2, .int .i64 p3, .int .i64 p4], .int .i64 l, .int .i64 x, .int .i64 k] W fun e w' => e = .returned (.tuple #[.int .i64 (ls.getD k 0), .int .i64 0]) ∧ Below W.heap.size W w')
    (c3 : ∀ (W : World), LiesO W ao L → StA W → Calls Tryd.prog 10 #[.agg #[.int .i64 a, .int .i64 b, .int .i64 c, .slice ao L.length cap], .agg #[.int .i64 p0, .int .i64 p1, .int .i64 p2, .int .i64 p3, .int .i64 p4], .int .i64 l, .int .i64 (psum ls 24 - 1)] W fun e w' => (∃ g gk : Nat, e = .returned (.tuple #[.agg #[.int .i64 a, .int .i64 b, .int .i64 c, .slice (some ⟨g, 0, none⟩) L.length gk], .int .i64 23, .int .i64 0])) ∧ Below W.heap.size W w')
    (c4 : ∀ (W : World), LiesO W ao L → StA W → Calls Tryd.prog 10 #[.agg #[.int .i64 a, .int .i64 b, .int .i64 c, .slice ao L.length cap], .agg #[.int .i64 p0, .int .i64 p1, .int .i64 p2, .int .i64 p3, .int .i64 p4], .int .i64 l, .int .i64 (psum ls 24)] W fun e w' => e = .returned (.tuple #[.agg #[.int .i64 0, .int .i64 0, .int .i64 0, .slice none 0 0], .int .i64 0, .int .i64 1]) ∧ Below W.heap.size W w') : Calls Tryd.prog 3 #[.agg #[.int .i64 a, .int .i64 b, .int .i64 c, .slice ao L.length cap], .agg #[.int .i64 p0, .int .i64 p1, .int .i64 p2, .int .i64 p3, .int .i64 p4], .agg #[.int .i64 l, .int .i64 i, .int .i64 k]] w fun e w' => e = .returned (.bool true) ∧ Below w.heap.size w w' := by
  have kn := sane5_any
  have c0 := fun W : World => long5_any a b c ao cap L false W (.inr ⟨k1, rfl⟩)
  have hA := R24.of hl.n
  have HW := Lib.hid hl
  have HPS := Lib.hid hl.ps
  have HPZ := Lib.hid (psum_zero ls)
  have hgd : ∀ j : Nat, j < 24 → ls[j]? = some (ls.getD j 0) := fun j hj => by
    rw [List.getD_eq_getElem?_getD, List.getElem?_eq_getElem (by rw [hl.n]; exact hj)]
    rfl
  have HGD := Lib.hid hgd
  have hrow : ∀ j : Nat, j < 24 → (ls.map vi).toArray[j]? = some (Value.int .i64 (ls.getD j 0)) := fun j hj => by
    rw [List.getElem?_toArray, List.getElem?_map, hgd j hj]
    rfl
  have HROW := Lib.hid hrow
  have hi1 := hl.lo _ (List.mem_of_getElem? (hgd i hi))
  have hi2 := hl.hi _ (List.mem_of_getElem? (hgd i hi))
  have hk1 := hl.lo _ (List.mem_of_getElem? (hgd k hk))
  have hk2 := hl.hi _ (List.mem_of_getElem? (hgd k hk))
  have RI := Lib.hid (hrow i hi)
  have RK := Lib.hid (hrow k hk)
  have cT := fun (W : World) => hw i k W (by omega) (by omega) hk
  have cB := fun (W : World) => hw k i W (by omega) (by omega) hi
  have cF := Lib.hid (fun (j : Nat) (W : World) => hw i j W (by omega) (by omega))
  clear hw hgd hrow hl
  generalize hva : ls.getD i 0 = va at *
  generalize hvb : ls.getD k 0 = vb at *
  have hp0 : 0 ≤ va * vb := Int.mul_nonneg (by omega) (by omega)
  have hp1 : va * vb ≤ 100000000 * 100000000 := Int.mul_le_mul hi2 hk2 (by omega) (by omega)
  have hc : vb * va = va * vb := Int.mul_comm _ _
  generalize hP : va * vb = P at *
  have m1 : IntKind.i64.wrap P = P := IntWalk.i64_in _ (by omega)
  have m2 : (P != P) = false := by simp
  have i2 : (i : Int) < 24 := by omega
  have i3 : (k : Int) < 24 := by omega
  have i4 : ¬ (i : Int) > 23 := by omega
  have i5 : ¬ (k : Int) > 23 := by omega
  have i6 : ¬ (i : Int) < 0 := by omega
  have i7 : ¬ (k : Int) < 0 := by omega
  have HVA := Lib.hid hva
  clear hva hvb hi1 hi2 hk1 hk2 hp0 hp1
  obtain ⟨s0, s1⟩ := HPS.out 24 (by omega)
  generalize (ls.map vi).toArray = A at *
  have H0 := Lib.hid hm
  have S0 := Lib.hid hst
  have SZ := Lib.hid hA.sz
  have OL := Lib.hid hA.ol
  have ON := Lib.hid hA.one
  clear hm hst k1 hA
  go_enter Tryd.func3, Tryd.ntmps3
  go_wp2_with (fail)
  refine (c0 _).mono ?_
  rintro e w1 ⟨rfl, hw1⟩
  have bw1 : Below w.heap.size w w1 := bel3 hw1
  have F1 := Lib.hid (FW.n3a.later hw1)
  have E1 := Lib.hid (C5.n3b.later hw1)
  have X1 := Lib.hid (C3.n3c.later hw1)
  have H1 := Lib.hid (H0.out.later bw1)
  have S1 := Lib.hid (S0.out.later bw1)
  have HB1 := Lib.hid bw1
  clear hw1 bw1 H0 S0
  obtain ⟨f1_0, f1_1, f1_2, f1_3, f1_4, f1_5⟩ := F1.out
  obtain ⟨e1_0, e1_1, e1_2, e1_3, e1_4, e1_5, e1_6⟩ := E1.out
  obtain ⟨x1_0, x1_1, x1_2, x1_3, x1_4⟩ := X1.out
  go_wp2_with (fail)
  refine (c1 _ (H1.out) (S1.out)).mono ?_
  rintro e w2 ⟨rfl, hw2⟩
  clear f1_0 f1_1 f1_2 f1_3 f1_4 f1_5 e1_0 e1_1 e1_2 e1_3 e1_4 e1_5 e1_6 x1_0 x1_1 x1_2 x1_3 x1_4
  have bw2 : Below w1.heap.size w1 w2 := hw2
  have H2 := Lib.hid (H1.out.later bw2)
  have S2 := Lib.hid (S1.out.later bw2)
  have F2 := Lib.hid (F1.out.later bw2)
  have E2 := Lib.hid (E1.out.later bw2)
  have X2 := Lib.hid (X1.out.later bw2)
  have HB2 := Lib.hid (HB1.out.trans (bw2.mono HB1.out.size))
  clear hw2 bw2 H1 S1 F1 E1 X1 HB1
  have TZ := Lib.hid (ABx.news (w := w2) (T := 31) #[.int .i64 0, .int .i64 0, .int .i64 0, .int .i64 0, .int .i64 0, .int .i64 0, .int .i64 0, .int .i64 0, .int .i64 0, .int .i64 0, .int .i64 0, .int .i64 0, .int .i64 0, .int .i64 0, .int .i64 0, .int .i64 0, .int .i64 0, .int .i64 0, .int .i64 0, .int .i64 0, .int .i64 0, .int .i64 0, .int .i64 0, .int .i64 0])
  have nx := r24_below w2 A
  have H3 := Lib.hid (H2.out.later nx)
  have S3 := Lib.hid (S2.out.later nx)
  have F3 := Lib.hid (F2.out.later nx)
  have E3 := Lib.hid (E2.out.later nx)
  have X3 := Lib.hid (X2.out.later nx)
  have HB3 := Lib.hid (HB2.out.trans (nx.mono HB2.out.size))
  have A3 : Hid (RowT _ _ _ _) := Lib.hid ⟨r24_new w2 A⟩
  clear nx HB2 H2 S2 F2 E2 X2
  obtain ⟨f3_0, f3_1, f3_2, f3_3, f3_4, f3_5⟩ := F3.out
  obtain ⟨e3_0, e3_1, e3_2, e3_3, e3_4, e3_5, e3_6⟩ := E3.out
  obtain ⟨x3_0, x3_1, x3_2, x3_3, x3_4⟩ := X3.out
  go_wp2_with (first | (refine wpList_store_row rfl 31 (.tmp 7) (.tmp 33) rfl w2.heap.size A rfl rfl 31 _ TZ.out.h SZ.out OL.out ON.out ?_))
  generalize (w2.alloc (.cells #[.int .i64 0, .int .i64 0, .int .i64 0, .int .i64 0, .int .i64 0, .int .i64 0, .int .i64 0, .int .i64 0, .int .i64 0, .int .i64 0, .int .i64 0, .int .i64 0, .int .i64 0, .int .i64 0, .int .i64 0, .int .i64 0, .int .i64 0, .int .i64 0, .int .i64 0, .int .i64 0, .int .i64 0, .int .i64 0, .int .i64 0, .int .i64 0] 31)).setRow w2.heap.size A = w3 at *
  refine (cT _ (H3.out) (S3.out)).mono ?_
  rintro e w4 ⟨rfl, hw4⟩
  clear f3_0 f3_1 f3_2 f3_3 f3_4 f3_5 e3_0 e3_1 e3_2 e3_3 e3_4 e3_5 e3_6 x3_0 x3_1 x3_2 x3_3 x3_4
  have bw4 : Below w3.heap.size w3 w4 := hw4
  have H4 := Lib.hid (H3.out.later bw4)
  have S4 := Lib.hid (S3.out.later bw4)
  have F4 := Lib.hid (F3.out.later bw4)
  have E4 := Lib.hid (E3.out.later bw4)
  have X4 := Lib.hid (X3.out.later bw4)
  have A4 := Lib.hid (A3.out.later bw4)
  have HB4 := Lib.hid (HB3.out.trans (bw4.mono HB3.out.size))
  clear hw4 bw4 H3 S3 F3 E3 X3 A3 HB3
  clear TZ cT
  obtain ⟨f4_0, f4_1, f4_2, f4_3, f4_4, f4_5⟩ := F4.out
  obtain ⟨e4_0, e4_1, e4_2, e4_3, e4_4, e4_5, e4_6⟩ := E4.out
  obtain ⟨x4_0, x4_1, x4_2, x4_3, x4_4⟩ := X4.out
  go_wp2_with (fail)
  refine (cB _ (H4.out) (S4.out)).mono ?_
  rintro e w5 ⟨rfl, hw5⟩
  clear f4_0 f4_1 f4_2 f4_3 f4_4 f4_5 e4_0 e4_1 e4_2 e4_3 e4_4 e4_5 e4_6 x4_0 x4_1 x4_2 x4_3 x4_4
  have bw5 : Below w4.heap.size w4 w5 := hw5
  have H5 := Lib.hid (H4.out.later bw5)
  have S5 := Lib.hid (S4.out.later bw5)
  have F5 := Lib.hid (F4.out.later bw5)
  have E5 := Lib.hid (E4.out.later bw5)
  have X5 := Lib.hid (X4.out.later bw5)
  have A5 := Lib.hid (A4.out.later bw5)
  have HB5 := Lib.hid (HB4.out.trans (bw5.mono HB4.out.size))
  clear hw5 bw5 H4 S4 F4 E4 X4 A4 HB4
  clear cB
  obtain ⟨x5_0, x5_1, x5_2, x5_3, x5_4⟩ := X5.out
  have ra := r24_cell A5.out.h RI.out
  have rb := r24_cell A5.out.h RK.out
  have rl := World.block_lt_of_cell? _ _ ra
  have kc := @Tail.cell_re
  go_wp2_with (fail)
  refine Tail.region_below (by kernel_rfl) (by kernel_rfl) ?_
  try simp only [Act.put]
  repeat (go_big_quiet_step (fail))
  refine wpQuiet_nil ?_
  intro w6 hw6
  clear x5_0 x5_1 x5_2 x5_3 x5_4 ra rb rl kc
  have H6 := Lib.hid (H5.out.later hw6)
  have S6 := Lib.hid (S5.out.later hw6)
  have F6 := Lib.hid (F5.out.later hw6)
  have E6 := Lib.hid (E5.out.later hw6)
  have X6 := Lib.hid (X5.out.later hw6)
  have A6 := Lib.hid (A5.out.later hw6)
  have HB6 := Lib.hid (HB5.out.trans (hw6.mono HB5.out.size))
  clear hw6 HB5 H5 S5 F5 E5 X5 A5
  go_upto_if 102 with (fail)
  go_cut [7] from 7 to 102 (fun s7 wx => s7 = .pointer (some ⟨w2.heap.size, 0, none⟩) ∧ Hid (FW wx w.heap.size a b c (.slice ao L.length cap)) ∧ Hid (C5 wx (w.heap.size + 1) (.int .i64 p0) (.int .i64 p1) (.int .i64 p2) (.int .i64 p3) (.int .i64 p4)) ∧ Hid (C3 wx (w.heap.size + 1 + 1) (.int .i64 l) (.int .i64 i) (.int .i64 k)) ∧ Hid (RowT wx w2.heap.size 31 A) ∧ Hid (LiesO wx ao L) ∧ Hid (StA wx) ∧ Hid (Below w.heap.size w wx))
  case first =>
    go_wp2
    go_meet
    exact ⟨rfl, F6, E6, X6, A6, H6, S6, HB6⟩
  case rest =>
  rename World => w7
  obtain ⟨rfl, F7, E7, X7, A7, H7, S7, HB7⟩ := hcut
  clear c0 c1 F6 E6 X6 A6 H6 S6 HB6
  as_aux_lemma =>
    go_wp2
    go_loopw [13, 14, 15, 16, 17] (fun al su v _ _ wr => ∃ j : Nat, j ≤ 24 ∧ v = .int .i64 j ∧ al = .int .i64 (psum ls j) ∧ su = .int .i64 (psum ls j) ∧ Hid (FW wr w.heap.size a b c (.slice ao L.length cap)) ∧ Hid (C5 wr (w.heap.size + 1) (.int .i64 p0) (.int .i64 p1) (.int .i64 p2) (.int .i64 p3) (.int .i64 p4)) ∧ Hid (C3 wr (w.heap.size + 1 + 1) (.int .i64 l) (.int .i64 i) (.int .i64 k)) ∧ Hid (RowT wr w2.heap.size 31 A) ∧ Hid (LiesO wr ao L) ∧ Hid (StA wr) ∧ Hid (Below w.heap.size w wr)) (fun _ _ v _ _ _ => 24 - (intOf v).toNat)
    case atStart => exact ⟨0, by omega, rfl, by rw [HPZ.out], by rw [HPZ.out], F7, E7, X7, A7, H7, S7, HB7⟩
    case round =>
      obtain ⟨j, hj, rfl, rfl, rfl, YF, YE, YX, YA, YH, YS, YHB⟩ := hrel
      clear F7 E7 X7 A7 H7 S7 HB7
      by_cases hlt : j < 24
      · have j1 : (j : Int) < 24 := by omega
        have cj := cF.out j wr hlt YH.out YS.out
        obtain ⟨q0, q1⟩ := HPS.out j (by omega)
        have hsu := psum_succ (HGD.out j hlt)
        have hv1 := HW.out.lo _ (List.mem_of_getElem? (HGD.out j hlt))
        have hv2 := HW.out.hi _ (List.mem_of_getElem? (HGD.out j hlt))
        have RJ := Lib.hid (HROW.out j hlt)
        generalize ls.getD j 0 = vj at *
        have HSU := Lib.hid hsu
        clear hsu
        obtain ⟨f0, f1, f2, f3, ff, fl⟩ := YF.out
        obtain ⟨e0, e1, e2, e3, e4, ef, el⟩ := YE.out
        obtain ⟨x0, x1, x2, xf, xl⟩ := YX.out
        go_wp2_with (fail)
        refine cj.mono ?_
        rintro e z1 ⟨rfl, hz1⟩
        have ZA := Lib.hid (YA.out.later hz1)
        have ra := r24_cell ZA.out.h RJ.out
        clear f0 f1 f2 f3 ff fl e0 e1 e2 e3 e4 ef el x0 x1 x2 xf xl cj
        have ZF := Lib.hid (YF.out.later hz1)
        have ZE := Lib.hid (YE.out.later hz1)
        have ZX := Lib.hid (YX.out.later hz1)
        have ZH := Lib.hid (YH.out.later hz1)
        have ZS := Lib.hid (YS.out.later hz1)
        have ZB := Lib.hid (YHB.out.trans (hz1.mono YHB.out.size))
        clear YA YF YE YX YH YS YHB hz1
        go_wp2
        exact ⟨⟨j + 1, by omega, by go_num, by rw [HSU.out], by rw [HSU.out], ZF, ZE, ZX, ZA, ZH, ZS, ZB⟩, by simp [intOf]; omega⟩
      · obtain rfl : j = 24 := by omega
        clear hlt hj
        generalize psum ls 24 = T at *
        have u1 : IntKind.i64.wrap (T - 1) = T - 1 := IntWalk.i64_in _ (by omega)
        have F0 := YF
        have E0 := YE
        have X0 := YX
        have A0 := YA
        have H0 := YH
        have S0 := YS
        have HB0 := YHB
        clear YF YE YX YA YH YS YHB
        obtain ⟨f0, f1, f2, f3, ff, fl⟩ := F0.out
        obtain ⟨e0, e1, e2, e3, e4, ef, el⟩ := E0.out
        obtain ⟨x0, x1, x2, xf, xl⟩ := X0.out
        go_wp2_with (fail)
        refine (c3 _ H0.out S0.out).mono ?_
        rintro e z1 ⟨⟨g, gk, rfl⟩, hz1⟩
        clear f0 f1 f2 f3 ff fl e0 e1 e2 e3 e4 ef el x0 x1 x2 xf xl c3
        obtain ⟨f0, f1, f2, f3, ff, fl⟩ := F0.out.later hz1
        obtain ⟨e0, e1, e2, e3, e4, ef, el⟩ := E0.out.later hz1
        obtain ⟨x0, x1, x2, xf, xl⟩ := X0.out.later hz1
        have B1 := Lib.hid (HB0.out.trans (hz1.mono HB0.out.size))
        have H1 := Lib.hid ((H0.out.later hz1).later (ba1 (o := .cells #[.int .i64 a, .int .i64 b, .int .i64 c, .slice (some ⟨g, 0, none⟩) L.length gk] 25)))
        have S1 := Lib.hid ((S0.out.later hz1).later (ba1 (o := .cells #[.int .i64 a, .int .i64 b, .int .i64 c, .slice (some ⟨g, 0, none⟩) L.length gk] 25)))
        clear F0 E0 X0 A0 H0 S0 HB0 hz1
        go_wp2_with (fail)
        refine (c4 _ H1.out S1.out).mono ?_
        rintro e z2 ⟨rfl, hz2⟩
        have B2 := Lib.hid (B1.out.trans ((bel1 hz2).mono B1.out.size))
        clear f0 f1 f2 f3 ff fl e0 e1 e2 e3 e4 ef el x0 x1 x2 xf xl c4 hz2 H1 S1 B1
        have t9 : (T == T) = true := by simp
        go_wp2_with (fail)
        refine (kn _).mono ?_
        rintro e z3 ⟨rfl, hz3⟩
        have B3 := Lib.hid (B2.out.trans ((bel1 hz3).mono B2.out.size))
        clear hz3 B2
        go_wp2
        go_ret
        exact ⟨rfl, B3.out⟩
theorem chanceBalances_walk (a b c : Int) (ao : Option Addr) (L : List Q) (cap : Nat) (p0 p1 p2 p3 p4 l x y : Int) (w : World) (_ : L.length ≤ maxLen) (hm : LiesO w ao L) (hst : StA w) : Calls Tryd.prog 3 #[.agg #[.int .i64 a, .int .i64 b, .int .i64 c, .slice ao L.length cap], .agg #[.int .i64 p0, .int .i64 p1, .int .i64 p2, .int .i64 p3, .int .i64 p4], .agg #[.int .i64 l, .int .i64 x, .int .i64 y]] w fun e w' => e = .returned (.bool true) ∧ Below w.heap.size w w' := by
  by_cases h : 200 < L.length
  · exact cBa_l a b c p0 p1 p2 p3 p4 l x y ao cap L w h
  obtain ⟨r, hr⟩ := clR_ex a b c L [p0, p1, p2, p3, p4] l
  by_cases z : r = 0
  · subst z
    obtain ⟨hF, hWO, l0, l1, l2⟩ := clR_ok hr
    have hL48 := hF.le
    have hWL := WL_of hF hWO l0 l1
    have hA := R24.of hWL.n
    obtain ⟨bl, off, rfl, m1⟩ := lies_of5 hm (by omega)
    have cw := fun (W : World) (k1 : LiesO W (some ⟨bl, off, none⟩) L) (k2 : StA W) => (show Calls Tryd.prog 8 #[.agg #[.int .i64 a, .int .i64 b, .int .i64 c, .slice (some ⟨bl, off, none⟩) L.length cap], .agg #[.int .i64 p0, .int .i64 p1, .int .i64 p2, .int .i64 p3, .int .i64 p4], .int .i64 l] W fun e w' => e = .returned (.tuple #[.agg ((wsK a b c L [p0, p1, p2, p3, p4] l (thr a b c l) 24).map vi).toArray, .int .i64 0]) ∧ Below W.heap.size W w' from by
      obtain ⟨b1, o1, e, m⟩ := lies_of5 k1 (by omega)
      simp only [Option.some.injEq, Addr.mk.injEq, and_true] at e
      obtain ⟨rfl, rfl⟩ := e
      exact weights_ok a b c p0 p1 p2 p3 p4 l bl off cap L W m hr k2 (by omega))
    by_cases x0 : x < 0
    · exact cBa_a a b c p0 p1 p2 p3 p4 l x y _ cap L w _ hA (by omega) hm hst x0 cw
    by_cases x1 : x > 23
    · exact cBa_b a b c p0 p1 p2 p3 p4 l x y _ cap L w _ hA (by omega) hm hst x0 x1 cw
    by_cases y0 : y < 0
    · exact cBa_c a b c p0 p1 p2 p3 p4 l x y _ cap L w _ hA (by omega) hm hst x0 x1 y0 cw
    by_cases y1 : y > 23
    · exact cBa_d a b c p0 p1 p2 p3 p4 l x y _ cap L w _ hA (by omega) hm hst x0 x1 y0 y1 cw
    obtain ⟨i, rfl⟩ := Int.eq_ofNat_of_zero_le (show 0 ≤ x by omega)
    obtain ⟨k, rfl⟩ := Int.eq_ofNat_of_zero_le (show 0 ≤ y by omega)
    obtain ⟨n, rfl⟩ := Int.eq_ofNat_of_zero_le l0
    have hn : n < L.length := by omega
    have cs := fun W : World => sum5_any _ W hWL
    have hps := hWL.ps 24 (by omega)
    have lof : ∀ W : World, LiesO W (some ⟨bl, off, none⟩) L → Lies W bl off L := fun W h => by
      obtain ⟨b1, o1, e, m⟩ := lies_of5 h (by omega)
      simp only [Option.some.injEq, Addr.mk.injEq, and_true] at e
      rw [e.1, e.2]
      exact m
    have hlast : (wsK a b c L [p0, p1, p2, p3, p4] n (thr a b c n) 24)[23]? = some _ := List.getElem?_eq_getElem (by rw [hWL.n]; omega)
    have hs := psum_succ hlast
    simp only [Nat.reduceAdd] at hs
    have hl1 := hWL.lo _ (List.mem_of_getElem? hlast)
    have hp23 := hWL.ps 23 (by omega)
    have hch : Ch (wsK a b c L [p0, p1, p2, p3, p4] n (thr a b c n) 24) (psum (wsK a b c L [p0, p1, p2, p3, p4] n (thr a b c n) 24) 24 - 1) 23 := ⟨by rw [hWL.n]; omega, by omega, by simp only [Nat.reduceAdd]; omega⟩
    refine cBa_g a b c p0 p1 p2 p3 p4 n i k (some ⟨bl, off, none⟩) cap L w _ hWL (by omega) (by omega) (by omega) hm hst cw ?_ ?_ ?_
    · intro x' k' W hx0 hx1 hk' k1 k2
      refine flow_any a b c p0 p1 p2 p3 p4 n x' k' 0 _ 0 (some ⟨bl, off, none⟩) cap L W k1 k2 _ hA (.inr (.inr ⟨rfl, ⟨⟨hx0, hx1⟩, by omega, by omega⟩, ?_, rfl⟩)) cw
      rw [Int.toNat_natCast, List.getElem?_toArray, List.getElem?_map, List.getD_eq_getElem?_getD, List.getElem?_eq_getElem (by rw [hWL.n]; exact hk')]
      rfl
    · intro W k1 k2
      refine (heat_ok a b c p0 p1 p2 p3 p4 n _ _ bl off cap n 23 L W _ hA (lof W k1) k2 rfl hn (by omega) (by omega) (by omega) (by omega) (fun W k1 k2 => cw W (.inr ⟨bl, off, rfl, k1⟩) k2) cs (fun W => chosen5_any _ _ 23 W hWL hch)).mono ?_
      rintro e w' ⟨⟨g1, gk, he, -, -⟩, hb⟩
      exact ⟨⟨g1, gk, he⟩, hb⟩
    · intro W k1 k2
      exact heat_big a b c p0 p1 p2 p3 p4 n _ _ (some ⟨bl, off, none⟩) cap L W _ hA k1 k2 (by omega) (by omega) cw cs
  · exact cBa_e a b c p0 p1 p2 p3 p4 l x y r ao cap L w _ R24.z (by omega) hm hst z (fun W k1 _ => weights_bad a b c p0 p1 p2 p3 p4 l r ao cap L W k1 hr z (by omega))

/-! ### The statement of the law ChanceBalances, out of its walk -/
set_option maxRecDepth 100000 in
theorem chanceBalances_lifted (os : Os) (started : os.Started) (H : Type) (enc : TypeId × Value → H) :
    ReturnsInHanded {} Tryd.checked os 3 .any (fun w args => (Rows.chanceBalancesSpec.pre enc Tryd.prog Tryd.f3 [] false w args ∧ laidMetH Tryd.prog Rows.chanceBalancesRow.laid w) ∧ sizedMet enc Tryd.prog Tryd.f3 (OpenSpec.ofChange Rows.chanceBalancesSpec) false w args) (Rows.chanceBalancesSpec.post enc Tryd.prog Tryd.f3 false true false false) := by
  refine returnsInHanded_of_change_and (C := Tryd.checked) (X := fun w _ => laidMetH Tryd.prog Rows.chanceBalancesRow.laid w) (fun _ _ _ hh h => h.of_heap hh) own started (by kernel_rfl) Tryd.func3
    (ChangeSpec.witness_shaped (enc := enc) (C := Tryd.checked) (os := os) (X := fun w _ => laidMetH Tryd.prog Rows.chanceBalancesRow.laid w) false (World.doorLaid Tryd.prog 17 os) #[.agg #[.int .i64 0, .int .i64 0, .int .i64 0, .slice none 0 0], .agg #[.int .i64 0, .int .i64 0, .int .i64 0, .int .i64 0, .int .i64 0], .agg #[.int .i64 0, .int .i64 0, .int .i64 0]] 8 rfl (World.shaped_of_RefB (by kernel_rfl) (by kernel_rfl)) (by kernel_rfl) (by kernel_rfl) (by kernel_rfl) (laidMetH_of_parts3 (fuel := 8) (laidMet_of_run' 8 (by kernel_rfl) (by kernel_rfl)) (by kernel_rfl) (by kernel_rfl))) ?_
  intro W base args ds gs before hval0 hW _ _ hL _
  have hval : ∀ (j : Nat) t v, Tryd.f3.params[j]? = some t → args[j]? = some v → Value.okWide Tryd.prog W .any base t v := hval0
  have hW' := hW
  obtain ⟨p, q, hA0, hV, rfl, hfz, hnd⟩ := hW
  have hA : DataW.TrodAll enc Tryd.prog W 0 (fun _ => true) true Tryd.f3.params.toList args.toList ds p := hA0
  rw [Tryd.params3] at hA hval
  obtain ⟨v0, vs0, d0, ds0, p0, q0, hargs, rfl, rfl, h0, r0⟩ := trodAll_cons hA
  obtain ⟨v1, vs1, d1, ds1, p1, q1, rfl, rfl, rfl, h1, r1⟩ := trodAll_cons r0
  obtain ⟨v2, vs2, d2, ds2, p2, q2, rfl, rfl, rfl, h2, r2⟩ := trodAll_cons r1
  obtain ⟨rfl, rfl, rfl⟩ := trodAll_nil r2
  obtain rfl : args = #[v0, v1, v2] := by cases args; simp_all
  obtain ⟨rfl, rfl⟩ := trodVars_none hV
  have k0 := h0
  have lt0 : ∀ x ∈ p0, x.block < W.heap.size := by obtain ⟨m, hm⟩ := k0; exact DataW.trod_lt m _ _ _ hm
  obtain ⟨x0, y0, z0, ao0, L0, cap0, rfl, hl0, hm0⟩ := open_field (hval 0 25 v0 rfl rfl) h0
  have k1 := h1
  have lt1 : ∀ x ∈ p1, x.block < W.heap.size := by obtain ⟨m, hm⟩ := k1; exact DataW.trod_lt m _ _ _ hm
  obtain ⟨x1, y1, z1, u1, v1, rfl⟩ := open_w5 (hval 1 26 v1 rfl rfl) h1
  have k2 := h2
  have lt2 : ∀ x ∈ p2, x.block < W.heap.size := by obtain ⟨m, hm⟩ := k2; exact DataW.trod_lt m _ _ _ hm
  obtain ⟨x2, y2, z2, rfl⟩ := open_at5 (hval 2 28 v2 rfl rfl) h2
  clear hA0 hval0
  refine (chanceBalances_walk x0 y0 z0 ao0 L0 cap0 x1 y1 z1 u1 v1 x2 y2 z2 W hl0 hm0 (sta_of_laid hL)).mono fun e W' ⟨he, bel⟩ => ?_
  subst he
  exact ⟨_, rfl, _, _, _, [], _, [], hW', trodAll_mk1 (shut_bool Tryd.underlying4 _), (trodAll_cons_mk (Below.trod laidOut (by kernel_rfl) (of_decide_eq_true (by kernel_rfl)) k0 bel lt0) (trodAll_cons_mk (Below.trod laidOut (by kernel_rfl) (of_decide_eq_true (by kernel_rfl)) k1 bel lt1) (trodAll_cons_mk (Below.trod laidOut (by kernel_rfl) (of_decide_eq_true (by kernel_rfl)) k2 bel lt2) trodAll_mk0))), rfl, bel.frame _, fun h => by cases h⟩

theorem chanceBalances_jf9 : (Rows.chanceBalancesRow.inPlace == Tryd.prog.inPlace 3) = true := by kernel_rfl
theorem chanceBalances_jf10 : (Rows.chanceBalancesRow.unfollowed == Tryd.prog.unfollowed 3) = true := by kernel_rfl
theorem chanceBalances_jf11 : (Rows.chanceBalancesRow.recurses == Tryd.prog.recurses 3) = true := by kernel_rfl
theorem chanceBalances_jf12 : (Rows.chanceBalancesRow.named == Tryd.prog.varsNamed 3) = true := by kernel_rfl
theorem chanceBalances_facts : joinedFacts Tryd.prog 3 Tryd.f3 Rows.chanceBalancesSpec Rows.chanceBalancesRow = true := by
  unfold joinedFacts
  exact (band (band (band (band (band (band (band (band (band (band (band (band (band (band (band (band (band (band (band (band (band (band (band (band (band (band (band (band (band (band (band (by kernel_rfl) jf1) jf2) (by kernel_rfl)) (by kernel_rfl)) (by kernel_rfl)) jf6) (by kernel_rfl)) jf8) chanceBalances_jf9) chanceBalances_jf10) chanceBalances_jf11) chanceBalances_jf12) (by kernel_rfl)) (by kernel_rfl)) (by kernel_rfl)) (by kernel_rfl)) (by kernel_rfl)) (by kernel_rfl)) (by kernel_rfl)) (by kernel_rfl)) (by kernel_rfl)) (by kernel_rfl)) (by kernel_rfl)) jf24) jf25) jf26) jf27) (by kernel_rfl)) (by kernel_rfl)) (by kernel_rfl)) (by kernel_rfl))

theorem chanceBalances_over : Rows.chanceBalancesRow.holds Tryd.pinned (OpenSpec.ofChange Rows.chanceBalancesSpec) :=
  OpenClaim.holds_of_wide 3 Tryd.f3 rfl rfl rfl rfl rfl rfl rfl ⟨rfl, rfl, rfl, rfl, rfl⟩ rfl rfl rfl rfl rfl (by kernel_rfl) Tryd.func3 chanceBalances_facts
    (of_decide_eq_true (by kernel_rfl)) (by unfold Func.isWrapper; first | (rw [if_pos (by decide +kernel)]; kernel_rfl) | (rw [if_neg (by decide +kernel)]; exact ⟨rfl, rfl⟩))
    (fun os started H enc _ => chanceBalances_lifted os started H enc)

theorem chanceBalances_holds : Rows.ChanceBalancesCardSaid :=
  Claim7.holds_tied_plain_at .later [] [.data] true (true, "22f369b873d3a3abcda89454df114d73cb1cea4360767ef223a563f8370e5008") false
    chanceBalances_over (fun _ h => by cases h) (by kernel_rfl) (fun _ h => by cases h) chanceBalances_row_tie rfl ⟨rfl, rfl⟩ (by kernel_rfl) rfl
    (fun f fn hf hfn => by
      obtain rfl : f = 3 := Option.some.inj ((show Tryd.prog.funcNamed "plaquette/plaquettelaw05.ChanceBalances" = some 3 by kernel_rfl).symm.trans hf) |>.symm
      obtain rfl : fn = Tryd.f3 := (Option.some.inj (Tryd.func3.symm.trans hfn)).symm
      exact ⟨by kernel_rfl, fun j t ht => by
        rw [Tryd.params3] at ht
        have hm : t ∈ [25, 26, 28] := by simpa using Array.mem_of_getElem? ht
        have hall : ([25, 26, 28].all fun u => !Tryd.prog.wantsStandIn u) = true := by kernel_rfl
        exact (show Tryd.prog.wantsStandIn t = false by simpa using List.all_eq_true.1 hall t hm)⟩)
    (by kernel_rfl)
#print axioms chanceBalances_holds

end Go.Proofs.YtpfhjdmgkckjfaaDoor
