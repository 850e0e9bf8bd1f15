/- ChanceAccepts: of the draws of a proposal the smaller one of both weights are accepted, for all fields, weights, links and turns.
Conditions: none. -/
import Derived.Test.YtpfhjdmgkckjfaaDoorQMtC
import Derived.Test.YtpfhjdmgkckjfaaDoorQOpenA5
import Derived.Test.YtpfhjdmgkckjfaaDoorQRwsC
import Derived.Test.YtpfhjdmgkckjfaaDoorQSane5
import Derived.Test.YtpfhjdmgkckjfaaDoorQOpen4
import Derived.Deep.CutRange
namespace Go.Proofs.YtpfhjdmgkckjfaaDoor
set_option linter.unusedVariables false
set_option linter.unusedSimpArgs false
set_option maxRecDepth 1000000
open Go.ChangeShapes Go.WideShapes Go.ChangeAt Go.RowKit
open Um Tm Cm
open Go.Sort

set_option maxHeartbeats 3200000 in
theorem cAc_l (a b c p0 p1 p2 p3 p4 l x y : Int) (ao : Option Addr) (cap : Nat) (L : List Q) (w : World) (h : 200 < L.length) : Calls Tryd.prog 4 #[.agg #[.int .i64 a, .int .i64 b, .int .i64 c, .slice ao L.length cap], .agg #[.int .i64 p0, .int .i64 p1, .int .i64 p2, .int .i64 p3, .int .i64 p4], .agg #[.int .i64 l, .int .i64 x, .int .i64 y]] w fun e w' => e = .returned (.bool true) ∧ Below w.heap.size w w' := by
  have kn := sane5_any
  have c0 := fun W : World => long5_any a b c ao cap L true W (.inl ⟨h, rfl⟩)
  go_enter Tryd.func4, Tryd.ntmps4
  go_wp2_with (fail)
  refine (c0 _).mono ?_
  rintro e w1 ⟨rfl, hw1⟩
  have bw1 : Below w.heap.size w w1 := bel3 hw1
  have F1 := Lib.hid (FW.n3a.later hw1)
  have E1 := Lib.hid (C5.n3b.later hw1)
  have X1 := Lib.hid (C3.n3c.later hw1)
  have HB1 := Lib.hid bw1
  clear hw1 bw1
  go_wp2_with (fail)
  refine (kn _).mono ?_
  rintro e w2 ⟨rfl, hw2⟩
  have bw2 : Below w1.heap.size w1 w2 := hw2
  have F2 := Lib.hid (F1.out.later bw2)
  have E2 := Lib.hid (E1.out.later bw2)
  have X2 := Lib.hid (X1.out.later bw2)
  have HB2 := Lib.hid (HB1.out.trans (bw2.mono HB1.out.size))
  clear hw2 bw2 F1 E1 X1 HB1
  go_wp2
  go_ret
  exact ⟨rfl, HB2.out⟩
set_option maxHeartbeats 12800000 in
theorem cAc_e (a b c p0 p1 p2 p3 p4 l x y r : Int) (ao : Option Addr) (cap : Nat) (L : List Q) (w : World) (A : Array Value) (hA : R24 A) (k1 : L.length ≤ 200) (hm : LiesO w ao L) (hst : StA w) (hr : r ≠ 0)
    (c1 : ∀ (W : World), LiesO W ao L → StA W → Calls Tryd.prog 8 #[.agg #[.int .i64 a, .int .i64 b, .int .i64 c, .slice ao L.length cap], .agg #[.int .i64 p0, .int .i64 p1, .int .i64 p2, .int .i64 p3, .int .i64 p4], .int .i64 l] W fun e w' => e = .returned (.tuple #[.agg A, .int .i64 r]) ∧ Below W.heap.size W w')
    (c2 : ∀ (W : World), LiesO W ao L → StA W → Calls Tryd.prog 11 #[.agg #[.int .i64 a, .int .i64 b, .int .i64 c, .slice ao L.length cap], .agg #[.int .i64 p0, .int .i64 p1, .int .i64 p2, .int .i64 p3, .int .i64 p4], .int .i64 l, .int .i64 x, .int .i64 0] W fun e w' => e = .returned (.tuple #[.agg #[.int .i64 0, .int .i64 0, .int .i64 0, .slice none 0 0], .bool false, .int .i64 r]) ∧ Below W.heap.size W w') : Calls Tryd.prog 4 #[.agg #[.int .i64 a, .int .i64 b, .int .i64 c, .slice ao L.length cap], .agg #[.int .i64 p0, .int .i64 p1, .int .i64 p2, .int .i64 p3, .int .i64 p4], .agg #[.int .i64 l, .int .i64 x, .int .i64 y]] w fun e w' => e = .returned (.bool true) ∧ Below w.heap.size w w' := by
  have kn := sane5_any
  have c0 := fun W : World => long5_any a b c ao cap L false W (.inr ⟨k1, rfl⟩)
  have t1 : (r != 0) = true := by simpa using hr
  have t2 : (r == 0) = false := by simpa using hr
  clear hr
  have H0 := Lib.hid hm
  have S0 := Lib.hid hst
  have SZ := Lib.hid hA.sz
  have OL := Lib.hid hA.ol
  have ON := Lib.hid hA.one
  clear hm hst k1 hA
  go_enter Tryd.func4, Tryd.ntmps4
  go_wp2_with (fail)
  refine (c0 _).mono ?_
  rintro e w1 ⟨rfl, hw1⟩
  have bw1 : Below w.heap.size w w1 := bel3 hw1
  have F1 := Lib.hid (FW.n3a.later hw1)
  have E1 := Lib.hid (C5.n3b.later hw1)
  have X1 := Lib.hid (C3.n3c.later hw1)
  have H1 := Lib.hid (H0.out.later bw1)
  have S1 := Lib.hid (S0.out.later bw1)
  have HB1 := Lib.hid bw1
  clear hw1 bw1 H0 S0
  obtain ⟨f1_0, f1_1, f1_2, f1_3, f1_4, f1_5⟩ := F1.out
  obtain ⟨e1_0, e1_1, e1_2, e1_3, e1_4, e1_5, e1_6⟩ := E1.out
  obtain ⟨x1_0, x1_1, x1_2, x1_3, x1_4⟩ := X1.out
  go_wp2_with (fail)
  refine (c1 _ (H1.out) (S1.out)).mono ?_
  rintro e w2 ⟨rfl, hw2⟩
  clear f1_0 f1_1 f1_2 f1_3 f1_4 f1_5 e1_0 e1_1 e1_2 e1_3 e1_4 e1_5 e1_6 x1_0 x1_1 x1_2 x1_3 x1_4
  have bw2 : Below w1.heap.size w1 w2 := hw2
  have H2 := Lib.hid (H1.out.later bw2)
  have S2 := Lib.hid (S1.out.later bw2)
  have F2 := Lib.hid (F1.out.later bw2)
  have E2 := Lib.hid (E1.out.later bw2)
  have X2 := Lib.hid (X1.out.later bw2)
  have HB2 := Lib.hid (HB1.out.trans (bw2.mono HB1.out.size))
  clear hw2 bw2 H1 S1 F1 E1 X1 HB1
  have TZ := Lib.hid (ABx.news (w := w2) (T := 31) #[.int .i64 0, .int .i64 0, .int .i64 0, .int .i64 0, .int .i64 0, .int .i64 0, .int .i64 0, .int .i64 0, .int .i64 0, .int .i64 0, .int .i64 0, .int .i64 0, .int .i64 0, .int .i64 0, .int .i64 0, .int .i64 0, .int .i64 0, .int .i64 0, .int .i64 0, .int .i64 0, .int .i64 0, .int .i64 0, .int .i64 0, .int .i64 0])
  have nx := r24_below w2 A
  have H3 := Lib.hid (H2.out.later nx)
  have S3 := Lib.hid (S2.out.later nx)
  have F3 := Lib.hid (F2.out.later nx)
  have E3 := Lib.hid (E2.out.later nx)
  have X3 := Lib.hid (X2.out.later nx)
  have HB3 := Lib.hid (HB2.out.trans (nx.mono HB2.out.size))
  have A3 : Hid (RowT _ _ _ _) := Lib.hid ⟨r24_new w2 A⟩
  clear nx HB2 H2 S2 F2 E2 X2
  obtain ⟨f3_0, f3_1, f3_2, f3_3, f3_4, f3_5⟩ := F3.out
  obtain ⟨e3_0, e3_1, e3_2, e3_3, e3_4, e3_5, e3_6⟩ := E3.out
  obtain ⟨x3_0, x3_1, x3_2, x3_3, x3_4⟩ := X3.out
  go_wp2_with (first | (refine wpList_store_row rfl 31 (.tmp 7) (.tmp 30) rfl w2.heap.size A rfl rfl 31 _ TZ.out.h SZ.out OL.out ON.out ?_))
  generalize (w2.alloc (.cells #[.int .i64 0, .int .i64 0, .int .i64 0, .int .i64 0, .int .i64 0, .int .i64 0, .int .i64 0, .int .i64 0, .int .i64 0, .int .i64 0, .int .i64 0, .int .i64 0, .int .i64 0, .int .i64 0, .int .i64 0, .int .i64 0, .int .i64 0, .int .i64 0, .int .i64 0, .int .i64 0, .int .i64 0, .int .i64 0, .int .i64 0, .int .i64 0] 31)).setRow w2.heap.size A = w3 at *
  refine (c2 _ (H3.out) (S3.out)).mono ?_
  rintro e w4 ⟨rfl, hw4⟩
  clear f3_0 f3_1 f3_2 f3_3 f3_4 f3_5 e3_0 e3_1 e3_2 e3_3 e3_4 e3_5 e3_6 x3_0 x3_1 x3_2 x3_3 x3_4
  have bw4 : Below w3.heap.size w3 w4 := hw4
  have H4 := Lib.hid (H3.out.later bw4)
  have S4 := Lib.hid (S3.out.later bw4)
  have F4 := Lib.hid (F3.out.later bw4)
  have E4 := Lib.hid (E3.out.later bw4)
  have X4 := Lib.hid (X3.out.later bw4)
  have A4 := Lib.hid (A3.out.later bw4)
  have HB4 := Lib.hid (HB3.out.trans (bw4.mono HB3.out.size))
  clear hw4 bw4 H3 S3 F3 E3 X3 A3 HB3
  clear TZ
  clear F4
  clear E4
  clear X4
  clear H4
  clear S4
  clear A4
  go_wp2_with (fail)
  refine (kn _).mono ?_
  rintro e w5 ⟨rfl, hw5⟩
  have bw5 : Below w4.heap.size w4 w5 := bel1 hw5
  have HB5 := Lib.hid (HB4.out.trans (bw5.mono HB4.out.size))
  clear hw5 bw5 HB4
  go_wp2
  go_ret
  exact ⟨rfl, HB5.out⟩
set_option maxHeartbeats 12800000 in
theorem cAc_h (a b c p0 p1 p2 p3 p4 l x y r : Int) (ao : Option Addr) (cap : Nat) (L : List Q) (w : World) (A : Array Value) (hA : R24 A) (k1 : L.length ≤ 200) (hm : LiesO w ao L) (hst : StA w) (hr : r ≠ 0)
    (c1 : ∀ (W : World), LiesO W ao L → StA W → Calls Tryd.prog 8 #[.agg #[.int .i64 a, .int .i64 b, .int .i64 c, .slice ao L.length cap], .agg #[.int .i64 p0, .int .i64 p1, .int .i64 p2, .int .i64 p3, .int .i64 p4], .int .i64 l] W fun e w' => e = .returned (.tuple #[.agg A, .int .i64 0]) ∧ Below W.heap.size W w')
    (c2 : ∀ (W : World), LiesO W ao L → StA W → Calls Tryd.prog 11 #[.agg #[.int .i64 a, .int .i64 b, .int .i64 c, .slice ao L.length cap], .agg #[.int .i64 p0, .int .i64 p1, .int .i64 p2, .int .i64 p3, .int .i64 p4], .int .i64 l, .int .i64 x, .int .i64 0] W fun e w' => e = .returned (.tuple #[.agg #[.int .i64 0, .int .i64 0, .int .i64 0, .slice none 0 0], .bool false, .int .i64 r]) ∧ Below W.heap.size W w') : Calls Tryd.prog 4 #[.agg #[.int .i64 a, .int .i64 b, .int .i64 c, .slice ao L.length cap], .agg #[.int .i64 p0, .int .i64 p1, .int .i64 p2, .int .i64 p3, .int .i64 p4], .agg #[.int .i64 l, .int .i64 x, .int .i64 y]] w fun e w' => e = .returned (.bool true) ∧ Below w.heap.size w w' := by
  have kn := sane5_any
  have c0 := fun W : World => long5_any a b c ao cap L false W (.inr ⟨k1, rfl⟩)
  have t1 : (r != 0) = true := by simpa using hr
  have t2 : (r == 0) = false := by simpa using hr
  clear hr
  have H0 := Lib.hid hm
  have S0 := Lib.hid hst
  have SZ := Lib.hid hA.sz
  have OL := Lib.hid hA.ol
  have ON := Lib.hid hA.one
  clear hm hst k1 hA
  go_enter Tryd.func4, Tryd.ntmps4
  go_wp2_with (fail)
  refine (c0 _).mono ?_
  rintro e w1 ⟨rfl, hw1⟩
  have bw1 : Below w.heap.size w w1 := bel3 hw1
  have F1 := Lib.hid (FW.n3a.later hw1)
  have E1 := Lib.hid (C5.n3b.later hw1)
  have X1 := Lib.hid (C3.n3c.later hw1)
  have H1 := Lib.hid (H0.out.later bw1)
  have S1 := Lib.hid (S0.out.later bw1)
  have HB1 := Lib.hid bw1
  clear hw1 bw1 H0 S0
  obtain ⟨f1_0, f1_1, f1_2, f1_3, f1_4, f1_5⟩ := F1.out
  obtain ⟨e1_0, e1_1, e1_2, e1_3, e1_4, e1_5, e1_6⟩ := E1.out
  obtain ⟨x1_0, x1_1, x1_2, x1_3, x1_4⟩ := X1.out
  go_wp2_with (fail)
  refine (c1 _ (H1.out) (S1.out)).mono ?_
  rintro e w2 ⟨rfl, hw2⟩
  clear f1_0 f1_1 f1_2 f1_3 f1_4 f1_5 e1_0 e1_1 e1_2 e1_3 e1_4 e1_5 e1_6 x1_0 x1_1 x1_2 x1_3 x1_4
  have bw2 : Below w1.heap.size w1 w2 := hw2
  have H2 := Lib.hid (H1.out.later bw2)
  have S2 := Lib.hid (S1.out.later bw2)
  have F2 := Lib.hid (F1.out.later bw2)
  have E2 := Lib.hid (E1.out.later bw2)
  have X2 := Lib.hid (X1.out.later bw2)
  have HB2 := Lib.hid (HB1.out.trans (bw2.mono HB1.out.size))
  clear hw2 bw2 H1 S1 F1 E1 X1 HB1
  have TZ := Lib.hid (ABx.news (w := w2) (T := 31) #[.int .i64 0, .int .i64 0, .int .i64 0, .int .i64 0, .int .i64 0, .int .i64 0, .int .i64 0, .int .i64 0, .int .i64 0, .int .i64 0, .int .i64 0, .int .i64 0, .int .i64 0, .int .i64 0, .int .i64 0, .int .i64 0, .int .i64 0, .int .i64 0, .int .i64 0, .int .i64 0, .int .i64 0, .int .i64 0, .int .i64 0, .int .i64 0])
  have nx := r24_below w2 A
  have H3 := Lib.hid (H2.out.later nx)
  have S3 := Lib.hid (S2.out.later nx)
  have F3 := Lib.hid (F2.out.later nx)
  have E3 := Lib.hid (E2.out.later nx)
  have X3 := Lib.hid (X2.out.later nx)
  have HB3 := Lib.hid (HB2.out.trans (nx.mono HB2.out.size))
  have A3 : Hid (RowT _ _ _ _) := Lib.hid ⟨r24_new w2 A⟩
  clear nx HB2 H2 S2 F2 E2 X2
  obtain ⟨f3_0, f3_1, f3_2, f3_3, f3_4, f3_5⟩ := F3.out
  obtain ⟨e3_0, e3_1, e3_2, e3_3, e3_4, e3_5, e3_6⟩ := E3.out
  obtain ⟨x3_0, x3_1, x3_2, x3_3, x3_4⟩ := X3.out
  go_wp2_with (first | (refine wpList_store_row rfl 31 (.tmp 7) (.tmp 30) rfl w2.heap.size A rfl rfl 31 _ TZ.out.h SZ.out OL.out ON.out ?_))
  generalize (w2.alloc (.cells #[.int .i64 0, .int .i64 0, .int .i64 0, .int .i64 0, .int .i64 0, .int .i64 0, .int .i64 0, .int .i64 0, .int .i64 0, .int .i64 0, .int .i64 0, .int .i64 0, .int .i64 0, .int .i64 0, .int .i64 0, .int .i64 0, .int .i64 0, .int .i64 0, .int .i64 0, .int .i64 0, .int .i64 0, .int .i64 0, .int .i64 0, .int .i64 0] 31)).setRow w2.heap.size A = w3 at *
  refine (c2 _ (H3.out) (S3.out)).mono ?_
  rintro e w4 ⟨rfl, hw4⟩
  clear f3_0 f3_1 f3_2 f3_3 f3_4 f3_5 e3_0 e3_1 e3_2 e3_3 e3_4 e3_5 e3_6 x3_0 x3_1 x3_2 x3_3 x3_4
  have bw4 : Below w3.heap.size w3 w4 := hw4
  have H4 := Lib.hid (H3.out.later bw4)
  have S4 := Lib.hid (S3.out.later bw4)
  have F4 := Lib.hid (F3.out.later bw4)
  have E4 := Lib.hid (E3.out.later bw4)
  have X4 := Lib.hid (X3.out.later bw4)
  have A4 := Lib.hid (A3.out.later bw4)
  have HB4 := Lib.hid (HB3.out.trans (bw4.mono HB3.out.size))
  clear hw4 bw4 H3 S3 F3 E3 X3 A3 HB3
  clear TZ
  clear F4
  clear E4
  clear X4
  clear H4
  clear S4
  clear A4
  go_wp2_with (fail)
  refine (kn _).mono ?_
  rintro e w5 ⟨rfl, hw5⟩
  have bw5 : Below w4.heap.size w4 w5 := bel1 hw5
  have HB5 := Lib.hid (HB4.out.trans (bw5.mono HB4.out.size))
  clear hw5 bw5 HB4
  go_wp2
  go_ret
  exact ⟨rfl, HB5.out⟩
set_option maxHeartbeats 25600000 in
theorem cAc_n (a b c p0 p1 p2 p3 p4 l x y be af fw : Int) (n j m : Nat) (ao : Option Addr) (cap : Nat) (L : List Q) (w : World) (A : Array Value) (T : List Q) (u v : Q) (hA : R24 A) (hl : l = n) (hn : n < L.length) (hT : T.length = L.length) (hlk : L[n]? = some u) (hlt : T[n]? = some v) (hj : j < 24) (hm24 : m < 24) (rj : A[j]? = some (.int .i64 be)) (rm : A[m]? = some (.int .i64 af)) (wb : Wg be) (wa : Wg af) (hfw : af = fw) (hcmp : af < be) (k1 : L.length ≤ 200) (hm : LiesO w ao L) (hst : StA w)
    (c1 : ∀ (W : World), LiesO W ao L → StA W → Calls Tryd.prog 8 #[.agg #[.int .i64 a, .int .i64 b, .int .i64 c, .slice ao L.length cap], .agg #[.int .i64 p0, .int .i64 p1, .int .i64 p2, .int .i64 p3, .int .i64 p4], .int .i64 l] W fun e w' => e = .returned (.tuple #[.agg A, .int .i64 0]) ∧ Below W.heap.size W w')
    (c2 : ∀ (W : World), LiesO W ao L → StA W → Calls Tryd.prog 11 #[.agg #[.int .i64 a, .int .i64 b, .int .i64 c, .slice ao L.length cap], .agg #[.int .i64 p0, .int .i64 p1, .int .i64 p2, .int .i64 p3, .int .i64 p4], .int .i64 l, .int .i64 x, .int .i64 0] W fun e w' => (∃ g gk : Nat, e = .returned (.tuple #[.agg #[.int .i64 a, .int .i64 b, .int .i64 c, .slice (some ⟨g, 0, none⟩) L.length gk], .bool true, .int .i64 0]) ∧ Lies w' g 0 T) ∧ Below W.heap.size W w')
    (c3 : ∀ (W : World), LiesO W ao L → StA W → Calls Tryd.prog 11 #[.agg #[.int .i64 a, .int .i64 b, .int .i64 c, .slice ao L.length cap], .agg #[.int .i64 p0, .int .i64 p1, .int .i64 p2, .int .i64 p3, .int .i64 p4], .int .i64 l, .int .i64 x, .int .i64 (fw - 1)] W fun e w' => (∃ g gk : Nat, e = .returned (.tuple #[.agg #[.int .i64 a, .int .i64 b, .int .i64 c, .slice (some ⟨g, 0, none⟩) L.length gk], .bool true, .int .i64 0]) ∧ Lies w' g 0 T) ∧ Below W.heap.size W w')
    (c4 : ∀ (W : World), LiesO W ao L → StA W → Calls Tryd.prog 11 #[.agg #[.int .i64 a, .int .i64 b, .int .i64 c, .slice ao L.length cap], .agg #[.int .i64 p0, .int .i64 p1, .int .i64 p2, .int .i64 p3, .int .i64 p4], .int .i64 l, .int .i64 x, .int .i64 fw] W fun e w' => (∃ g gk : Nat, e = .returned (.tuple #[.agg #[.int .i64 a, .int .i64 b, .int .i64 c, .slice (some ⟨g, 0, none⟩) L.length gk], .bool false, .int .i64 0]) ∧ Lies w' g 0 L) ∧ Below W.heap.size W w')
    (cU : ∀ (W : World), Calls Tryd.prog 12 #[.agg #[.int .i64 u.a, .int .i64 u.b, .int .i64 u.c, .int .i64 u.d, .int .i64 u.n]] W fun e w' => e = .returned (.int .i64 j) ∧ Below W.heap.size W w')
    (cV : ∀ (W : World), Calls Tryd.prog 12 #[.agg #[.int .i64 v.a, .int .i64 v.b, .int .i64 v.c, .int .i64 v.d, .int .i64 v.n]] W fun e w' => e = .returned (.int .i64 m) ∧ Below W.heap.size W w') : Calls Tryd.prog 4 #[.agg #[.int .i64 a, .int .i64 b, .int .i64 c, .slice ao L.length cap], .agg #[.int .i64 p0, .int .i64 p1, .int .i64 p2, .int .i64 p3, .int .i64 p4], .agg #[.int .i64 l, .int .i64 x, .int .i64 y]] w fun e w' => e = .returned (.bool true) ∧ Below w.heap.size w w' := by
  have kn := sane5_any
  have c0 := fun W : World => long5_any a b c ao cap L false W (.inr ⟨k1, rfl⟩)
  subst hfw
  obtain ⟨b0, b1⟩ := wb
  obtain ⟨a0, a1⟩ := wa
  have u1 : IntKind.i64.wrap (af - 1) = af - 1 := IntWalk.i64_in _ (by omega)
  have hmn : min be af = af := by omega
  have cm1 : ¬ be < be := by omega
  have m23 : ¬ (m : Int) > 23 := by omega
  have j24 : (j : Int) < 24 := by omega
  have m24 : (m : Int) < 24 := by omega
  have RJ := Lib.hid rj
  have RM := Lib.hid rm
  have HLK := Lib.hid hlk
  have HLT := Lib.hid hlt
  have h0 : 0 < L.length := by omega
  obtain ⟨bl, off, rfl, -⟩ := lies_of5 hm h0
  have lof : ∀ W : World, LiesO W (some ⟨bl, off, none⟩) L → Lies W bl off L := fun W h => by
    obtain ⟨b1, o1, e, m⟩ := lies_of5 h h0
    simp only [Option.some.injEq, Addr.mk.injEq, and_true] at e
    rw [e.1, e.2]
    exact m
  have LOF := Lib.hid lof
  clear rj rm hlk hlt lof hj hm24
  subst hl
  have i1 : (n : Int) < (L.length : Int) := by omega
  clear h0
  have H0 := Lib.hid hm
  have S0 := Lib.hid hst
  have SZ := Lib.hid hA.sz
  have OL := Lib.hid hA.ol
  have ON := Lib.hid hA.one
  clear hm hst k1 hA
  go_enter Tryd.func4, Tryd.ntmps4
  go_wp2_with (fail)
  refine (c0 _).mono ?_
  rintro e w1 ⟨rfl, hw1⟩
  have bw1 : Below w.heap.size w w1 := bel3 hw1
  have F1 := Lib.hid (FW.n3a.later hw1)
  have E1 := Lib.hid (C5.n3b.later hw1)
  have X1 := Lib.hid (C3.n3c.later hw1)
  have H1 := Lib.hid (H0.out.later bw1)
  have S1 := Lib.hid (S0.out.later bw1)
  have HB1 := Lib.hid bw1
  clear hw1 bw1 H0 S0
  obtain ⟨f1_0, f1_1, f1_2, f1_3, f1_4, f1_5⟩ := F1.out
  obtain ⟨e1_0, e1_1, e1_2, e1_3, e1_4, e1_5, e1_6⟩ := E1.out
  obtain ⟨x1_0, x1_1, x1_2, x1_3, x1_4⟩ := X1.out
  go_wp2_with (fail)
  refine (c1 _ (H1.out) (S1.out)).mono ?_
  rintro e w2 ⟨rfl, hw2⟩
  clear f1_0 f1_1 f1_2 f1_3 f1_4 f1_5 e1_0 e1_1 e1_2 e1_3 e1_4 e1_5 e1_6 x1_0 x1_1 x1_2 x1_3 x1_4
  have bw2 : Below w1.heap.size w1 w2 := hw2
  have H2 := Lib.hid (H1.out.later bw2)
  have S2 := Lib.hid (S1.out.later bw2)
  have F2 := Lib.hid (F1.out.later bw2)
  have E2 := Lib.hid (E1.out.later bw2)
  have X2 := Lib.hid (X1.out.later bw2)
  have HB2 := Lib.hid (HB1.out.trans (bw2.mono HB1.out.size))
  clear hw2 bw2 H1 S1 F1 E1 X1 HB1
  have TZ := Lib.hid (ABx.news (w := w2) (T := 31) #[.int .i64 0, .int .i64 0, .int .i64 0, .int .i64 0, .int .i64 0, .int .i64 0, .int .i64 0, .int .i64 0, .int .i64 0, .int .i64 0, .int .i64 0, .int .i64 0, .int .i64 0, .int .i64 0, .int .i64 0, .int .i64 0, .int .i64 0, .int .i64 0, .int .i64 0, .int .i64 0, .int .i64 0, .int .i64 0, .int .i64 0, .int .i64 0])
  have nx := r24_below w2 A
  have H3 := Lib.hid (H2.out.later nx)
  have S3 := Lib.hid (S2.out.later nx)
  have F3 := Lib.hid (F2.out.later nx)
  have E3 := Lib.hid (E2.out.later nx)
  have X3 := Lib.hid (X2.out.later nx)
  have HB3 := Lib.hid (HB2.out.trans (nx.mono HB2.out.size))
  have A3 : Hid (RowT _ _ _ _) := Lib.hid ⟨r24_new w2 A⟩
  clear nx HB2 H2 S2 F2 E2 X2
  obtain ⟨f3_0, f3_1, f3_2, f3_3, f3_4, f3_5⟩ := F3.out
  obtain ⟨e3_0, e3_1, e3_2, e3_3, e3_4, e3_5, e3_6⟩ := E3.out
  obtain ⟨x3_0, x3_1, x3_2, x3_3, x3_4⟩ := X3.out
  go_wp2_with (first | (refine wpList_store_row rfl 31 (.tmp 7) (.tmp 30) rfl w2.heap.size A rfl rfl 31 _ TZ.out.h SZ.out OL.out ON.out ?_))
  generalize (w2.alloc (.cells #[.int .i64 0, .int .i64 0, .int .i64 0, .int .i64 0, .int .i64 0, .int .i64 0, .int .i64 0, .int .i64 0, .int .i64 0, .int .i64 0, .int .i64 0, .int .i64 0, .int .i64 0, .int .i64 0, .int .i64 0, .int .i64 0, .int .i64 0, .int .i64 0, .int .i64 0, .int .i64 0, .int .i64 0, .int .i64 0, .int .i64 0, .int .i64 0] 31)).setRow w2.heap.size A = w3 at *
  refine (c2 _ (H3.out) (S3.out)).mono ?_
  rintro e w4 ⟨⟨g, gk, rfl, hG⟩, hw4⟩
  clear f3_0 f3_1 f3_2 f3_3 f3_4 f3_5 e3_0 e3_1 e3_2 e3_3 e3_4 e3_5 e3_6 x3_0 x3_1 x3_2 x3_3 x3_4
  have bw4 : Below w3.heap.size w3 w4 := hw4
  have H4 := Lib.hid (H3.out.later bw4)
  have S4 := Lib.hid (S3.out.later bw4)
  have F4 := Lib.hid (F3.out.later bw4)
  have E4 := Lib.hid (E3.out.later bw4)
  have X4 := Lib.hid (X3.out.later bw4)
  have A4 := Lib.hid (A3.out.later bw4)
  have HB4 := Lib.hid (HB3.out.trans (bw4.mono HB3.out.size))
  have G4 := Lib.hid hG
  clear hG
  clear hw4 bw4 H3 S3 F3 E3 X3 A3 HB3
  clear TZ
  have nx : Below w4.heap.size w4 (w4.alloc (.cells #[.int .i64 a, .int .i64 b, .int .i64 c, .slice (some ⟨g, 0, none⟩) L.length gk] 25)) := ba1
  have H5 := Lib.hid (H4.out.later nx)
  have S5 := Lib.hid (S4.out.later nx)
  have F5 := Lib.hid (F4.out.later nx)
  have E5 := Lib.hid (E4.out.later nx)
  have X5 := Lib.hid (X4.out.later nx)
  have A5 := Lib.hid (A4.out.later nx)
  have G5 := Lib.hid (G4.out.later nx)
  have HB5 := Lib.hid (HB4.out.trans (nx.mono HB4.out.size))
  have P5 := Lib.hid (FW.n1 (w := w4) (x := a) (y := b) (z := c) (v := .slice (some ⟨g, 0, none⟩) L.length gk) (T := 25))
  clear nx HB4 H4 S4 F4 E4 X4 A4 G4
  obtain ⟨f5_0, f5_1, f5_2, f5_3, f5_4, f5_5⟩ := F5.out
  obtain ⟨p5_0, p5_1, p5_2, p5_3, p5_4, p5_5⟩ := P5.out
  go_upto_region 9 with (fail)
  generalize w4.alloc (.cells #[.int .i64 a, .int .i64 b, .int .i64 c, .slice (some ⟨g, 0, none⟩) L.length gk] 25) = w5 at *
  generalize w4.heap.size = pb at *
  obtain ⟨x5_0, x5_1, x5_2, x5_3, x5_4⟩ := X5.out
  obtain ⟨g0, g1, g2, g3, g4⟩ := (LOF.out _ H5.out).atP HLK.out
  obtain ⟨h0, h1, h2, h3, h4⟩ := G5.out.atP HLT.out
  simp only [Nat.zero_add] at h0 h1 h2 h3 h4
  have rj := r24_cell A5.out.h RJ.out
  have xl := World.block_lt_of_cell? _ _ rj
  have gl := World.block_lt_of_cell? _ _ g0
  have hl := World.block_lt_of_cell? _ _ h0
  have kc := @Tail.cell_re
  go_wp2_with (fail)
  refine Tail.region_below (by kernel_rfl) (by kernel_rfl) ?_
  try simp only [Act.put]
  repeat (go_big_quiet_step (first | (with_reducible exact Calls.regrown_of (cU _)) | (with_reducible exact Calls.regrown_of (cV _))))
  refine wpQuiet_nil ?_
  intro w6 hw6
  clear g0 g1 g2 g3 g4 h0 h1 h2 h3 h4 rj xl gl hl kc f5_0 f5_1 f5_2 f5_3 f5_4 f5_5 p5_0 p5_1 p5_2 p5_3 p5_4 p5_5 x5_0 x5_1 x5_2 x5_3 x5_4
  clear G5
  clear P5
  have H6 := Lib.hid (H5.out.later hw6)
  have S6 := Lib.hid (S5.out.later hw6)
  have F6 := Lib.hid (F5.out.later hw6)
  have E6 := Lib.hid (E5.out.later hw6)
  have X6 := Lib.hid (X5.out.later hw6)
  have A6 := Lib.hid (A5.out.later hw6)
  have HB6 := Lib.hid (HB5.out.trans (hw6.mono HB5.out.size))
  clear hw6 HB5 H5 S5 F5 E5 X5 A5
  have rm := r24_cell A6.out.h RM.out
  obtain ⟨f6_0, f6_1, f6_2, f6_3, f6_4, f6_5⟩ := F6.out
  obtain ⟨e6_0, e6_1, e6_2, e6_3, e6_4, e6_5, e6_6⟩ := E6.out
  obtain ⟨x6_0, x6_1, x6_2, x6_3, x6_4⟩ := X6.out
  go_wp2_with (fail)
  refine (c3 _ (H6.out) (S6.out)).mono ?_
  rintro e w7 ⟨⟨g5, gk5, rfl, -⟩, hw7⟩
  clear rm f6_0 f6_1 f6_2 f6_3 f6_4 f6_5 e6_0 e6_1 e6_2 e6_3 e6_4 e6_5 e6_6 x6_0 x6_1 x6_2 x6_3 x6_4
  have bw7 : Below w6.heap.size w6 w7 := hw7
  have H7 := Lib.hid (H6.out.later bw7)
  have S7 := Lib.hid (S6.out.later bw7)
  have F7 := Lib.hid (F6.out.later bw7)
  have E7 := Lib.hid (E6.out.later bw7)
  have X7 := Lib.hid (X6.out.later bw7)
  have A7 := Lib.hid (A6.out.later bw7)
  have HB7 := Lib.hid (HB6.out.trans (bw7.mono HB6.out.size))
  clear hw7 bw7 H6 S6 F6 E6 X6 A6 HB6
  clear A7
  obtain ⟨f7_0, f7_1, f7_2, f7_3, f7_4, f7_5⟩ := F7.out
  obtain ⟨e7_0, e7_1, e7_2, e7_3, e7_4, e7_5, e7_6⟩ := E7.out
  obtain ⟨x7_0, x7_1, x7_2, x7_3, x7_4⟩ := X7.out
  go_wp2_with (fail)
  refine (c4 _ (H7.out.later ba1) (S7.out.later ba1)).mono ?_
  rintro e w8 ⟨⟨g6, gk6, rfl, -⟩, hw8⟩
  clear f7_0 f7_1 f7_2 f7_3 f7_4 f7_5 e7_0 e7_1 e7_2 e7_3 e7_4 e7_5 e7_6 x7_0 x7_1 x7_2 x7_3 x7_4
  have bw8 : Below w7.heap.size w7 w8 := bel1 hw8
  have H8 := Lib.hid (H7.out.later bw8)
  have S8 := Lib.hid (S7.out.later bw8)
  have F8 := Lib.hid (F7.out.later bw8)
  have E8 := Lib.hid (E7.out.later bw8)
  have X8 := Lib.hid (X7.out.later bw8)
  have HB8 := Lib.hid (HB7.out.trans (bw8.mono HB7.out.size))
  clear hw8 bw8 H7 S7 F7 E7 X7 HB7
  clear F8
  clear E8
  clear X8
  clear H8
  clear S8
  go_wp2_with (fail)
  refine (kn _).mono ?_
  rintro e w9 ⟨rfl, hw9⟩
  have bw9 : Below w8.heap.size w8 w9 := bel1 hw9
  have HB9 := Lib.hid (HB8.out.trans (bw9.mono HB8.out.size))
  clear hw9 bw9 HB8
  go_wp2
  go_ret
  exact ⟨rfl, HB9.out⟩
set_option maxHeartbeats 25600000 in
theorem cAc_o (a b c p0 p1 p2 p3 p4 l x y be af fw : Int) (n j m : Nat) (ao : Option Addr) (cap : Nat) (L : List Q) (w : World) (A : Array Value) (T : List Q) (u v : Q) (hA : R24 A) (hl : l = n) (hn : n < L.length) (hT : T.length = L.length) (hlk : L[n]? = some u) (hlt : T[n]? = some v) (hj : j < 24) (hm24 : m < 24) (rj : A[j]? = some (.int .i64 be)) (rm : A[m]? = some (.int .i64 af)) (wb : Wg be) (wa : Wg af) (hfw : be = fw) (hcmp : be ≤ af) (k1 : L.length ≤ 200) (hm : LiesO w ao L) (hst : StA w)
    (c1 : ∀ (W : World), LiesO W ao L → StA W → Calls Tryd.prog 8 #[.agg #[.int .i64 a, .int .i64 b, .int .i64 c, .slice ao L.length cap], .agg #[.int .i64 p0, .int .i64 p1, .int .i64 p2, .int .i64 p3, .int .i64 p4], .int .i64 l] W fun e w' => e = .returned (.tuple #[.agg A, .int .i64 0]) ∧ Below W.heap.size W w')
    (c2 : ∀ (W : World), LiesO W ao L → StA W → Calls Tryd.prog 11 #[.agg #[.int .i64 a, .int .i64 b, .int .i64 c, .slice ao L.length cap], .agg #[.int .i64 p0, .int .i64 p1, .int .i64 p2, .int .i64 p3, .int .i64 p4], .int .i64 l, .int .i64 x, .int .i64 0] W fun e w' => (∃ g gk : Nat, e = .returned (.tuple #[.agg #[.int .i64 a, .int .i64 b, .int .i64 c, .slice (some ⟨g, 0, none⟩) L.length gk], .bool true, .int .i64 0]) ∧ Lies w' g 0 T) ∧ Below W.heap.size W w')
    (c3 : ∀ (W : World), LiesO W ao L → StA W → Calls Tryd.prog 11 #[.agg #[.int .i64 a, .int .i64 b, .int .i64 c, .slice ao L.length cap], .agg #[.int .i64 p0, .int .i64 p1, .int .i64 p2, .int .i64 p3, .int .i64 p4], .int .i64 l, .int .i64 x, .int .i64 (fw - 1)] W fun e w' => (∃ g gk : Nat, e = .returned (.tuple #[.agg #[.int .i64 a, .int .i64 b, .int .i64 c, .slice (some ⟨g, 0, none⟩) L.length gk], .bool true, .int .i64 0]) ∧ Lies w' g 0 T) ∧ Below W.heap.size W w')
    (c4 : ∀ (W : World), LiesO W ao L → StA W → Calls Tryd.prog 11 #[.agg #[.int .i64 a, .int .i64 b, .int .i64 c, .slice ao L.length cap], .agg #[.int .i64 p0, .int .i64 p1, .int .i64 p2, .int .i64 p3, .int .i64 p4], .int .i64 l, .int .i64 x, .int .i64 fw] W fun e w' => e = .returned (.tuple #[.agg #[.int .i64 0, .int .i64 0, .int .i64 0, .slice none 0 0], .bool false, .int .i64 1]) ∧ Below W.heap.size W w')
    (cU : ∀ (W : World), Calls Tryd.prog 12 #[.agg #[.int .i64 u.a, .int .i64 u.b, .int .i64 u.c, .int .i64 u.d, .int .i64 u.n]] W fun e w' => e = .returned (.int .i64 j) ∧ Below W.heap.size W w')
    (cV : ∀ (W : World), Calls Tryd.prog 12 #[.agg #[.int .i64 v.a, .int .i64 v.b, .int .i64 v.c, .int .i64 v.d, .int .i64 v.n]] W fun e w' => e = .returned (.int .i64 m) ∧ Below W.heap.size W w') : Calls Tryd.prog 4 #[.agg #[.int .i64 a, .int .i64 b, .int .i64 c, .slice ao L.length cap], .agg #[.int .i64 p0, .int .i64 p1, .int .i64 p2, .int .i64 p3, .int .i64 p4], .agg #[.int .i64 l, .int .i64 x, .int .i64 y]] w fun e w' => e = .returned (.bool true) ∧ Below w.heap.size w w' := by
  have kn := sane5_any
  have c0 := fun W : World => long5_any a b c ao cap L false W (.inr ⟨k1, rfl⟩)
  subst hfw
  obtain ⟨b0, b1⟩ := wb
  obtain ⟨a0, a1⟩ := wa
  have u1 : IntKind.i64.wrap (be - 1) = be - 1 := IntWalk.i64_in _ (by omega)
  have hmn : min be af = be := by omega
  have cm1 : ¬ be < be := by omega
  have m23 : ¬ (m : Int) > 23 := by omega
  have j24 : (j : Int) < 24 := by omega
  have m24 : (m : Int) < 24 := by omega
  have RJ := Lib.hid rj
  have RM := Lib.hid rm
  have HLK := Lib.hid hlk
  have HLT := Lib.hid hlt
  have h0 : 0 < L.length := by omega
  obtain ⟨bl, off, rfl, -⟩ := lies_of5 hm h0
  have lof : ∀ W : World, LiesO W (some ⟨bl, off, none⟩) L → Lies W bl off L := fun W h => by
    obtain ⟨b1, o1, e, m⟩ := lies_of5 h h0
    simp only [Option.some.injEq, Addr.mk.injEq, and_true] at e
    rw [e.1, e.2]
    exact m
  have LOF := Lib.hid lof
  clear rj rm hlk hlt lof hj hm24
  subst hl
  have i1 : (n : Int) < (L.length : Int) := by omega
  clear h0
  have H0 := Lib.hid hm
  have S0 := Lib.hid hst
  have SZ := Lib.hid hA.sz
  have OL := Lib.hid hA.ol
  have ON := Lib.hid hA.one
  clear hm hst k1 hA
  go_enter Tryd.func4, Tryd.ntmps4
  go_wp2_with (fail)
  refine (c0 _).mono ?_
  rintro e w1 ⟨rfl, hw1⟩
  have bw1 : Below w.heap.size w w1 := bel3 hw1
  have F1 := Lib.hid (FW.n3a.later hw1)
  have E1 := Lib.hid (C5.n3b.later hw1)
  have X1 := Lib.hid (C3.n3c.later hw1)
  have H1 := Lib.hid (H0.out.later bw1)
  have S1 := Lib.hid (S0.out.later bw1)
  have HB1 := Lib.hid bw1
  clear hw1 bw1 H0 S0
  obtain ⟨f1_0, f1_1, f1_2, f1_3, f1_4, f1_5⟩ := F1.out
  obtain ⟨e1_0, e1_1, e1_2, e1_3, e1_4, e1_5, e1_6⟩ := E1.out
  obtain ⟨x1_0, x1_1, x1_2, x1_3, x1_4⟩ := X1.out
  go_wp2_with (fail)
  refine (c1 _ (H1.out) (S1.out)).mono ?_
  rintro e w2 ⟨rfl, hw2⟩
  clear f1_0 f1_1 f1_2 f1_3 f1_4 f1_5 e1_0 e1_1 e1_2 e1_3 e1_4 e1_5 e1_6 x1_0 x1_1 x1_2 x1_3 x1_4
  have bw2 : Below w1.heap.size w1 w2 := hw2
  have H2 := Lib.hid (H1.out.later bw2)
  have S2 := Lib.hid (S1.out.later bw2)
  have F2 := Lib.hid (F1.out.later bw2)
  have E2 := Lib.hid (E1.out.later bw2)
  have X2 := Lib.hid (X1.out.later bw2)
  have HB2 := Lib.hid (HB1.out.trans (bw2.mono HB1.out.size))
  clear hw2 bw2 H1 S1 F1 E1 X1 HB1
  have TZ := Lib.hid (ABx.news (w := w2) (T := 31) #[.int .i64 0, .int .i64 0, .int .i64 0, .int .i64 0, .int .i64 0, .int .i64 0, .int .i64 0, .int .i64 0, .int .i64 0, .int .i64 0, .int .i64 0, .int .i64 0, .int .i64 0, .int .i64 0, .int .i64 0, .int .i64 0, .int .i64 0, .int .i64 0, .int .i64 0, .int .i64 0, .int .i64 0, .int .i64 0, .int .i64 0, .int .i64 0])
  have nx := r24_below w2 A
  have H3 := Lib.hid (H2.out.later nx)
  have S3 := Lib.hid (S2.out.later nx)
  have F3 := Lib.hid (F2.out.later nx)
  have E3 := Lib.hid (E2.out.later nx)
  have X3 := Lib.hid (X2.out.later nx)
  have HB3 := Lib.hid (HB2.out.trans (nx.mono HB2.out.size))
  have A3 : Hid (RowT _ _ _ _) := Lib.hid ⟨r24_new w2 A⟩
  clear nx HB2 H2 S2 F2 E2 X2
  obtain ⟨f3_0, f3_1, f3_2, f3_3, f3_4, f3_5⟩ := F3.out
  obtain ⟨e3_0, e3_1, e3_2, e3_3, e3_4, e3_5, e3_6⟩ := E3.out
  obtain ⟨x3_0, x3_1, x3_2, x3_3, x3_4⟩ := X3.out
  go_wp2_with (first | (refine wpList_store_row rfl 31 (.tmp 7) (.tmp 30) rfl w2.heap.size A rfl rfl 31 _ TZ.out.h SZ.out OL.out ON.out ?_))
  generalize (w2.alloc (.cells #[.int .i64 0, .int .i64 0, .int .i64 0, .int .i64 0, .int .i64 0, .int .i64 0, .int .i64 0, .int .i64 0, .int .i64 0, .int .i64 0, .int .i64 0, .int .i64 0, .int .i64 0, .int .i64 0, .int .i64 0, .int .i64 0, .int .i64 0, .int .i64 0, .int .i64 0, .int .i64 0, .int .i64 0, .int .i64 0, .int .i64 0, .int .i64 0] 31)).setRow w2.heap.size A = w3 at *
  refine (c2 _ (H3.out) (S3.out)).mono ?_
  rintro e w4 ⟨⟨g, gk, rfl, hG⟩, hw4⟩
  clear f3_0 f3_1 f3_2 f3_3 f3_4 f3_5 e3_0 e3_1 e3_2 e3_3 e3_4 e3_5 e3_6 x3_0 x3_1 x3_2 x3_3 x3_4
  have bw4 : Below w3.heap.size w3 w4 := hw4
  have H4 := Lib.hid (H3.out.later bw4)
  have S4 := Lib.hid (S3.out.later bw4)
  have F4 := Lib.hid (F3.out.later bw4)
  have E4 := Lib.hid (E3.out.later bw4)
  have X4 := Lib.hid (X3.out.later bw4)
  have A4 := Lib.hid (A3.out.later bw4)
  have HB4 := Lib.hid (HB3.out.trans (bw4.mono HB3.out.size))
  have G4 := Lib.hid hG
  clear hG
  clear hw4 bw4 H3 S3 F3 E3 X3 A3 HB3
  clear TZ
  have nx : Below w4.heap.size w4 (w4.alloc (.cells #[.int .i64 a, .int .i64 b, .int .i64 c, .slice (some ⟨g, 0, none⟩) L.length gk] 25)) := ba1
  have H5 := Lib.hid (H4.out.later nx)
  have S5 := Lib.hid (S4.out.later nx)
  have F5 := Lib.hid (F4.out.later nx)
  have E5 := Lib.hid (E4.out.later nx)
  have X5 := Lib.hid (X4.out.later nx)
  have A5 := Lib.hid (A4.out.later nx)
  have G5 := Lib.hid (G4.out.later nx)
  have HB5 := Lib.hid (HB4.out.trans (nx.mono HB4.out.size))
  have P5 := Lib.hid (FW.n1 (w := w4) (x := a) (y := b) (z := c) (v := .slice (some ⟨g, 0, none⟩) L.length gk) (T := 25))
  clear nx HB4 H4 S4 F4 E4 X4 A4 G4
  obtain ⟨f5_0, f5_1, f5_2, f5_3, f5_4, f5_5⟩ := F5.out
  obtain ⟨p5_0, p5_1, p5_2, p5_3, p5_4, p5_5⟩ := P5.out
  go_upto_region 9 with (fail)
  generalize w4.alloc (.cells #[.int .i64 a, .int .i64 b, .int .i64 c, .slice (some ⟨g, 0, none⟩) L.length gk] 25) = w5 at *
  generalize w4.heap.size = pb at *
  obtain ⟨x5_0, x5_1, x5_2, x5_3, x5_4⟩ := X5.out
  obtain ⟨g0, g1, g2, g3, g4⟩ := (LOF.out _ H5.out).atP HLK.out
  obtain ⟨h0, h1, h2, h3, h4⟩ := G5.out.atP HLT.out
  simp only [Nat.zero_add] at h0 h1 h2 h3 h4
  have rj := r24_cell A5.out.h RJ.out
  have xl := World.block_lt_of_cell? _ _ rj
  have gl := World.block_lt_of_cell? _ _ g0
  have hl := World.block_lt_of_cell? _ _ h0
  have kc := @Tail.cell_re
  go_wp2_with (fail)
  refine Tail.region_below (by kernel_rfl) (by kernel_rfl) ?_
  try simp only [Act.put]
  repeat (go_big_quiet_step (first | (with_reducible exact Calls.regrown_of (cU _)) | (with_reducible exact Calls.regrown_of (cV _))))
  refine wpQuiet_nil ?_
  intro w6 hw6
  clear g0 g1 g2 g3 g4 h0 h1 h2 h3 h4 rj xl gl hl kc f5_0 f5_1 f5_2 f5_3 f5_4 f5_5 p5_0 p5_1 p5_2 p5_3 p5_4 p5_5 x5_0 x5_1 x5_2 x5_3 x5_4
  clear G5
  clear P5
  have H6 := Lib.hid (H5.out.later hw6)
  have S6 := Lib.hid (S5.out.later hw6)
  have F6 := Lib.hid (F5.out.later hw6)
  have E6 := Lib.hid (E5.out.later hw6)
  have X6 := Lib.hid (X5.out.later hw6)
  have A6 := Lib.hid (A5.out.later hw6)
  have HB6 := Lib.hid (HB5.out.trans (hw6.mono HB5.out.size))
  clear hw6 HB5 H5 S5 F5 E5 X5 A5
  have rm := r24_cell A6.out.h RM.out
  obtain ⟨f6_0, f6_1, f6_2, f6_3, f6_4, f6_5⟩ := F6.out
  obtain ⟨e6_0, e6_1, e6_2, e6_3, e6_4, e6_5, e6_6⟩ := E6.out
  obtain ⟨x6_0, x6_1, x6_2, x6_3, x6_4⟩ := X6.out
  go_wp2_with (fail)
  refine (c3 _ (H6.out) (S6.out)).mono ?_
  rintro e w7 ⟨⟨g5, gk5, rfl, -⟩, hw7⟩
  clear rm f6_0 f6_1 f6_2 f6_3 f6_4 f6_5 e6_0 e6_1 e6_2 e6_3 e6_4 e6_5 e6_6 x6_0 x6_1 x6_2 x6_3 x6_4
  have bw7 : Below w6.heap.size w6 w7 := hw7
  have H7 := Lib.hid (H6.out.later bw7)
  have S7 := Lib.hid (S6.out.later bw7)
  have F7 := Lib.hid (F6.out.later bw7)
  have E7 := Lib.hid (E6.out.later bw7)
  have X7 := Lib.hid (X6.out.later bw7)
  have A7 := Lib.hid (A6.out.later bw7)
  have HB7 := Lib.hid (HB6.out.trans (bw7.mono HB6.out.size))
  clear hw7 bw7 H6 S6 F6 E6 X6 A6 HB6
  clear A7
  obtain ⟨f7_0, f7_1, f7_2, f7_3, f7_4, f7_5⟩ := F7.out
  obtain ⟨e7_0, e7_1, e7_2, e7_3, e7_4, e7_5, e7_6⟩ := E7.out
  obtain ⟨x7_0, x7_1, x7_2, x7_3, x7_4⟩ := X7.out
  go_wp2_with (fail)
  refine (c4 _ (H7.out.later ba1) (S7.out.later ba1)).mono ?_
  rintro e w8 ⟨rfl, hw8⟩
  clear f7_0 f7_1 f7_2 f7_3 f7_4 f7_5 e7_0 e7_1 e7_2 e7_3 e7_4 e7_5 e7_6 x7_0 x7_1 x7_2 x7_3 x7_4
  have bw8 : Below w7.heap.size w7 w8 := bel1 hw8
  have H8 := Lib.hid (H7.out.later bw8)
  have S8 := Lib.hid (S7.out.later bw8)
  have F8 := Lib.hid (F7.out.later bw8)
  have E8 := Lib.hid (E7.out.later bw8)
  have X8 := Lib.hid (X7.out.later bw8)
  have HB8 := Lib.hid (HB7.out.trans (bw8.mono HB7.out.size))
  clear hw8 bw8 H7 S7 F7 E7 X7 HB7
  clear F8
  clear E8
  clear X8
  clear H8
  clear S8
  go_wp2_with (fail)
  refine (kn _).mono ?_
  rintro e w9 ⟨rfl, hw9⟩
  have bw9 : Below w8.heap.size w8 w9 := bel1 hw9
  have HB9 := Lib.hid (HB8.out.trans (bw9.mono HB8.out.size))
  clear hw9 bw9 HB8
  go_wp2
  go_ret
  exact ⟨rfl, HB9.out⟩
theorem chanceAccepts_walk (a b c : Int) (ao : Option Addr) (L : List Q) (cap : Nat) (p0 p1 p2 p3 p4 l x y : Int) (w : World) (_ : L.length ≤ maxLen) (hm : LiesO w ao L) (hst : StA w) : Calls Tryd.prog 4 #[.agg #[.int .i64 a, .int .i64 b, .int .i64 c, .slice ao L.length cap], .agg #[.int .i64 p0, .int .i64 p1, .int .i64 p2, .int .i64 p3, .int .i64 p4], .agg #[.int .i64 l, .int .i64 x, .int .i64 y]] w fun e w' => e = .returned (.bool true) ∧ Below w.heap.size w w' := by
  by_cases h : 200 < L.length
  · exact cAc_l a b c p0 p1 p2 p3 p4 l x y ao cap L w h
  obtain ⟨r, hr⟩ := clR_ex a b c L [p0, p1, p2, p3, p4] l
  by_cases z : r = 0
  · subst z
    obtain ⟨hF, hWO, l0, l1, l2⟩ := clR_ok hr
    have hL48 := hF.le
    have hWL := WL_of hF hWO l0 l1
    have hA := R24.of hWL.n
    obtain ⟨bl, off, rfl, m1⟩ := lies_of5 hm (by omega)
    have lof : ∀ W : World, LiesO W (some ⟨bl, off, none⟩) L → Lies W bl off L := fun W h => by
      obtain ⟨b1, o1, e, m⟩ := lies_of5 h (by omega)
      simp only [Option.some.injEq, Addr.mk.injEq, and_true] at e
      rw [e.1, e.2]
      exact m
    have cw := fun (W : World) (k1 : LiesO W (some ⟨bl, off, none⟩) L) (k2 : StA W) => (show Calls Tryd.prog 8 #[.agg #[.int .i64 a, .int .i64 b, .int .i64 c, .slice (some ⟨bl, off, none⟩) L.length cap], .agg #[.int .i64 p0, .int .i64 p1, .int .i64 p2, .int .i64 p3, .int .i64 p4], .int .i64 l] W fun e w' => e = .returned (.tuple #[.agg ((wsK a b c L [p0, p1, p2, p3, p4] l (thr a b c l) 24).map vi).toArray, .int .i64 0]) ∧ Below W.heap.size W w' from weights_ok a b c p0 p1 p2 p3 p4 l bl off cap L W (lof W k1) hr k2 (by omega))
    have hget := fun (k : Nat) (hk : k < 24) => (show ((wsK a b c L [p0, p1, p2, p3, p4] l (thr a b c l) 24).map vi).toArray[k]? = some (Value.int .i64 (wprod a b c L [p0, p1, p2, p3, p4] l (small (k : Int)) (thr a b c l))) from by rw [List.getElem?_toArray, List.getElem?_map, wsK_get a b c l L [p0, p1, p2, p3, p4] (thr a b c l) k hk]; rfl)
    obtain ⟨n, rfl⟩ := Int.eq_ofNat_of_zero_le l0
    have hn : n < L.length := by omega
    obtain ⟨j, hj, hlk0⟩ := hF.s L[n] (List.getElem_mem hn)
    have hlk : L[n]? = some (small (j : Int)) := by rw [List.getElem?_eq_getElem hn, hlk0]
    have cl := fun (W : World) (k1 : Lies W bl off L) => checkLink_any a b c p0 p1 p2 p3 p4 n 0 (some ⟨bl, off, none⟩) cap L W (.inr ⟨bl, off, rfl, k1⟩) hr (by omega)
    by_cases hx : 0 ≤ x ∧ x < 24
    · obtain ⟨t, rfl⟩ := Int.eq_ofNat_of_zero_le hx.1
      obtain ⟨m, hm24, hmul⟩ := smul_all t (by omega) j hj
      have cP := fun (W : World) (k1 : Lies W bl off L) (k2 : StA W) => proposal_ok a b c p0 p1 p2 p3 p4 n t bl off cap t j m n L W k1 k2 hF hWO rfl hn rfl (by omega) hj hlk hm24 hmul
      have wb := wg_of hF hWO l0 l1 j hj
      have wa := wg_of hF hWO l0 l1 m hm24
      have hgj := hget j hj
      have hgm := hget m hm24
      have hTl : (L.set n (small (m : Int))).length = L.length := List.length_set
      have hTn : (L.set n (small (m : Int)))[n]? = some (small (m : Int)) := by rw [List.getElem?_set_self hn]
      generalize wprod a b c L [p0, p1, p2, p3, p4] n (small (j : Int)) (thr a b c n) = be at *
      generalize wprod a b c L [p0, p1, p2, p3, p4] n (small (m : Int)) (thr a b c n) = af at *
      have yes := fun (d : Int) (h0 : 0 ≤ d) (h1 : d < be) (h2 : d < af) (W : World) (k1 : LiesO W (some ⟨bl, off, none⟩) L) (k2 : StA W) => (met_yes a b c p0 p1 p2 p3 p4 n t d be af bl off cap n (small (m : Int)) L W (lof W k1) k2 hx rfl hn (by omega) (by omega) (by omega) h2 cl cP).mono fun e w' h => (show (∃ g gk : Nat, e = Ending.returned (.tuple #[.agg #[.int .i64 a, .int .i64 b, .int .i64 c, .slice (some ⟨g, 0, none⟩) L.length gk], .bool true, .int .i64 0]) ∧ Lies w' g 0 (L.set n (small (m : Int)))) ∧ Below W.heap.size W w' from by
        obtain ⟨⟨g1, gk, he, hl, -⟩, hb⟩ := h
        exact ⟨⟨g1, gk, he, hl.h⟩, hb⟩)
      have wb1 := wb.1
      have wa1 := wa.1
      by_cases hc : af < be
      · refine cAc_n a b c p0 p1 p2 p3 p4 n t y be af af n j m (some ⟨bl, off, none⟩) cap L w _ (L.set n (small (m : Int))) _ _ hA rfl hn hTl hlk hTn hj hm24 hgj hgm wb wa rfl hc (by omega) hm hst cw (yes 0 (by omega) (by omega) (by omega)) (yes (af - 1) (by omega) (by omega) (by omega)) ?_ (fun W => number5_any j hj W) (fun W => number5_any m hm24 W)
        intro W k1 k2
        refine (met_no a b c p0 p1 p2 p3 p4 n t af be af bl off cap n (small (m : Int)) L W (lof W k1) k2 hx rfl hn (by omega) (by omega) (by omega) (by omega) cl cP).mono ?_
        rintro e w' ⟨⟨g1, gk, he, hl, -⟩, hb⟩
        exact ⟨⟨g1, gk, he, hl.h⟩, hb⟩
      · exact cAc_o a b c p0 p1 p2 p3 p4 n t y be af be n j m (some ⟨bl, off, none⟩) cap L w _ (L.set n (small (m : Int))) _ _ hA rfl hn hTl hlk hTn hj hm24 hgj hgm wb wa rfl (by omega) (by omega) hm hst cw (yes 0 (by omega) (by omega) (by omega)) (yes (be - 1) (by omega) (by omega) (by omega)) (fun W k1 k2 => met_big a b c p0 p1 p2 p3 p4 n t be be af bl off cap (small (m : Int)) L W (lof W k1) k2 hx (by omega) (by omega) cl cP) (fun W => number5_any j hj W) (fun W => number5_any m hm24 W)
    · exact cAc_h a b c p0 p1 p2 p3 p4 n x y 1 (some ⟨bl, off, none⟩) cap L w _ hA (by omega) hm hst (by decide) cw (fun W k1 _ => met_turn a b c p0 p1 p2 p3 p4 n x 0 (some ⟨bl, off, none⟩) cap L W k1 hx (fun W k1 => checkLink_any a b c p0 p1 p2 p3 p4 n 0 (some ⟨bl, off, none⟩) cap L W k1 hr (by omega)))
  · exact cAc_e a b c p0 p1 p2 p3 p4 l x y r ao cap L w _ R24.z (by omega) hm hst z (fun W k1 _ => weights_bad a b c p0 p1 p2 p3 p4 l r ao cap L W k1 hr z (by omega)) (fun W k1 _ => met_bad a b c p0 p1 p2 p3 p4 l x 0 r ao cap L W k1 z (fun W k1 => checkLink_any a b c p0 p1 p2 p3 p4 l r ao cap L W k1 hr (by omega)))

/-! ### The statement of the law ChanceAccepts, out of its walk -/
set_option maxRecDepth 100000 in
theorem chanceAccepts_lifted (os : Os) (started : os.Started) (H : Type) (enc : TypeId × Value → H) :
    ReturnsInHanded {} Tryd.checked os 4 .any (fun w args => (Rows.chanceAcceptsSpec.pre enc Tryd.prog Tryd.f4 [] false w args ∧ laidMetH Tryd.prog Rows.chanceAcceptsRow.laid w) ∧ sizedMet enc Tryd.prog Tryd.f4 (OpenSpec.ofChange Rows.chanceAcceptsSpec) false w args) (Rows.chanceAcceptsSpec.post enc Tryd.prog Tryd.f4 false true false false) := by
  refine returnsInHanded_of_change_and (C := Tryd.checked) (X := fun w _ => laidMetH Tryd.prog Rows.chanceAcceptsRow.laid w) (fun _ _ _ hh h => h.of_heap hh) own started (by kernel_rfl) Tryd.func4
    (ChangeSpec.witness_shaped (enc := enc) (C := Tryd.checked) (os := os) (X := fun w _ => laidMetH Tryd.prog Rows.chanceAcceptsRow.laid w) false (World.doorLaid Tryd.prog 17 os) #[.agg #[.int .i64 0, .int .i64 0, .int .i64 0, .slice none 0 0], .agg #[.int .i64 0, .int .i64 0, .int .i64 0, .int .i64 0, .int .i64 0], .agg #[.int .i64 0, .int .i64 0, .int .i64 0]] 8 rfl (World.shaped_of_RefB (by kernel_rfl) (by kernel_rfl)) (by kernel_rfl) (by kernel_rfl) (by kernel_rfl) (laidMetH_of_parts3 (fuel := 8) (laidMet_of_run' 8 (by kernel_rfl) (by kernel_rfl)) (by kernel_rfl) (by kernel_rfl))) ?_
  intro W base args ds gs before hval0 hW _ _ hL _
  have hval : ∀ (j : Nat) t v, Tryd.f4.params[j]? = some t → args[j]? = some v → Value.okWide Tryd.prog W .any base t v := hval0
  have hW' := hW
  obtain ⟨p, q, hA0, hV, rfl, hfz, hnd⟩ := hW
  have hA : DataW.TrodAll enc Tryd.prog W 0 (fun _ => true) true Tryd.f4.params.toList args.toList ds p := hA0
  rw [Tryd.params4] at hA hval
  obtain ⟨v0, vs0, d0, ds0, p0, q0, hargs, rfl, rfl, h0, r0⟩ := trodAll_cons hA
  obtain ⟨v1, vs1, d1, ds1, p1, q1, rfl, rfl, rfl, h1, r1⟩ := trodAll_cons r0
  obtain ⟨v2, vs2, d2, ds2, p2, q2, rfl, rfl, rfl, h2, r2⟩ := trodAll_cons r1
  obtain ⟨rfl, rfl, rfl⟩ := trodAll_nil r2
  obtain rfl : args = #[v0, v1, v2] := by cases args; simp_all
  obtain ⟨rfl, rfl⟩ := trodVars_none hV
  have k0 := h0
  have lt0 : ∀ x ∈ p0, x.block < W.heap.size := by obtain ⟨m, hm⟩ := k0; exact DataW.trod_lt m _ _ _ hm
  obtain ⟨x0, y0, z0, ao0, L0, cap0, rfl, hl0, hm0⟩ := open_field (hval 0 25 v0 rfl rfl) h0
  have k1 := h1
  have lt1 : ∀ x ∈ p1, x.block < W.heap.size := by obtain ⟨m, hm⟩ := k1; exact DataW.trod_lt m _ _ _ hm
  obtain ⟨x1, y1, z1, u1, v1, rfl⟩ := open_w5 (hval 1 26 v1 rfl rfl) h1
  have k2 := h2
  have lt2 : ∀ x ∈ p2, x.block < W.heap.size := by obtain ⟨m, hm⟩ := k2; exact DataW.trod_lt m _ _ _ hm
  obtain ⟨x2, y2, z2, rfl⟩ := open_at5 (hval 2 28 v2 rfl rfl) h2
  clear hA0 hval0
  refine (chanceAccepts_walk x0 y0 z0 ao0 L0 cap0 x1 y1 z1 u1 v1 x2 y2 z2 W hl0 hm0 (sta_of_laid hL)).mono fun e W' ⟨he, bel⟩ => ?_
  subst he
  exact ⟨_, rfl, _, _, _, [], _, [], hW', trodAll_mk1 (shut_bool Tryd.underlying4 _), (trodAll_cons_mk (Below.trod laidOut (by kernel_rfl) (of_decide_eq_true (by kernel_rfl)) k0 bel lt0) (trodAll_cons_mk (Below.trod laidOut (by kernel_rfl) (of_decide_eq_true (by kernel_rfl)) k1 bel lt1) (trodAll_cons_mk (Below.trod laidOut (by kernel_rfl) (of_decide_eq_true (by kernel_rfl)) k2 bel lt2) trodAll_mk0))), rfl, bel.frame _, fun h => by cases h⟩

theorem chanceAccepts_jf9 : (Rows.chanceAcceptsRow.inPlace == Tryd.prog.inPlace 4) = true := by kernel_rfl
theorem chanceAccepts_jf10 : (Rows.chanceAcceptsRow.unfollowed == Tryd.prog.unfollowed 4) = true := by kernel_rfl
theorem chanceAccepts_jf11 : (Rows.chanceAcceptsRow.recurses == Tryd.prog.recurses 4) = true := by kernel_rfl
theorem chanceAccepts_jf12 : (Rows.chanceAcceptsRow.named == Tryd.prog.varsNamed 4) = true := by kernel_rfl
theorem chanceAccepts_facts : joinedFacts Tryd.prog 4 Tryd.f4 Rows.chanceAcceptsSpec Rows.chanceAcceptsRow = true := by
  unfold joinedFacts
  exact (band (band (band (band (band (band (band (band (band (band (band (band (band (band (band (band (band (band (band (band (band (band (band (band (band (band (band (band (band (band (band (by kernel_rfl) jf1) jf2) (by kernel_rfl)) (by kernel_rfl)) (by kernel_rfl)) jf6) (by kernel_rfl)) jf8) chanceAccepts_jf9) chanceAccepts_jf10) chanceAccepts_jf11) chanceAccepts_jf12) (by kernel_rfl)) (by kernel_rfl)) (by kernel_rfl)) (by kernel_rfl)) (by kernel_rfl)) (by kernel_rfl)) (by kernel_rfl)) (by kernel_rfl)) (by kernel_rfl)) (by kernel_rfl)) (by kernel_rfl)) jf24) jf25) jf26) jf27) (by kernel_rfl)) (by kernel_rfl)) (by kernel_rfl)) (by kernel_rfl))

theorem chanceAccepts_over : Rows.chanceAcceptsRow.holds Tryd.pinned (OpenSpec.ofChange Rows.chanceAcceptsSpec) :=
  OpenClaim.holds_of_wide 4 Tryd.f4 rfl rfl rfl rfl rfl rfl rfl ⟨rfl, rfl, rfl, rfl, rfl⟩ rfl rfl rfl rfl rfl (by kernel_rfl) Tryd.func4 chanceAccepts_facts
    (of_decide_eq_true (by kernel_rfl)) (by unfold Func.isWrapper; first | (rw [if_pos (by decide +kernel)]; kernel_rfl) | (rw [if_neg (by decide +kernel)]; exact ⟨rfl, rfl⟩))
    (fun os started H enc _ => chanceAccepts_lifted os started H enc)

theorem chanceAccepts_holds : Rows.ChanceAcceptsCardSaid :=
  Claim7.holds_tied_plain_at .later [] [.data] true (true, "22f369b873d3a3abcda89454df114d73cb1cea4360767ef223a563f8370e5008") false
    chanceAccepts_over (fun _ h => by cases h) (by kernel_rfl) (fun _ h => by cases h) chanceAccepts_row_tie rfl ⟨rfl, rfl⟩ (by kernel_rfl) rfl
    (fun f fn hf hfn => by
      obtain rfl : f = 4 := Option.some.inj ((show Tryd.prog.funcNamed "plaquette/plaquettelaw05.ChanceAccepts" = some 4 by kernel_rfl).symm.trans hf) |>.symm
      obtain rfl : fn = Tryd.f4 := (Option.some.inj (Tryd.func4.symm.trans hfn)).symm
      exact ⟨by kernel_rfl, fun j t ht => by
        rw [Tryd.params4] at ht
        have hm : t ∈ [25, 26, 28] := by simpa using Array.mem_of_getElem? ht
        have hall : ([25, 26, 28].all fun u => !Tryd.prog.wantsStandIn u) = true := by kernel_rfl
        exact (show Tryd.prog.wantsStandIn t = false by simpa using List.all_eq_true.1 hall t hm)⟩)
    (by kernel_rfl)
#print axioms chanceAccepts_holds

end Go.Proofs.YtpfhjdmgkckjfaaDoor
