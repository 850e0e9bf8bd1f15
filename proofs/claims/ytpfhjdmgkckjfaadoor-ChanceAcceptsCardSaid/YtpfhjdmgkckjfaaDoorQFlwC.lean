/- Flow: how many draws lead to a value, on both sides.
Conditions: those written at each theorem. -/
import Derived.Test.YtpfhjdmgkckjfaaDoorQAryC
import Derived.Test.YtpfhjdmgkckjfaaDoorQRwsC
namespace Go.Proofs.YtpfhjdmgkckjfaaDoor
set_option linter.unusedVariables false
set_option linter.unusedSimpArgs false
set_option maxRecDepth 1000000
open Go.RowKit
open Um Tm Cm

/-- a flow and its error -/
def fwR (A : Array Value) (x y r v q : Int) : Prop := (r ≠ 0 ∧ v = 0 ∧ q = r) ∨ (r = 0 ∧ ¬ ((0 ≤ x ∧ x < 24) ∧ 0 ≤ y ∧ y < 24) ∧ v = 0 ∧ q = 1) ∨ (r = 0 ∧ ((0 ≤ x ∧ x < 24) ∧ 0 ≤ y ∧ y < 24) ∧ A[y.toNat]? = some (.int .i64 v) ∧ q = 0)
set_option maxHeartbeats 3200000 in
theorem flow_bad (a b c p0 p1 p2 p3 p4 l x y r : Int) (ao : Option Addr) (cap : Nat) (L : List Q) (w : World) (hm : LiesO w ao L) (hst : StA w) (A : Array Value) (hA : R24 A)
    (hr : r ≠ 0)
    (c1 : ∀ W : World, LiesO W ao L → StA W → Calls Tryd.prog 8 #[.agg #[.int .i64 a, .int .i64 b, .int .i64 c, .slice ao L.length cap], .agg #[.int .i64 p0, .int .i64 p1, .int .i64 p2, .int .i64 p3, .int .i64 p4], .int .i64 l] W fun e w' => e = .returned (.tuple #[.agg A, .int .i64 r]) ∧ Below W.heap.size W w') : Calls Tryd.prog 9 #[.agg #[.int .i64 a, .int .i64 b, .int .i64 c, .slice ao L.length cap], .agg #[.int .i64 p0, .int .i64 p1, .int .i64 p2, .int .i64 p3, .int .i64 p4], .int .i64 l, .int .i64 x, .int .i64 y] w fun e w' => e = .returned (.tuple #[.int .i64 0, .int .i64 r]) ∧ Below w.heap.size w w' := by
  have h0' : (r != 0) = true := by simpa using hr
  have h0'' : (r == 0) = false := by simpa using hr
  have H0 := Lib.hid hm
  have S0 := Lib.hid hst
  have SZ := Lib.hid hA.sz
  have OL := Lib.hid hA.ol
  have ON := Lib.hid hA.one
  clear hm hst hA
  clear hr
  go_enter Tryd.func9, Tryd.ntmps9
  go_wp2_with (fail)
  refine (c1 _ (H0.out.later ba2) (S0.out.later ba2)).mono ?_
  rintro e w1 ⟨rfl, hw1⟩
  have bw1 : Below w.heap.size w w1 := bel2 hw1
  have F1 := Lib.hid (FW.n2a.later hw1)
  have E1 := Lib.hid (C5.n2b.later hw1)
  have H1 := Lib.hid (H0.out.later bw1)
  have S1 := Lib.hid (S0.out.later bw1)
  have HB1 := Lib.hid bw1
  clear hw1 bw1 H0 S0
  have tz := Lib.hid (ABx.news (w := w1) (T := 31) #[.int .i64 0, .int .i64 0, .int .i64 0, .int .i64 0, .int .i64 0, .int .i64 0, .int .i64 0, .int .i64 0, .int .i64 0, .int .i64 0, .int .i64 0, .int .i64 0, .int .i64 0, .int .i64 0, .int .i64 0, .int .i64 0, .int .i64 0, .int .i64 0, .int .i64 0, .int .i64 0, .int .i64 0, .int .i64 0, .int .i64 0, .int .i64 0])
  have Ax := Lib.hid (r24_new w1 A)
  have Bx := Lib.hid (HB1.out.trans ((r24_below w1 A).mono HB1.out.size))
  clear F1 E1 H1 S1 HB1 c1
  go_wp2_with (refine wpList_store_row rfl 31 (.tmp 12) (.tmp 19) rfl w1.heap.size A rfl rfl 31 _ tz.out.h SZ.out OL.out ON.out ?_)
  go_ret2
  exact ⟨rfl, Bx.out⟩
set_option maxHeartbeats 3200000 in
theorem flow_a (a b c p0 p1 p2 p3 p4 l x y : Int) (ao : Option Addr) (cap : Nat) (L : List Q) (w : World) (hm : LiesO w ao L) (hst : StA w) (A : Array Value) (hA : R24 A)
    (hx : ¬ (0 ≤ x ∧ x < 24))
    (c1 : ∀ W : World, LiesO W ao L → StA W → Calls Tryd.prog 8 #[.agg #[.int .i64 a, .int .i64 b, .int .i64 c, .slice ao L.length cap], .agg #[.int .i64 p0, .int .i64 p1, .int .i64 p2, .int .i64 p3, .int .i64 p4], .int .i64 l] W fun e w' => e = .returned (.tuple #[.agg A, .int .i64 0]) ∧ Below W.heap.size W w') : Calls Tryd.prog 9 #[.agg #[.int .i64 a, .int .i64 b, .int .i64 c, .slice ao L.length cap], .agg #[.int .i64 p0, .int .i64 p1, .int .i64 p2, .int .i64 p3, .int .i64 p4], .int .i64 l, .int .i64 x, .int .i64 y] w fun e w' => e = .returned (.tuple #[.int .i64 0, .int .i64 1]) ∧ Below w.heap.size w w' := by
  have H0 := Lib.hid hm
  have S0 := Lib.hid hst
  have SZ := Lib.hid hA.sz
  have OL := Lib.hid hA.ol
  have ON := Lib.hid hA.one
  clear hm hst hA
  have k1 := fun W => isVal_any x false W (.inr ⟨hx, rfl⟩)
  clear hx
  go_enter Tryd.func9, Tryd.ntmps9
  go_wp2_with (fail)
  refine (c1 _ (H0.out.later ba2) (S0.out.later ba2)).mono ?_
  rintro e w1 ⟨rfl, hw1⟩
  have bw1 : Below w.heap.size w w1 := bel2 hw1
  have F1 := Lib.hid (FW.n2a.later hw1)
  have E1 := Lib.hid (C5.n2b.later hw1)
  have H1 := Lib.hid (H0.out.later bw1)
  have S1 := Lib.hid (S0.out.later bw1)
  have HB1 := Lib.hid bw1
  clear hw1 bw1 H0 S0
  have tz := Lib.hid (ABx.news (w := w1) (T := 31) #[.int .i64 0, .int .i64 0, .int .i64 0, .int .i64 0, .int .i64 0, .int .i64 0, .int .i64 0, .int .i64 0, .int .i64 0, .int .i64 0, .int .i64 0, .int .i64 0, .int .i64 0, .int .i64 0, .int .i64 0, .int .i64 0, .int .i64 0, .int .i64 0, .int .i64 0, .int .i64 0, .int .i64 0, .int .i64 0, .int .i64 0, .int .i64 0])
  have Ax := Lib.hid (r24_new w1 A)
  have Bx := Lib.hid (HB1.out.trans ((r24_below w1 A).mono HB1.out.size))
  clear F1 E1 H1 S1 HB1 c1
  go_wp2_with (first | (refine wpList_store_row rfl 31 (.tmp 12) (.tmp 19) rfl w1.heap.size A rfl rfl 31 _ tz.out.h SZ.out OL.out ON.out ?_) | ((with_reducible refine (k1 _).mono ?_); rintro e w2 ⟨rfl, hw2⟩))
  go_ret2
  exact ⟨rfl, Bx.out.trans (hw2.mono Bx.out.size)⟩
set_option maxHeartbeats 3200000 in
theorem flow_b (a b c p0 p1 p2 p3 p4 l x y : Int) (ao : Option Addr) (cap : Nat) (L : List Q) (w : World) (hm : LiesO w ao L) (hst : StA w) (A : Array Value) (hA : R24 A)
    (hx : 0 ≤ x ∧ x < 24) (hy : ¬ (0 ≤ y ∧ y < 24))
    (c1 : ∀ W : World, LiesO W ao L → StA W → Calls Tryd.prog 8 #[.agg #[.int .i64 a, .int .i64 b, .int .i64 c, .slice ao L.length cap], .agg #[.int .i64 p0, .int .i64 p1, .int .i64 p2, .int .i64 p3, .int .i64 p4], .int .i64 l] W fun e w' => e = .returned (.tuple #[.agg A, .int .i64 0]) ∧ Below W.heap.size W w') : Calls Tryd.prog 9 #[.agg #[.int .i64 a, .int .i64 b, .int .i64 c, .slice ao L.length cap], .agg #[.int .i64 p0, .int .i64 p1, .int .i64 p2, .int .i64 p3, .int .i64 p4], .int .i64 l, .int .i64 x, .int .i64 y] w fun e w' => e = .returned (.tuple #[.int .i64 0, .int .i64 1]) ∧ Below w.heap.size w w' := by
  have H0 := Lib.hid hm
  have S0 := Lib.hid hst
  have SZ := Lib.hid hA.sz
  have OL := Lib.hid hA.ol
  have ON := Lib.hid hA.one
  clear hm hst hA
  have k1 := fun W => isVal_any x true W (.inl ⟨hx.1, hx.2, rfl⟩)
  have k2 := fun W => isVal_any y false W (.inr ⟨hy, rfl⟩)
  clear hx hy
  go_enter Tryd.func9, Tryd.ntmps9
  go_wp2_with (fail)
  refine (c1 _ (H0.out.later ba2) (S0.out.later ba2)).mono ?_
  rintro e w1 ⟨rfl, hw1⟩
  have bw1 : Below w.heap.size w w1 := bel2 hw1
  have F1 := Lib.hid (FW.n2a.later hw1)
  have E1 := Lib.hid (C5.n2b.later hw1)
  have H1 := Lib.hid (H0.out.later bw1)
  have S1 := Lib.hid (S0.out.later bw1)
  have HB1 := Lib.hid bw1
  clear hw1 bw1 H0 S0
  have tz := Lib.hid (ABx.news (w := w1) (T := 31) #[.int .i64 0, .int .i64 0, .int .i64 0, .int .i64 0, .int .i64 0, .int .i64 0, .int .i64 0, .int .i64 0, .int .i64 0, .int .i64 0, .int .i64 0, .int .i64 0, .int .i64 0, .int .i64 0, .int .i64 0, .int .i64 0, .int .i64 0, .int .i64 0, .int .i64 0, .int .i64 0, .int .i64 0, .int .i64 0, .int .i64 0, .int .i64 0])
  have Ax := Lib.hid (r24_new w1 A)
  have Bx := Lib.hid (HB1.out.trans ((r24_below w1 A).mono HB1.out.size))
  clear F1 E1 H1 S1 HB1 c1
  go_wp2_with (first | (refine wpList_store_row rfl 31 (.tmp 12) (.tmp 19) rfl w1.heap.size A rfl rfl 31 _ tz.out.h SZ.out OL.out ON.out ?_) | ((with_reducible refine (k1 _).mono ?_); rintro e w2 ⟨rfl, hw2⟩; clear k1) | ((with_reducible refine (k2 _).mono ?_); rintro e w3 ⟨rfl, hw3⟩))
  go_ret2
  have b2 := Bx.out.trans (hw2.mono Bx.out.size)
  exact ⟨rfl, b2.trans (hw3.mono b2.size)⟩
set_option maxHeartbeats 3200000 in
theorem flow_c (a b c p0 p1 p2 p3 p4 l x y v : Int) (ao : Option Addr) (cap : Nat) (L : List Q) (w : World) (hm : LiesO w ao L) (hst : StA w) (A : Array Value) (hA : R24 A)
    (hx : 0 ≤ x ∧ x < 24) (hy : 0 ≤ y ∧ y < 24) (hv : A[y.toNat]? = some (.int .i64 v))
    (c1 : ∀ W : World, LiesO W ao L → StA W → Calls Tryd.prog 8 #[.agg #[.int .i64 a, .int .i64 b, .int .i64 c, .slice ao L.length cap], .agg #[.int .i64 p0, .int .i64 p1, .int .i64 p2, .int .i64 p3, .int .i64 p4], .int .i64 l] W fun e w' => e = .returned (.tuple #[.agg A, .int .i64 0]) ∧ Below W.heap.size W w') : Calls Tryd.prog 9 #[.agg #[.int .i64 a, .int .i64 b, .int .i64 c, .slice ao L.length cap], .agg #[.int .i64 p0, .int .i64 p1, .int .i64 p2, .int .i64 p3, .int .i64 p4], .int .i64 l, .int .i64 x, .int .i64 y] w fun e w' => e = .returned (.tuple #[.int .i64 v, .int .i64 0]) ∧ Below w.heap.size w w' := by
  have H0 := Lib.hid hm
  have S0 := Lib.hid hst
  have SZ := Lib.hid hA.sz
  have OL := Lib.hid hA.ol
  have ON := Lib.hid hA.one
  clear hm hst hA
  have k1 := fun W => isVal_any x true W (.inl ⟨hx.1, hx.2, rfl⟩)
  obtain ⟨y0, y1⟩ := hy
  obtain ⟨n, rfl⟩ := Int.eq_ofNat_of_zero_le y0
  have k2 := fun W => isVal_any n true W (.inl ⟨y0, y1, rfl⟩)
  rw [Int.toNat_natCast] at hv
  have HV := Lib.hid hv
  clear hx hv
  go_enter Tryd.func9, Tryd.ntmps9
  go_wp2_with (fail)
  refine (c1 _ (H0.out.later ba2) (S0.out.later ba2)).mono ?_
  rintro e w1 ⟨rfl, hw1⟩
  have bw1 : Below w.heap.size w w1 := bel2 hw1
  have F1 := Lib.hid (FW.n2a.later hw1)
  have E1 := Lib.hid (C5.n2b.later hw1)
  have H1 := Lib.hid (H0.out.later bw1)
  have S1 := Lib.hid (S0.out.later bw1)
  have HB1 := Lib.hid bw1
  clear hw1 bw1 H0 S0
  have tz := Lib.hid (ABx.news (w := w1) (T := 31) #[.int .i64 0, .int .i64 0, .int .i64 0, .int .i64 0, .int .i64 0, .int .i64 0, .int .i64 0, .int .i64 0, .int .i64 0, .int .i64 0, .int .i64 0, .int .i64 0, .int .i64 0, .int .i64 0, .int .i64 0, .int .i64 0, .int .i64 0, .int .i64 0, .int .i64 0, .int .i64 0, .int .i64 0, .int .i64 0, .int .i64 0, .int .i64 0])
  have Ax := Lib.hid (r24_new w1 A)
  have Bx := Lib.hid (HB1.out.trans ((r24_below w1 A).mono HB1.out.size))
  clear F1 E1 H1 S1 HB1 c1
  go_wp2_with (first | (refine wpList_store_row rfl 31 (.tmp 12) (.tmp 19) rfl w1.heap.size A rfl rfl 31 _ tz.out.h SZ.out OL.out ON.out ?_) | ((with_reducible refine (k1 _).mono ?_); rintro e w2 ⟨rfl, hw2⟩; clear k1) | ((with_reducible refine (k2 _).mono ?_); rintro e w3 ⟨rfl, hw3⟩; clear k2; have g3 := r24_cell (r24_later (r24_later Ax.out hw2) hw3) HV.out))
  go_ret2
  have b2 := Bx.out.trans (hw2.mono Bx.out.size)
  exact ⟨rfl, b2.trans (hw3.mono b2.size)⟩
theorem flow_any (a b c p0 p1 p2 p3 p4 l x y r v q : Int) (ao : Option Addr) (cap : Nat) (L : List Q) (w : World) (hm : LiesO w ao L) (hst : StA w) (A : Array Value) (hA : R24 A) (h : fwR A x y r v q)
    (c1 : ∀ W : World, LiesO W ao L → StA W → Calls Tryd.prog 8 #[.agg #[.int .i64 a, .int .i64 b, .int .i64 c, .slice ao L.length cap], .agg #[.int .i64 p0, .int .i64 p1, .int .i64 p2, .int .i64 p3, .int .i64 p4], .int .i64 l] W fun e w' => e = .returned (.tuple #[.agg A, .int .i64 r]) ∧ Below W.heap.size W w') : Calls Tryd.prog 9 #[.agg #[.int .i64 a, .int .i64 b, .int .i64 c, .slice ao L.length cap], .agg #[.int .i64 p0, .int .i64 p1, .int .i64 p2, .int .i64 p3, .int .i64 p4], .int .i64 l, .int .i64 x, .int .i64 y] w fun e w' => e = .returned (.tuple #[.int .i64 v, .int .i64 q]) ∧ Below w.heap.size w w' := by
  rcases h with ⟨h, rfl, rfl⟩ | ⟨rfl, h, rfl, rfl⟩ | ⟨rfl, ⟨hx, hy⟩, hv, rfl⟩
  · exact flow_bad a b c p0 p1 p2 p3 p4 l x y q ao cap L w hm hst A hA h c1
  · by_cases hx : 0 ≤ x ∧ x < 24
    · exact flow_b a b c p0 p1 p2 p3 p4 l x y ao cap L w hm hst A hA hx (fun hy => h ⟨hx, hy⟩) c1
    · exact flow_a a b c p0 p1 p2 p3 p4 l x y ao cap L w hm hst A hA hx c1
  · exact flow_c a b c p0 p1 p2 p3 p4 l x y v ao cap L w hm hst A hA hx hy hv c1
end Go.Proofs.YtpfhjdmgkckjfaaDoor
