/- TopResiduals: solutions that are accepted are near by their residuals, in a field and in the one that is transformed from it, for all fields, lists of units and sources.
Conditions: none. -/
import Derived.Test.YtojmagooapjohaaSolB
import Derived.Test.YtojmagooapjohaaCvM
import Derived.Test.YtojmagooapjohaaBdC
import Derived.Test.YtojmagooapjohaaLngC
import Derived.Test.YtojmagooapjohaaOpenS
import Derived.Test.YtojmagooapjohaaGsC
import Derived.Test.YtojmagooapjohaaFcA
import Derived.Test.YtojmagooapjohaaJFacts
namespace Go.Proofs.Ytojmagooapjohaa
set_option linter.unusedVariables false
set_option linter.unusedSimpArgs false
set_option maxRecDepth 1000000
open Go.ChangeShapes Go.WideShapes Go.ChangeAt Go.RowKit
open Um Tm Fm

set_option maxHeartbeats 3200000 in
theorem tRe_long (a b c : Int) (ao uo po : Option Addr) (L U : List Q) (M : List Sp) (cap uc pc : Nat) (w : World) (hn : 100 < M.length ∨ 200 < L.length) : Calls Try.prog 8 #[.agg #[.int .i64 a, .int .i64 b, .int .i64 c, .slice ao L.length cap], .slice uo U.length uc, .slice po M.length pc] w fun e w' => e = .returned (.bool true) ∧ Below w.heap.size w w' := by
  have ca := fun W : World => allowed_any 1 1 1 1 1600 0 W (.inr (.inr ⟨⟨by decide, by decide, by decide, by decide, by decide, by decide, by decide⟩, ⟨by decide, by decide⟩, by decide, rfl⟩))
  have lg := fun (W : World) (sb : Nat) (h1 : W.cell? ⟨sb, 0, none⟩ = some (.slice po M.length pc)) => long71_any a b c ao po cap pc L.length M.length sb true W h1 (.inr ⟨hn, rfl⟩)
  have WB0 := Lib.hid (Below.refl w.heap.size w)
  go_enter Try.func8, Try.ntmps8
  go_wp2_with ((with_reducible refine (ca _).mono ?_); clear ca; rintro e w1 ⟨rfl, hw1⟩; have hc1 := Tail.cells hw1; have s1 := hw1.size; (try simp at s1); (try have z1_w : w.heap.size < w1.heap.size := (by omega)); clear s1; have bw : Below w.heap.size w w1 := (bel1 hw1); have WB1 := Lib.hid (WB0.out.trans (bw.mono WB0.out.size)); clear bw hw1 WB0)
  go_wp2_with ((with_reducible refine (lg _ _ (by simp [go_sem])).mono ?_); clear lg; rintro e w2 ⟨rfl, hw2⟩; have hc2 := Tail.cells hw2; have s2 := hw2.size; (try simp at s2); (try have z2_w : w.heap.size < w2.heap.size := (by omega)); clear s2; have bw : Below w1.heap.size w1 w2 := (bel1 hw2); have WB2 := Lib.hid (WB1.out.trans (bw.mono WB1.out.size)); clear bw hw2 WB1)
  go_ret
  exact ⟨rfl, WB2.out⟩
set_option maxHeartbeats 3200000 in
theorem tRe_many (a b c : Int) (ao uo po : Option Addr) (L U : List Q) (M : List Sp) (cap uc pc : Nat) (w : World) (hn : ¬ (100 < M.length ∨ 200 < L.length)) (hu : 100 < U.length) : Calls Try.prog 8 #[.agg #[.int .i64 a, .int .i64 b, .int .i64 c, .slice ao L.length cap], .slice uo U.length uc, .slice po M.length pc] w fun e w' => e = .returned (.bool true) ∧ Below w.heap.size w w' := by
  have ca := fun W : World => allowed_any 1 1 1 1 1600 0 W (.inr (.inr ⟨⟨by decide, by decide, by decide, by decide, by decide, by decide, by decide⟩, ⟨by decide, by decide⟩, by decide, rfl⟩))
  have lg := fun (W : World) (sb : Nat) (h1 : W.cell? ⟨sb, 0, none⟩ = some (.slice po M.length pc)) => long71_any a b c ao po cap pc L.length M.length sb false W h1 (.inl ⟨by omega, by omega, rfl⟩)
  have i1 : (U.length : Int) > 100 := by omega
  have WB0 := Lib.hid (Below.refl w.heap.size w)
  go_enter Try.func8, Try.ntmps8
  go_wp2_with ((with_reducible refine (ca _).mono ?_); clear ca; rintro e w1 ⟨rfl, hw1⟩; have hc1 := Tail.cells hw1; have s1 := hw1.size; (try simp at s1); (try have z1_w : w.heap.size < w1.heap.size := (by omega)); clear s1; have bw : Below w.heap.size w w1 := (bel1 hw1); have WB1 := Lib.hid (WB0.out.trans (bw.mono WB0.out.size)); clear bw hw1 WB0)
  go_wp2_with ((with_reducible refine (lg _ _ (by simp [go_sem])).mono ?_); clear lg; rintro e w2 ⟨rfl, hw2⟩; have hc2 := Tail.cells hw2; have s2 := hw2.size; (try simp at s2); (try have z2_w : w.heap.size < w2.heap.size := (by omega)); clear s2; have bw : Below w1.heap.size w1 w2 := (bel1 hw2); have WB2 := Lib.hid (WB1.out.trans (bw.mono WB1.out.size)); clear bw hw2 WB1)
  go_ret
  exact ⟨rfl, WB2.out⟩
set_option maxHeartbeats 3200000 in
theorem tRe_err (a b c r : Int) (ao uo po : Option Addr) (L U : List Q) (M : List Sp) (cap uc pc : Nat) (w : World) (hn : ¬ (100 < M.length ∨ 200 < L.length)) (hu : ¬ 100 < U.length) (hm : LiesO w ao L) (hg : LiesO w uo U) (hp : LiesOI w po (fl M)) (h0 : r ≠ 0)
    (c1 : ∀ (W : World), LiesO W ao L → LiesOI W po (fl M) → Calls Try.prog 24 #[.agg #[.int .i64 a, .int .i64 b, .int .i64 c, .slice ao L.length cap], .int .i64 1, .slice po M.length pc] W fun e w' => e = .returned (.tuple #[.slice none 0 0, .int .i64 r]) ∧ Below W.heap.size W w')
    (c2 : ∀ (W : World), LiesO W ao L → LiesOI W po (fl M) → Calls Try.prog 32 #[.agg #[.int .i64 a, .int .i64 b, .int .i64 c, .slice ao L.length cap], .int .i64 1, .slice po M.length pc, .slice po M.length pc] W fun e w' => e = .returned (.tuple #[.slice none 0 0, .int .i64 0, .int .i64 r]) ∧ Below W.heap.size W w') :
    Calls Try.prog 8 #[.agg #[.int .i64 a, .int .i64 b, .int .i64 c, .slice ao L.length cap], .slice uo U.length uc, .slice po M.length pc] w fun e w' => e = .returned (.bool true) ∧ Below w.heap.size w w' := by
  have ca := fun W : World => allowed_any 1 1 1 1 1600 0 W (.inr (.inr ⟨⟨by decide, by decide, by decide, by decide, by decide, by decide, by decide⟩, ⟨by decide, by decide⟩, by decide, rfl⟩))
  have lg := fun (W : World) (sb : Nat) (h1 : W.cell? ⟨sb, 0, none⟩ = some (.slice po M.length pc)) => long71_any a b c ao po cap pc L.length M.length sb false W h1 (.inl ⟨by omega, by omega, rfl⟩)
  have H0 := Lib.hid hm
  have HG0 := Lib.hid hg
  have HP0 := Lib.hid hp
  have i1 : ¬ (U.length : Int) > 100 := by omega
  clear hm hg hp hn hu
  have t0 : (r != 0) = true := by simpa using h0
  have t2 : (r == r) = true := by simp
  clear h0
  have WB0 := Lib.hid (Below.refl w.heap.size w)
  go_enter Try.func8, Try.ntmps8
  go_wp2_with ((with_reducible refine (ca _).mono ?_); clear ca; rintro e w1 ⟨rfl, hw1⟩; have hc1 := Tail.cells hw1; have s1 := hw1.size; (try simp at s1); (try have z1_w : w.heap.size < w1.heap.size := (by omega)); clear s1; have bw : Below w.heap.size w w1 := (bel1 hw1); have WB1 := Lib.hid (WB0.out.trans (bw.mono WB0.out.size)); have H1 := Lib.hid (H0.out.later bw); have HG1 := Lib.hid (HG0.out.later bw); have HP1 := Lib.hid (HP0.out.later bw); clear bw hw1 WB0 H0 HG0 HP0)
  go_wp2_with ((with_reducible refine (lg _ _ (by simp [go_sem])).mono ?_); clear lg; rintro e w2 ⟨rfl, hw2⟩; have hc2 := Tail.cells hw2; have s2 := hw2.size; (try simp at s2); (try have z2_w : w.heap.size < w2.heap.size := (by omega)); clear s2; have bw : Below w1.heap.size w1 w2 := (bel1 hw2); have WB2 := Lib.hid (WB1.out.trans (bw.mono WB1.out.size)); have H2 := Lib.hid (H1.out.later bw); have HG2 := Lib.hid (HG1.out.later bw); have HP2 := Lib.hid (HP1.out.later bw); clear bw hw2 WB1 H1 HG1 HP1)
  go_wp2_with ((with_reducible refine (c1 _ (H2.out) (HP2.out)).mono ?_); clear c1; rintro e w3 ⟨rfl, hw3⟩; have hc3 := Tail.cells hw3; have s3 := hw3.size; (try simp at s3); (try have z3_w : w.heap.size < w3.heap.size := (by omega)); clear s3; have bw : Below w2.heap.size w2 w3 := (hw3); have WB3 := Lib.hid (WB2.out.trans (bw.mono WB2.out.size)); have H3 := Lib.hid (H2.out.later bw); have HG3 := Lib.hid (HG2.out.later bw); have HP3 := Lib.hid (HP2.out.later bw); clear bw hw3 WB2 H2 HG2 HP2)
  go_wp2_with ((with_reducible refine (c2 _ (H3.out) (HP3.out)).mono ?_); clear c2; rintro e w4 ⟨rfl, hw4⟩; have hc4 := Tail.cells hw4; have s4 := hw4.size; (try simp at s4); (try have z4_w : w.heap.size < w4.heap.size := (by omega)); clear s4; have bw : Below w3.heap.size w3 w4 := (hw4); have WB4 := Lib.hid (WB3.out.trans (bw.mono WB3.out.size)); have H4 := Lib.hid (H3.out.later bw); have HG4 := Lib.hid (HG3.out.later bw); have HP4 := Lib.hid (HP3.out.later bw); clear bw hw4 WB3 H3 HG3 HP3)
  go_ret
  exact ⟨rfl, WB4.out⟩
set_option maxHeartbeats 6400000 in
theorem tRe_u (a b c r3 r4 r5 : Int) (ao uo po : Option Addr) (L U : List Q) (M : List Sp) (cap uc pc n : Nat) (w : World) (P : List Sp → Prop) (val : List Sp → Int) (hn : ¬ (100 < M.length ∨ 200 < L.length)) (hu : ¬ 100 < U.length) (hm : LiesO w ao L) (hg : LiesO w uo U) (hp : LiesOI w po (fl M)) (h0 : r3 ≠ 0) (hval : ∀ V, P V → 0 ≤ val V ∧ val V ≤ 4000000)
    (c1 : ∀ (W : World), LiesO W ao L → LiesOI W po (fl M) → Calls Try.prog 24 #[.agg #[.int .i64 a, .int .i64 b, .int .i64 c, .slice ao L.length cap], .int .i64 1, .slice po M.length pc] W fun e w' => (∃ (g k : Nat) (V : List Sp), e = .returned (.tuple #[.slice (some ⟨g, 0, none⟩) n k, .int .i64 0]) ∧ LiesI w' g 0 (fl V) ∧ Hid (P V)) ∧ Below W.heap.size W w')
    (c2 : ∀ (V : List Sp), P V → ∀ (W : World) (g k : Nat), LiesO W ao L → LiesOI W po (fl M) → LiesI W g 0 (fl V) → Calls Try.prog 32 #[.agg #[.int .i64 a, .int .i64 b, .int .i64 c, .slice ao L.length cap], .int .i64 1, .slice (some ⟨g, 0, none⟩) n k, .slice po M.length pc] W fun e w' => (∃ (s : Option Addr) (k : Nat), e = .returned (.tuple #[.slice s M.length k, .int .i64 (val V), .int .i64 0])) ∧ Below W.heap.size W w')
    (c3 : ∀ (V : List Sp), P V → ∀ (W : World) (g k : Nat), LiesO W ao L → LiesOI W po (fl M) → LiesI W g 0 (fl V) → Calls Try.prog 33 #[.agg #[.int .i64 a, .int .i64 b, .int .i64 c, .slice ao L.length cap], .int .i64 1, .slice (some ⟨g, 0, none⟩) n k, .slice po M.length pc] W fun e w' => (∃ x y : Int, e = .returned (.tuple #[.agg #[.int .i64 x, .int .i64 y], .int .i64 0]) ∧ x * 16 = val V * y ∧ 0 ≤ x * 16 ∧ x * 16 ≤ 4000000) ∧ Below W.heap.size W w')
    (c4 : ∀ (V : List Sp), P V → ∀ (W : World) (g k : Nat), LiesO W ao L → LiesOI W po (fl M) → LiesI W g 0 (fl V) → Calls Try.prog 34 #[.agg #[.int .i64 a, .int .i64 b, .int .i64 c, .slice ao L.length cap], .int .i64 1, .slice (some ⟨g, 0, none⟩) n k, .slice po M.length pc] W fun e w' => e = .returned (.int .i64 0) ∧ Below W.heap.size W w')
    (c5 : ∀ (W : World), LiesO W ao L → LiesO W uo U → Calls Try.prog 13 #[.agg #[.int .i64 a, .int .i64 b, .int .i64 c, .slice ao L.length cap], .slice uo U.length uc] W fun e w' => AnyF r3 e ∧ Below W.heap.size W w')
    (c6 : ∀ (V : List Sp), P V → ∀ (W : World) (g k : Nat), LiesO W ao L → LiesO W uo U → LiesI W g 0 (fl V) → Calls Try.prog 21 #[.agg #[.int .i64 a, .int .i64 b, .int .i64 c, .slice ao L.length cap], .slice uo U.length uc, .slice (some ⟨g, 0, none⟩) n k] W fun e w' => AnyV r4 e ∧ Below W.heap.size W w')
    (c7 : ∀ (W : World), LiesO W ao L → LiesO W uo U → LiesOI W po (fl M) → Calls Try.prog 21 #[.agg #[.int .i64 a, .int .i64 b, .int .i64 c, .slice ao L.length cap], .slice uo U.length uc, .slice po M.length pc] W fun e w' => AnyV r5 e ∧ Below W.heap.size W w') :
    Calls Try.prog 8 #[.agg #[.int .i64 a, .int .i64 b, .int .i64 c, .slice ao L.length cap], .slice uo U.length uc, .slice po M.length pc] w fun e w' => e = .returned (.bool true) ∧ Below w.heap.size w w' := by
  have ca := fun W : World => allowed_any 1 1 1 1 1600 0 W (.inr (.inr ⟨⟨by decide, by decide, by decide, by decide, by decide, by decide, by decide⟩, ⟨by decide, by decide⟩, by decide, rfl⟩))
  have lg := fun (W : World) (sb : Nat) (h1 : W.cell? ⟨sb, 0, none⟩ = some (.slice po M.length pc)) => long71_any a b c ao po cap pc L.length M.length sb false W h1 (.inl ⟨by omega, by omega, rfl⟩)
  have H0 := Lib.hid hm
  have HG0 := Lib.hid hg
  have HP0 := Lib.hid hp
  have i1 : ¬ (U.length : Int) > 100 := by omega
  clear hm hg hp hn hu
  have t0 : (r3 != 0) = true := by simpa using h0
  clear h0
  have WB0 := Lib.hid (Below.refl w.heap.size w)
  go_enter Try.func8, Try.ntmps8
  go_wp2_with ((with_reducible refine (ca _).mono ?_); clear ca; rintro e w1 ⟨rfl, hw1⟩; have hc1 := Tail.cells hw1; have s1 := hw1.size; (try simp at s1); (try have z1_w : w.heap.size < w1.heap.size := (by omega)); clear s1; have bw : Below w.heap.size w w1 := (bel1 hw1); have WB1 := Lib.hid (WB0.out.trans (bw.mono WB0.out.size)); have H1 := Lib.hid (H0.out.later bw); have HG1 := Lib.hid (HG0.out.later bw); have HP1 := Lib.hid (HP0.out.later bw); clear bw hw1 WB0 H0 HG0 HP0)
  go_wp2_with ((with_reducible refine (lg _ _ (by simp [go_sem])).mono ?_); clear lg; rintro e w2 ⟨rfl, hw2⟩; have hc2 := Tail.cells hw2; have s2 := hw2.size; (try simp at s2); (try have z2_w : w.heap.size < w2.heap.size := (by omega)); clear s2; have bw : Below w1.heap.size w1 w2 := (bel1 hw2); have WB2 := Lib.hid (WB1.out.trans (bw.mono WB1.out.size)); have H2 := Lib.hid (H1.out.later bw); have HG2 := Lib.hid (HG1.out.later bw); have HP2 := Lib.hid (HP1.out.later bw); clear bw hw2 WB1 H1 HG1 HP1)
  go_wp2_with ((with_reducible refine (c1 _ (H2.out) (HP2.out)).mono ?_); clear c1; rintro e w3 ⟨⟨g3, k3, V, rfl, hb3, hP⟩, hw3⟩; have hc3 := Tail.cells hw3; have s3 := hw3.size; (try simp at s3); (try have z3_w : w.heap.size < w3.heap.size := (by omega)); clear s3; have bw : Below w2.heap.size w2 w3 := (hw3); have WB3 := Lib.hid (WB2.out.trans (bw.mono WB2.out.size)); have H3 := Lib.hid (H2.out.later bw); have HG3 := Lib.hid (HG2.out.later bw); have HP3 := Lib.hid (HP2.out.later bw); clear bw hw3 WB2 H2 HG2 HP2; have B33 := Lib.hid hb3; clear hb3; have d2 := c2 V hP.out; have d3 := c3 V hP.out; have d4 := c4 V hP.out; have d6 := c6 V hP.out; (try have d8 := c8 V hP.out); have hv := hval V hP.out; clear c2 c3 c4 c6 hval hP; (try clear c8); generalize val V = v at *; have HV := Lib.hid hv; have f1 : IntKind.i64.wrap (4 * v) = 4 * v := (by rw [IntKind.wrap_i64]; omega); have f2 : wrap64 (4 * v) = 4 * v := w_in (by omega) (by omega); clear hv)
  go_wp2_with ((with_reducible refine (d2 _ _ _ (H3.out) (HP3.out) (B33.out)).mono ?_); clear d2; rintro e w4 ⟨⟨s4, k4, rfl⟩, hw4⟩; have hc4 := Tail.cells hw4; have s4 := hw4.size; (try simp at s4); (try have z4_w : w.heap.size < w4.heap.size := (by omega)); clear s4; have bw : Below w3.heap.size w3 w4 := (hw4); have WB4 := Lib.hid (WB3.out.trans (bw.mono WB3.out.size)); have H4 := Lib.hid (H3.out.later bw); have HG4 := Lib.hid (HG3.out.later bw); have HP4 := Lib.hid (HP3.out.later bw); have B34 := Lib.hid (B33.out.later bw); clear bw hw4 WB3 H3 HG3 HP3 B33)
  go_wp2_with ((with_reducible refine (d3 _ _ _ (H4.out) (HP4.out) (B34.out)).mono ?_); clear d3; rintro e w5 ⟨⟨x, y, rfl, hxy, hx0, hx1⟩, hw5⟩; have hc5 := Tail.cells hw5; have s5 := hw5.size; (try simp at s5); (try have z5_w : w.heap.size < w5.heap.size := (by omega)); clear s5; have bw : Below w4.heap.size w4 w5 := (hw5); have WB5 := Lib.hid (WB4.out.trans (bw.mono WB4.out.size)); have H5 := Lib.hid (H4.out.later bw); have HG5 := Lib.hid (HG4.out.later bw); have HP5 := Lib.hid (HP4.out.later bw); have B35 := Lib.hid (B34.out.later bw); clear bw hw5 WB4 H4 HG4 HP4 B34; have e1 : IntKind.i64.wrap (x * 16) = x * 16 := (by rw [IntKind.wrap_i64]; omega); have e2 : wrap64 (x * 16) = x * 16 := w_in (by omega) (by omega); have e3 : IntKind.i64.wrap (v * y) = x * 16 := (by rw [← hxy]; exact e1); have e4 : wrap64 (v * y) = x * 16 := (by rw [← hxy]; exact e2); have e5 : (x * 16 != x * 16) = false := (by simp); clear hx0 hx1 hxy)
  go_wp2_with ((with_reducible refine (d4 _ _ _ (H5.out.later ba1) (HP5.out.later ba1) (B35.out.later ba1)).mono ?_); clear d4; rintro e w6 ⟨rfl, hw6⟩; have hc6 := Tail.cells hw6; have s6 := hw6.size; (try simp at s6); (try have z6_w : w.heap.size < w6.heap.size := (by omega)); (try have z6_w5 : w5.heap.size < w6.heap.size := (by omega)); clear s6; have bw : Below w5.heap.size w5 w6 := (bel1 hw6); have WB6 := Lib.hid (WB5.out.trans (bw.mono WB5.out.size)); have H6 := Lib.hid (H5.out.later bw); have HG6 := Lib.hid (HG5.out.later bw); have HP6 := Lib.hid (HP5.out.later bw); have B36 := Lib.hid (B35.out.later bw); clear bw hw6 WB5 H5 HG5 HP5 B35)
  go_wp2_with ((with_reducible refine (c5 _ (H6.out) (HG6.out)).mono ?_); clear c5; rintro e w7 ⟨⟨x7, y7, z7, s7, n7, k7, rfl⟩, hw7⟩; have hc7 := Tail.cells hw7; have s7 := hw7.size; (try simp at s7); (try have z7_w : w.heap.size < w7.heap.size := (by omega)); (try have z7_w5 : w5.heap.size < w7.heap.size := (by omega)); clear s7; have bw : Below w6.heap.size w6 w7 := (hw7); have WB7 := Lib.hid (WB6.out.trans (bw.mono WB6.out.size)); have H7 := Lib.hid (H6.out.later bw); have HG7 := Lib.hid (HG6.out.later bw); have HP7 := Lib.hid (HP6.out.later bw); have B37 := Lib.hid (B36.out.later bw); clear bw hw7 WB6 H6 HG6 HP6 B36)
  go_wp2_with ((with_reducible refine (d6 _ _ _ (H7.out.later ba1) (HG7.out.later ba1) (B37.out.later ba1)).mono ?_); clear d6; rintro e w8 ⟨⟨s8, n8, k8, rfl⟩, hw8⟩; have hc8 := Tail.cells hw8; have s8 := hw8.size; (try simp at s8); (try have z8_w : w.heap.size < w8.heap.size := (by omega)); (try have z8_w5 : w5.heap.size < w8.heap.size := (by omega)); (try have z8_w7 : w7.heap.size < w8.heap.size := (by omega)); clear s8; have bw : Below w7.heap.size w7 w8 := (bel1 hw8); have WB8 := Lib.hid (WB7.out.trans (bw.mono WB7.out.size)); have H8 := Lib.hid (H7.out.later bw); have HG8 := Lib.hid (HG7.out.later bw); have HP8 := Lib.hid (HP7.out.later bw); have B38 := Lib.hid (B37.out.later bw); clear bw hw8 WB7 H7 HG7 HP7 B37)
  go_wp2_with ((with_reducible refine (c7 _ (H8.out) (HG8.out) (HP8.out)).mono ?_); clear c7; rintro e w9 ⟨⟨s9, n9, k9, rfl⟩, hw9⟩; have hc9 := Tail.cells hw9; have s9 := hw9.size; (try simp at s9); (try have z9_w : w.heap.size < w9.heap.size := (by omega)); (try have z9_w5 : w5.heap.size < w9.heap.size := (by omega)); (try have z9_w7 : w7.heap.size < w9.heap.size := (by omega)); clear s9; have bw : Below w8.heap.size w8 w9 := (hw9); have WB9 := Lib.hid (WB8.out.trans (bw.mono WB8.out.size)); have H9 := Lib.hid (H8.out.later bw); have HG9 := Lib.hid (HG8.out.later bw); have HP9 := Lib.hid (HP8.out.later bw); have B39 := Lib.hid (B38.out.later bw); clear bw hw9 WB8 H8 HG8 HP8 B38)
  go_ret
  exact ⟨rfl, WB9.out⟩
set_option maxHeartbeats 6400000 in
theorem tRe_v (a b c r4 r5 : Int) (ao uo po : Option Addr) (L U : List Q) (M : List Sp) (cap uc pc n : Nat) (w : World) (P : List Sp → Prop) (val : List Sp → Int) (hn : ¬ (100 < M.length ∨ 200 < L.length)) (hu : ¬ 100 < U.length) (hm : LiesO w ao L) (hg : LiesO w uo U) (hp : LiesOI w po (fl M)) (h0 : r4 ≠ 0) (hval : ∀ V, P V → 0 ≤ val V ∧ val V ≤ 4000000)
    (c1 : ∀ (W : World), LiesO W ao L → LiesOI W po (fl M) → Calls Try.prog 24 #[.agg #[.int .i64 a, .int .i64 b, .int .i64 c, .slice ao L.length cap], .int .i64 1, .slice po M.length pc] W fun e w' => (∃ (g k : Nat) (V : List Sp), e = .returned (.tuple #[.slice (some ⟨g, 0, none⟩) n k, .int .i64 0]) ∧ LiesI w' g 0 (fl V) ∧ Hid (P V)) ∧ Below W.heap.size W w')
    (c2 : ∀ (V : List Sp), P V → ∀ (W : World) (g k : Nat), LiesO W ao L → LiesOI W po (fl M) → LiesI W g 0 (fl V) → Calls Try.prog 32 #[.agg #[.int .i64 a, .int .i64 b, .int .i64 c, .slice ao L.length cap], .int .i64 1, .slice (some ⟨g, 0, none⟩) n k, .slice po M.length pc] W fun e w' => (∃ (s : Option Addr) (k : Nat), e = .returned (.tuple #[.slice s M.length k, .int .i64 (val V), .int .i64 0])) ∧ Below W.heap.size W w')
    (c3 : ∀ (V : List Sp), P V → ∀ (W : World) (g k : Nat), LiesO W ao L → LiesOI W po (fl M) → LiesI W g 0 (fl V) → Calls Try.prog 33 #[.agg #[.int .i64 a, .int .i64 b, .int .i64 c, .slice ao L.length cap], .int .i64 1, .slice (some ⟨g, 0, none⟩) n k, .slice po M.length pc] W fun e w' => (∃ x y : Int, e = .returned (.tuple #[.agg #[.int .i64 x, .int .i64 y], .int .i64 0]) ∧ x * 16 = val V * y ∧ 0 ≤ x * 16 ∧ x * 16 ≤ 4000000) ∧ Below W.heap.size W w')
    (c4 : ∀ (V : List Sp), P V → ∀ (W : World) (g k : Nat), LiesO W ao L → LiesOI W po (fl M) → LiesI W g 0 (fl V) → Calls Try.prog 34 #[.agg #[.int .i64 a, .int .i64 b, .int .i64 c, .slice ao L.length cap], .int .i64 1, .slice (some ⟨g, 0, none⟩) n k, .slice po M.length pc] W fun e w' => e = .returned (.int .i64 0) ∧ Below W.heap.size W w')
    (c5 : ∀ (W : World), LiesO W ao L → LiesO W uo U → Calls Try.prog 13 #[.agg #[.int .i64 a, .int .i64 b, .int .i64 c, .slice ao L.length cap], .slice uo U.length uc] W fun e w' => AnyF 0 e ∧ Below W.heap.size W w')
    (c6 : ∀ (V : List Sp), P V → ∀ (W : World) (g k : Nat), LiesO W ao L → LiesO W uo U → LiesI W g 0 (fl V) → Calls Try.prog 21 #[.agg #[.int .i64 a, .int .i64 b, .int .i64 c, .slice ao L.length cap], .slice uo U.length uc, .slice (some ⟨g, 0, none⟩) n k] W fun e w' => AnyV r4 e ∧ Below W.heap.size W w')
    (c7 : ∀ (W : World), LiesO W ao L → LiesO W uo U → LiesOI W po (fl M) → Calls Try.prog 21 #[.agg #[.int .i64 a, .int .i64 b, .int .i64 c, .slice ao L.length cap], .slice uo U.length uc, .slice po M.length pc] W fun e w' => AnyV r5 e ∧ Below W.heap.size W w') :
    Calls Try.prog 8 #[.agg #[.int .i64 a, .int .i64 b, .int .i64 c, .slice ao L.length cap], .slice uo U.length uc, .slice po M.length pc] w fun e w' => e = .returned (.bool true) ∧ Below w.heap.size w w' := by
  have ca := fun W : World => allowed_any 1 1 1 1 1600 0 W (.inr (.inr ⟨⟨by decide, by decide, by decide, by decide, by decide, by decide, by decide⟩, ⟨by decide, by decide⟩, by decide, rfl⟩))
  have lg := fun (W : World) (sb : Nat) (h1 : W.cell? ⟨sb, 0, none⟩ = some (.slice po M.length pc)) => long71_any a b c ao po cap pc L.length M.length sb false W h1 (.inl ⟨by omega, by omega, rfl⟩)
  have H0 := Lib.hid hm
  have HG0 := Lib.hid hg
  have HP0 := Lib.hid hp
  have i1 : ¬ (U.length : Int) > 100 := by omega
  clear hm hg hp hn hu
  have t0 : (r4 != 0) = true := by simpa using h0
  clear h0
  have WB0 := Lib.hid (Below.refl w.heap.size w)
  go_enter Try.func8, Try.ntmps8
  go_wp2_with ((with_reducible refine (ca _).mono ?_); clear ca; rintro e w1 ⟨rfl, hw1⟩; have hc1 := Tail.cells hw1; have s1 := hw1.size; (try simp at s1); (try have z1_w : w.heap.size < w1.heap.size := (by omega)); clear s1; have bw : Below w.heap.size w w1 := (bel1 hw1); have WB1 := Lib.hid (WB0.out.trans (bw.mono WB0.out.size)); have H1 := Lib.hid (H0.out.later bw); have HG1 := Lib.hid (HG0.out.later bw); have HP1 := Lib.hid (HP0.out.later bw); clear bw hw1 WB0 H0 HG0 HP0)
  go_wp2_with ((with_reducible refine (lg _ _ (by simp [go_sem])).mono ?_); clear lg; rintro e w2 ⟨rfl, hw2⟩; have hc2 := Tail.cells hw2; have s2 := hw2.size; (try simp at s2); (try have z2_w : w.heap.size < w2.heap.size := (by omega)); clear s2; have bw : Below w1.heap.size w1 w2 := (bel1 hw2); have WB2 := Lib.hid (WB1.out.trans (bw.mono WB1.out.size)); have H2 := Lib.hid (H1.out.later bw); have HG2 := Lib.hid (HG1.out.later bw); have HP2 := Lib.hid (HP1.out.later bw); clear bw hw2 WB1 H1 HG1 HP1)
  go_wp2_with ((with_reducible refine (c1 _ (H2.out) (HP2.out)).mono ?_); clear c1; rintro e w3 ⟨⟨g3, k3, V, rfl, hb3, hP⟩, hw3⟩; have hc3 := Tail.cells hw3; have s3 := hw3.size; (try simp at s3); (try have z3_w : w.heap.size < w3.heap.size := (by omega)); clear s3; have bw : Below w2.heap.size w2 w3 := (hw3); have WB3 := Lib.hid (WB2.out.trans (bw.mono WB2.out.size)); have H3 := Lib.hid (H2.out.later bw); have HG3 := Lib.hid (HG2.out.later bw); have HP3 := Lib.hid (HP2.out.later bw); clear bw hw3 WB2 H2 HG2 HP2; have B33 := Lib.hid hb3; clear hb3; have d2 := c2 V hP.out; have d3 := c3 V hP.out; have d4 := c4 V hP.out; have d6 := c6 V hP.out; (try have d8 := c8 V hP.out); have hv := hval V hP.out; clear c2 c3 c4 c6 hval hP; (try clear c8); generalize val V = v at *; have HV := Lib.hid hv; have f1 : IntKind.i64.wrap (4 * v) = 4 * v := (by rw [IntKind.wrap_i64]; omega); have f2 : wrap64 (4 * v) = 4 * v := w_in (by omega) (by omega); clear hv)
  go_wp2_with ((with_reducible refine (d2 _ _ _ (H3.out) (HP3.out) (B33.out)).mono ?_); clear d2; rintro e w4 ⟨⟨s4, k4, rfl⟩, hw4⟩; have hc4 := Tail.cells hw4; have s4 := hw4.size; (try simp at s4); (try have z4_w : w.heap.size < w4.heap.size := (by omega)); clear s4; have bw : Below w3.heap.size w3 w4 := (hw4); have WB4 := Lib.hid (WB3.out.trans (bw.mono WB3.out.size)); have H4 := Lib.hid (H3.out.later bw); have HG4 := Lib.hid (HG3.out.later bw); have HP4 := Lib.hid (HP3.out.later bw); have B34 := Lib.hid (B33.out.later bw); clear bw hw4 WB3 H3 HG3 HP3 B33)
  go_wp2_with ((with_reducible refine (d3 _ _ _ (H4.out) (HP4.out) (B34.out)).mono ?_); clear d3; rintro e w5 ⟨⟨x, y, rfl, hxy, hx0, hx1⟩, hw5⟩; have hc5 := Tail.cells hw5; have s5 := hw5.size; (try simp at s5); (try have z5_w : w.heap.size < w5.heap.size := (by omega)); clear s5; have bw : Below w4.heap.size w4 w5 := (hw5); have WB5 := Lib.hid (WB4.out.trans (bw.mono WB4.out.size)); have H5 := Lib.hid (H4.out.later bw); have HG5 := Lib.hid (HG4.out.later bw); have HP5 := Lib.hid (HP4.out.later bw); have B35 := Lib.hid (B34.out.later bw); clear bw hw5 WB4 H4 HG4 HP4 B34; have e1 : IntKind.i64.wrap (x * 16) = x * 16 := (by rw [IntKind.wrap_i64]; omega); have e2 : wrap64 (x * 16) = x * 16 := w_in (by omega) (by omega); have e3 : IntKind.i64.wrap (v * y) = x * 16 := (by rw [← hxy]; exact e1); have e4 : wrap64 (v * y) = x * 16 := (by rw [← hxy]; exact e2); have e5 : (x * 16 != x * 16) = false := (by simp); clear hx0 hx1 hxy)
  go_wp2_with ((with_reducible refine (d4 _ _ _ (H5.out.later ba1) (HP5.out.later ba1) (B35.out.later ba1)).mono ?_); clear d4; rintro e w6 ⟨rfl, hw6⟩; have hc6 := Tail.cells hw6; have s6 := hw6.size; (try simp at s6); (try have z6_w : w.heap.size < w6.heap.size := (by omega)); (try have z6_w5 : w5.heap.size < w6.heap.size := (by omega)); clear s6; have bw : Below w5.heap.size w5 w6 := (bel1 hw6); have WB6 := Lib.hid (WB5.out.trans (bw.mono WB5.out.size)); have H6 := Lib.hid (H5.out.later bw); have HG6 := Lib.hid (HG5.out.later bw); have HP6 := Lib.hid (HP5.out.later bw); have B36 := Lib.hid (B35.out.later bw); clear bw hw6 WB5 H5 HG5 HP5 B35)
  go_wp2_with ((with_reducible refine (c5 _ (H6.out) (HG6.out)).mono ?_); clear c5; rintro e w7 ⟨⟨x7, y7, z7, s7, n7, k7, rfl⟩, hw7⟩; have hc7 := Tail.cells hw7; have s7 := hw7.size; (try simp at s7); (try have z7_w : w.heap.size < w7.heap.size := (by omega)); (try have z7_w5 : w5.heap.size < w7.heap.size := (by omega)); clear s7; have bw : Below w6.heap.size w6 w7 := (hw7); have WB7 := Lib.hid (WB6.out.trans (bw.mono WB6.out.size)); have H7 := Lib.hid (H6.out.later bw); have HG7 := Lib.hid (HG6.out.later bw); have HP7 := Lib.hid (HP6.out.later bw); have B37 := Lib.hid (B36.out.later bw); clear bw hw7 WB6 H6 HG6 HP6 B36)
  go_wp2_with ((with_reducible refine (d6 _ _ _ (H7.out.later ba1) (HG7.out.later ba1) (B37.out.later ba1)).mono ?_); clear d6; rintro e w8 ⟨⟨s8, n8, k8, rfl⟩, hw8⟩; have hc8 := Tail.cells hw8; have s8 := hw8.size; (try simp at s8); (try have z8_w : w.heap.size < w8.heap.size := (by omega)); (try have z8_w5 : w5.heap.size < w8.heap.size := (by omega)); (try have z8_w7 : w7.heap.size < w8.heap.size := (by omega)); clear s8; have bw : Below w7.heap.size w7 w8 := (bel1 hw8); have WB8 := Lib.hid (WB7.out.trans (bw.mono WB7.out.size)); have H8 := Lib.hid (H7.out.later bw); have HG8 := Lib.hid (HG7.out.later bw); have HP8 := Lib.hid (HP7.out.later bw); have B38 := Lib.hid (B37.out.later bw); clear bw hw8 WB7 H7 HG7 HP7 B37)
  go_wp2_with ((with_reducible refine (c7 _ (H8.out) (HG8.out) (HP8.out)).mono ?_); clear c7; rintro e w9 ⟨⟨s9, n9, k9, rfl⟩, hw9⟩; have hc9 := Tail.cells hw9; have s9 := hw9.size; (try simp at s9); (try have z9_w : w.heap.size < w9.heap.size := (by omega)); (try have z9_w5 : w5.heap.size < w9.heap.size := (by omega)); (try have z9_w7 : w7.heap.size < w9.heap.size := (by omega)); clear s9; have bw : Below w8.heap.size w8 w9 := (hw9); have WB9 := Lib.hid (WB8.out.trans (bw.mono WB8.out.size)); have H9 := Lib.hid (H8.out.later bw); have HG9 := Lib.hid (HG8.out.later bw); have HP9 := Lib.hid (HP8.out.later bw); have B39 := Lib.hid (B38.out.later bw); clear bw hw9 WB8 H8 HG8 HP8 B38)
  go_ret
  exact ⟨rfl, WB9.out⟩
set_option maxHeartbeats 6400000 in
theorem tRe_y (a b c r6 : Int) (ao uo po : Option Addr) (L U : List Q) (M : List Sp) (cap uc pc n : Nat) (w : World) (T : List Q) (P : List Sp → Prop) (val : List Sp → Int) (hn : ¬ (100 < M.length ∨ 200 < L.length)) (hu : ¬ 100 < U.length) (hm : LiesO w ao L) (hg : LiesO w uo U) (hp : LiesOI w po (fl M)) (h0 : r6 ≠ 0) (hval : ∀ V, P V → 0 ≤ val V ∧ val V ≤ 4000000)
    (c1 : ∀ (W : World), LiesO W ao L → LiesOI W po (fl M) → Calls Try.prog 24 #[.agg #[.int .i64 a, .int .i64 b, .int .i64 c, .slice ao L.length cap], .int .i64 1, .slice po M.length pc] W fun e w' => (∃ (g k : Nat) (V : List Sp), e = .returned (.tuple #[.slice (some ⟨g, 0, none⟩) n k, .int .i64 0]) ∧ LiesI w' g 0 (fl V) ∧ Hid (P V)) ∧ Below W.heap.size W w')
    (c2 : ∀ (V : List Sp), P V → ∀ (W : World) (g k : Nat), LiesO W ao L → LiesOI W po (fl M) → LiesI W g 0 (fl V) → Calls Try.prog 32 #[.agg #[.int .i64 a, .int .i64 b, .int .i64 c, .slice ao L.length cap], .int .i64 1, .slice (some ⟨g, 0, none⟩) n k, .slice po M.length pc] W fun e w' => (∃ (s : Option Addr) (k : Nat), e = .returned (.tuple #[.slice s M.length k, .int .i64 (val V), .int .i64 0])) ∧ Below W.heap.size W w')
    (c3 : ∀ (V : List Sp), P V → ∀ (W : World) (g k : Nat), LiesO W ao L → LiesOI W po (fl M) → LiesI W g 0 (fl V) → Calls Try.prog 33 #[.agg #[.int .i64 a, .int .i64 b, .int .i64 c, .slice ao L.length cap], .int .i64 1, .slice (some ⟨g, 0, none⟩) n k, .slice po M.length pc] W fun e w' => (∃ x y : Int, e = .returned (.tuple #[.agg #[.int .i64 x, .int .i64 y], .int .i64 0]) ∧ x * 16 = val V * y ∧ 0 ≤ x * 16 ∧ x * 16 ≤ 4000000) ∧ Below W.heap.size W w')
    (c4 : ∀ (V : List Sp), P V → ∀ (W : World) (g k : Nat), LiesO W ao L → LiesOI W po (fl M) → LiesI W g 0 (fl V) → Calls Try.prog 34 #[.agg #[.int .i64 a, .int .i64 b, .int .i64 c, .slice ao L.length cap], .int .i64 1, .slice (some ⟨g, 0, none⟩) n k, .slice po M.length pc] W fun e w' => e = .returned (.int .i64 0) ∧ Below W.heap.size W w')
    (c5 : ∀ (W : World), LiesO W ao L → LiesO W uo U → Calls Try.prog 13 #[.agg #[.int .i64 a, .int .i64 b, .int .i64 c, .slice ao L.length cap], .slice uo U.length uc] W fun e w' => RetTf a b c L.length T e w' ∧ Below W.heap.size W w')
    (c6 : ∀ (V : List Sp), P V → ∀ (W : World) (g k : Nat), LiesO W ao L → LiesO W uo U → LiesI W g 0 (fl V) → Calls Try.prog 21 #[.agg #[.int .i64 a, .int .i64 b, .int .i64 c, .slice ao L.length cap], .slice uo U.length uc, .slice (some ⟨g, 0, none⟩) n k] W fun e w' => GoodV n (tuL U V) e w' ∧ Below W.heap.size W w')
    (c7 : ∀ (W : World), LiesO W ao L → LiesO W uo U → LiesOI W po (fl M) → Calls Try.prog 21 #[.agg #[.int .i64 a, .int .i64 b, .int .i64 c, .slice ao L.length cap], .slice uo U.length uc, .slice po M.length pc] W fun e w' => GoodV n (tuL U M) e w' ∧ Below W.heap.size W w')
    (c8 : ∀ (V : List Sp), P V → ∀ (W : World) (g k g' k' g'' k'' : Nat), LBox W g T → LiesI W g' 0 (fl (tuL U V)) → LiesI W g'' 0 (fl (tuL U M)) → Calls Try.prog 32 #[.agg #[.int .i64 a, .int .i64 b, .int .i64 c, .slice (some ⟨g, 0, none⟩) L.length k], .int .i64 1, .slice (some ⟨g', 0, none⟩) n k', .slice (some ⟨g'', 0, none⟩) n k''] W fun e w' => (∃ (s : Option Addr) (j l : Nat) (m : Int), e = .returned (.tuple #[.slice s j l, .int .i64 m, .int .i64 r6])) ∧ Below W.heap.size W w') :
    Calls Try.prog 8 #[.agg #[.int .i64 a, .int .i64 b, .int .i64 c, .slice ao L.length cap], .slice uo U.length uc, .slice po M.length pc] w fun e w' => e = .returned (.bool true) ∧ Below w.heap.size w w' := by
  have ca := fun W : World => allowed_any 1 1 1 1 1600 0 W (.inr (.inr ⟨⟨by decide, by decide, by decide, by decide, by decide, by decide, by decide⟩, ⟨by decide, by decide⟩, by decide, rfl⟩))
  have lg := fun (W : World) (sb : Nat) (h1 : W.cell? ⟨sb, 0, none⟩ = some (.slice po M.length pc)) => long71_any a b c ao po cap pc L.length M.length sb false W h1 (.inl ⟨by omega, by omega, rfl⟩)
  have H0 := Lib.hid hm
  have HG0 := Lib.hid hg
  have HP0 := Lib.hid hp
  have i1 : ¬ (U.length : Int) > 100 := by omega
  clear hm hg hp hn hu
  have t0 : (r6 != 0) = true := by simpa using h0
  clear h0
  have WB0 := Lib.hid (Below.refl w.heap.size w)
  go_enter Try.func8, Try.ntmps8
  go_wp2_with ((with_reducible refine (ca _).mono ?_); clear ca; rintro e w1 ⟨rfl, hw1⟩; have hc1 := Tail.cells hw1; have s1 := hw1.size; (try simp at s1); (try have z1_w : w.heap.size < w1.heap.size := (by omega)); clear s1; have bw : Below w.heap.size w w1 := (bel1 hw1); have WB1 := Lib.hid (WB0.out.trans (bw.mono WB0.out.size)); have H1 := Lib.hid (H0.out.later bw); have HG1 := Lib.hid (HG0.out.later bw); have HP1 := Lib.hid (HP0.out.later bw); clear bw hw1 WB0 H0 HG0 HP0)
  go_wp2_with ((with_reducible refine (lg _ _ (by simp [go_sem])).mono ?_); clear lg; rintro e w2 ⟨rfl, hw2⟩; have hc2 := Tail.cells hw2; have s2 := hw2.size; (try simp at s2); (try have z2_w : w.heap.size < w2.heap.size := (by omega)); clear s2; have bw : Below w1.heap.size w1 w2 := (bel1 hw2); have WB2 := Lib.hid (WB1.out.trans (bw.mono WB1.out.size)); have H2 := Lib.hid (H1.out.later bw); have HG2 := Lib.hid (HG1.out.later bw); have HP2 := Lib.hid (HP1.out.later bw); clear bw hw2 WB1 H1 HG1 HP1)
  go_wp2_with ((with_reducible refine (c1 _ (H2.out) (HP2.out)).mono ?_); clear c1; rintro e w3 ⟨⟨g3, k3, V, rfl, hb3, hP⟩, hw3⟩; have hc3 := Tail.cells hw3; have s3 := hw3.size; (try simp at s3); (try have z3_w : w.heap.size < w3.heap.size := (by omega)); clear s3; have bw : Below w2.heap.size w2 w3 := (hw3); have WB3 := Lib.hid (WB2.out.trans (bw.mono WB2.out.size)); have H3 := Lib.hid (H2.out.later bw); have HG3 := Lib.hid (HG2.out.later bw); have HP3 := Lib.hid (HP2.out.later bw); clear bw hw3 WB2 H2 HG2 HP2; have B33 := Lib.hid hb3; clear hb3; have d2 := c2 V hP.out; have d3 := c3 V hP.out; have d4 := c4 V hP.out; have d6 := c6 V hP.out; (try have d8 := c8 V hP.out); have hv := hval V hP.out; clear c2 c3 c4 c6 hval hP; (try clear c8); generalize val V = v at *; have HV := Lib.hid hv; have f1 : IntKind.i64.wrap (4 * v) = 4 * v := (by rw [IntKind.wrap_i64]; omega); have f2 : wrap64 (4 * v) = 4 * v := w_in (by omega) (by omega); clear hv)
  go_wp2_with ((with_reducible refine (d2 _ _ _ (H3.out) (HP3.out) (B33.out)).mono ?_); clear d2; rintro e w4 ⟨⟨s4, k4, rfl⟩, hw4⟩; have hc4 := Tail.cells hw4; have s4 := hw4.size; (try simp at s4); (try have z4_w : w.heap.size < w4.heap.size := (by omega)); clear s4; have bw : Below w3.heap.size w3 w4 := (hw4); have WB4 := Lib.hid (WB3.out.trans (bw.mono WB3.out.size)); have H4 := Lib.hid (H3.out.later bw); have HG4 := Lib.hid (HG3.out.later bw); have HP4 := Lib.hid (HP3.out.later bw); have B34 := Lib.hid (B33.out.later bw); clear bw hw4 WB3 H3 HG3 HP3 B33)
  go_wp2_with ((with_reducible refine (d3 _ _ _ (H4.out) (HP4.out) (B34.out)).mono ?_); clear d3; rintro e w5 ⟨⟨x, y, rfl, hxy, hx0, hx1⟩, hw5⟩; have hc5 := Tail.cells hw5; have s5 := hw5.size; (try simp at s5); (try have z5_w : w.heap.size < w5.heap.size := (by omega)); clear s5; have bw : Below w4.heap.size w4 w5 := (hw5); have WB5 := Lib.hid (WB4.out.trans (bw.mono WB4.out.size)); have H5 := Lib.hid (H4.out.later bw); have HG5 := Lib.hid (HG4.out.later bw); have HP5 := Lib.hid (HP4.out.later bw); have B35 := Lib.hid (B34.out.later bw); clear bw hw5 WB4 H4 HG4 HP4 B34; have e1 : IntKind.i64.wrap (x * 16) = x * 16 := (by rw [IntKind.wrap_i64]; omega); have e2 : wrap64 (x * 16) = x * 16 := w_in (by omega) (by omega); have e3 : IntKind.i64.wrap (v * y) = x * 16 := (by rw [← hxy]; exact e1); have e4 : wrap64 (v * y) = x * 16 := (by rw [← hxy]; exact e2); have e5 : (x * 16 != x * 16) = false := (by simp); clear hx0 hx1 hxy)
  go_wp2_with ((with_reducible refine (d4 _ _ _ (H5.out.later ba1) (HP5.out.later ba1) (B35.out.later ba1)).mono ?_); clear d4; rintro e w6 ⟨rfl, hw6⟩; have hc6 := Tail.cells hw6; have s6 := hw6.size; (try simp at s6); (try have z6_w : w.heap.size < w6.heap.size := (by omega)); (try have z6_w5 : w5.heap.size < w6.heap.size := (by omega)); clear s6; have bw : Below w5.heap.size w5 w6 := (bel1 hw6); have WB6 := Lib.hid (WB5.out.trans (bw.mono WB5.out.size)); have H6 := Lib.hid (H5.out.later bw); have HG6 := Lib.hid (HG5.out.later bw); have HP6 := Lib.hid (HP5.out.later bw); have B36 := Lib.hid (B35.out.later bw); clear bw hw6 WB5 H5 HG5 HP5 B35)
  go_wp2_with ((with_reducible refine (c5 _ (H6.out) (HG6.out)).mono ?_); clear c5; rintro e w7 ⟨⟨g7, k7, rfl, hb7⟩, hw7⟩; have hc7 := Tail.cells hw7; have s7 := hw7.size; (try simp at s7); (try have z7_w : w.heap.size < w7.heap.size := (by omega)); (try have z7_w5 : w5.heap.size < w7.heap.size := (by omega)); clear s7; have bw : Below w6.heap.size w6 w7 := (hw7); have WB7 := Lib.hid (WB6.out.trans (bw.mono WB6.out.size)); have H7 := Lib.hid (H6.out.later bw); have HG7 := Lib.hid (HG6.out.later bw); have HP7 := Lib.hid (HP6.out.later bw); have B37 := Lib.hid (B36.out.later bw); clear bw hw7 WB6 H6 HG6 HP6 B36; have B77 := Lib.hid hb7; clear hb7)
  go_wp2_with ((with_reducible refine (d6 _ _ _ (H7.out.later ba1) (HG7.out.later ba1) (B37.out.later ba1)).mono ?_); clear d6; rintro e w8 ⟨⟨g8, k8, rfl, hb8⟩, hw8⟩; have hc8 := Tail.cells hw8; have s8 := hw8.size; (try simp at s8); (try have z8_w : w.heap.size < w8.heap.size := (by omega)); (try have z8_w5 : w5.heap.size < w8.heap.size := (by omega)); (try have z8_w7 : w7.heap.size < w8.heap.size := (by omega)); clear s8; have bw : Below w7.heap.size w7 w8 := (bel1 hw8); have WB8 := Lib.hid (WB7.out.trans (bw.mono WB7.out.size)); have H8 := Lib.hid (H7.out.later bw); have HG8 := Lib.hid (HG7.out.later bw); have HP8 := Lib.hid (HP7.out.later bw); have B38 := Lib.hid (B37.out.later bw); have B78 := Lib.hid (B77.out.later bw); clear bw hw8 WB7 H7 HG7 HP7 B37 B77; have B88 := Lib.hid hb8; clear hb8)
  go_wp2_with ((with_reducible refine (c7 _ (H8.out) (HG8.out) (HP8.out)).mono ?_); clear c7; rintro e w9 ⟨⟨g9, k9, rfl, hb9⟩, hw9⟩; have hc9 := Tail.cells hw9; have s9 := hw9.size; (try simp at s9); (try have z9_w : w.heap.size < w9.heap.size := (by omega)); (try have z9_w5 : w5.heap.size < w9.heap.size := (by omega)); (try have z9_w7 : w7.heap.size < w9.heap.size := (by omega)); clear s9; have bw : Below w8.heap.size w8 w9 := (hw9); have WB9 := Lib.hid (WB8.out.trans (bw.mono WB8.out.size)); have H9 := Lib.hid (H8.out.later bw); have HG9 := Lib.hid (HG8.out.later bw); have HP9 := Lib.hid (HP8.out.later bw); have B39 := Lib.hid (B38.out.later bw); have B79 := Lib.hid (B78.out.later bw); have B89 := Lib.hid (B88.out.later bw); clear bw hw9 WB8 H8 HG8 HP8 B38 B78 B88; have B99 := Lib.hid hb9; clear hb9)
  go_wp2_with ((with_reducible refine (d8 _ _ _ _ _ _ _ (B79.out) (B89.out) (B99.out)).mono ?_); clear d8; rintro e w10 ⟨⟨s10, j10, l10, m, rfl⟩, hw10⟩; have hc10 := Tail.cells hw10; have s10 := hw10.size; (try simp at s10); (try have z10_w : w.heap.size < w10.heap.size := (by omega)); (try have z10_w5 : w5.heap.size < w10.heap.size := (by omega)); (try have z10_w7 : w7.heap.size < w10.heap.size := (by omega)); clear s10; have bw : Below w9.heap.size w9 w10 := (hw10); have WB10 := Lib.hid (WB9.out.trans (bw.mono WB9.out.size)); have H10 := Lib.hid (H9.out.later bw); have HG10 := Lib.hid (HG9.out.later bw); have HP10 := Lib.hid (HP9.out.later bw); have B310 := Lib.hid (B39.out.later bw); have B710 := Lib.hid (B79.out.later bw); have B810 := Lib.hid (B89.out.later bw); have B910 := Lib.hid (B99.out.later bw); clear bw hw10 WB9 H9 HG9 HP9 B39 B79 B89 B99)
  go_ret
  exact ⟨rfl, WB10.out⟩
set_option maxHeartbeats 6400000 in
theorem tRe_z (a b c : Int) (ao uo po : Option Addr) (L U : List Q) (M : List Sp) (cap uc pc n : Nat) (w : World) (T : List Q) (P : List Sp → Prop) (val : List Sp → Int) (hn : ¬ (100 < M.length ∨ 200 < L.length)) (hu : ¬ 100 < U.length) (hm : LiesO w ao L) (hg : LiesO w uo U) (hp : LiesOI w po (fl M))  (hval : ∀ V, P V → 0 ≤ val V ∧ val V ≤ 4000000)
    (c1 : ∀ (W : World), LiesO W ao L → LiesOI W po (fl M) → Calls Try.prog 24 #[.agg #[.int .i64 a, .int .i64 b, .int .i64 c, .slice ao L.length cap], .int .i64 1, .slice po M.length pc] W fun e w' => (∃ (g k : Nat) (V : List Sp), e = .returned (.tuple #[.slice (some ⟨g, 0, none⟩) n k, .int .i64 0]) ∧ LiesI w' g 0 (fl V) ∧ Hid (P V)) ∧ Below W.heap.size W w')
    (c2 : ∀ (V : List Sp), P V → ∀ (W : World) (g k : Nat), LiesO W ao L → LiesOI W po (fl M) → LiesI W g 0 (fl V) → Calls Try.prog 32 #[.agg #[.int .i64 a, .int .i64 b, .int .i64 c, .slice ao L.length cap], .int .i64 1, .slice (some ⟨g, 0, none⟩) n k, .slice po M.length pc] W fun e w' => (∃ (s : Option Addr) (k : Nat), e = .returned (.tuple #[.slice s M.length k, .int .i64 (val V), .int .i64 0])) ∧ Below W.heap.size W w')
    (c3 : ∀ (V : List Sp), P V → ∀ (W : World) (g k : Nat), LiesO W ao L → LiesOI W po (fl M) → LiesI W g 0 (fl V) → Calls Try.prog 33 #[.agg #[.int .i64 a, .int .i64 b, .int .i64 c, .slice ao L.length cap], .int .i64 1, .slice (some ⟨g, 0, none⟩) n k, .slice po M.length pc] W fun e w' => (∃ x y : Int, e = .returned (.tuple #[.agg #[.int .i64 x, .int .i64 y], .int .i64 0]) ∧ x * 16 = val V * y ∧ 0 ≤ x * 16 ∧ x * 16 ≤ 4000000) ∧ Below W.heap.size W w')
    (c4 : ∀ (V : List Sp), P V → ∀ (W : World) (g k : Nat), LiesO W ao L → LiesOI W po (fl M) → LiesI W g 0 (fl V) → Calls Try.prog 34 #[.agg #[.int .i64 a, .int .i64 b, .int .i64 c, .slice ao L.length cap], .int .i64 1, .slice (some ⟨g, 0, none⟩) n k, .slice po M.length pc] W fun e w' => e = .returned (.int .i64 0) ∧ Below W.heap.size W w')
    (c5 : ∀ (W : World), LiesO W ao L → LiesO W uo U → Calls Try.prog 13 #[.agg #[.int .i64 a, .int .i64 b, .int .i64 c, .slice ao L.length cap], .slice uo U.length uc] W fun e w' => RetTf a b c L.length T e w' ∧ Below W.heap.size W w')
    (c6 : ∀ (V : List Sp), P V → ∀ (W : World) (g k : Nat), LiesO W ao L → LiesO W uo U → LiesI W g 0 (fl V) → Calls Try.prog 21 #[.agg #[.int .i64 a, .int .i64 b, .int .i64 c, .slice ao L.length cap], .slice uo U.length uc, .slice (some ⟨g, 0, none⟩) n k] W fun e w' => GoodV n (tuL U V) e w' ∧ Below W.heap.size W w')
    (c7 : ∀ (W : World), LiesO W ao L → LiesO W uo U → LiesOI W po (fl M) → Calls Try.prog 21 #[.agg #[.int .i64 a, .int .i64 b, .int .i64 c, .slice ao L.length cap], .slice uo U.length uc, .slice po M.length pc] W fun e w' => GoodV n (tuL U M) e w' ∧ Below W.heap.size W w')
    (c8 : ∀ (V : List Sp), P V → ∀ (W : World) (g k g' k' g'' k'' : Nat), LBox W g T → LiesI W g' 0 (fl (tuL U V)) → LiesI W g'' 0 (fl (tuL U M)) → Calls Try.prog 32 #[.agg #[.int .i64 a, .int .i64 b, .int .i64 c, .slice (some ⟨g, 0, none⟩) L.length k], .int .i64 1, .slice (some ⟨g', 0, none⟩) n k', .slice (some ⟨g'', 0, none⟩) n k''] W fun e w' => (∃ (s : Option Addr) (j l : Nat), e = .returned (.tuple #[.slice s j l, .int .i64 (4 * val V), .int .i64 0])) ∧ Below W.heap.size W w') :
    Calls Try.prog 8 #[.agg #[.int .i64 a, .int .i64 b, .int .i64 c, .slice ao L.length cap], .slice uo U.length uc, .slice po M.length pc] w fun e w' => e = .returned (.bool true) ∧ Below w.heap.size w w' := by
  have ca := fun W : World => allowed_any 1 1 1 1 1600 0 W (.inr (.inr ⟨⟨by decide, by decide, by decide, by decide, by decide, by decide, by decide⟩, ⟨by decide, by decide⟩, by decide, rfl⟩))
  have lg := fun (W : World) (sb : Nat) (h1 : W.cell? ⟨sb, 0, none⟩ = some (.slice po M.length pc)) => long71_any a b c ao po cap pc L.length M.length sb false W h1 (.inl ⟨by omega, by omega, rfl⟩)
  have H0 := Lib.hid hm
  have HG0 := Lib.hid hg
  have HP0 := Lib.hid hp
  have i1 : ¬ (U.length : Int) > 100 := by omega
  clear hm hg hp hn hu
  have t0 : ∀ v : Int, (4 * v == 4 * v) = true := fun v => by simp
  have WB0 := Lib.hid (Below.refl w.heap.size w)
  go_enter Try.func8, Try.ntmps8
  go_wp2_with ((with_reducible refine (ca _).mono ?_); clear ca; rintro e w1 ⟨rfl, hw1⟩; have hc1 := Tail.cells hw1; have s1 := hw1.size; (try simp at s1); (try have z1_w : w.heap.size < w1.heap.size := (by omega)); clear s1; have bw : Below w.heap.size w w1 := (bel1 hw1); have WB1 := Lib.hid (WB0.out.trans (bw.mono WB0.out.size)); have H1 := Lib.hid (H0.out.later bw); have HG1 := Lib.hid (HG0.out.later bw); have HP1 := Lib.hid (HP0.out.later bw); clear bw hw1 WB0 H0 HG0 HP0)
  go_wp2_with ((with_reducible refine (lg _ _ (by simp [go_sem])).mono ?_); clear lg; rintro e w2 ⟨rfl, hw2⟩; have hc2 := Tail.cells hw2; have s2 := hw2.size; (try simp at s2); (try have z2_w : w.heap.size < w2.heap.size := (by omega)); clear s2; have bw : Below w1.heap.size w1 w2 := (bel1 hw2); have WB2 := Lib.hid (WB1.out.trans (bw.mono WB1.out.size)); have H2 := Lib.hid (H1.out.later bw); have HG2 := Lib.hid (HG1.out.later bw); have HP2 := Lib.hid (HP1.out.later bw); clear bw hw2 WB1 H1 HG1 HP1)
  go_wp2_with ((with_reducible refine (c1 _ (H2.out) (HP2.out)).mono ?_); clear c1; rintro e w3 ⟨⟨g3, k3, V, rfl, hb3, hP⟩, hw3⟩; have hc3 := Tail.cells hw3; have s3 := hw3.size; (try simp at s3); (try have z3_w : w.heap.size < w3.heap.size := (by omega)); clear s3; have bw : Below w2.heap.size w2 w3 := (hw3); have WB3 := Lib.hid (WB2.out.trans (bw.mono WB2.out.size)); have H3 := Lib.hid (H2.out.later bw); have HG3 := Lib.hid (HG2.out.later bw); have HP3 := Lib.hid (HP2.out.later bw); clear bw hw3 WB2 H2 HG2 HP2; have B33 := Lib.hid hb3; clear hb3; have d2 := c2 V hP.out; have d3 := c3 V hP.out; have d4 := c4 V hP.out; have d6 := c6 V hP.out; (try have d8 := c8 V hP.out); have hv := hval V hP.out; clear c2 c3 c4 c6 hval hP; (try clear c8); generalize val V = v at *; have HV := Lib.hid hv; have f1 : IntKind.i64.wrap (4 * v) = 4 * v := (by rw [IntKind.wrap_i64]; omega); have f2 : wrap64 (4 * v) = 4 * v := w_in (by omega) (by omega); clear hv)
  go_wp2_with ((with_reducible refine (d2 _ _ _ (H3.out) (HP3.out) (B33.out)).mono ?_); clear d2; rintro e w4 ⟨⟨s4, k4, rfl⟩, hw4⟩; have hc4 := Tail.cells hw4; have s4 := hw4.size; (try simp at s4); (try have z4_w : w.heap.size < w4.heap.size := (by omega)); clear s4; have bw : Below w3.heap.size w3 w4 := (hw4); have WB4 := Lib.hid (WB3.out.trans (bw.mono WB3.out.size)); have H4 := Lib.hid (H3.out.later bw); have HG4 := Lib.hid (HG3.out.later bw); have HP4 := Lib.hid (HP3.out.later bw); have B34 := Lib.hid (B33.out.later bw); clear bw hw4 WB3 H3 HG3 HP3 B33)
  go_wp2_with ((with_reducible refine (d3 _ _ _ (H4.out) (HP4.out) (B34.out)).mono ?_); clear d3; rintro e w5 ⟨⟨x, y, rfl, hxy, hx0, hx1⟩, hw5⟩; have hc5 := Tail.cells hw5; have s5 := hw5.size; (try simp at s5); (try have z5_w : w.heap.size < w5.heap.size := (by omega)); clear s5; have bw : Below w4.heap.size w4 w5 := (hw5); have WB5 := Lib.hid (WB4.out.trans (bw.mono WB4.out.size)); have H5 := Lib.hid (H4.out.later bw); have HG5 := Lib.hid (HG4.out.later bw); have HP5 := Lib.hid (HP4.out.later bw); have B35 := Lib.hid (B34.out.later bw); clear bw hw5 WB4 H4 HG4 HP4 B34; have e1 : IntKind.i64.wrap (x * 16) = x * 16 := (by rw [IntKind.wrap_i64]; omega); have e2 : wrap64 (x * 16) = x * 16 := w_in (by omega) (by omega); have e3 : IntKind.i64.wrap (v * y) = x * 16 := (by rw [← hxy]; exact e1); have e4 : wrap64 (v * y) = x * 16 := (by rw [← hxy]; exact e2); have e5 : (x * 16 != x * 16) = false := (by simp); clear hx0 hx1 hxy)
  go_wp2_with ((with_reducible refine (d4 _ _ _ (H5.out.later ba1) (HP5.out.later ba1) (B35.out.later ba1)).mono ?_); clear d4; rintro e w6 ⟨rfl, hw6⟩; have hc6 := Tail.cells hw6; have s6 := hw6.size; (try simp at s6); (try have z6_w : w.heap.size < w6.heap.size := (by omega)); (try have z6_w5 : w5.heap.size < w6.heap.size := (by omega)); clear s6; have bw : Below w5.heap.size w5 w6 := (bel1 hw6); have WB6 := Lib.hid (WB5.out.trans (bw.mono WB5.out.size)); have H6 := Lib.hid (H5.out.later bw); have HG6 := Lib.hid (HG5.out.later bw); have HP6 := Lib.hid (HP5.out.later bw); have B36 := Lib.hid (B35.out.later bw); clear bw hw6 WB5 H5 HG5 HP5 B35)
  go_wp2_with ((with_reducible refine (c5 _ (H6.out) (HG6.out)).mono ?_); clear c5; rintro e w7 ⟨⟨g7, k7, rfl, hb7⟩, hw7⟩; have hc7 := Tail.cells hw7; have s7 := hw7.size; (try simp at s7); (try have z7_w : w.heap.size < w7.heap.size := (by omega)); (try have z7_w5 : w5.heap.size < w7.heap.size := (by omega)); clear s7; have bw : Below w6.heap.size w6 w7 := (hw7); have WB7 := Lib.hid (WB6.out.trans (bw.mono WB6.out.size)); have H7 := Lib.hid (H6.out.later bw); have HG7 := Lib.hid (HG6.out.later bw); have HP7 := Lib.hid (HP6.out.later bw); have B37 := Lib.hid (B36.out.later bw); clear bw hw7 WB6 H6 HG6 HP6 B36; have B77 := Lib.hid hb7; clear hb7)
  go_wp2_with ((with_reducible refine (d6 _ _ _ (H7.out.later ba1) (HG7.out.later ba1) (B37.out.later ba1)).mono ?_); clear d6; rintro e w8 ⟨⟨g8, k8, rfl, hb8⟩, hw8⟩; have hc8 := Tail.cells hw8; have s8 := hw8.size; (try simp at s8); (try have z8_w : w.heap.size < w8.heap.size := (by omega)); (try have z8_w5 : w5.heap.size < w8.heap.size := (by omega)); (try have z8_w7 : w7.heap.size < w8.heap.size := (by omega)); clear s8; have bw : Below w7.heap.size w7 w8 := (bel1 hw8); have WB8 := Lib.hid (WB7.out.trans (bw.mono WB7.out.size)); have H8 := Lib.hid (H7.out.later bw); have HG8 := Lib.hid (HG7.out.later bw); have HP8 := Lib.hid (HP7.out.later bw); have B38 := Lib.hid (B37.out.later bw); have B78 := Lib.hid (B77.out.later bw); clear bw hw8 WB7 H7 HG7 HP7 B37 B77; have B88 := Lib.hid hb8; clear hb8)
  go_wp2_with ((with_reducible refine (c7 _ (H8.out) (HG8.out) (HP8.out)).mono ?_); clear c7; rintro e w9 ⟨⟨g9, k9, rfl, hb9⟩, hw9⟩; have hc9 := Tail.cells hw9; have s9 := hw9.size; (try simp at s9); (try have z9_w : w.heap.size < w9.heap.size := (by omega)); (try have z9_w5 : w5.heap.size < w9.heap.size := (by omega)); (try have z9_w7 : w7.heap.size < w9.heap.size := (by omega)); clear s9; have bw : Below w8.heap.size w8 w9 := (hw9); have WB9 := Lib.hid (WB8.out.trans (bw.mono WB8.out.size)); have H9 := Lib.hid (H8.out.later bw); have HG9 := Lib.hid (HG8.out.later bw); have HP9 := Lib.hid (HP8.out.later bw); have B39 := Lib.hid (B38.out.later bw); have B79 := Lib.hid (B78.out.later bw); have B89 := Lib.hid (B88.out.later bw); clear bw hw9 WB8 H8 HG8 HP8 B38 B78 B88; have B99 := Lib.hid hb9; clear hb9)
  go_wp2_with ((with_reducible refine (d8 _ _ _ _ _ _ _ (B79.out) (B89.out) (B99.out)).mono ?_); clear d8; rintro e w10 ⟨⟨s10, j10, l10, rfl⟩, hw10⟩; have hc10 := Tail.cells hw10; have s10 := hw10.size; (try simp at s10); (try have z10_w : w.heap.size < w10.heap.size := (by omega)); (try have z10_w5 : w5.heap.size < w10.heap.size := (by omega)); (try have z10_w7 : w7.heap.size < w10.heap.size := (by omega)); clear s10; have bw : Below w9.heap.size w9 w10 := (hw10); have WB10 := Lib.hid (WB9.out.trans (bw.mono WB9.out.size)); have H10 := Lib.hid (H9.out.later bw); have HG10 := Lib.hid (HG9.out.later bw); have HP10 := Lib.hid (HP9.out.later bw); have B310 := Lib.hid (B39.out.later bw); have B710 := Lib.hid (B79.out.later bw); have B810 := Lib.hid (B89.out.later bw); have B910 := Lib.hid (B99.out.later bw); clear bw hw10 WB9 H9 HG9 HP9 B39 B79 B89 B99)
  go_ret
  exact ⟨rfl, WB10.out⟩
/-! ### what is turned -/
theorem gq_four {U : List Q} {n s : Nat} (hA : AllU U) (hU : U.length = n) (hs : s < n) : dot4 (gq U s) (gq U s) = 4 ∧ Bd 2 (gq U s) := by
  have h1 : dot4 (gq U s) (gq U s) = 4 := by
    rw [gq_lk (by omega)]
    exact tw_sq ((smU_sm2 hA).lk (by omega) (by omega))
  exact ⟨h1, bd_of_dot (by decide) (by omega)⟩
theorem tu_at {U : List Q} {X : List Sp} {n s : Nat} {K : Int} (hA : AllU U) (hU : U.length = n) (hX : X.length = n) (hs : s < n) (hb : Bd K (at0 X s)) (hK : K ≤ 1000000000000000000) : at0 (tuL U X) s = mulS (gq U s) (at0 X s) ∧ Bd (8 * K) (at0 (tuL U X) s) := by
  have h1 := mul_bd (gq_four hA hU hs).2 hb
  have h2 : at0 (tuL U X) s = mulS (gq U s) (at0 X s) := by
    unfold tuL
    rw [at0_tab _ (by omega), tuV_gq]
    exact bd_w h1 (by omega)
  exact ⟨h2, by rw [h2]; exact h1⟩
theorem tu_sq {U : List Q} {X : List Sp} {n : Nat} {K : Int} (hA : AllU U) (hU : U.length = n) (hX : X.length = n) (hb : ∀ s, s < n → Bd K (at0 X s)) (hK : K ≤ 1000000000000000000) : sqF (at0 (tuL U X)) n = 4 * sqF (at0 X) n := by
  rw [sumN_sq, sumN_sq, ← sumN_mulr]
  refine sumN_congr n (fun s hs => ?_)
  rw [(tu_at hA hU hX hs (hb s hs) hK).1, mulS_norm, (gq_four hA hU hs).1]
theorem ax_tu (U : List Q) (k : Int) {n : Nat} {X Y : List Sp} (hX : X.length = n) (hY : Y.length = n) : axp k (tuL U X) (tuL U Y) = tuL U (axp k X Y) := by
  have hl : (axp k X Y).length = n := (axp_len _ _ _).trans hX
  unfold tuL
  rw [hl, hX, hY]
  unfold axp
  rw [tab_len, hX]
  refine tab_congr fun s hs => ?_
  rw [at0_tab _ hs, at0_tab _ hs, tuV_gq, tuV_gq, tuV_gq, at0_tab _ hs]
  unfold axS
  rw [mulS_w_r, mulS_add, mulS_smr, addS_w_l, ← addS_w_r, smS_w, addS_w_r]
theorem rem_tu {a b c : Int} {n : Nat} {L G : List Q} (hz : Sz a b c) (hn : (n : Int) = a * b * c) (hl : L.length = n * 3) (hg : G.length = n) (hL : AllS L) (hG : AllS G) (ma : Int) {V M : List Sp} (hV : V.length = n) (hM : M.length = n) :
    remL ma n (arms a b c (tfL a b c L G) (n * 3)) (tuL G V) (tuL G M) = tuL G (remL ma n (arms a b c L (n * 3)) V M) := by
  unfold remL
  rw [op_cov hz hn hl hg hL hG 1 ma hV, ax_tu G (-1) hM (by rw [opL_E, tab_len])]
theorem so_rm {m : Nat} {M : List Sp} {r0 ma r : Int} (h : soR m M r0 ma r) : rmR m M M r0 ma r := by
  obtain ⟨r1, h1, h2⟩ := h
  refine ⟨r1, ?_, h2⟩
  obtain ⟨q, hq, h3 | ⟨h3, h4⟩⟩ := h1
  · exact ⟨q, hq, .inl h3⟩
  · exact ⟨q, hq, .inr ⟨h3, q, hq, .inr ⟨h3, h4⟩⟩⟩
/-- what is known of a solution -/
structure Sol (L : List Q) (n : Nat) (A : List Arm) (M V : List Sp) : Prop where
  l : V.length = n
  b : ∀ s, s < n → Bd 4194305 (at0 V s)
  r : rmR L.length V M 0 1 0
  e : AllE mE (remL 1 n A V M)
  q0 : 0 ≤ dotL (remL 1 n A V M) (remL 1 n A V M)
  q : dotL (remL 1 n A V M) (remL 1 n A V M) ≤ 25600
  c : chR (remL 1 n A V M) ((4 * 1 + 16) * (4 * 1 + 16) * 4 * (n : Int)) 0
theorem sol_of {a b c : Int} {n : Nat} {L : List Q} {ns : List Int} {M X : List Sp} (hr : numsR a b c L ns 0) (hF : Fld7 a b c L n) (hv : ms1 L.length M 0 1 0) (hs : AllE 1048576 M) (hI : Inv (4 * 1) n (arms a b c L L.length) (tab n (fun s => smS 65536 (at0 M s))) X) (hc : ∀ s, s < n → at0 (cor 1 n (arms a b c L L.length) (tab n (fun s => smS 65536 (at0 M s))) X) s = zs) : Sol L n (arms a b c L L.length) M (rdL n X) := by
  obtain ⟨g1, g2, g3⟩ := sol_good hr hF hv hs hI hc
  have hpos := hF.pos
  have hMl := (ms1_ok hv).2.1
  have hll := hF.l
  have hn : M.length = n := by omega
  have hO := nums_one4 hr
  have hI' := hI
  rw [hll] at hI'
  obtain ⟨-, bm⟩ := src_mul hn hs
  have b1 := (inv_bounds hF.z hF.e hO (by decide) (by decide) (tab_len _ _) (src_sq hpos.2 bm) hI').2.2.1
  rw [← hF.e] at g3
  have hlr : (remL 1 n (arms a b c L L.length) (rdL n X) M).length = n := (remL_len _ _ _ _ _).trans hn
  rcases g3 with ⟨h1, h2, _⟩ | ⟨_, h⟩ | ⟨_, _, h⟩
  · have hw := dotL_w h1 (by omega)
    have h3 := dotL_rng h1 (by omega)
    rw [hw] at h2
    exact ⟨rdL_len n X, fun s hs => by unfold rdL; rw [at0_tab _ hs]; exact rd_bd (b1 s hs), g2, h1, h3.1, by omega, .inl ⟨h1, by rw [hw]; exact h2, rfl⟩⟩
  · cases h
  · cases h
theorem tur7_good (a b c : Int) (ao uo po : Option Addr) (cap uc pc n : Nat) (L : List Q) (ns : List Int) (U : List Q) (M : List Sp) (hr : numsR a b c L ns 0) (hF : Fld7 a b c L n) (hlen : L.length ≤ 1000000) (hM : M.length = n) (hE : AllE mE M) (hU : U.length = n) (hA : AllU U) (W : World) (k1 : LiesO W ao L) (k2 : LiesO W uo U) (k3 : LiesOI W po (fl M)) : Calls Try.prog 21 #[.agg #[.int .i64 a, .int .i64 b, .int .i64 c, .slice ao L.length cap], .slice uo U.length uc, .slice po M.length pc] W fun e w' => GoodV n (tuL U M) e w' ∧ Below W.heap.size W w' := by
  have hF' := hF.l
  have hp := hF.pos
  have hv : vS L.length M 0 0 := .inr ⟨rfl, .inr (.inl ⟨by omega, hE, rfl⟩)⟩
  exact (turned_on a b c 0 0 ao uo po cap uc pc L ns U M W k1 k2 k3 hr hv rfl (by omega) (by omega) hlen (by omega)).mono fun e w' ⟨k, hw⟩ => ⟨by
    rcases k with ⟨_, g, k, e1, e2, _⟩ | ⟨k, _⟩
    · rw [hM] at e1; exact ⟨g, k, e1, e2.liesI⟩
    · exact absurd hA k, hw⟩
theorem tur7_bad (a b c : Int) (ao uo po : Option Addr) (cap uc pc n : Nat) (L : List Q) (ns : List Int) (U : List Q) (M : List Sp) (hr : numsR a b c L ns 0) (hF : Fld7 a b c L n) (hlen : L.length ≤ 1000000) (hM : M.length = n) (hE : AllE mE M) (hU : ¬ (U.length = n ∧ AllU U)) (W : World) (k1 : LiesO W ao L) (k2 : LiesO W uo U) (k3 : LiesOI W po (fl M)) : Calls Try.prog 21 #[.agg #[.int .i64 a, .int .i64 b, .int .i64 c, .slice ao L.length cap], .slice uo U.length uc, .slice po M.length pc] W fun e w' => AnyV 1 e ∧ Below W.heap.size W w' := by
  have hF' := hF.l
  have hp := hF.pos
  have hv : vS L.length M 0 0 := .inr ⟨rfl, .inr (.inl ⟨by omega, hE, rfl⟩)⟩
  by_cases hl : U.length = M.length
  · have hA : ¬ AllU U := fun h => hU ⟨by omega, h⟩
    exact (turned_on a b c 0 0 ao uo po cap uc pc L ns U M W k1 k2 k3 hr hv rfl hl (by omega) hlen (by omega)).mono fun e w' ⟨k, hw⟩ => ⟨by
      rcases k with ⟨k, _⟩ | ⟨_, k⟩
      · exact absurd k hA
      · exact ⟨_, _, _, k⟩, hw⟩
  · exact (turned_off a b c 0 0 ao uo po cap uc pc L ns U M W k1 k2 k3 hr hv rfl hl hlen (by omega)).mono fun e w' ⟨k, hw⟩ => ⟨⟨_, _, _, k⟩, hw⟩
theorem trf_any (a b c : Int) (ao go : Option Addr) (cap gc : Nat) (L G : List Q) (hlen : L.length ≤ 1000000) (hlen2 : G.length ≤ 1000000) : ∃ r : Int, ∀ W : World, LiesO W ao L → LiesO W go G → Calls Try.prog 13 #[.agg #[.int .i64 a, .int .i64 b, .int .i64 c, .slice ao L.length cap], .slice go G.length gc] W fun e w' => AnyF r e ∧ Below W.heap.size W w' := by
  obtain ⟨r, hr⟩ := gaR_ex a b c L G
  by_cases h0 : r = 0
  · subst h0
    have hp := fld_pos1 (gaR_ok hr).1
    have hgp : 0 < G.length := by have := (gaR_Gg hr).n; omega
    by_cases hl : Lim (tfL a b c L G)
    · refine ⟨0, fun W h h' => ?_⟩
      obtain ⟨b1, o1, rfl, k1⟩ := liesO_one h hp
      obtain ⟨b2, o2, rfl, k2⟩ := liesO_one h' hgp
      exact (gaT_lim a b c b1 o1 b2 o2 cap gc L G W k1 k2 hr hl).mono fun e w' ⟨⟨g, k, e1, _⟩, hw⟩ => ⟨⟨_, _, _, _, _, _, e1⟩, hw⟩
    · refine ⟨3, fun W h h' => ?_⟩
      obtain ⟨b1, o1, rfl, k1⟩ := liesO_one h hp
      obtain ⟨b2, o2, rfl, k2⟩ := liesO_one h' hgp
      exact (gaT_not a b c b1 o1 b2 o2 cap gc L G W k1 k2 hr hl).mono fun e w' ⟨e1, hw⟩ => ⟨⟨_, _, _, _, _, _, e1⟩, hw⟩
  · exact ⟨r, fun W h h' => (gaT_bad a b c r ao go cap gc L G W h h' hr h0 hlen hlen2).mono fun e w' ⟨e1, hw⟩ => ⟨⟨_, _, _, _, _, _, e1⟩, hw⟩⟩
theorem topResiduals_walk (a b c : Int) (ao : Option Addr) (L : List Q) (cap : Nat) (uo : Option Addr) (U : List Q) (uc : Nat) (po : Option Addr) (M : List Sp) (pc : Nat) (w : World) (_ : L.length ≤ maxLen) (hm : LiesO w ao L) (_ : U.length ≤ maxLen) (hg : LiesO w uo U) (_ : M.length ≤ pc) (_ : pc ≤ maxLen) (hp : LiesOI w po (fl M)) (_ : po = none → pc = 0) : Calls Try.prog 8 #[.agg #[.int .i64 a, .int .i64 b, .int .i64 c, .slice ao L.length cap], .slice uo U.length uc, .slice po M.length pc] w fun e w' => e = .returned (.bool true) ∧ Below w.heap.size w w' := by
  by_cases hn : 100 < M.length ∨ 200 < L.length
  · exact tRe_long a b c ao uo po L U M cap uc pc w hn
  by_cases hu : 100 < U.length
  · exact tRe_many a b c ao uo po L U M cap uc pc w hn hu
  obtain ⟨ns, r0, hr⟩ := nums7_ex a b c L
  obtain ⟨r, hv⟩ := soR_ex L.length M r0 1
  by_cases h0 : r = 0
  · subst h0
    obtain ⟨r1, h1, ⟨h2, h3⟩ | ⟨rfl, h3⟩⟩ := hv
    · exact absurd h3.symm h2
    obtain rfl := (ms1_ok h1).1
    obtain ⟨n, hF⟩ := fld7 hr
    have hs : AllE 1048576 M := by
      rcases h3 with ⟨h, _⟩ | ⟨_, h⟩
      · exact h
      · cases h
    have hll := hF.l
    have hpos := hF.pos
    have hMl := (ms1_ok h1).2.1
    have hME := (ms1_ok h1).2.2.1
    have eM : M.length = n := by omega
    have c1 : ∀ (W : World), LiesO W ao L → LiesOI W po (fl M) → Calls Try.prog 24 #[.agg #[.int .i64 a, .int .i64 b, .int .i64 c, .slice ao L.length cap], .int .i64 1, .slice po M.length pc] W fun e w' => (∃ (g k : Nat) (V : List Sp), e = .returned (.tuple #[.slice (some ⟨g, 0, none⟩) n k, .int .i64 0]) ∧ LiesI w' g 0 (fl V) ∧ Hid (Sol L n (arms a b c L L.length) M V)) ∧ Below W.heap.size W w' := fun W k1 k2 => (solve_ok a b c 1 ao po cap pc n L ns M W k1 k2 hr h1 hF (by omega) (by omega) hs (nums_one4 hr)).mono fun e w' ⟨⟨g, k, X, e1, e2, _, hI, hc⟩, hw⟩ => ⟨⟨g, k, rdL n X, e1, e2, Lib.hid (sol_of hr hF h1 hs hI hc)⟩, hw⟩
    have c2' : ∀ (V : List Sp), Sol L n (arms a b c L L.length) M V → ∀ (W : World) (g k : Nat), LiesO W ao L → LiesOI W po (fl M) → LiesI W g 0 (fl V) → Calls Try.prog 32 #[.agg #[.int .i64 a, .int .i64 b, .int .i64 c, .slice ao L.length cap], .int .i64 1, .slice (some ⟨g, 0, none⟩) n k, .slice po M.length pc] W fun e w' => (∃ (s : Option Addr) (k : Nat), e = .returned (.tuple #[.slice s M.length k, .int .i64 (dotL (remL 1 n (arms a b c L L.length) V M) (remL 1 n (arms a b c L L.length) V M)), .int .i64 0])) ∧ Below W.heap.size W w' := fun V hV W g k k1 k2 k3 => by
      have hl := hV.l
      have := residual_ok a b c 1 ao (some ⟨g, 0, none⟩) po cap k pc n L ns V M W k1 (.inr ⟨g, 0, rfl, k3⟩) k2 hr hV.r hF (by omega) (by omega) hV.e
      rw [hl, dotL_w hV.e (by rw [remL_len]; omega)] at this
      exact this.mono fun e w' ⟨⟨g, k, e1, _⟩, hw⟩ => ⟨⟨_, k, by rw [eM]; exact e1⟩, hw⟩
    have c3 : ∀ (V : List Sp), Sol L n (arms a b c L L.length) M V → ∀ (W : World) (g k : Nat), LiesO W ao L → LiesOI W po (fl M) → LiesI W g 0 (fl V) → Calls Try.prog 33 #[.agg #[.int .i64 a, .int .i64 b, .int .i64 c, .slice ao L.length cap], .int .i64 1, .slice (some ⟨g, 0, none⟩) n k, .slice po M.length pc] W fun e w' => (∃ x y : Int, e = .returned (.tuple #[.agg #[.int .i64 x, .int .i64 y], .int .i64 0]) ∧ x * 16 = dotL (remL 1 n (arms a b c L L.length) V M) (remL 1 n (arms a b c L L.length) V M) * y ∧ 0 ≤ x * 16 ∧ x * 16 ≤ 4000000) ∧ Below W.heap.size W w' := fun V hV W g k k1 k2 k3 => by
      have hl := hV.l
      have q0 := hV.q0
      have q1 := hV.q
      have d := fun (W : World) (j1 : LiesO W ao L) (j2 : LiesOI W (some ⟨g, 0, none⟩) (fl V)) (j3 : LiesOI W po (fl M)) => c2' V hV W g k j1 j3 (by
        rcases j2 with h | ⟨b, o, h1, h2⟩
        · have := fl_len V; rw [h] at this; simp at this; omega
        · cases h1; exact h2)
      have := bound_ok a b c 1 (dotL (remL 1 n (arms a b c L L.length) V M) (remL 1 n (arms a b c L L.length) V M)) 0 ao (some ⟨g, 0, none⟩) po cap k pc L V M W k1 (.inr ⟨g, 0, rfl, k3⟩) k2 (fun W j1 j2 j3 => by rw [hl]; exact (d W j1 j2 j3).mono fun e w' ⟨⟨s, k, e1⟩, hw⟩ => ⟨⟨_, e1⟩, hw⟩) rfl ⟨q0, by omega⟩ ⟨by decide, by decide⟩
      rw [hl] at this
      refine this.mono fun e w' ⟨e1, hw⟩ => ⟨?_, hw⟩
      generalize dotL (remL 1 n (arms a b c L L.length) V M) (remL 1 n (arms a b c L L.length) V M) = v at *
      have r1 := rat_cross v (16 * 1 * 1)
      have r2 := rat_le v (16 * 1 * 1) (by decide)
      have r3 := rat_pos v (16 * 1 * 1) (by decide)
      refine ⟨_, _, e1, by omega, ?_⟩
      have r4 : v * (rat v (16 * 1 * 1)).2 ≤ 25600 * 16 := Int.mul_le_mul q1 (by omega) (by omega) (by decide)
      have r5 : 0 ≤ v * (rat v (16 * 1 * 1)).2 := Int.mul_nonneg q0 (by omega)
      omega
    have c4 : ∀ (V : List Sp), Sol L n (arms a b c L L.length) M V → ∀ (W : World) (g k : Nat), LiesO W ao L → LiesOI W po (fl M) → LiesI W g 0 (fl V) → Calls Try.prog 34 #[.agg #[.int .i64 a, .int .i64 b, .int .i64 c, .slice ao L.length cap], .int .i64 1, .slice (some ⟨g, 0, none⟩) n k, .slice po M.length pc] W fun e w' => e = .returned (.int .i64 0) ∧ Below W.heap.size W w' := fun V hV W g k k1 k2 k3 => by
      have hl := hV.l
      have := check_ok a b c 1 0 ao (some ⟨g, 0, none⟩) po cap k pc n L ns V M W k1 (.inr ⟨g, 0, rfl, k3⟩) k2 hr hV.r hF (by omega) (by omega) (by rw [← hF.e]; exact hV.c)
      rwa [hl] at this
    have hval : ∀ V, Sol L n (arms a b c L L.length) M V → 0 ≤ dotL (remL 1 n (arms a b c L L.length) V M) (remL 1 n (arms a b c L L.length) V M) ∧ dotL (remL 1 n (arms a b c L L.length) V M) (remL 1 n (arms a b c L L.length) V M) ≤ 4000000 := fun V hV => ⟨hV.q0, by have := hV.q; omega⟩
    have hVE : ∀ V, Sol L n (arms a b c L L.length) M V → AllE mE V := fun V hV => alle_of hV.l hV.b (by decide)
    by_cases hU : U.length = n ∧ AllU U
    · obtain ⟨eU, hA⟩ := hU
      obtain ⟨hfl, hS, hFl⟩ := numsR_ok7 hr
      have hz := hF.z
      have he := hF.e
      have hL3 : (L.length : Int) = 3 * (a * b * c) := by omega
      have hGg : Gg L U := ⟨by omega, fun i x hx => ⟨(hA i x hx).1, by have := (hA i x hx).2; omega⟩⟩
      have hAt := AllS.tf hz hL3 (show 3 * U.length = L.length by omega) hS hA
      obtain ⟨ns', hr'⟩ := tf_nums hFl hz hL3 (show 3 * U.length = L.length by omega) hS hA
      obtain ⟨n', hF'⟩ := fld7 hr'
      have en : n' = n := by have := hF'.e; omega
      subst en
      have c5 : ∀ (W : World), LiesO W ao L → LiesO W uo U → Calls Try.prog 13 #[.agg #[.int .i64 a, .int .i64 b, .int .i64 c, .slice ao L.length cap], .slice uo U.length uc] W fun e w' => RetTf a b c L.length (tfL a b c L U) e w' ∧ Below W.heap.size W w' := fun W l1 l2 => by
        obtain ⟨b1, o1, rfl, m1⟩ := liesO_one l1 (by omega)
        obtain ⟨b2, o2, rfl, m2⟩ := liesO_one l2 (by omega)
        exact gaT_lim a b c b1 o1 b2 o2 cap uc L U W m1 m2 (gaR_mk hfl hGg) hAt.lim
      have c6 : ∀ (V : List Sp), Sol L n' (arms a b c L L.length) M V → ∀ (W : World) (g k : Nat), LiesO W ao L → LiesO W uo U → LiesI W g 0 (fl V) → Calls Try.prog 21 #[.agg #[.int .i64 a, .int .i64 b, .int .i64 c, .slice ao L.length cap], .slice uo U.length uc, .slice (some ⟨g, 0, none⟩) n' k] W fun e w' => GoodV n' (tuL U V) e w' ∧ Below W.heap.size W w' := fun V hV W g k k1 k2 k3 => by
        have := tur7_good a b c ao uo (some ⟨g, 0, none⟩) cap uc k n' L ns U V hr hF (by omega) hV.l (hVE V hV) eU hA W k1 k2 (.inr ⟨g, 0, rfl, k3⟩)
        rwa [hV.l] at this
      have c7 := fun (W : World) (k1 : LiesO W ao L) (k2 : LiesO W uo U) (k3 : LiesOI W po (fl M)) => tur7_good a b c ao uo po cap uc pc n' L ns U M hr hF (by omega) eM hME eU hA W k1 k2 k3
      have tl : (tfL a b c L U).length = L.length := tfL_len _ _ _ _ _
      have hlM : (tuL U M).length = n' := by rw [tuL_len]; exact eM
      have hbM : AllE mE (tuL U M) := alle_of hlM (fun s hs' => (tu_at hA eU eM hs' (src_bd eM hs s hs') (by decide)).2) (by decide)
      have hbV : ∀ V, Sol L n' (arms a b c L L.length) M V → (tuL U V).length = n' ∧ AllE mE (tuL U V) := fun V hV => by
        have hlV : (tuL U V).length = n' := by rw [tuL_len]; exact hV.l
        exact ⟨hlV, alle_of hlV (fun s hs' => (tu_at hA eU hV.l hs' (hV.b s hs') (by decide)).2) (by decide)⟩
      have hms : ∀ V, Sol L n' (arms a b c L L.length) M V → ms2 (tfL a b c L U).length (tuL U V) (tuL U M) 0 1 0 := fun V hV => by
        obtain ⟨l1, l2⟩ := hbV V hV
        refine ⟨0, .inr ⟨rfl, .inr (.inl ⟨by omega, l2, rfl⟩)⟩, .inr ⟨rfl, 0, .inr ⟨rfl, .inr (.inl ⟨by omega, hbM, rfl⟩)⟩, .inr ⟨rfl, .inr ⟨⟨by decide, by decide⟩, rfl⟩⟩⟩⟩
      by_cases h6 : AllE 1048576 (tuL U M)
      · refine tRe_z a b c ao uo po L U M cap uc pc n' w (tfL a b c L U) (Sol L n' (arms a b c L L.length) M) (fun V => dotL (remL 1 n' (arms a b c L L.length) V M) (remL 1 n' (arms a b c L L.length) V M)) hn hu hm hg hp hval c1 c2' c3 c4 c5 c6 c7 (fun V hV W g k g' k' g'' k'' l1 l2 l3 => ?_)
        have hrem : remL 1 n' (arms a b c (tfL a b c L U) (tfL a b c L U).length) (tuL U V) (tuL U M) = tuL U (remL 1 n' (arms a b c L L.length) V M) := by
          rw [tl, hll]; exact rem_tu hz he hll eU hS hA 1 hV.l eM
        have hlr : (remL 1 n' (arms a b c L L.length) V M).length = n' := (remL_len _ _ _ _ _).trans eM
        have hq : ∀ X : List Sp, X.length = n' → dotL X X = sqF (at0 X) n' := fun X hX => by unfold dotL; rw [hX, dotK_sq]
        have hq1 := hV.q
        rw [hq _ hlr] at hq1
        have hb1 : ∀ s, s < n' → Bd 160 (at0 (remL 1 n' (arms a b c L L.length) V M) s) := fun s hs => bd_of_sq (by decide) (by omega) hs
        have hlt : (tuL U (remL 1 n' (arms a b c L L.length) V M)).length = n' := by rw [tuL_len]; exact hlr
        have hE : AllE mE (tuL U (remL 1 n' (arms a b c L L.length) V M)) := alle_of hlt (fun s hs => (tu_at hA eU hlr hs (hb1 s hs) (by decide)).2) (by decide)
        have hsq := tu_sq hA eU hlr hb1 (by decide)
        obtain ⟨v1, v2⟩ := hbV V hV
        have := residual_ok a b c 1 (some ⟨g, 0, none⟩) (some ⟨g', 0, none⟩) (some ⟨g'', 0, none⟩) k k' k'' n' (tfL a b c L U) ns' (tuL U V) (tuL U M) W (.inr ⟨g, 0, rfl, l1.h⟩) (.inr ⟨g', 0, rfl, l2⟩) (.inr ⟨g'', 0, rfl, l3⟩) hr' ⟨0, hms V hV, .inr ⟨rfl, .inl ⟨h6, rfl⟩⟩⟩ hF' (by omega) (by omega) (by rw [hrem]; exact hE)
        rw [hrem, dotL_w hE (by omega), hq _ hlt, hsq, ← hq _ hlr, v1, hlM, tl] at this
        exact this.mono fun e w' ⟨⟨g, k, e1, _⟩, hw⟩ => ⟨⟨_, _, _, e1⟩, hw⟩
      · refine tRe_y a b c 1 ao uo po L U M cap uc pc n' w (tfL a b c L U) (Sol L n' (arms a b c L L.length) M) (fun V => dotL (remL 1 n' (arms a b c L L.length) V M) (remL 1 n' (arms a b c L L.length) V M)) hn hu hm hg hp (by decide) hval c1 c2' c3 c4 c5 c6 c7 (fun V hV W g k g' k' g'' k'' l1 l2 l3 => ?_)
        obtain ⟨v1, v2⟩ := hbV V hV
        have := residual_bad a b c 0 1 1 (some ⟨g, 0, none⟩) (some ⟨g', 0, none⟩) (some ⟨g'', 0, none⟩) k k' k'' (tfL a b c L U) ns' (tuL U V) (tuL U M) W (.inr ⟨g, 0, rfl, l1.h⟩) (.inr ⟨g', 0, rfl, l2⟩) (.inr ⟨g'', 0, rfl, l3⟩) hr' ⟨0, hms V hV, .inr ⟨rfl, .inr ⟨h6, rfl⟩⟩⟩ (by decide) (by omega) (by omega) (by omega)
        rw [v1, hlM, tl] at this
        exact this.mono fun e w' ⟨e1, hw⟩ => ⟨⟨_, _, _, _, e1⟩, hw⟩
    · obtain ⟨r3, c5⟩ := trf_any a b c ao uo cap uc L U (by omega) (by omega)
      have c6 : ∀ (V : List Sp), Sol L n (arms a b c L L.length) M V → ∀ (W : World) (g k : Nat), LiesO W ao L → LiesO W uo U → LiesI W g 0 (fl V) → Calls Try.prog 21 #[.agg #[.int .i64 a, .int .i64 b, .int .i64 c, .slice ao L.length cap], .slice uo U.length uc, .slice (some ⟨g, 0, none⟩) n k] W fun e w' => AnyV 1 e ∧ Below W.heap.size W w' := fun V hV W g k k1 k2 k3 => by
        have := tur7_bad a b c ao uo (some ⟨g, 0, none⟩) cap uc k n L ns U V hr hF (by omega) hV.l (hVE V hV) hU W k1 k2 (.inr ⟨g, 0, rfl, k3⟩)
        rwa [hV.l] at this
      have c7 := fun (W : World) (k1 : LiesO W ao L) (k2 : LiesO W uo U) (k3 : LiesOI W po (fl M)) => tur7_bad a b c ao uo po cap uc pc n L ns U M hr hF (by omega) eM hME hU W k1 k2 k3
      by_cases h3 : r3 = 0
      · subst h3
        exact tRe_v a b c 1 1 ao uo po L U M cap uc pc n w (Sol L n (arms a b c L L.length) M) (fun V => dotL (remL 1 n (arms a b c L L.length) V M) (remL 1 n (arms a b c L L.length) V M)) hn hu hm hg hp (by decide) hval c1 c2' c3 c4 c5 c6 c7
      · exact tRe_u a b c r3 1 1 ao uo po L U M cap uc pc n w (Sol L n (arms a b c L L.length) M) (fun V => dotL (remL 1 n (arms a b c L L.length) V M) (remL 1 n (arms a b c L L.length) V M)) hn hu hm hg hp h3 hval c1 c2' c3 c4 c5 c6 c7
  · have hrm := so_rm hv
    have d2 := fun (W : World) (k1 : LiesO W ao L) (k2 : LiesOI W po (fl M)) => residual_bad a b c r0 1 r ao po po cap pc pc L ns M M W k1 k2 k2 hr hrm h0 (by omega) (by omega) (by omega)
    obtain ⟨r1, h1, ⟨h2, rfl⟩ | ⟨h2, h3⟩⟩ := hv
    · exact tRe_err a b c r ao uo po L U M cap uc pc w hn hu hm hg hp h0 (fun W k1 k2 => solve_e1 a b c r0 1 r ao po cap pc L ns M W k1 k2 hr h1 h2 (by omega) (by omega)) d2
    · subst h2
      obtain rfl := (ms1_ok h1).1
      obtain ⟨n, hF⟩ := fld7 hr
      rcases h3 with ⟨h3, rfl⟩ | ⟨h3, rfl⟩
      · exact absurd rfl h0
      · exact tRe_err a b c 1 ao uo po L U M cap uc pc w hn hu hm hg hp h0 (fun W k1 k2 => solve_e2 a b c 1 ao po cap pc n L ns M W k1 k2 hr h1 hF (by omega) (by omega) h3) d2

/-! ### The statement of the law TopResiduals, out of its walk -/
set_option maxRecDepth 100000 in
theorem topResiduals_lifted (os : Os) (started : os.Started) (H : Type) (enc : TypeId × Value → H) :
    ReturnsInHanded {} Try.checked os 8 .any (Rows.topResidualsSpec.pre6 enc Try.prog Try.f8 Rows.topResidualsRow.domain false) (Rows.topResidualsSpec.post enc Try.prog Try.f8 false true false false) := by
  refine returnsInHanded_of_change (C := Try.checked) own started (by kernel_rfl) Try.func8
    (ChangeSpec.witness6 (enc := enc) (C := Try.checked) false ⟨#[], #[.agg #[.int .i64 0, .int .i64 0, .int .i64 0, .slice none 0 0], .slice none 0 0, .slice none 0 0], []⟩ 8 (by kernel_rfl) (by kernel_rfl) (by kernel_rfl) (by kernel_rfl)) ?_
  intro W base args ds gs before hval0 hW hcnd _
  have hval : ∀ (j : Nat) t v, Try.f8.params[j]? = some t → args[j]? = some v → Value.okWide Try.prog W .any base t v := hval0
  have hW' := hW
  obtain ⟨p, q, hA0, hV, rfl, hfz, hnd⟩ := hW
  have hA : DataW.TrodAll enc Try.prog W 0 (fun _ => true) true Try.f8.params.toList args.toList ds p := hA0
  rw [Try.params8] at hA hval
  obtain ⟨v0, vs0, d0, ds0, p0, q0, hargs, rfl, rfl, h0, r0⟩ := trodAll_cons hA
  obtain ⟨v1, vs1, d1, ds1, p1, q1, rfl, rfl, rfl, h1, r1⟩ := trodAll_cons r0
  obtain ⟨v2, vs2, d2, ds2, p2, q2, rfl, rfl, rfl, h2, r2⟩ := trodAll_cons r1
  obtain ⟨rfl, rfl, rfl⟩ := trodAll_nil r2
  obtain rfl : args = #[v0, v1, v2] := by cases args; simp_all
  obtain ⟨rfl, rfl⟩ := trodVars_none hV
  have k0 := h0
  have lt0 : ∀ x ∈ p0, x.block < W.heap.size := by obtain ⟨m, hm⟩ := k0; exact DataW.trod_lt m _ _ _ hm
  obtain ⟨x0, y0, z0, ao0, L0, cap0, rfl, hl0, hm0⟩ := open_field (hval 0 25 v0 rfl rfl) h0
  have k1 := h1
  have lt1 : ∀ x ∈ p1, x.block < W.heap.size := by obtain ⟨m, hm⟩ := k1; exact DataW.trod_lt m _ _ _ hm
  obtain ⟨ao1, L1, cap1, rfl, hl1, hm1⟩ := open_units (hval 1 23 v1 rfl rfl) h1
  have k2 := h2
  have lt2 : ∀ x ∈ p2, x.block < W.heap.size := by obtain ⟨m, hm⟩ := k2; exact DataW.trod_lt m _ _ _ hm
  obtain ⟨po2, M2, pc2, rfl, hkc2, hkl2, hkm2, hkz2⟩ := open_spins (hval 2 51 v2 rfl rfl) h2
  clear hA0 hval0
  refine (topResiduals_walk x0 y0 z0 ao0 L0 cap0 ao1 L1 cap1 po2 M2 pc2 W hl0 hm0 hl1 hm1 hkc2 hkl2 hkm2 hkz2).mono fun e W' ⟨he, bel⟩ => ?_
  subst he
  exact ⟨_, rfl, _, _, _, [], _, [], hW', trodAll_mk1 (shut_bool Try.underlying4 _), (trodAll_cons_mk (Below.trod laidOut (by kernel_rfl) (of_decide_eq_true (by kernel_rfl)) k0 bel lt0) (trodAll_cons_mk (Below.trod laidOut (by kernel_rfl) (of_decide_eq_true (by kernel_rfl)) k1 bel lt1) (trodAll_cons_mk (Below.trod laidOut (by kernel_rfl) (of_decide_eq_true (by kernel_rfl)) k2 bel lt2) trodAll_mk0))), rfl, bel.frame _, fun h => by cases h⟩

theorem topResiduals_jf9 : (Rows.topResidualsRow.inPlace == Try.prog.inPlace 8) = true := by kernel_rfl
theorem topResiduals_jf10 : (Rows.topResidualsRow.unfollowed == Try.prog.unfollowed 8) = true := by kernel_rfl
theorem topResiduals_jf11 : (Rows.topResidualsRow.recurses == Try.prog.recurses 8) = true := by kernel_rfl
theorem topResiduals_jf12 : (Rows.topResidualsRow.named == Try.prog.varsNamed 8) = true := by kernel_rfl
theorem topResiduals_facts : joinedFacts Try.prog 8 Try.f8 Rows.topResidualsSpec Rows.topResidualsRow = true := by
  unfold joinedFacts
  exact (band (band (band (band (band (band (band (band (band (band (band (band (band (band (band (band (band (band (band (band (band (band (band (band (band (band (band (band (band (band (band (by kernel_rfl) jf1) jf2) (by kernel_rfl)) (by kernel_rfl)) (by kernel_rfl)) jf6) (by kernel_rfl)) jf8) topResiduals_jf9) topResiduals_jf10) topResiduals_jf11) topResiduals_jf12) (by kernel_rfl)) (by kernel_rfl)) (by kernel_rfl)) (by kernel_rfl)) (by kernel_rfl)) (by kernel_rfl)) (by kernel_rfl)) (by kernel_rfl)) (by kernel_rfl)) (by kernel_rfl)) (by kernel_rfl)) jf24) jf25) jf26) jf27) (by kernel_rfl)) (by kernel_rfl)) (by kernel_rfl)) (by kernel_rfl))

theorem topResiduals_over : Rows.topResidualsRow.holds Try.pinned (OpenSpec.ofChange Rows.topResidualsSpec) :=
  OpenClaim.holds_of_wide 8 Try.f8 rfl rfl rfl rfl rfl rfl rfl ⟨rfl, rfl, rfl, rfl, rfl⟩ rfl rfl rfl rfl rfl (by kernel_rfl) Try.func8 topResiduals_facts
    (of_decide_eq_true (by kernel_rfl)) (by unfold Func.isWrapper; first | (rw [if_pos (by decide +kernel)]; kernel_rfl) | (rw [if_neg (by decide +kernel)]; exact ⟨rfl, rfl⟩))
    (fun os started H enc _ => topResiduals_lifted os started H enc)

theorem topResiduals_holds : Rows.TopResidualsSaid := topResiduals_over
#print axioms topResiduals_holds

end Go.Proofs.Ytojmagooapjohaa
