/- What the small functions of the program and of the document's answers hand back: bounds, signs, greatest common divisors, parts of quaternions.
Conditions: the bounds written at each theorem. -/
import Derived.Test.YtdplojcbfdbgnaaRows
import Derived.Test.YtdplojcbfdbgnaaMathA
import Derived.Test.YtdplojcbfdbgnaaRegA
import Derived.WalkKit
import Derived.WalkSpells
import Derived.WalkLawsBesides
import Derived.Lib.Hide
import Derived.BigQuiet
import Derived.Deep.DeepFit
namespace Go.Proofs.Ytdplojcbfdbgnaa
set_option linter.unusedVariables false
set_option linter.unusedSimpArgs false
open Go.RowKit
open Um

def inB (n lo hi : Int) : Bool := decide (lo ≤ n ∧ n ≤ hi)
theorem inB_yes {n lo hi : Int} (h1 : lo ≤ n) (h2 : n ≤ hi) : inB n lo hi = true := by simp [inB, h1, h2]
theorem inB_no {n lo hi : Int} (h : ¬ (lo ≤ n ∧ n ≤ hi)) : inB n lo hi = false := by simp only [inB, decide_eq_false_iff_not]; exact h

set_option maxHeartbeats 400000 in
theorem isWithin_any (n m : Int) (w : World) (h0 : 0 ≤ m) (h1 : m ≤ 1099511627776) :
    Calls Try.prog 110 #[.int .i64 n, .int .i64 m] w fun e w' => e = .returned (.bool (inB n (-m) m)) ∧ w = w' := by
  by_cases a : -m ≤ n
  · by_cases b : n ≤ m
    · have hr := inB_yes a b
      go_enter Try.func110, Try.ntmps110
      go_wp2
      go_ret
      first | exact ⟨rfl, rfl⟩ | exact ⟨by rw [hr]; rfl, rfl⟩
    · have hr : inB n (-m) m = false := inB_no (by omega)
      go_enter Try.func110, Try.ntmps110
      go_wp2
      go_ret
      first | exact ⟨rfl, rfl⟩ | exact ⟨by rw [hr]; rfl, rfl⟩
  · have hr : inB n (-m) m = false := inB_no (by omega)
    go_enter Try.func110, Try.ntmps110
    go_wp2
    go_ret
    first | exact ⟨rfl, rfl⟩ | exact ⟨by rw [hr]; rfl, rfl⟩

set_option maxHeartbeats 400000 in
theorem within_any (n lo hi : Int) (w : World) :
    Calls Try.prog 145 #[.int .i64 n, .int .i64 lo, .int .i64 hi] w fun e w' => e = .returned (.bool (inB n lo hi)) ∧ w = w' := by
  by_cases a : lo ≤ n
  · by_cases b : n ≤ hi
    · have hr := inB_yes a b
      go_enter Try.func145, Try.ntmps145
      go_wp2
      go_ret
      first | exact ⟨rfl, rfl⟩ | exact ⟨by rw [hr]; rfl, rfl⟩
    · have hr : inB n lo hi = false := inB_no (by omega)
      go_enter Try.func145, Try.ntmps145
      go_wp2
      go_ret
      first | exact ⟨rfl, rfl⟩ | exact ⟨by rw [hr]; rfl, rfl⟩
  · have hr : inB n lo hi = false := inB_no (by omega)
    go_enter Try.func145, Try.ntmps145
    go_wp2
    go_ret
    first | exact ⟨rfl, rfl⟩ | exact ⟨by rw [hr]; rfl, rfl⟩

set_option maxHeartbeats 400000 in
theorem quaternionOf_any (x : Q) (w : World) : Calls Try.prog 52 #[.agg #[.int .i64 x.a, .int .i64 x.b, .int .i64 x.c, .int .i64 x.d, .int .i64 x.n]] w fun e w' => e = .returned (.agg #[.int .i64 x.b, .int .i64 x.c, .int .i64 x.d, .int .i64 x.a, .int .i64 x.n]) ∧ Below w.heap.size w w' := by
  go_enter Try.func52, Try.ntmps52
  go_wp2
  exact bodyPost_ret (v := .agg #[.int .i64 x.b, .int .i64 x.c, .int .i64 x.d, .int .i64 x.a, .int .i64 x.n]) (by simp [results, Try.results52, go_sem]) rfl ⟨rfl, ((Below.refl _ _).alloc (Nat.le_refl _) _).alloc (by simp) _⟩

set_option maxHeartbeats 400000 in
theorem one_any (w : World) : Calls Try.prog 150 #[] w fun e w' => e = .returned (.agg #[.int .i64 one.b, .int .i64 one.c, .int .i64 one.d, .int .i64 one.a, .int .i64 one.n]) ∧ Below w.heap.size w w' := by
  go_enter Try.func150, Try.ntmps150
  go_wp2
  exact bodyPost_ret (v := .agg #[.int .i64 one.b, .int .i64 one.c, .int .i64 one.d, .int .i64 one.a, .int .i64 one.n]) (by simp [results, Try.results150, go_sem, one]) rfl ⟨rfl, (Below.refl _ _).alloc (Nat.le_refl _) _⟩

set_option maxHeartbeats 400000 in
theorem refOne_any (w : World) : Calls Try.prog 85 #[] w fun e w' => e = .returned (.agg #[.int .i64 one.a, .int .i64 one.b, .int .i64 one.c, .int .i64 one.d, .int .i64 one.n]) ∧ Below w.heap.size w w' := by
  go_enter Try.func85, Try.ntmps85
  go_wp2
  exact bodyPost_ret (v := .agg #[.int .i64 one.a, .int .i64 one.b, .int .i64 one.c, .int .i64 one.d, .int .i64 one.n]) (by simp [results, Try.results85, go_sem, one]) rfl ⟨rfl, (Below.refl _ _).alloc (Nat.le_refl _) _⟩

set_option maxHeartbeats 400000 in
theorem back_any (x : Q) (w : World) (hb : -1073741824 ≤ x.b ∧ x.b ≤ 1073741824) (hc : -1073741824 ≤ x.c ∧ x.c ≤ 1073741824) (hd : -1073741824 ≤ x.d ∧ x.d ≤ 1073741824) : Calls Try.prog 119 #[.agg #[.int .i64 x.a, .int .i64 x.b, .int .i64 x.c, .int .i64 x.d, .int .i64 x.n]] w fun e w' => e = .returned (.agg #[.int .i64 (bar x).a, .int .i64 (bar x).b, .int .i64 (bar x).c, .int .i64 (bar x).d, .int .i64 (bar x).n]) ∧ Below w.heap.size w w' := by
  obtain ⟨hb1, hb2⟩ := hb
  obtain ⟨hc1, hc2⟩ := hc
  obtain ⟨hd1, hd2⟩ := hd
  go_enter Try.func119, Try.ntmps119
  go_wp2
  exact bodyPost_ret (v := .agg #[.int .i64 (bar x).a, .int .i64 (bar x).b, .int .i64 (bar x).c, .int .i64 (bar x).d, .int .i64 (bar x).n]) (by simp [results, Try.results119, go_sem, bar]) rfl ⟨rfl, ((Below.refl _ _).alloc (Nat.le_refl _) _).alloc (by simp) _⟩

/-- Every product of a part of x and one of y lies within a bound: what an int can hold, four times over. -/
structure Small2 (x y : Q) : Prop where
  h : ∀ p q : Int, (p = x.a ∨ p = x.b ∨ p = x.c ∨ p = x.d ∨ p = x.n) → (q = y.a ∨ q = y.b ∨ q = y.c ∨ q = y.d ∨ q = y.n) → -1152921504606846976 ≤ p * q ∧ p * q ≤ 1152921504606846976

set_option maxHeartbeats 400000 in
theorem scaled_any (x : Q) (k : Int) (w : World) (hb : -1152921504606846976 ≤ k * x.b ∧ k * x.b ≤ 1152921504606846976) (hc : -1152921504606846976 ≤ k * x.c ∧ k * x.c ≤ 1152921504606846976) (hd : -1152921504606846976 ≤ k * x.d ∧ k * x.d ≤ 1152921504606846976) :
    Calls Try.prog 88 #[.agg #[.int .i64 x.b, .int .i64 x.c, .int .i64 x.d], .int .i64 k] w fun e w' => e = .returned (.agg #[.int .i64 (k * x.b), .int .i64 (k * x.c), .int .i64 (k * x.d)]) ∧ Below w.heap.size w w' := by
  obtain ⟨hb1, hb2⟩ := hb
  obtain ⟨hc1, hc2⟩ := hc
  obtain ⟨hd1, hd2⟩ := hd
  go_enter Try.func88, Try.ntmps88
  go_wp2
  exact bodyPost_ret (v := .agg #[.int .i64 (k * x.b), .int .i64 (k * x.c), .int .i64 (k * x.d)]) (by simp [results, Try.results88, go_sem]) rfl ⟨rfl, ((Below.refl _ _).alloc (Nat.le_refl _) _).alloc (by simp) _⟩

set_option maxHeartbeats 400000 in
theorem plus_any (b c d b' c' d' : Int) (w : World) (hb : -4611686018427387904 ≤ b + b' ∧ b + b' ≤ 4611686018427387904) (hc : -4611686018427387904 ≤ c + c' ∧ c + c' ≤ 4611686018427387904) (hd : -4611686018427387904 ≤ d + d' ∧ d + d' ≤ 4611686018427387904) :
    Calls Try.prog 155 #[.agg #[.int .i64 b, .int .i64 c, .int .i64 d], .agg #[.int .i64 b', .int .i64 c', .int .i64 d']] w fun e w' => e = .returned (.agg #[.int .i64 (b + b'), .int .i64 (c + c'), .int .i64 (d + d')]) ∧ Below w.heap.size w w' := by
  obtain ⟨hb1, hb2⟩ := hb
  obtain ⟨hc1, hc2⟩ := hc
  obtain ⟨hd1, hd2⟩ := hd
  go_enter Try.func155, Try.ntmps155
  go_wp2
  exact bodyPost_ret (v := .agg #[.int .i64 (b + b'), .int .i64 (c + c'), .int .i64 (d + d')]) (by simp [results, Try.results155, go_sem]) rfl ⟨rfl, (((Below.refl _ _).alloc (Nat.le_refl _) _).alloc (by simp) _).alloc (by simp; omega) _⟩

set_option maxHeartbeats 400000 in
theorem cross_any (x y : Q) (w : World) (h : Small2 x y) :
    Calls Try.prog 156 #[.agg #[.int .i64 x.b, .int .i64 x.c, .int .i64 x.d], .agg #[.int .i64 y.b, .int .i64 y.c, .int .i64 y.d]] w fun e w' => e = .returned (.agg #[.int .i64 (x.c * y.d - x.d * y.c), .int .i64 (x.d * y.b - x.b * y.d), .int .i64 (x.b * y.c - x.c * y.b)]) ∧ Below w.heap.size w w' := by
  obtain ⟨h1, h2⟩ := h.h x.c y.d (by simp) (by simp)
  obtain ⟨h3, h4⟩ := h.h x.d y.c (by simp) (by simp)
  obtain ⟨h5, h6⟩ := h.h x.d y.b (by simp) (by simp)
  obtain ⟨h7, h8⟩ := h.h x.b y.d (by simp) (by simp)
  obtain ⟨h9, h10⟩ := h.h x.b y.c (by simp) (by simp)
  obtain ⟨h11, h12⟩ := h.h x.c y.b (by simp) (by simp)
  go_enter Try.func156, Try.ntmps156
  go_wp2
  exact bodyPost_ret (v := .agg #[.int .i64 (x.c * y.d - x.d * y.c), .int .i64 (x.d * y.b - x.b * y.d), .int .i64 (x.b * y.c - x.c * y.b)]) (by simp [results, Try.results156, go_sem]) rfl ⟨rfl, (((Below.refl _ _).alloc (Nat.le_refl _) _).alloc (by simp) _).alloc (by simp; omega) _⟩

set_option maxHeartbeats 400000 in
theorem dot_any (x y : Q) (w : World) (h : Small2 x y) :
    Calls Try.prog 112 #[.agg #[.int .i64 x.b, .int .i64 x.c, .int .i64 x.d], .agg #[.int .i64 y.b, .int .i64 y.c, .int .i64 y.d]] w fun e w' => e = .returned (.int .i64 (x.b * y.b + x.c * y.c + x.d * y.d)) ∧ Below w.heap.size w w' := by
  obtain ⟨h1, h2⟩ := h.h x.b y.b (by simp) (by simp)
  obtain ⟨h3, h4⟩ := h.h x.c y.c (by simp) (by simp)
  obtain ⟨h5, h6⟩ := h.h x.d y.d (by simp) (by simp)
  go_enter Try.func112, Try.ntmps112
  go_wp2
  go_ret
  exact ⟨rfl, ((Below.refl _ _).alloc (Nat.le_refl _) _).alloc (by simp) _⟩
end Go.Proofs.Ytdplojcbfdbgnaa
