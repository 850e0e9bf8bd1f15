/- Products, inverses and opposites, as the document's answers and the program make them.
Conditions: none. -/
import Derived.Test.YtecoemdpfpdeoaaMul
import Derived.Test.YtecoemdpfpdeoaaRefValid
import Derived.Test.YtecoemdpfpdeoaaLowest
namespace Go.Proofs.Ytecoemdpfpdeoaa
set_option linter.unusedVariables false
set_option linter.unusedSimpArgs false
open Go.RowKit
open Um

set_option maxHeartbeats 800000 in
theorem both_any (x y : Q) (r : Int) (w : World) (h : (V x ∧ V y ∧ r = 0) ∨ ((¬ V x ∨ ¬ V y) ∧ r = 1)) : Calls Try.prog 66 #[.agg #[.int .i64 x.a, .int .i64 x.b, .int .i64 x.c, .int .i64 x.d, .int .i64 x.n], .agg #[.int .i64 y.a, .int .i64 y.b, .int .i64 y.c, .int .i64 y.d, .int .i64 y.n]] w fun e w' => e = .returned (.int .i64 r) ∧ Below w.heap.size w w' := by
  by_cases hx : V x
  · have c1 := fun W : World => refValidate_any x W 0 (.inl ⟨hx, rfl⟩)
    have c2 := fun W : World => refValidate_any y W r (by
      rcases h with h | h
      · exact .inl ⟨h.2.1, h.2.2⟩
      · rcases h.1 with h' | h'
        · exact absurd hx h'
        · exact .inr ⟨h', h.2⟩)
    clear h hx
    go_enter Try.func66, Try.ntmps66
    go_wp2_with (first | ((with_reducible refine (c1 _).mono ?_); rintro e w1 ⟨rfl, hw1⟩; have hc := Tail.cells hw1; have zw10 := Nat.lt_of_lt_of_le (n := w.heap.size) (by simp <;> omega) hw1.size; have zw11 := Nat.lt_of_lt_of_le (n := w.heap.size + 1) (by simp <;> omega) hw1.size) | ((with_reducible refine (c2 _).mono ?_); rintro e w2 ⟨rfl, hw2⟩))
    go_ret
    exact ⟨rfl, by repeat (first | (with_reducible exact Below.refl _ _) | (with_reducible refine Below.setCell ?_ ?_ _) | (with_reducible refine Below.drew ?_) | (with_reducible refine Below.alloc ?_ ?_ _) | (with_reducible refine Below.trans ?_ (Below.mono hw2 ?_)) | (with_reducible refine Below.trans ?_ (Below.mono hw1 ?_)) | (with_reducible exact hw2.size) | (with_reducible exact hw1.size) | omega | (simp <;> omega) | (simp <;> (have s := hw2.size; omega)) | (simp <;> (have s := hw1.size; omega)) | (have s0 := hw2.size; (try simp at s0); have s1 := hw1.size; (try simp at s1); (try simp); omega))⟩
  · have hr : r = 1 := by
      rcases h with h | h
      · exact absurd h.1 hx
      · exact h.2
    subst hr
    have c1 := fun W : World => refValidate_any x W 1 (.inr ⟨hx, rfl⟩)
    clear h hx
    go_enter Try.func66, Try.ntmps66
    go_wp2_with ((with_reducible refine (c1 _).mono ?_); rintro e w1 ⟨rfl, hw1⟩; have hc := Tail.cells hw1; have zw10 := Nat.lt_of_lt_of_le (n := w.heap.size) (by simp <;> omega) hw1.size; have zw11 := Nat.lt_of_lt_of_le (n := w.heap.size + 1) (by simp <;> omega) hw1.size)
    go_ret
    exact ⟨rfl, by repeat (first | (with_reducible exact Below.refl _ _) | (with_reducible refine Below.setCell ?_ ?_ _) | (with_reducible refine Below.drew ?_) | (with_reducible refine Below.alloc ?_ ?_ _) | (with_reducible refine Below.trans ?_ (Below.mono hw1 ?_)) | (with_reducible exact hw1.size) | omega | (simp <;> omega) | (simp <;> (have s := hw1.size; omega)) | (have s0 := hw1.size; (try simp at s0); (try simp); omega))⟩

set_option maxHeartbeats 800000 in
theorem refMul_bad (x y : Q) (w : World) (h : ¬ V x ∨ ¬ V y) : Calls Try.prog 26 #[.agg #[.int .i64 x.a, .int .i64 x.b, .int .i64 x.c, .int .i64 x.d, .int .i64 x.n], .agg #[.int .i64 y.a, .int .i64 y.b, .int .i64 y.c, .int .i64 y.d, .int .i64 y.n]] w fun e w' => e = .returned (.tuple #[.agg #[.int .i64 zero.a, .int .i64 zero.b, .int .i64 zero.c, .int .i64 zero.d, .int .i64 zero.n], .int .i64 1]) ∧ Below w.heap.size w w' := by
  have c1 := fun W : World => both_any x y 1 W (.inr ⟨h, rfl⟩)
  clear h
  go_enter Try.func26, Try.ntmps26
  go_wp2_with ((with_reducible refine (c1 _).mono ?_); rintro e w1 ⟨rfl, hw1⟩; have hc := Tail.cells hw1; have zw10 := Nat.lt_of_lt_of_le (n := w.heap.size) (by simp <;> omega) hw1.size; have zw11 := Nat.lt_of_lt_of_le (n := w.heap.size + 1) (by simp <;> omega) hw1.size; have zw12 := Nat.lt_of_lt_of_le (n := w.heap.size + 2) (by simp <;> omega) hw1.size)
  refine bodyPost_ret (v := .tuple #[.agg #[.int .i64 zero.a, .int .i64 zero.b, .int .i64 zero.c, .int .i64 zero.d, .int .i64 zero.n], .int .i64 1]) ?_ rfl ⟨rfl, ?_⟩
  · simp [results, Try.results26, go_sem, hc, zero, zw10, zw11, zw12]
  · repeat (first | (with_reducible exact Below.refl _ _) | (with_reducible refine Below.setCell ?_ ?_ _) | (with_reducible refine Below.drew ?_) | (with_reducible refine Below.alloc ?_ ?_ _) | (with_reducible refine Below.trans ?_ (Below.mono hw1 ?_)) | (with_reducible exact hw1.size) | omega | (simp <;> omega) | (simp <;> (have s := hw1.size; omega)) | (have s0 := hw1.size; (try simp at s0); (try simp); omega))

set_option maxHeartbeats 800000 in
theorem refMul_good (x y r : Q) (er : Int) (w : World) (hx : V x) (hy : V y) (h : ((low (mul x y)).n ≤ 1048576 ∧ r = low (mul x y) ∧ er = 0) ∨ (1048576 < (low (mul x y)).n ∧ r = zero ∧ er = 3)) : Calls Try.prog 26 #[.agg #[.int .i64 x.a, .int .i64 x.b, .int .i64 x.c, .int .i64 x.d, .int .i64 x.n], .agg #[.int .i64 y.a, .int .i64 y.b, .int .i64 y.c, .int .i64 y.d, .int .i64 y.n]] w fun e w' => e = .returned (.tuple #[.agg #[.int .i64 r.a, .int .i64 r.b, .int .i64 r.c, .int .i64 r.d, .int .i64 r.n], .int .i64 er]) ∧ Below w.heap.size w w' := by
  have c1 := fun W : World => both_any x y 0 W (.inl ⟨hx, hy, rfl⟩)
  have c2 := fun W : World => raw_any x y W (V.small2 hx hy)
  have hi := V.mul_in hx hy
  have c3 : ∀ W : World, Calls Try.prog 63 #[.agg #[.int .i64 (mul x y).a, .int .i64 (mul x y).b, .int .i64 (mul x y).c, .int .i64 (mul x y).d, .int .i64 (mul x y).n]] W fun e' w' => e' = .returned (.tuple #[.agg #[.int .i64 r.a, .int .i64 r.b, .int .i64 r.c, .int .i64 r.d, .int .i64 r.n], .int .i64 er]) ∧ Below W.heap.size W w' := fun W => by
    rcases h with ⟨h1, rfl, rfl⟩ | ⟨h1, rfl, rfl⟩
    · exact lowest_ok _ _ hi h1
    · exact lowest_large _ _ hi h1
  clear h hi hx hy
  go_enter Try.func26, Try.ntmps26
  go_wp2_with (first | ((with_reducible refine (c1 _).mono ?_); rintro e w1 ⟨rfl, hw1⟩; have hc := Tail.cells hw1; have zw10 := Nat.lt_of_lt_of_le (n := w.heap.size) (by simp <;> omega) hw1.size; have zw11 := Nat.lt_of_lt_of_le (n := w.heap.size + 1) (by simp <;> omega) hw1.size; have zw12 := Nat.lt_of_lt_of_le (n := w.heap.size + 2) (by simp <;> omega) hw1.size) | ((with_reducible refine (c2 _).mono ?_); rintro e w2 ⟨rfl, hw2⟩; have hc2 := Tail.cells hw2; have z2 := Nat.lt_of_lt_of_le zw12 hw2.size) | ((with_reducible refine (c3 _).mono ?_); rintro e w3 ⟨rfl, hw3⟩; have hc3 := Tail.cells hw3; have z3 := Nat.lt_of_lt_of_le z2 hw3.size))
  refine bodyPost_ret (v := .tuple #[.agg #[.int .i64 r.a, .int .i64 r.b, .int .i64 r.c, .int .i64 r.d, .int .i64 r.n], .int .i64 er]) ?_ rfl ⟨rfl, ?_⟩
  · simp [results, Try.results26, go_sem, hc, hc2, hc3, zw10, zw11, zw12, z2, z3]
  · repeat (first | (with_reducible exact Below.refl _ _) | (with_reducible refine Below.setCell ?_ ?_ _) | (with_reducible refine Below.drew ?_) | (with_reducible refine Below.alloc ?_ ?_ _) | (with_reducible refine Below.trans ?_ (Below.mono hw3 ?_)) | (with_reducible refine Below.trans ?_ (Below.mono hw2 ?_)) | (with_reducible refine Below.trans ?_ (Below.mono hw1 ?_)) | (with_reducible exact hw3.size) | (with_reducible exact hw2.size) | (with_reducible exact hw1.size) | omega | (simp <;> omega) | (simp <;> (have s := hw3.size; omega)) | (simp <;> (have s := hw2.size; omega)) | (simp <;> (have s := hw1.size; omega)) | (have s0 := hw3.size; (try simp at s0); have s1 := hw2.size; (try simp at s1); have s2 := hw1.size; (try simp at s2); (try simp); omega))

/-- valid or not: the error -/
def vE (x : Q) (r : Int) : Prop := (V x ∧ r = 0) ∨ (¬ V x ∧ r = 1)

set_option maxHeartbeats 800000 in
theorem inv_bad (x : Q) (w : World) (h : ¬ V x) : Calls Try.prog 16 #[.agg #[.int .i64 x.a, .int .i64 x.b, .int .i64 x.c, .int .i64 x.d, .int .i64 x.n]] w fun e w' => e = .returned (.tuple #[.agg #[.int .i64 zero.a, .int .i64 zero.b, .int .i64 zero.c, .int .i64 zero.d, .int .i64 zero.n], .int .i64 1]) ∧ Below w.heap.size w w' := by
  have c1 := fun W : World => validate_bad x W h
  clear h
  go_enter Try.func16, Try.ntmps16
  go_wp2_with ((with_reducible refine (c1 _).mono ?_); rintro e w1 ⟨rfl, hw1⟩; have hc := Tail.cells hw1; have zw10 := Nat.lt_of_lt_of_le (n := w.heap.size) (by simp <;> omega) hw1.size; have zw11 := Nat.lt_of_lt_of_le (n := w.heap.size + 1) (by simp <;> omega) hw1.size)
  refine bodyPost_ret (v := .tuple #[.agg #[.int .i64 zero.a, .int .i64 zero.b, .int .i64 zero.c, .int .i64 zero.d, .int .i64 zero.n], .int .i64 1]) ?_ rfl ⟨rfl, ?_⟩
  · simp [results, Try.results16, go_sem, hc, zero, zw10, zw11]
  · repeat (first | (with_reducible exact Below.refl _ _) | (with_reducible refine Below.setCell ?_ ?_ _) | (with_reducible refine Below.drew ?_) | (with_reducible refine Below.alloc ?_ ?_ _) | (with_reducible refine Below.trans ?_ (Below.mono hw1 ?_)) | (with_reducible exact hw1.size) | omega | (simp <;> omega) | (simp <;> (have s := hw1.size; omega)) | (have s0 := hw1.size; (try simp at s0); (try simp); omega))

set_option maxHeartbeats 800000 in
theorem inv_ok (x : Q) (w : World) (h : V x) : Calls Try.prog 16 #[.agg #[.int .i64 x.a, .int .i64 x.b, .int .i64 x.c, .int .i64 x.d, .int .i64 x.n]] w fun e w' => e = .returned (.tuple #[.agg #[.int .i64 (bar x).a, .int .i64 (bar x).b, .int .i64 (bar x).c, .int .i64 (bar x).d, .int .i64 (bar x).n], .int .i64 0]) ∧ Below w.heap.size w w' := by
  have i := V.in h
  have c1 := fun W : World => validate_ok x W h
  have c2 := fun W : World => quaternionOf_any x W
  have c3 := fun W : World => inverse_any x W (by have := i.b; omega) (by have := i.c; omega) (by have := i.d; omega)
  have c4 := fun W : World => unit_ok (bar x) W ((V.in h.bar).le (by omega)) (by rw [h.bar.low]; exact h.le)
  rw [h.bar.low] at c4
  clear h i
  go_enter Try.func16, Try.ntmps16
  go_wp2_with (first | ((with_reducible refine (c1 _).mono ?_); rintro e w1 ⟨rfl, hw1⟩; have hc := Tail.cells hw1; have zw10 := Nat.lt_of_lt_of_le (n := w.heap.size) (by simp <;> omega) hw1.size; have zw11 := Nat.lt_of_lt_of_le (n := w.heap.size + 1) (by simp <;> omega) hw1.size) | ((with_reducible refine (c2 _).mono ?_); rintro e w2 ⟨rfl, hw2⟩; have hc2 := Tail.cells hw2; have z2 := Nat.lt_of_lt_of_le zw11 hw2.size) | ((with_reducible refine (c3 _).mono ?_); rintro e w3 ⟨rfl, hw3⟩; have hc3 := Tail.cells hw3; have z3 := Nat.lt_of_lt_of_le z2 hw3.size) | ((with_reducible refine (c4 _).mono ?_); rintro e w4 ⟨rfl, hw4⟩; have hc4 := Tail.cells hw4; have z4 := Nat.lt_of_lt_of_le z3 hw4.size))
  refine bodyPost_ret (v := .tuple #[.agg #[.int .i64 (bar x).a, .int .i64 (bar x).b, .int .i64 (bar x).c, .int .i64 (bar x).d, .int .i64 (bar x).n], .int .i64 0]) ?_ rfl ⟨rfl, ?_⟩
  · simp [results, Try.results16, go_sem, hc, hc2, hc3, hc4, zw10, zw11, z2, z3, z4]
  · repeat (first | (with_reducible exact Below.refl _ _) | (with_reducible refine Below.setCell ?_ ?_ _) | (with_reducible refine Below.drew ?_) | (with_reducible refine Below.alloc ?_ ?_ _) | (with_reducible refine Below.trans ?_ (Below.mono hw4 ?_)) | (with_reducible refine Below.trans ?_ (Below.mono hw3 ?_)) | (with_reducible refine Below.trans ?_ (Below.mono hw2 ?_)) | (with_reducible refine Below.trans ?_ (Below.mono hw1 ?_)) | (with_reducible exact hw4.size) | (with_reducible exact hw3.size) | (with_reducible exact hw2.size) | (with_reducible exact hw1.size) | omega | (simp <;> omega) | (simp <;> (have s := hw4.size; omega)) | (simp <;> (have s := hw3.size; omega)) | (simp <;> (have s := hw2.size; omega)) | (simp <;> (have s := hw1.size; omega)) | (have s0 := hw4.size; (try simp at s0); have s1 := hw3.size; (try simp at s1); have s2 := hw2.size; (try simp at s2); have s3 := hw1.size; (try simp at s3); (try simp); omega))

set_option maxHeartbeats 800000 in
theorem refInv_bad (x : Q) (w : World) (h : ¬ V x) : Calls Try.prog 17 #[.agg #[.int .i64 x.a, .int .i64 x.b, .int .i64 x.c, .int .i64 x.d, .int .i64 x.n]] w fun e w' => e = .returned (.tuple #[.agg #[.int .i64 zero.a, .int .i64 zero.b, .int .i64 zero.c, .int .i64 zero.d, .int .i64 zero.n], .int .i64 1]) ∧ Below w.heap.size w w' := by
  have c1 := fun W : World => refValidate_any x W 1 (.inr ⟨h, rfl⟩)
  clear h
  go_enter Try.func17, Try.ntmps17
  go_wp2_with ((with_reducible refine (c1 _).mono ?_); rintro e w1 ⟨rfl, hw1⟩; have hc := Tail.cells hw1; have zw10 := Nat.lt_of_lt_of_le (n := w.heap.size) (by simp <;> omega) hw1.size; have zw11 := Nat.lt_of_lt_of_le (n := w.heap.size + 1) (by simp <;> omega) hw1.size)
  refine bodyPost_ret (v := .tuple #[.agg #[.int .i64 zero.a, .int .i64 zero.b, .int .i64 zero.c, .int .i64 zero.d, .int .i64 zero.n], .int .i64 1]) ?_ rfl ⟨rfl, ?_⟩
  · simp [results, Try.results17, go_sem, hc, zero, zw10, zw11]
  · repeat (first | (with_reducible exact Below.refl _ _) | (with_reducible refine Below.setCell ?_ ?_ _) | (with_reducible refine Below.drew ?_) | (with_reducible refine Below.alloc ?_ ?_ _) | (with_reducible refine Below.trans ?_ (Below.mono hw1 ?_)) | (with_reducible exact hw1.size) | omega | (simp <;> omega) | (simp <;> (have s := hw1.size; omega)) | (have s0 := hw1.size; (try simp at s0); (try simp); omega))

set_option maxHeartbeats 800000 in
theorem refInv_ok (x : Q) (w : World) (h : V x) : Calls Try.prog 17 #[.agg #[.int .i64 x.a, .int .i64 x.b, .int .i64 x.c, .int .i64 x.d, .int .i64 x.n]] w fun e w' => e = .returned (.tuple #[.agg #[.int .i64 (bar x).a, .int .i64 (bar x).b, .int .i64 (bar x).c, .int .i64 (bar x).d, .int .i64 (bar x).n], .int .i64 0]) ∧ Below w.heap.size w w' := by
  have i := V.in h
  have c1 := fun W : World => refValidate_any x W 0 (.inl ⟨h, rfl⟩)
  have c2 := fun W : World => back_any x W (by have := i.b; omega) (by have := i.c; omega) (by have := i.d; omega)
  clear h i
  go_enter Try.func17, Try.ntmps17
  go_wp2_with (first | ((with_reducible refine (c1 _).mono ?_); rintro e w1 ⟨rfl, hw1⟩; have hc := Tail.cells hw1; have zw10 := Nat.lt_of_lt_of_le (n := w.heap.size) (by simp <;> omega) hw1.size; have zw11 := Nat.lt_of_lt_of_le (n := w.heap.size + 1) (by simp <;> omega) hw1.size) | ((with_reducible refine (c2 _).mono ?_); rintro e w2 ⟨rfl, hw2⟩; have hc2 := Tail.cells hw2; have z2 := Nat.lt_of_lt_of_le zw11 hw2.size))
  refine bodyPost_ret (v := .tuple #[.agg #[.int .i64 (bar x).a, .int .i64 (bar x).b, .int .i64 (bar x).c, .int .i64 (bar x).d, .int .i64 (bar x).n], .int .i64 0]) ?_ rfl ⟨rfl, ?_⟩
  · simp [results, Try.results17, go_sem, hc, hc2, zw10, zw11, z2]
  · repeat (first | (with_reducible exact Below.refl _ _) | (with_reducible refine Below.setCell ?_ ?_ _) | (with_reducible refine Below.drew ?_) | (with_reducible refine Below.alloc ?_ ?_ _) | (with_reducible refine Below.trans ?_ (Below.mono hw2 ?_)) | (with_reducible refine Below.trans ?_ (Below.mono hw1 ?_)) | (with_reducible exact hw2.size) | (with_reducible exact hw1.size) | omega | (simp <;> omega) | (simp <;> (have s := hw2.size; omega)) | (simp <;> (have s := hw1.size; omega)) | (have s0 := hw2.size; (try simp at s0); have s1 := hw1.size; (try simp at s1); (try simp); omega))

set_option maxHeartbeats 800000 in
theorem neg_bad (x : Q) (w : World) (h : ¬ V x) : Calls Try.prog 18 #[.agg #[.int .i64 x.a, .int .i64 x.b, .int .i64 x.c, .int .i64 x.d, .int .i64 x.n]] w fun e w' => e = .returned (.tuple #[.agg #[.int .i64 zero.a, .int .i64 zero.b, .int .i64 zero.c, .int .i64 zero.d, .int .i64 zero.n], .int .i64 1]) ∧ Below w.heap.size w w' := by
  have c1 := fun W : World => validate_bad x W h
  clear h
  go_enter Try.func18, Try.ntmps18
  go_wp2_with ((with_reducible refine (c1 _).mono ?_); rintro e w1 ⟨rfl, hw1⟩; have hc := Tail.cells hw1; have zw10 := Nat.lt_of_lt_of_le (n := w.heap.size) (by simp <;> omega) hw1.size; have zw11 := Nat.lt_of_lt_of_le (n := w.heap.size + 1) (by simp <;> omega) hw1.size)
  refine bodyPost_ret (v := .tuple #[.agg #[.int .i64 zero.a, .int .i64 zero.b, .int .i64 zero.c, .int .i64 zero.d, .int .i64 zero.n], .int .i64 1]) ?_ rfl ⟨rfl, ?_⟩
  · simp [results, Try.results18, go_sem, hc, zero, zw10, zw11]
  · repeat (first | (with_reducible exact Below.refl _ _) | (with_reducible refine Below.setCell ?_ ?_ _) | (with_reducible refine Below.drew ?_) | (with_reducible refine Below.alloc ?_ ?_ _) | (with_reducible refine Below.trans ?_ (Below.mono hw1 ?_)) | (with_reducible exact hw1.size) | omega | (simp <;> omega) | (simp <;> (have s := hw1.size; omega)) | (have s0 := hw1.size; (try simp at s0); (try simp); omega))

set_option maxHeartbeats 800000 in
theorem neg_ok (x : Q) (w : World) (h : V x) : Calls Try.prog 18 #[.agg #[.int .i64 x.a, .int .i64 x.b, .int .i64 x.c, .int .i64 x.d, .int .i64 x.n]] w fun e w' => e = .returned (.tuple #[.agg #[.int .i64 (neg x).a, .int .i64 (neg x).b, .int .i64 (neg x).c, .int .i64 (neg x).d, .int .i64 (neg x).n], .int .i64 0]) ∧ Below w.heap.size w w' := by
  obtain ⟨⟨a1, a2⟩, ⟨b1, b2⟩, ⟨c1, c2⟩, ⟨d1, d2⟩, n1, n2⟩ := V.in h
  have k1 := fun W : World => validate_ok x W h
  clear h
  go_enter Try.func18, Try.ntmps18
  go_wp2_with ((with_reducible refine (k1 _).mono ?_); rintro e w1 ⟨rfl, hw1⟩; have hc := Tail.cells hw1; have zw10 := Nat.lt_of_lt_of_le (n := w.heap.size) (by simp <;> omega) hw1.size; have zw11 := Nat.lt_of_lt_of_le (n := w.heap.size + 1) (by simp <;> omega) hw1.size)
  refine bodyPost_ret (v := .tuple #[.agg #[.int .i64 (neg x).a, .int .i64 (neg x).b, .int .i64 (neg x).c, .int .i64 (neg x).d, .int .i64 (neg x).n], .int .i64 0]) ?_ rfl ⟨rfl, ?_⟩
  · simp [results, Try.results18, go_sem, hc, zw10, zw11, neg]
  · repeat (first | (with_reducible exact Below.refl _ _) | (with_reducible refine Below.setCell ?_ ?_ _) | (with_reducible refine Below.drew ?_) | (with_reducible refine Below.alloc ?_ ?_ _) | (with_reducible refine Below.trans ?_ (Below.mono hw1 ?_)) | (with_reducible exact hw1.size) | omega | (simp <;> omega) | (simp <;> (have s := hw1.size; omega)) | (have s0 := hw1.size; (try simp at s0); (try simp); omega))

set_option maxHeartbeats 800000 in
theorem refNeg_bad (x : Q) (w : World) (h : ¬ V x) : Calls Try.prog 19 #[.agg #[.int .i64 x.a, .int .i64 x.b, .int .i64 x.c, .int .i64 x.d, .int .i64 x.n]] w fun e w' => e = .returned (.tuple #[.agg #[.int .i64 zero.a, .int .i64 zero.b, .int .i64 zero.c, .int .i64 zero.d, .int .i64 zero.n], .int .i64 1]) ∧ Below w.heap.size w w' := by
  have c1 := fun W : World => refValidate_any x W 1 (.inr ⟨h, rfl⟩)
  clear h
  go_enter Try.func19, Try.ntmps19
  go_wp2_with ((with_reducible refine (c1 _).mono ?_); rintro e w1 ⟨rfl, hw1⟩; have hc := Tail.cells hw1; have zw10 := Nat.lt_of_lt_of_le (n := w.heap.size) (by simp <;> omega) hw1.size; have zw11 := Nat.lt_of_lt_of_le (n := w.heap.size + 1) (by simp <;> omega) hw1.size)
  refine bodyPost_ret (v := .tuple #[.agg #[.int .i64 zero.a, .int .i64 zero.b, .int .i64 zero.c, .int .i64 zero.d, .int .i64 zero.n], .int .i64 1]) ?_ rfl ⟨rfl, ?_⟩
  · simp [results, Try.results19, go_sem, hc, zero, zw10, zw11]
  · repeat (first | (with_reducible exact Below.refl _ _) | (with_reducible refine Below.setCell ?_ ?_ _) | (with_reducible refine Below.drew ?_) | (with_reducible refine Below.alloc ?_ ?_ _) | (with_reducible refine Below.trans ?_ (Below.mono hw1 ?_)) | (with_reducible exact hw1.size) | omega | (simp <;> omega) | (simp <;> (have s := hw1.size; omega)) | (have s0 := hw1.size; (try simp at s0); (try simp); omega))

set_option maxHeartbeats 800000 in
theorem refNeg_ok (x : Q) (w : World) (h : V x) : Calls Try.prog 19 #[.agg #[.int .i64 x.a, .int .i64 x.b, .int .i64 x.c, .int .i64 x.d, .int .i64 x.n]] w fun e w' => e = .returned (.tuple #[.agg #[.int .i64 (neg x).a, .int .i64 (neg x).b, .int .i64 (neg x).c, .int .i64 (neg x).d, .int .i64 (neg x).n], .int .i64 0]) ∧ Below w.heap.size w w' := by
  obtain ⟨⟨a1, a2⟩, ⟨b1, b2⟩, ⟨c1, c2⟩, ⟨d1, d2⟩, n1, n2⟩ := V.in h
  have k1 := fun W : World => refValidate_any x W 0 (.inl ⟨h, rfl⟩)
  clear h
  go_enter Try.func19, Try.ntmps19
  go_wp2_with ((with_reducible refine (k1 _).mono ?_); rintro e w1 ⟨rfl, hw1⟩; have hc := Tail.cells hw1; have zw10 := Nat.lt_of_lt_of_le (n := w.heap.size) (by simp <;> omega) hw1.size; have zw11 := Nat.lt_of_lt_of_le (n := w.heap.size + 1) (by simp <;> omega) hw1.size)
  refine bodyPost_ret (v := .tuple #[.agg #[.int .i64 (neg x).a, .int .i64 (neg x).b, .int .i64 (neg x).c, .int .i64 (neg x).d, .int .i64 (neg x).n], .int .i64 0]) ?_ rfl ⟨rfl, ?_⟩
  · simp [results, Try.results19, go_sem, hc, zw10, zw11, neg]
  · repeat (first | (with_reducible exact Below.refl _ _) | (with_reducible refine Below.setCell ?_ ?_ _) | (with_reducible refine Below.drew ?_) | (with_reducible refine Below.alloc ?_ ?_ _) | (with_reducible refine Below.trans ?_ (Below.mono hw1 ?_)) | (with_reducible exact hw1.size) | omega | (simp <;> omega) | (simp <;> (have s := hw1.size; omega)) | (have s0 := hw1.size; (try simp at s0); (try simp); omega))
end Go.Proofs.Ytecoemdpfpdeoaa
