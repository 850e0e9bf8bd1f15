/- Traces and distances, as the program and the document's answers make them.
Conditions: none. -/
import Derived.Test.YtojmagooapjohaaMulCases
import Derived.Test.YtojmagooapjohaaQuatA
import Derived.Test.YtojmagooapjohaaRegA
namespace Go.Proofs.Ytojmagooapjohaa
set_option linter.unusedVariables false
set_option linter.unusedSimpArgs false
open Go.RowKit
open Um

set_option maxHeartbeats 800000 in
theorem trace_bad (x : Q) (w : World) (h : ¬ V x) : Calls Try.prog 49 #[.agg #[.int .i64 x.a, .int .i64 x.b, .int .i64 x.c, .int .i64 x.d, .int .i64 x.n]] w fun e w' => e = .returned (.tuple #[.agg #[.int .i64 0, .int .i64 0], .int .i64 1]) ∧ Below w.heap.size w w' := by
  have c1 := fun W : World => validate_bad x W h
  clear h
  go_enter Try.func49, Try.ntmps49
  go_wp2_with ((with_reducible refine (c1 _).mono ?_); rintro e w1 ⟨rfl, hw1⟩; have hc := Tail.cells hw1; have zw10 := Nat.lt_of_lt_of_le (n := w.heap.size) (by simp <;> omega) hw1.size; have zw11 := Nat.lt_of_lt_of_le (n := w.heap.size + 1) (by simp <;> omega) hw1.size)
  refine bodyPost_ret (v := .tuple #[.agg #[.int .i64 0, .int .i64 0], .int .i64 1]) ?_ rfl ⟨rfl, ?_⟩
  · simp [results, Try.results49, go_sem, hc, zw10, zw11]
  · repeat (first | (with_reducible exact Below.refl _ _) | (with_reducible refine Below.setCell ?_ ?_ _) | (with_reducible refine Below.drew ?_) | (with_reducible refine Below.alloc ?_ ?_ _) | (with_reducible refine Below.trans ?_ (Below.mono hw1 ?_)) | (with_reducible exact hw1.size) | omega | (simp <;> omega) | (simp <;> (have s := hw1.size; omega)) | (have s0 := hw1.size; (try simp at s0); (try simp); omega))

set_option maxHeartbeats 800000 in
theorem trace_ok (x : Q) (w : World) (h : V x) : Calls Try.prog 49 #[.agg #[.int .i64 x.a, .int .i64 x.b, .int .i64 x.c, .int .i64 x.d, .int .i64 x.n]] w fun e w' => e = .returned (.tuple #[.agg #[.int .i64 (tr x).1, .int .i64 (tr x).2], .int .i64 0]) ∧ Below w.heap.size w w' := by
  obtain ⟨⟨a1, a2⟩, b, c, d, n1, n2⟩ := V.in h
  have c1 := fun W : World => validate_ok x W h
  have c2 := fun W : World => ratio_any (2 * x.a) x.n W (by omega) (by omega)
  clear h b c d
  go_enter Try.func49, Try.ntmps49
  go_wp2_with (first | ((with_reducible refine (c1 _).mono ?_); rintro e w1 ⟨rfl, hw1⟩; have hc := Tail.cells hw1; have zw10 := Nat.lt_of_lt_of_le (n := w.heap.size) (by simp <;> omega) hw1.size; have zw11 := Nat.lt_of_lt_of_le (n := w.heap.size + 1) (by simp <;> omega) hw1.size) | ((with_reducible refine (c2 _).mono ?_); rintro e w2 ⟨rfl, hw2⟩; have hc2 := Tail.cells hw2; have z2 := Nat.lt_of_lt_of_le zw11 hw2.size))
  refine bodyPost_ret (v := .tuple #[.agg #[.int .i64 (tr x).1, .int .i64 (tr x).2], .int .i64 0]) ?_ rfl ⟨rfl, ?_⟩
  · simp [results, Try.results49, go_sem, hc, hc2, zw10, zw11, z2, tr]
  · repeat (first | (with_reducible exact Below.refl _ _) | (with_reducible refine Below.setCell ?_ ?_ _) | (with_reducible refine Below.drew ?_) | (with_reducible refine Below.alloc ?_ ?_ _) | (with_reducible refine Below.trans ?_ (Below.mono hw2 ?_)) | (with_reducible refine Below.trans ?_ (Below.mono hw1 ?_)) | (with_reducible exact hw2.size) | (with_reducible exact hw1.size) | omega | (simp <;> omega) | (simp <;> (have s := hw2.size; omega)) | (simp <;> (have s := hw1.size; omega)) | (have s0 := hw2.size; (try simp at s0); have s1 := hw1.size; (try simp at s1); (try simp); omega))

theorem V.small2b {x y : Q} (hx : V x) (hy : V y) : Small2 (bar x) y := V.small2 hx.bar hy

end Go.Proofs.Ytojmagooapjohaa
