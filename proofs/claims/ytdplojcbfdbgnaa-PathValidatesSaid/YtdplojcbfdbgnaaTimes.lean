/- Products of two quaternions as the program makes them: vectors scaled, added and crossed.
Conditions: the bounds written at each theorem. -/
import Derived.Test.YtdplojcbfdbgnaaRaw
namespace Go.Proofs.Ytdplojcbfdbgnaa
set_option linter.unusedVariables false
set_option linter.unusedSimpArgs false
open Go.RowKit
open Um

set_option maxRecDepth 100000 in
set_option maxHeartbeats 1600000 in
theorem times_any (x y : Q) (w : World) (h : Small2 x y) : Calls Try.prog 148 #[.agg #[.int .i64 x.b, .int .i64 x.c, .int .i64 x.d, .int .i64 x.a, .int .i64 x.n], .agg #[.int .i64 y.b, .int .i64 y.c, .int .i64 y.d, .int .i64 y.a, .int .i64 y.n]] w fun e w' => e = .returned (.agg #[.int .i64 (mul x y).b, .int .i64 (mul x y).c, .int .i64 (mul x y).d, .int .i64 (mul x y).a, .int .i64 (mul x y).n]) ∧ Below w.heap.size w w' := by
  have aa := h.h x.a y.a (by simp) (by simp)
  have ab := h.h x.a y.b (by simp) (by simp)
  have ac := h.h x.a y.c (by simp) (by simp)
  have ad := h.h x.a y.d (by simp) (by simp)
  have ba := h.h x.b y.a (by simp) (by simp)
  have bb := h.h x.b y.b (by simp) (by simp)
  have bc := h.h x.b y.c (by simp) (by simp)
  have bd := h.h x.b y.d (by simp) (by simp)
  have ca := h.h x.c y.a (by simp) (by simp)
  have cb := h.h x.c y.b (by simp) (by simp)
  have cc := h.h x.c y.c (by simp) (by simp)
  have cd := h.h x.c y.d (by simp) (by simp)
  have da := h.h x.d y.a (by simp) (by simp)
  have db := h.h x.d y.b (by simp) (by simp)
  have dc := h.h x.d y.c (by simp) (by simp)
  have dd := h.h x.d y.d (by simp) (by simp)
  have nn := h.h x.n y.n (by simp) (by simp)
  rw [Int.mul_comm] at ba ca da
  have e1 : x.a * y.b + y.a * x.b + (x.c * y.d - x.d * y.c) = (mul x y).b := by simp only [mul]; grind
  have e2 : x.a * y.c + y.a * x.c + (x.d * y.b - x.b * y.d) = (mul x y).c := by simp only [mul]; grind
  have e3 : x.a * y.d + y.a * x.d + (x.b * y.c - x.c * y.b) = (mul x y).d := by simp only [mul]; grind
  have e4 : x.a * y.a - (x.b * y.b + x.c * y.c + x.d * y.d) = (mul x y).a := by simp only [mul]; grind
  have s1 := fun W : World => scaled_any y x.a W ab ac ad
  have s2 := fun W : World => scaled_any x y.a W ba ca da
  have p1 := fun W : World => plus_any (x.a * y.b) (x.a * y.c) (x.a * y.d) (y.a * x.b) (y.a * x.c) (y.a * x.d) W (by omega) (by omega) (by omega)
  have c1 := fun W : World => cross_any x y W h
  have d1 := fun W : World => dot_any x y W h
  have p2 := fun W : World => plus_any (x.a * y.b + y.a * x.b) (x.a * y.c + y.a * x.c) (x.a * y.d + y.a * x.d) (x.c * y.d - x.d * y.c) (x.d * y.b - x.b * y.d) (x.b * y.c - x.c * y.b) W (by omega) (by omega) (by omega)
  rw [e1, e2, e3] at p2
  have wa : IntKind.i64.wrap (x.a * y.a) = x.a * y.a := IntWalk.i64_in _ (by omega)
  have wn : IntKind.i64.wrap (x.n * y.n) = (mul x y).n := IntWalk.i64_in _ (by omega)
  have wd : IntKind.i64.wrap (x.a * y.a - (x.b * y.b + x.c * y.c + x.d * y.d)) = (mul x y).a := (IntWalk.i64_in _ (by omega)).trans e4
  clear aa ab ac ad ba bb bc bd ca cb cc cd da db dc dd nn e1 e2 e3 e4
  have kc := @Tail.cell_re
  go_enter Try.func148, Try.ntmps148
  go_wp2
  refine Tail.region_tail_below 34 (by kernel_rfl) (by kernel_rfl) ?_
  simp only [List.take_succ_cons, List.take_zero, List.drop_succ_cons, List.drop_zero]
  repeat (quiet_step (first | (with_reducible exact Calls.regrown_of (s1 _)) | (with_reducible exact Calls.regrown_of (s2 _)) | (with_reducible exact Calls.regrown_of (p1 _)) | (with_reducible exact Calls.regrown_of (c1 _)) | (with_reducible exact Calls.regrown_of (d1 _)) | (with_reducible exact Calls.regrown_of (p2 _))))
  refine wpQuiet_nil ?_
  intro w2 hw2
  have hc2 := Tail.cells hw2
  go_wp2
  refine bodyPost_ret (v := .agg #[.int .i64 (mul x y).b, .int .i64 (mul x y).c, .int .i64 (mul x y).d, .int .i64 (mul x y).a, .int .i64 (mul x y).n]) ?_ rfl ⟨rfl, ?_⟩
  · simp [results, Try.results148, go_sem, hc2]
  · repeat (first | (with_reducible exact Below.refl _ _) | (with_reducible refine Below.setCell ?_ ?_ _) | (with_reducible refine Below.drew ?_) | (with_reducible refine Below.alloc ?_ ?_ _) | (with_reducible refine Below.trans ?_ (Below.mono hw2 ?_)) | (with_reducible exact hw2.size) | omega | (simp <;> omega) | (simp <;> (have s := hw2.size; omega)) | (have s0 := hw2.size; (try simp at s0); (try simp); omega))
end Go.Proofs.Ytdplojcbfdbgnaa
