/- Products of two units, as the program makes them.
Conditions: none. -/
import Derived.Test.YtdplojcbfdbgnaaLists
import Derived.Test.YtdplojcbfdbgnaaTimes
namespace Go.Proofs.Ytdplojcbfdbgnaa
set_option linter.unusedVariables false
set_option linter.unusedSimpArgs false
open Go.RowKit
open Um

theorem V.small2 {x y : Q} (hx : V x) (hy : V y) : Small2 x y := by
  have ix := V.in hx
  have iy := V.in hy
  have a1 := ix.a; have a2 := ix.b; have a3 := ix.c; have a4 := ix.d; have a5 := ix.n
  have b1 := iy.a; have b2 := iy.b; have b3 := iy.c; have b4 := iy.d; have b5 := iy.n
  exact Small2.of (X := 1048576) (Y := 1048576) (by omega) (by omega) (by rintro p (rfl | rfl | rfl | rfl | rfl) <;> omega) (by rintro p (rfl | rfl | rfl | rfl | rfl) <;> omega)
theorem V.mul_in {x y : Q} (hx : V x) (hy : V y) : In (mul x y) 4611686018427387904 := by
  have h := mul_len x y hx.u hy.u
  refine U.in h ?_
  have := (V.small2 hx hy).h x.n y.n (by simp) (by simp)
  have e : (mul x y).n = x.n * y.n := rfl
  omega

/-- What the program answers to a product. -/
def mulR (x y r : Q) (e : Int) : Prop :=
  (V x ∧ V y ∧ (low (mul x y)).n ≤ 1048576 ∧ r = low (mul x y) ∧ e = 0) ∨ (V x ∧ V y ∧ 1048576 < (low (mul x y)).n ∧ r = zero ∧ e = 3) ∨ ((¬ V x ∨ ¬ V y) ∧ r = zero ∧ e = 1)

theorem vAll2 {x y : Q} {r : Int} (h : (V x ∧ V y ∧ r = 0) ∨ ((¬ V x ∨ ¬ V y) ∧ r = 1)) : vAll [x, y] r := by
  rcases h with ⟨h1, h2, h3⟩ | ⟨h1, h3⟩
  · exact .inl ⟨fun z hz => by simp at hz; rcases hz with rfl | rfl <;> assumption, h3⟩
  · refine .inr ⟨?_, h3⟩
    rcases h1 with h | h
    · exact ⟨x, by simp, h⟩
    · exact ⟨y, by simp, h⟩

set_option maxHeartbeats 800000 in
theorem mul_bad (x y : Q) (w : World) (h : ¬ V x ∨ ¬ V y) : Calls Try.prog 136 #[.agg #[.int .i64 x.a, .int .i64 x.b, .int .i64 x.c, .int .i64 x.d, .int .i64 x.n], .agg #[.int .i64 y.a, .int .i64 y.b, .int .i64 y.c, .int .i64 y.d, .int .i64 y.n]] w fun e w' => e = .returned (.tuple #[.agg #[.int .i64 zero.a, .int .i64 zero.b, .int .i64 zero.c, .int .i64 zero.d, .int .i64 zero.n], .int .i64 1]) ∧ Below w.heap.size w w' := by
  have hv := vAll2 (r := 1) (.inr ⟨h, rfl⟩)
  clear h
  go_enter Try.func136, Try.ntmps136
  go_wp2_with (go_at_call 141; refine (validate2_any _ _ x y _ _ hv (by simp [go_sem]) (by simp [go_sem]) (by simp [go_sem]) (by simp [go_sem]) (by simp [go_sem]) (by simp [go_sem]) (by simp [go_sem]) (by simp [go_sem]) (by simp [go_sem]) (by simp [go_sem])).mono ?_; rintro e w1 ⟨rfl, hw1⟩; have hc := Tail.cells hw1; have zw10 := Nat.lt_of_lt_of_le (n := w.heap.size) (by simp <;> omega) hw1.size; have zw11 := Nat.lt_of_lt_of_le (n := w.heap.size + 1) (by simp <;> omega) hw1.size; have zw12 := Nat.lt_of_lt_of_le (n := w.heap.size + 2) (by simp <;> omega) hw1.size)
  refine bodyPost_ret (v := .tuple #[.agg #[.int .i64 zero.a, .int .i64 zero.b, .int .i64 zero.c, .int .i64 zero.d, .int .i64 zero.n], .int .i64 1]) ?_ rfl ⟨rfl, ?_⟩
  · simp [results, Try.results136, go_sem, hc, zero, zw10, zw11, zw12]
  · repeat (first | (with_reducible exact Below.refl _ _) | (with_reducible refine Below.setCell ?_ ?_ _) | (with_reducible refine Below.drew ?_) | (with_reducible refine Below.alloc ?_ ?_ _) | (with_reducible refine Below.trans ?_ (Below.mono hw1 ?_)) | (with_reducible exact hw1.size) | omega | (simp <;> omega) | (simp <;> (have s := hw1.size; omega)) | (have s0 := hw1.size; (try simp at s0); (try simp); omega))

set_option maxRecDepth 100000 in
set_option maxHeartbeats 1600000 in
theorem mul_good (x y r : Q) (er : Int) (w : World) (hx : V x) (hy : V y) (h : ((low (mul x y)).n ≤ 1048576 ∧ r = low (mul x y) ∧ er = 0) ∨ (1048576 < (low (mul x y)).n ∧ r = zero ∧ er = 3)) : Calls Try.prog 136 #[.agg #[.int .i64 x.a, .int .i64 x.b, .int .i64 x.c, .int .i64 x.d, .int .i64 x.n], .agg #[.int .i64 y.a, .int .i64 y.b, .int .i64 y.c, .int .i64 y.d, .int .i64 y.n]] w fun e w' => e = .returned (.tuple #[.agg #[.int .i64 r.a, .int .i64 r.b, .int .i64 r.c, .int .i64 r.d, .int .i64 r.n], .int .i64 er]) ∧ Below w.heap.size w w' := by
  have hv := vAll2 (r := 0) (.inl ⟨hx, hy, rfl⟩)
  have c1 := fun W : World => quaternionOf_any x W
  have c2 := fun W : World => quaternionOf_any y W
  have c3 := fun W : World => times_any x y W (V.small2 hx hy)
  have hi := V.mul_in hx hy
  have c4 : ∀ W : World, Calls Try.prog 54 #[.agg #[.int .i64 (mul x y).b, .int .i64 (mul x y).c, .int .i64 (mul x y).d, .int .i64 (mul x y).a, .int .i64 (mul x y).n]] W fun e' w' => e' = .returned (.tuple #[.agg #[.int .i64 r.a, .int .i64 r.b, .int .i64 r.c, .int .i64 r.d, .int .i64 r.n], .int .i64 er]) ∧ Below W.heap.size W w' := fun W => by
    rcases h with ⟨h1, rfl, rfl⟩ | ⟨h1, rfl, rfl⟩
    · exact unit_ok _ _ hi h1
    · exact unit_large _ _ hi h1
  clear h hi hx hy
  have kc := @Tail.cell_re
  go_enter Try.func136, Try.ntmps136
  go_wp2_with (go_at_call 141; refine (validate2_any _ _ x y _ _ hv (by simp [go_sem]) (by simp [go_sem]) (by simp [go_sem]) (by simp [go_sem]) (by simp [go_sem]) (by simp [go_sem]) (by simp [go_sem]) (by simp [go_sem]) (by simp [go_sem]) (by simp [go_sem])).mono ?_; rintro e w1 ⟨rfl, hw1⟩; have hc := Tail.cells hw1; have zw10 := Nat.lt_of_lt_of_le (n := w.heap.size) (by simp <;> omega) hw1.size; have zw11 := Nat.lt_of_lt_of_le (n := w.heap.size + 1) (by simp <;> omega) hw1.size; have zw12 := Nat.lt_of_lt_of_le (n := w.heap.size + 2) (by simp <;> omega) hw1.size)
  refine Tail.region_tail_below 8 (by kernel_rfl) (by kernel_rfl) ?_
  simp only [List.take_succ_cons, List.take_zero, List.drop_succ_cons, List.drop_zero]
  repeat (go_big_quiet_step (first | (with_reducible exact Calls.regrown_of (c1 _)) | (with_reducible exact Calls.regrown_of (c2 _)) | (with_reducible exact Calls.regrown_of (c3 _)) | (with_reducible exact Calls.regrown_of (c4 _))))
  refine wpQuiet_nil ?_
  intro w2 hw2
  have hc2 := Tail.cells hw2
  go_wp2
  refine bodyPost_ret (v := .tuple #[.agg #[.int .i64 r.a, .int .i64 r.b, .int .i64 r.c, .int .i64 r.d, .int .i64 r.n], .int .i64 er]) ?_ rfl ⟨rfl, ?_⟩
  · simp [results, Try.results136, go_sem, hc, hc2, zw10, zw11, zw12]
  · repeat (first | (with_reducible exact Below.refl _ _) | (with_reducible refine Below.setCell ?_ ?_ _) | (with_reducible refine Below.drew ?_) | (with_reducible refine Below.alloc ?_ ?_ _) | (with_reducible refine Below.trans ?_ (Below.mono hw2 ?_)) | (with_reducible refine Below.trans ?_ (Below.mono hw1 ?_)) | (with_reducible exact hw2.size) | (with_reducible exact hw1.size) | omega | (simp <;> omega) | (simp <;> (have s := hw2.size; omega)) | (simp <;> (have s := hw1.size; omega)) | (have s0 := hw2.size; (try simp at s0); have s1 := hw1.size; (try simp at s1); (try simp); omega))
end Go.Proofs.Ytdplojcbfdbgnaa
