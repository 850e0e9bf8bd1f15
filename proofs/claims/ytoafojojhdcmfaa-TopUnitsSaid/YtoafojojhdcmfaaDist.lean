/- Traces and distances, as the program and the document's answers make them.
Conditions: none. -/
import Derived.Test.YtoafojojhdcmfaaMulCases
import Derived.Test.YtoafojojhdcmfaaRat
import Derived.Test.YtoafojojhdcmfaaWide
namespace Go.Proofs.Ytoafojojhdcmfaa
set_option linter.unusedVariables false
set_option linter.unusedSimpArgs false
open Go.RowKit
open Um

set_option maxHeartbeats 800000 in
theorem trace_bad (x : Q) (w : World) (h : ¬ V x) : Calls Try.prog 69 #[.agg #[.int .i64 x.a, .int .i64 x.b, .int .i64 x.c, .int .i64 x.d, .int .i64 x.n]] w fun e w' => e = .returned (.tuple #[.agg #[.int .i64 0, .int .i64 0], .int .i64 1]) ∧ Below w.heap.size w w' := by
  have c1 := fun W : World => validate_bad x W h
  clear h
  go_enter Try.func69, Try.ntmps69
  go_wp2_with ((with_reducible refine (c1 _).mono ?_); rintro e w1 ⟨rfl, hw1⟩; have hc := Tail.cells hw1; have zw10 := Nat.lt_of_lt_of_le (n := w.heap.size) (by simp <;> omega) hw1.size; have zw11 := Nat.lt_of_lt_of_le (n := w.heap.size + 1) (by simp <;> omega) hw1.size)
  refine bodyPost_ret (v := .tuple #[.agg #[.int .i64 0, .int .i64 0], .int .i64 1]) ?_ rfl ⟨rfl, ?_⟩
  · simp [results, Try.results69, go_sem, hc, zw10, zw11]
  · repeat (first | (with_reducible exact Below.refl _ _) | (with_reducible refine Below.setCell ?_ ?_ _) | (with_reducible refine Below.drew ?_) | (with_reducible refine Below.alloc ?_ ?_ _) | (with_reducible refine Below.trans ?_ (Below.mono hw1 ?_)) | (with_reducible exact hw1.size) | omega | (simp <;> omega) | (simp <;> (have s := hw1.size; omega)) | (have s0 := hw1.size; (try simp at s0); (try simp); omega))

set_option maxHeartbeats 800000 in
theorem trace_ok (x : Q) (w : World) (h : V x) : Calls Try.prog 69 #[.agg #[.int .i64 x.a, .int .i64 x.b, .int .i64 x.c, .int .i64 x.d, .int .i64 x.n]] w fun e w' => e = .returned (.tuple #[.agg #[.int .i64 (tr x).1, .int .i64 (tr x).2], .int .i64 0]) ∧ Below w.heap.size w w' := by
  obtain ⟨⟨a1, a2⟩, b, c, d, n1, n2⟩ := V.in h
  have c1 := fun W : World => validate_ok x W h
  have c2 := fun W : World => ratio_any (2 * x.a) x.n W (by omega) (by omega)
  clear h b c d
  go_enter Try.func69, Try.ntmps69
  go_wp2_with (first | ((with_reducible refine (c1 _).mono ?_); rintro e w1 ⟨rfl, hw1⟩; have hc := Tail.cells hw1; have zw10 := Nat.lt_of_lt_of_le (n := w.heap.size) (by simp <;> omega) hw1.size; have zw11 := Nat.lt_of_lt_of_le (n := w.heap.size + 1) (by simp <;> omega) hw1.size) | ((with_reducible refine (c2 _).mono ?_); rintro e w2 ⟨rfl, hw2⟩; have hc2 := Tail.cells hw2; have z2 := Nat.lt_of_lt_of_le zw11 hw2.size))
  refine bodyPost_ret (v := .tuple #[.agg #[.int .i64 (tr x).1, .int .i64 (tr x).2], .int .i64 0]) ?_ rfl ⟨rfl, ?_⟩
  · simp [results, Try.results69, go_sem, hc, hc2, zw10, zw11, z2, tr]
  · repeat (first | (with_reducible exact Below.refl _ _) | (with_reducible refine Below.setCell ?_ ?_ _) | (with_reducible refine Below.drew ?_) | (with_reducible refine Below.alloc ?_ ?_ _) | (with_reducible refine Below.trans ?_ (Below.mono hw2 ?_)) | (with_reducible refine Below.trans ?_ (Below.mono hw1 ?_)) | (with_reducible exact hw2.size) | (with_reducible exact hw1.size) | omega | (simp <;> omega) | (simp <;> (have s := hw2.size; omega)) | (simp <;> (have s := hw1.size; omega)) | (have s0 := hw2.size; (try simp at s0); have s1 := hw1.size; (try simp at s1); (try simp); omega))

set_option maxHeartbeats 800000 in
theorem dist_bad (x y : Q) (w : World) (h : ¬ V x ∨ ¬ V y) : Calls Try.prog 71 #[.agg #[.int .i64 x.a, .int .i64 x.b, .int .i64 x.c, .int .i64 x.d, .int .i64 x.n], .agg #[.int .i64 y.a, .int .i64 y.b, .int .i64 y.c, .int .i64 y.d, .int .i64 y.n]] w fun e w' => e = .returned (.tuple #[.agg #[.int .i64 0, .int .i64 0], .int .i64 1]) ∧ Below w.heap.size w w' := by
  have hv := vAll2 (r := 1) (.inr ⟨h, rfl⟩)
  clear h
  go_enter Try.func71, Try.ntmps71
  go_wp2_with (go_at_call 132; refine (validate2_any _ _ x y _ _ hv (by simp [go_sem]) (by simp [go_sem]) (by simp [go_sem]) (by simp [go_sem]) (by simp [go_sem]) (by simp [go_sem]) (by simp [go_sem]) (by simp [go_sem]) (by simp [go_sem]) (by simp [go_sem])).mono ?_; rintro e w1 ⟨rfl, hw1⟩; have hc := Tail.cells hw1; have zw10 := Nat.lt_of_lt_of_le (n := w.heap.size) (by simp <;> omega) hw1.size; have zw11 := Nat.lt_of_lt_of_le (n := w.heap.size + 1) (by simp <;> omega) hw1.size; have zw12 := Nat.lt_of_lt_of_le (n := w.heap.size + 2) (by simp <;> omega) hw1.size)
  refine bodyPost_ret (v := .tuple #[.agg #[.int .i64 0, .int .i64 0], .int .i64 1]) ?_ rfl ⟨rfl, ?_⟩
  · simp [results, Try.results71, go_sem, hc, zw10, zw11, zw12]
  · repeat (first | (with_reducible exact Below.refl _ _) | (with_reducible refine Below.setCell ?_ ?_ _) | (with_reducible refine Below.drew ?_) | (with_reducible refine Below.alloc ?_ ?_ _) | (with_reducible refine Below.trans ?_ (Below.mono hw1 ?_)) | (with_reducible exact hw1.size) | omega | (simp <;> omega) | (simp <;> (have s := hw1.size; omega)) | (have s0 := hw1.size; (try simp at s0); (try simp); omega))

theorem V.small2b {x y : Q} (hx : V x) (hy : V y) : Small2 (bar x) y := V.small2 hx.bar hy

set_option maxRecDepth 100000 in
set_option maxHeartbeats 1600000 in
theorem dist_ok (x y : Q) (w : World) (hx : V x) (hy : V y) : Calls Try.prog 71 #[.agg #[.int .i64 x.a, .int .i64 x.b, .int .i64 x.c, .int .i64 x.d, .int .i64 x.n], .agg #[.int .i64 y.a, .int .i64 y.b, .int .i64 y.c, .int .i64 y.d, .int .i64 y.n]] w fun e w' => e = .returned (.tuple #[.agg #[.int .i64 (dist x y).1, .int .i64 (dist x y).2], .int .i64 0]) ∧ Below w.heap.size w w' := by
  have hv := vAll2 (r := 0) (.inl ⟨hx, hy, rfl⟩)
  have ix := V.in hx
  have c1 := fun W : World => quaternionOf_any x W
  have c2 := fun W : World => quaternionOf_any y W
  have c3 := fun W : World => inverse_any x W (by have := ix.b; omega) (by have := ix.c; omega) (by have := ix.d; omega)
  have c4 := fun W : World => times_any (bar x) y W (V.small2b hx hy)
  have hp := V.mul_in hx.bar hy
  have hu := mul_len (bar x) y hx.bar.u hy.u
  have hpl := part_le _ hu
  have hn1 : (mul (bar x) y).n ≤ 1152921504606846976 := ((V.small2b hx hy).h (bar x).n y.n (by simp) (by simp)).2
  have hn0 := hu.pos
  obtain ⟨l1, l2⟩ : -(mul (bar x) y).n ≤ (mul (bar x) y).a ∧ (mul (bar x) y).a ≤ (mul (bar x) y).n := ⟨hpl.1, hpl.2.1⟩
  have c5 := fun W : World => ratio_any (2 * (mul (bar x) y).n - 2 * (mul (bar x) y).a) (mul (bar x) y).n W (by omega) (by omega)
  have ed : rat (2 * (mul (bar x) y).n - 2 * (mul (bar x) y).a) (mul (bar x) y).n = dist x y := rfl
  rw [ed] at c5
  clear hx hy ix hp hu hpl ed
  generalize mul (bar x) y = p at *
  generalize dist x y = q at *
  have kc := @Tail.cell_re
  go_enter Try.func71, Try.ntmps71
  go_wp2_with (go_at_call 132; refine (validate2_any _ _ x y _ _ hv (by simp [go_sem]) (by simp [go_sem]) (by simp [go_sem]) (by simp [go_sem]) (by simp [go_sem]) (by simp [go_sem]) (by simp [go_sem]) (by simp [go_sem]) (by simp [go_sem]) (by simp [go_sem])).mono ?_; rintro e w1 ⟨rfl, hw1⟩; have hc := Tail.cells hw1; have zw10 := Nat.lt_of_lt_of_le (n := w.heap.size) (by simp <;> omega) hw1.size; have zw11 := Nat.lt_of_lt_of_le (n := w.heap.size + 1) (by simp <;> omega) hw1.size; have zw12 := Nat.lt_of_lt_of_le (n := w.heap.size + 2) (by simp <;> omega) hw1.size)
  apply Wide.region_one 6 (.cells #[.int .i64 0, .int .i64 0, .int .i64 0, .int .i64 0, .int .i64 0] 116) (some 7) (by kernel_rfl) (by kernel_rfl) (by kernel_rfl) ⟨_, rfl, rfl, fun a W => ⟨rfl, by simp [go_sem]⟩⟩
  · intro B hB
    have hcB := Tail.cells hB
    have zB0 := Nat.lt_of_lt_of_le zw10 hB.size
    have zB1 := Nat.lt_of_lt_of_le zw11 hB.size
    simp only [List.take_succ_cons, List.take_zero]
    repeat (go_big_quiet_step (first | (with_reducible exact Calls.regrown_of (c1 _)) | (with_reducible exact Calls.regrown_of (c2 _)) | (with_reducible exact Calls.regrown_of (c3 _)) | (with_reducible exact Calls.regrown_of (c4 _))))
    exact wpQuiet_nil rfl
  · intro b w2 hb hw2 hx2
    simp only [List.drop_succ_cons, List.drop_zero]
    have hc2 := Tail.cells hw2
    have k0 := Wide.cell_at hx2 0 _ rfl
    have k1 := Wide.cell_at hx2 1 _ rfl
    have k2 := Wide.cell_at hx2 2 _ rfl
    have k3 := Wide.cell_at hx2 3 _ rfl
    have k4 := Wide.cell_at hx2 4 _ rfl
    have f := Wide.free_at hx2
    have z20 := Nat.lt_of_lt_of_le zw10 hw2.size
    have z21 := Nat.lt_of_lt_of_le zw11 hw2.size
    have z22 := Nat.lt_of_lt_of_le zw12 hw2.size
    have zb : w.heap.size + 2 < b := Nat.lt_of_lt_of_le zw12 hb
    have hbl : b < w2.heap.size := World.block_lt_of_cell? w2 _ k0
    clear hx2
    go_wp2_with ((with_reducible refine (c5 _).mono ?_); rintro e w3 ⟨rfl, hw3⟩; have hc3 := Tail.cells hw3; have s3 := hw3.size)
    refine bodyPost_ret (v := .tuple #[.agg #[.int .i64 (q).1, .int .i64 (q).2], .int .i64 0]) ?_ rfl ⟨rfl, ?_⟩
    · simp [results, Try.results71, go_sem, hc3, hc2, hc, zw10, zw11, zw12, z20, z21, z22]
    · repeat (first | (with_reducible exact Below.refl _ _) | (with_reducible refine Below.setCell ?_ ?_ _) | (with_reducible refine Below.drew ?_) | (with_reducible refine Below.alloc ?_ ?_ _) | (with_reducible refine Below.trans ?_ (Below.mono hw3 ?_)) | (with_reducible refine Below.trans ?_ (Below.mono hw2 ?_)) | (with_reducible refine Below.trans ?_ (Below.mono hw1 ?_)) | (with_reducible exact hw3.size) | (with_reducible exact hw2.size) | (with_reducible exact hw1.size) | omega | (simp <;> omega) | (simp <;> (have s := hw3.size; omega)) | (simp <;> (have s := hw2.size; omega)) | (simp <;> (have s := hw1.size; omega)) | (have s0 := hw3.size; (try simp at s0); have s1 := hw2.size; (try simp at s1); have s2 := hw1.size; (try simp at s2); (try simp); omega))
end Go.Proofs.Ytoafojojhdcmfaa
