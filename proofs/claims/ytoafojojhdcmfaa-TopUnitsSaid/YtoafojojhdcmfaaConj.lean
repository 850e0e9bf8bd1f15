/- Conjugates and commutators, as the program and the document's answers make them.
Conditions: those written at each theorem. -/
import Derived.Test.YtoafojojhdcmfaaRefProd
namespace Go.Proofs.Ytoafojojhdcmfaa
set_option linter.unusedVariables false
set_option linter.unusedSimpArgs false
open Go.RowKit
open Um

theorem V3 {x y z : Q} (hx : V x) (hy : V y) (hz : V z) : ∀ q ∈ [x, y, z], V q := by
  intro q hq
  simp at hq
  rcases hq with rfl | rfl | rfl <;> assumption
theorem V4 {x y z t : Q} (hx : V x) (hy : V y) (hz : V z) (ht : V t) : ∀ q ∈ [x, y, z, t], V q := by
  intro q hq
  simp at hq
  rcases hq with rfl | rfl | rfl | rfl <;> assumption
theorem product3_any (b cap : Nat) (x y z r : Q) (er : Int) (w : World) (hV : ∀ q ∈ [x, y, z], V q) (hr : prodFrom one [x, y, z] = (r, er)) (a0 : w.cell? ⟨b, 0, none⟩ = some (.int .i64 x.b)) (a1 : w.cell? ⟨b, 1, none⟩ = some (.int .i64 x.c)) (a2 : w.cell? ⟨b, 2, none⟩ = some (.int .i64 x.d)) (a3 : w.cell? ⟨b, 3, none⟩ = some (.int .i64 x.a)) (a4 : w.cell? ⟨b, 4, none⟩ = some (.int .i64 x.n)) (a5 : w.cell? ⟨b, 5, none⟩ = some (.int .i64 y.b)) (a6 : w.cell? ⟨b, 6, none⟩ = some (.int .i64 y.c)) (a7 : w.cell? ⟨b, 7, none⟩ = some (.int .i64 y.d)) (a8 : w.cell? ⟨b, 8, none⟩ = some (.int .i64 y.a)) (a9 : w.cell? ⟨b, 9, none⟩ = some (.int .i64 y.n)) (a10 : w.cell? ⟨b, 10, none⟩ = some (.int .i64 z.b)) (a11 : w.cell? ⟨b, 11, none⟩ = some (.int .i64 z.c)) (a12 : w.cell? ⟨b, 12, none⟩ = some (.int .i64 z.d)) (a13 : w.cell? ⟨b, 13, none⟩ = some (.int .i64 z.a)) (a14 : w.cell? ⟨b, 14, none⟩ = some (.int .i64 z.n)) :
    Calls Try.prog 142 #[.slice (some ⟨b, 0, none⟩) 3 cap] w fun e w' => e = .returned (.tuple #[.agg #[.int .i64 r.a, .int .i64 r.b, .int .i64 r.c, .int .i64 r.d, .int .i64 r.n], .int .i64 er]) ∧ Below w.heap.size w w' :=
  product_any b 0 cap [x, y, z] r er w (fun i z hz => by
    match i, hz with
    | 0, hz => simp only [List.getElem?_cons_succ, List.getElem?_cons_zero, Option.some.injEq] at hz; subst hz; exact ⟨a0, a1, a2, a3, a4⟩
    | 1, hz => simp only [List.getElem?_cons_succ, List.getElem?_cons_zero, Option.some.injEq] at hz; subst hz; exact ⟨a5, a6, a7, a8, a9⟩
    | 2, hz => simp only [List.getElem?_cons_succ, List.getElem?_cons_zero, Option.some.injEq] at hz; subst hz; exact ⟨a10, a11, a12, a13, a14⟩
    | n + 3, hz => simp at hz) hV (by simp) hr
theorem refProduct3_any (b cap : Nat) (x y z r : Q) (er : Int) (w : World) (hV : ∀ q ∈ [x, y, z], V q) (hr : prodFrom one [x, y, z] = (r, er)) (a0 : w.cell? ⟨b, 0, none⟩ = some (.int .i64 x.a)) (a1 : w.cell? ⟨b, 1, none⟩ = some (.int .i64 x.b)) (a2 : w.cell? ⟨b, 2, none⟩ = some (.int .i64 x.c)) (a3 : w.cell? ⟨b, 3, none⟩ = some (.int .i64 x.d)) (a4 : w.cell? ⟨b, 4, none⟩ = some (.int .i64 x.n)) (a5 : w.cell? ⟨b, 5, none⟩ = some (.int .i64 y.a)) (a6 : w.cell? ⟨b, 6, none⟩ = some (.int .i64 y.b)) (a7 : w.cell? ⟨b, 7, none⟩ = some (.int .i64 y.c)) (a8 : w.cell? ⟨b, 8, none⟩ = some (.int .i64 y.d)) (a9 : w.cell? ⟨b, 9, none⟩ = some (.int .i64 y.n)) (a10 : w.cell? ⟨b, 10, none⟩ = some (.int .i64 z.a)) (a11 : w.cell? ⟨b, 11, none⟩ = some (.int .i64 z.b)) (a12 : w.cell? ⟨b, 12, none⟩ = some (.int .i64 z.c)) (a13 : w.cell? ⟨b, 13, none⟩ = some (.int .i64 z.d)) (a14 : w.cell? ⟨b, 14, none⟩ = some (.int .i64 z.n)) :
    Calls Try.prog 155 #[.slice (some ⟨b, 0, none⟩) 3 cap] w fun e w' => e = .returned (.tuple #[.agg #[.int .i64 r.a, .int .i64 r.b, .int .i64 r.c, .int .i64 r.d, .int .i64 r.n], .int .i64 er]) ∧ Below w.heap.size w w' :=
  refProduct_any b 0 cap [x, y, z] r er w (fun i z hz => by
    match i, hz with
    | 0, hz => simp only [List.getElem?_cons_succ, List.getElem?_cons_zero, Option.some.injEq] at hz; subst hz; exact ⟨a0, a1, a2, a3, a4⟩
    | 1, hz => simp only [List.getElem?_cons_succ, List.getElem?_cons_zero, Option.some.injEq] at hz; subst hz; exact ⟨a5, a6, a7, a8, a9⟩
    | 2, hz => simp only [List.getElem?_cons_succ, List.getElem?_cons_zero, Option.some.injEq] at hz; subst hz; exact ⟨a10, a11, a12, a13, a14⟩
    | n + 3, hz => simp at hz) hV (by simp) hr
theorem product4_any (b cap : Nat) (x y z t r : Q) (er : Int) (w : World) (hV : ∀ q ∈ [x, y, z, t], V q) (hr : prodFrom one [x, y, z, t] = (r, er)) (a0 : w.cell? ⟨b, 0, none⟩ = some (.int .i64 x.b)) (a1 : w.cell? ⟨b, 1, none⟩ = some (.int .i64 x.c)) (a2 : w.cell? ⟨b, 2, none⟩ = some (.int .i64 x.d)) (a3 : w.cell? ⟨b, 3, none⟩ = some (.int .i64 x.a)) (a4 : w.cell? ⟨b, 4, none⟩ = some (.int .i64 x.n)) (a5 : w.cell? ⟨b, 5, none⟩ = some (.int .i64 y.b)) (a6 : w.cell? ⟨b, 6, none⟩ = some (.int .i64 y.c)) (a7 : w.cell? ⟨b, 7, none⟩ = some (.int .i64 y.d)) (a8 : w.cell? ⟨b, 8, none⟩ = some (.int .i64 y.a)) (a9 : w.cell? ⟨b, 9, none⟩ = some (.int .i64 y.n)) (a10 : w.cell? ⟨b, 10, none⟩ = some (.int .i64 z.b)) (a11 : w.cell? ⟨b, 11, none⟩ = some (.int .i64 z.c)) (a12 : w.cell? ⟨b, 12, none⟩ = some (.int .i64 z.d)) (a13 : w.cell? ⟨b, 13, none⟩ = some (.int .i64 z.a)) (a14 : w.cell? ⟨b, 14, none⟩ = some (.int .i64 z.n)) (a15 : w.cell? ⟨b, 15, none⟩ = some (.int .i64 t.b)) (a16 : w.cell? ⟨b, 16, none⟩ = some (.int .i64 t.c)) (a17 : w.cell? ⟨b, 17, none⟩ = some (.int .i64 t.d)) (a18 : w.cell? ⟨b, 18, none⟩ = some (.int .i64 t.a)) (a19 : w.cell? ⟨b, 19, none⟩ = some (.int .i64 t.n)) :
    Calls Try.prog 142 #[.slice (some ⟨b, 0, none⟩) 4 cap] w fun e w' => e = .returned (.tuple #[.agg #[.int .i64 r.a, .int .i64 r.b, .int .i64 r.c, .int .i64 r.d, .int .i64 r.n], .int .i64 er]) ∧ Below w.heap.size w w' :=
  product_any b 0 cap [x, y, z, t] r er w (fun i z hz => by
    match i, hz with
    | 0, hz => simp only [List.getElem?_cons_succ, List.getElem?_cons_zero, Option.some.injEq] at hz; subst hz; exact ⟨a0, a1, a2, a3, a4⟩
    | 1, hz => simp only [List.getElem?_cons_succ, List.getElem?_cons_zero, Option.some.injEq] at hz; subst hz; exact ⟨a5, a6, a7, a8, a9⟩
    | 2, hz => simp only [List.getElem?_cons_succ, List.getElem?_cons_zero, Option.some.injEq] at hz; subst hz; exact ⟨a10, a11, a12, a13, a14⟩
    | 3, hz => simp only [List.getElem?_cons_succ, List.getElem?_cons_zero, Option.some.injEq] at hz; subst hz; exact ⟨a15, a16, a17, a18, a19⟩
    | n + 4, hz => simp at hz) hV (by simp) hr
theorem refProduct4_any (b cap : Nat) (x y z t r : Q) (er : Int) (w : World) (hV : ∀ q ∈ [x, y, z, t], V q) (hr : prodFrom one [x, y, z, t] = (r, er)) (a0 : w.cell? ⟨b, 0, none⟩ = some (.int .i64 x.a)) (a1 : w.cell? ⟨b, 1, none⟩ = some (.int .i64 x.b)) (a2 : w.cell? ⟨b, 2, none⟩ = some (.int .i64 x.c)) (a3 : w.cell? ⟨b, 3, none⟩ = some (.int .i64 x.d)) (a4 : w.cell? ⟨b, 4, none⟩ = some (.int .i64 x.n)) (a5 : w.cell? ⟨b, 5, none⟩ = some (.int .i64 y.a)) (a6 : w.cell? ⟨b, 6, none⟩ = some (.int .i64 y.b)) (a7 : w.cell? ⟨b, 7, none⟩ = some (.int .i64 y.c)) (a8 : w.cell? ⟨b, 8, none⟩ = some (.int .i64 y.d)) (a9 : w.cell? ⟨b, 9, none⟩ = some (.int .i64 y.n)) (a10 : w.cell? ⟨b, 10, none⟩ = some (.int .i64 z.a)) (a11 : w.cell? ⟨b, 11, none⟩ = some (.int .i64 z.b)) (a12 : w.cell? ⟨b, 12, none⟩ = some (.int .i64 z.c)) (a13 : w.cell? ⟨b, 13, none⟩ = some (.int .i64 z.d)) (a14 : w.cell? ⟨b, 14, none⟩ = some (.int .i64 z.n)) (a15 : w.cell? ⟨b, 15, none⟩ = some (.int .i64 t.a)) (a16 : w.cell? ⟨b, 16, none⟩ = some (.int .i64 t.b)) (a17 : w.cell? ⟨b, 17, none⟩ = some (.int .i64 t.c)) (a18 : w.cell? ⟨b, 18, none⟩ = some (.int .i64 t.d)) (a19 : w.cell? ⟨b, 19, none⟩ = some (.int .i64 t.n)) :
    Calls Try.prog 155 #[.slice (some ⟨b, 0, none⟩) 4 cap] w fun e w' => e = .returned (.tuple #[.agg #[.int .i64 r.a, .int .i64 r.b, .int .i64 r.c, .int .i64 r.d, .int .i64 r.n], .int .i64 er]) ∧ Below w.heap.size w w' :=
  refProduct_any b 0 cap [x, y, z, t] r er w (fun i z hz => by
    match i, hz with
    | 0, hz => simp only [List.getElem?_cons_succ, List.getElem?_cons_zero, Option.some.injEq] at hz; subst hz; exact ⟨a0, a1, a2, a3, a4⟩
    | 1, hz => simp only [List.getElem?_cons_succ, List.getElem?_cons_zero, Option.some.injEq] at hz; subst hz; exact ⟨a5, a6, a7, a8, a9⟩
    | 2, hz => simp only [List.getElem?_cons_succ, List.getElem?_cons_zero, Option.some.injEq] at hz; subst hz; exact ⟨a10, a11, a12, a13, a14⟩
    | 3, hz => simp only [List.getElem?_cons_succ, List.getElem?_cons_zero, Option.some.injEq] at hz; subst hz; exact ⟨a15, a16, a17, a18, a19⟩
    | n + 4, hz => simp at hz) hV (by simp) hr

set_option maxHeartbeats 800000 in
theorem conj_bad (x y : Q) (w : World) (h : ¬ V x ∨ ¬ V y) : Calls Try.prog 76 #[.agg #[.int .i64 x.a, .int .i64 x.b, .int .i64 x.c, .int .i64 x.d, .int .i64 x.n], .agg #[.int .i64 y.a, .int .i64 y.b, .int .i64 y.c, .int .i64 y.d, .int .i64 y.n]] w fun e w' => e = .returned (.tuple #[.agg #[.int .i64 zero.a, .int .i64 zero.b, .int .i64 zero.c, .int .i64 zero.d, .int .i64 zero.n], .int .i64 1]) ∧ Below w.heap.size w w' := by
  have hv := vAll2 (r := 1) (.inr ⟨h, rfl⟩)
  clear h
  go_enter Try.func76, Try.ntmps76
  go_wp2_with (go_at_call 132; refine (validate2_any _ _ x y _ _ hv (by simp [go_sem]) (by simp [go_sem]) (by simp [go_sem]) (by simp [go_sem]) (by simp [go_sem]) (by simp [go_sem]) (by simp [go_sem]) (by simp [go_sem]) (by simp [go_sem]) (by simp [go_sem])).mono ?_; rintro e w1 ⟨rfl, hw1⟩; have hc := Tail.cells hw1; have zw10 := Nat.lt_of_lt_of_le (n := w.heap.size) (by simp <;> omega) hw1.size; have zw11 := Nat.lt_of_lt_of_le (n := w.heap.size + 1) (by simp <;> omega) hw1.size; have zw12 := Nat.lt_of_lt_of_le (n := w.heap.size + 2) (by simp <;> omega) hw1.size)
  refine bodyPost_ret (v := .tuple #[.agg #[.int .i64 zero.a, .int .i64 zero.b, .int .i64 zero.c, .int .i64 zero.d, .int .i64 zero.n], .int .i64 1]) ?_ rfl ⟨rfl, ?_⟩
  · simp [results, Try.results76, go_sem, hc, zw10, zw11, zw12, zero]
  · repeat (first | (with_reducible exact Below.refl _ _) | (with_reducible refine Below.setCell ?_ ?_ _) | (with_reducible refine Below.drew ?_) | (with_reducible refine Below.alloc ?_ ?_ _) | (with_reducible refine Below.trans ?_ (Below.mono hw1 ?_)) | (with_reducible exact hw1.size) | omega | (simp <;> omega) | (simp <;> (have s := hw1.size; omega)) | (have s0 := hw1.size; (try simp at s0); (try simp); omega))

set_option maxRecDepth 100000 in
set_option maxHeartbeats 1600000 in
theorem conj_ok (x y r : Q) (er : Int) (w : World) (hx : V x) (hy : V y) (hr : prodFrom one [x, y, bar x] = (r, er)) : Calls Try.prog 76 #[.agg #[.int .i64 x.a, .int .i64 x.b, .int .i64 x.c, .int .i64 x.d, .int .i64 x.n], .agg #[.int .i64 y.a, .int .i64 y.b, .int .i64 y.c, .int .i64 y.d, .int .i64 y.n]] w fun e w' => e = .returned (.tuple #[.agg #[.int .i64 r.a, .int .i64 r.b, .int .i64 r.c, .int .i64 r.d, .int .i64 r.n], .int .i64 er]) ∧ Below w.heap.size w w' := by
  have hv := vAll2 (r := 0) (.inl ⟨hx, hy, rfl⟩)
  have c1 := fun W : World => quaternionOf_any x W
  have c2 := fun W : World => quaternionOf_any y W
  have ix := V.in hx
  have c3 := fun W : World => inverse_any x W (by have := ix.b; omega) (by have := ix.c; omega) (by have := ix.d; omega)
  have hV : ∀ q ∈ [x, y, bar x], V q := V3 hx hy hx.bar
  have kc := @Tail.cell_re
  clear hx hy ix
  generalize bar x = z at *
  go_enter Try.func76, Try.ntmps76
  go_wp2_with (first | (go_at_call 132; refine (validate2_any _ _ x y _ _ hv (by simp [go_sem]) (by simp [go_sem]) (by simp [go_sem]) (by simp [go_sem]) (by simp [go_sem]) (by simp [go_sem]) (by simp [go_sem]) (by simp [go_sem]) (by simp [go_sem]) (by simp [go_sem])).mono ?_; rintro e w1 ⟨rfl, hw1⟩; have hc := Tail.cells hw1; have zw10 := Nat.lt_of_lt_of_le (n := w.heap.size) (by simp <;> omega) hw1.size; have zw11 := Nat.lt_of_lt_of_le (n := w.heap.size + 1) (by simp <;> omega) hw1.size; have zw12 := Nat.lt_of_lt_of_le (n := w.heap.size + 2) (by simp <;> omega) hw1.size) | ((with_reducible refine (c1 _).mono ?_); rintro e w2 ⟨rfl, hw2⟩; have hc2 := Tail.cells hw2; have z20 := Nat.lt_of_lt_of_le zw10 hw2.size; have z21 := Nat.lt_of_lt_of_le zw11 hw2.size; have z22 := Nat.lt_of_lt_of_le zw12 hw2.size))
  have hB0 : Below w.heap.size w (w2.alloc (.cells #[.int .i64 x.b, .int .i64 x.c, .int .i64 x.d, .int .i64 x.a, .int .i64 x.n] 116)) := by repeat (first | (with_reducible exact Below.refl _ _) | (with_reducible refine Below.setCell ?_ ?_ _) | (with_reducible refine Below.drew ?_) | (with_reducible refine Below.alloc ?_ ?_ _) | (with_reducible refine Below.trans ?_ (Below.mono hw2 ?_)) | (with_reducible refine Below.trans ?_ (Below.mono hw1 ?_)) | (with_reducible exact hw2.size) | (with_reducible exact hw1.size) | omega | (simp <;> omega) | (simp <;> (have s := hw2.size; omega)) | (simp <;> (have s := hw1.size; omega)) | (have s0 := hw2.size; (try simp at s0); have s1 := hw1.size; (try simp at s1); (try simp); omega))
  have zq : w2.heap.size < (w2.alloc (.cells #[.int .i64 x.b, .int .i64 x.c, .int .i64 x.d, .int .i64 x.a, .int .i64 x.n] 116)).heap.size := by simp
  have zy : w.heap.size + 1 < (w2.alloc (.cells #[.int .i64 x.b, .int .i64 x.c, .int .i64 x.d, .int .i64 x.a, .int .i64 x.n] 116)).heap.size := by simp; omega
  have zr : w.heap.size + 2 < (w2.alloc (.cells #[.int .i64 x.b, .int .i64 x.c, .int .i64 x.d, .int .i64 x.a, .int .i64 x.n] 116)).heap.size := by simp; omega
  have q0 : (w2.alloc (.cells #[.int .i64 x.b, .int .i64 x.c, .int .i64 x.d, .int .i64 x.a, .int .i64 x.n] 116)).cell? ⟨w2.heap.size, 0, none⟩ = some (.int .i64 x.b) := by simp [go_sem]
  have q1 : (w2.alloc (.cells #[.int .i64 x.b, .int .i64 x.c, .int .i64 x.d, .int .i64 x.a, .int .i64 x.n] 116)).cell? ⟨w2.heap.size, 1, none⟩ = some (.int .i64 x.c) := by simp [go_sem]
  have q2 : (w2.alloc (.cells #[.int .i64 x.b, .int .i64 x.c, .int .i64 x.d, .int .i64 x.a, .int .i64 x.n] 116)).cell? ⟨w2.heap.size, 2, none⟩ = some (.int .i64 x.d) := by simp [go_sem]
  have q3 : (w2.alloc (.cells #[.int .i64 x.b, .int .i64 x.c, .int .i64 x.d, .int .i64 x.a, .int .i64 x.n] 116)).cell? ⟨w2.heap.size, 3, none⟩ = some (.int .i64 x.a) := by simp [go_sem]
  have q4 : (w2.alloc (.cells #[.int .i64 x.b, .int .i64 x.c, .int .i64 x.d, .int .i64 x.a, .int .i64 x.n] 116)).cell? ⟨w2.heap.size, 4, none⟩ = some (.int .i64 x.n) := by simp [go_sem]
  have y0 : (w2.alloc (.cells #[.int .i64 x.b, .int .i64 x.c, .int .i64 x.d, .int .i64 x.a, .int .i64 x.n] 116)).cell? ⟨w.heap.size + 1, 0, none⟩ = some (.int .i64 y.a) := by simp [go_sem, hc2, hc, zw10, zw11, z21]
  have y1 : (w2.alloc (.cells #[.int .i64 x.b, .int .i64 x.c, .int .i64 x.d, .int .i64 x.a, .int .i64 x.n] 116)).cell? ⟨w.heap.size + 1, 1, none⟩ = some (.int .i64 y.b) := by simp [go_sem, hc2, hc, zw10, zw11, z21]
  have y2 : (w2.alloc (.cells #[.int .i64 x.b, .int .i64 x.c, .int .i64 x.d, .int .i64 x.a, .int .i64 x.n] 116)).cell? ⟨w.heap.size + 1, 2, none⟩ = some (.int .i64 y.c) := by simp [go_sem, hc2, hc, zw10, zw11, z21]
  have y3 : (w2.alloc (.cells #[.int .i64 x.b, .int .i64 x.c, .int .i64 x.d, .int .i64 x.a, .int .i64 x.n] 116)).cell? ⟨w.heap.size + 1, 3, none⟩ = some (.int .i64 y.d) := by simp [go_sem, hc2, hc, zw10, zw11, z21]
  have y4 : (w2.alloc (.cells #[.int .i64 x.b, .int .i64 x.c, .int .i64 x.d, .int .i64 x.a, .int .i64 x.n] 116)).cell? ⟨w.heap.size + 1, 4, none⟩ = some (.int .i64 y.n) := by simp [go_sem, hc2, hc, zw10, zw11, z21]
  have bR0 : UBox (w2.alloc (.cells #[.int .i64 x.b, .int .i64 x.c, .int .i64 x.d, .int .i64 x.a, .int .i64 x.n] 116)) (w.heap.size + 1 + 1) zero := ⟨by simp [go_sem, hc2, hc, zw10, zw11, zw12, z20, z21, z22, zero], by simp [go_sem, hc2, hc, zw10, zw11, zw12, z20, z21, z22, zero], by simp [go_sem, hc2, hc, zw10, zw11, zw12, z20, z21, z22, zero], by simp [go_sem, hc2, hc, zw10, zw11, zw12, z20, z21, z22, zero], by simp [go_sem, hc2, hc, zw10, zw11, zw12, z20, z21, z22, zero], fun j => by simp [go_sem, hc2, hc, zw12, z22], zr⟩
  have hne : w.heap.size + 2 < w2.heap.size := z22
  clear hc hc2 hw1 hw2 zw10 zw11 zw12 z20 z21 z22 hv
  generalize (w2.alloc (.cells #[.int .i64 x.b, .int .i64 x.c, .int .i64 x.d, .int .i64 x.a, .int .i64 x.n] 116)) = W0 at *
  generalize w2.heap.size = bq at *
  clear c1
  apply Mid.region_mids 5 [] [2, 0] (by kernel_rfl) (by kernel_rfl) (by simp) (by simp [Mid.lates]) (by kernel_rfl) (by kernel_rfl) (fun c a d v w h => by cases d <;> exact h)
  · intro B hB
    have hcB := Tail.cells hB
    have zB0 := Nat.lt_of_lt_of_le zq hB.size
    have zB1 := Nat.lt_of_lt_of_le zy hB.size
    simp only [List.take_succ_cons, List.take_zero]
    repeat (go_big_quiet_step (first | (with_reducible exact Calls.regrown_of (c2 _)) | (with_reducible exact Calls.regrown_of (c3 _))))
    exact wpQuiet_nil rfl
  · intro w3 hw3
    show wpList _ _ _ (List.take 2 (List.drop 5 _)) _ _
    simp only [List.take_succ_cons, List.take_zero, List.drop_succ_cons, List.drop_zero]
    go_wp2_with (go_at_call 142; refine (product3_any _ _ x y z r er _ hV hr (by simp [go_sem]) (by simp [go_sem]) (by simp [go_sem]) (by simp [go_sem]) (by simp [go_sem]) (by simp [go_sem]) (by simp [go_sem]) (by simp [go_sem]) (by simp [go_sem]) (by simp [go_sem]) (by simp [go_sem]) (by simp [go_sem]) (by simp [go_sem]) (by simp [go_sem]) (by simp [go_sem])).mono ?_; rintro e w4 ⟨rfl, hw4⟩)
    refine ⟨_, .agg #[.int .i64 r.a, .int .i64 r.b, .int .i64 r.c, .int .i64 r.d, .int .i64 r.n], rfl, .inl ⟨rfl, fun W => by simp [go_sem]⟩, ?_⟩
    refine Mid.tails_zero ⟨_, .int .i64 er, rfl, .inl ⟨rfl, fun W => by simp [go_sem]⟩, ?_⟩
    show wpList _ _ _ (List.drop 9 _) _ _
    simp only [List.drop_succ_cons, List.drop_zero]
    obtain ⟨d0, d1, d2, d3, d4, df, dl⟩ := ((bR0.later hw3).later ((Below.refl _ _).alloc (Nat.le_refl _) _)).later hw4
    have s3 := hw3.size
    have b3 : Below w.heap.size w w4 := by repeat (first | (with_reducible exact Below.refl _ _) | (with_reducible refine Below.setCell ?_ ?_ _) | (with_reducible refine Below.drew ?_) | (with_reducible refine Below.alloc ?_ ?_ _) | (with_reducible refine Below.trans ?_ (Below.mono hw4 ?_)) | (with_reducible refine Below.trans ?_ (Below.mono hw3 ?_)) | (with_reducible refine Below.trans ?_ (Below.mono hB0 ?_)) | (with_reducible exact hw4.size) | (with_reducible exact hw3.size) | (with_reducible exact hB0.size) | omega | (simp <;> omega) | (simp <;> (have s := hw4.size; omega)) | (simp <;> (have s := hw3.size; omega)) | (simp <;> (have s := hB0.size; omega)) | (have s0 := hw4.size; (try simp at s0); have s1 := hw3.size; (try simp at s1); have s2 := hB0.size; (try simp at s2); (try simp); omega))
    clear hw4 hw3 hB0 zr bR0
    go_wp2
    refine bodyPost_ret (v := .tuple #[.agg #[.int .i64 r.a, .int .i64 r.b, .int .i64 r.c, .int .i64 r.d, .int .i64 r.n], .int .i64 er]) ?_ rfl ⟨rfl, ?_⟩
    · simp [results, Try.results76, go_sem, d0, d1, d2, d3, d4]
    · repeat (first | (with_reducible exact Below.refl _ _) | (with_reducible refine Below.setCell ?_ ?_ _) | (with_reducible refine Below.drew ?_) | (with_reducible refine Below.alloc ?_ ?_ _) | (with_reducible refine Below.trans ?_ (Below.mono b3 ?_)) | (with_reducible exact b3.size) | omega | (simp <;> omega) | (simp <;> (have s := b3.size; omega)) | (have s0 := b3.size; (try simp at s0); (try simp); omega))
end Go.Proofs.Ytoafojojhdcmfaa
