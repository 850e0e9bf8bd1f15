/- Lowest terms, as the document's answers make them.
Conditions: the bounds written at each theorem. -/
import Derived.Test.YtdplojcbfdbgnaaLow
import Derived.Deep.RegionHeld3
namespace Go.Proofs.Ytdplojcbfdbgnaa
set_option linter.unusedVariables false
set_option linter.unusedSimpArgs false
open Go.RowKit
open Um

set_option maxHeartbeats 800000 in
theorem lowest_large (x : Q) (w : World) (hx : In x 4611686018427387904) (hl : 1048576 < (low x).n) :
    Calls Try.prog 139 #[.agg #[.int .i64 x.a, .int .i64 x.b, .int .i64 x.c, .int .i64 x.d, .int .i64 x.n]] w fun e w' => e = .returned (.tuple #[.agg #[.int .i64 zero.a, .int .i64 zero.b, .int .i64 zero.c, .int .i64 zero.d, .int .i64 zero.n], .int .i64 3]) ∧ Below w.heap.size w w' := by
  have hx' := hx
  have hg := g_pos x hx.n.1
  have hgn : ¬ g x = 0 := by omega
  obtain ⟨wa, wb, wc, wd, wn⟩ := low_wraps x hx'
  have hd := fun W : World => refCommon_any x W (by have := hx.a; omega) (by have := hx.b; omega) (by have := hx.c; omega) (by have := hx.d; omega) (by have := hx.n; omega)
  clear hx hg
  have kc := @Tail.cell_re
  go_enter Try.func139, Try.ntmps139
  go_wp2_with (go_at_call 146; refine (hd _).mono ?_; rintro e w1 ⟨rfl, hw1⟩; have hc := Tail.cells hw1; have hz1 := Nat.lt_of_lt_of_le (n := w.heap.size) (by simp <;> omega) hw1.size; have hz2 := Nat.lt_of_lt_of_le (n := w.heap.size + 1) (by simp <;> omega) hw1.size)
  have k0 : w1.cell? ⟨w.heap.size, 0, none⟩ = some (.int .i64 x.a) := by rw [hc.1 _ _ (by simp <;> omega)]; simp [go_sem]
  have k1 : w1.cell? ⟨w.heap.size, 1, none⟩ = some (.int .i64 x.b) := by rw [hc.1 _ _ (by simp <;> omega)]; simp [go_sem]
  have k2 : w1.cell? ⟨w.heap.size, 2, none⟩ = some (.int .i64 x.c) := by rw [hc.1 _ _ (by simp <;> omega)]; simp [go_sem]
  have k3 : w1.cell? ⟨w.heap.size, 3, none⟩ = some (.int .i64 x.d) := by rw [hc.1 _ _ (by simp <;> omega)]; simp [go_sem]
  have k4 : w1.cell? ⟨w.heap.size, 4, none⟩ = some (.int .i64 x.n) := by rw [hc.1 _ _ (by simp <;> omega)]; simp [go_sem]
  go_region_held3 (fun W => W.cell? ⟨w.heap.size, 0, none⟩ = some (.int .i64 x.a) ∧ W.cell? ⟨w.heap.size, 1, none⟩ = some (.int .i64 x.b) ∧ W.cell? ⟨w.heap.size, 2, none⟩ = some (.int .i64 x.c) ∧ W.cell? ⟨w.heap.size, 3, none⟩ = some (.int .i64 x.d) ∧ W.cell? ⟨w.heap.size, 4, none⟩ = some (.int .i64 x.n)) (go_keep) (fail)
  go_wp2
  refine bodyPost_ret (v := .tuple #[.agg #[.int .i64 zero.a, .int .i64 zero.b, .int .i64 zero.c, .int .i64 zero.d, .int .i64 zero.n], .int .i64 3]) ?_ rfl ⟨rfl, ?_⟩
  · simp [results, Try.results139, go_sem, hc, hz2, zero]
  · repeat (first | (with_reducible exact Below.refl _ _) | (with_reducible refine Below.setCell ?_ ?_ _) | (with_reducible refine Below.drew ?_) | (with_reducible refine Below.alloc ?_ ?_ _) | (with_reducible refine Below.trans ?_ (Below.mono hw1 ?_)) | (with_reducible exact hw1.size) | omega | (simp <;> omega) | (simp <;> (have s := hw1.size; omega)) | (have s0 := hw1.size; (try simp at s0); (try simp); omega))

set_option maxHeartbeats 800000 in
theorem lowest_ok (x : Q) (w : World) (hx : In x 4611686018427387904) (hl : (low x).n ≤ 1048576) :
    Calls Try.prog 139 #[.agg #[.int .i64 x.a, .int .i64 x.b, .int .i64 x.c, .int .i64 x.d, .int .i64 x.n]] w fun e w' => e = .returned (.tuple #[.agg #[.int .i64 (low x).a, .int .i64 (low x).b, .int .i64 (low x).c, .int .i64 (low x).d, .int .i64 (low x).n], .int .i64 0]) ∧ Below w.heap.size w w' := by
  have hx' := hx
  have hg := g_pos x hx.n.1
  have hgn : ¬ g x = 0 := by omega
  obtain ⟨wa, wb, wc, wd, wn⟩ := low_wraps x hx'
  have hd := fun W : World => refCommon_any x W (by have := hx.a; omega) (by have := hx.b; omega) (by have := hx.c; omega) (by have := hx.d; omega) (by have := hx.n; omega)
  clear hx hg
  have kc := @Tail.cell_re
  go_enter Try.func139, Try.ntmps139
  go_wp2_with (go_at_call 146; refine (hd _).mono ?_; rintro e w1 ⟨rfl, hw1⟩; have hc := Tail.cells hw1; have hz1 := Nat.lt_of_lt_of_le (n := w.heap.size) (by simp <;> omega) hw1.size; have hz2 := Nat.lt_of_lt_of_le (n := w.heap.size + 1) (by simp <;> omega) hw1.size)
  have k0 : w1.cell? ⟨w.heap.size, 0, none⟩ = some (.int .i64 x.a) := by rw [hc.1 _ _ (by simp <;> omega)]; simp [go_sem]
  have k1 : w1.cell? ⟨w.heap.size, 1, none⟩ = some (.int .i64 x.b) := by rw [hc.1 _ _ (by simp <;> omega)]; simp [go_sem]
  have k2 : w1.cell? ⟨w.heap.size, 2, none⟩ = some (.int .i64 x.c) := by rw [hc.1 _ _ (by simp <;> omega)]; simp [go_sem]
  have k3 : w1.cell? ⟨w.heap.size, 3, none⟩ = some (.int .i64 x.d) := by rw [hc.1 _ _ (by simp <;> omega)]; simp [go_sem]
  have k4 : w1.cell? ⟨w.heap.size, 4, none⟩ = some (.int .i64 x.n) := by rw [hc.1 _ _ (by simp <;> omega)]; simp [go_sem]
  go_region_held3 (fun W => W.cell? ⟨w.heap.size, 0, none⟩ = some (.int .i64 x.a) ∧ W.cell? ⟨w.heap.size, 1, none⟩ = some (.int .i64 x.b) ∧ W.cell? ⟨w.heap.size, 2, none⟩ = some (.int .i64 x.c) ∧ W.cell? ⟨w.heap.size, 3, none⟩ = some (.int .i64 x.d) ∧ W.cell? ⟨w.heap.size, 4, none⟩ = some (.int .i64 x.n)) (go_keep) (fail)
  go_wp2
  refine bodyPost_ret (v := .tuple #[.agg #[.int .i64 (low x).a, .int .i64 (low x).b, .int .i64 (low x).c, .int .i64 (low x).d, .int .i64 (low x).n], .int .i64 0]) ?_ rfl ⟨rfl, ?_⟩
  · simp [results, Try.results139, go_sem, hc, hz2]
  · repeat (first | (with_reducible exact Below.refl _ _) | (with_reducible refine Below.setCell ?_ ?_ _) | (with_reducible refine Below.drew ?_) | (with_reducible refine Below.alloc ?_ ?_ _) | (with_reducible refine Below.trans ?_ (Below.mono hw1 ?_)) | (with_reducible exact hw1.size) | omega | (simp <;> omega) | (simp <;> (have s := hw1.size; omega)) | (have s0 := hw1.size; (try simp at s0); (try simp); omega))
end Go.Proofs.Ytdplojcbfdbgnaa
