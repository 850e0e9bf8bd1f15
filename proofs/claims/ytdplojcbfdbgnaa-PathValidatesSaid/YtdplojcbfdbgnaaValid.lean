/- Which units are valid, as the program finds it.
Conditions: none. -/
import Derived.Test.YtdplojcbfdbgnaaUnitB
namespace Go.Proofs.Ytdplojcbfdbgnaa
set_option linter.unusedVariables false
set_option linter.unusedSimpArgs false
open Go.RowKit
open Um

theorem V.in {x : Q} (h : V x) : In x 1048576 := by
  have hp := part_le x h.u
  have hl := h.le
  have h0 := h.u.pos
  exact ⟨by omega, by omega, by omega, by omega, by omega⟩
theorem U.in {x : Q} (h : U x) {m : Int} (hm : x.n ≤ m) : In x m := by
  have hp := part_le x h
  have h0 := h.pos
  exact ⟨by omega, by omega, by omega, by omega, by omega⟩

set_option maxHeartbeats 400000 in
theorem validate_ok (x : Q) (w : World) (h : V x) : Calls Try.prog 51 #[.agg #[.int .i64 x.a, .int .i64 x.b, .int .i64 x.c, .int .i64 x.d, .int .i64 x.n]] w fun e w' => e = .returned (.int .i64 0) ∧ Below w.heap.size w w' := by
  have hi := (V.in h).le (k := 4611686018427387904) (by omega)
  have c1 := fun W : World => quaternionOf_any x W
  have c2 := fun W : World => isUnit_any x W h.u.pos (by have := h.le; omega)
  have c3 := fun W : World => common_any x W hi
  have hn := h.u.pos
  have hl := h.le
  have hg := h.prim
  rw [(uB_iff x hn).2 h.u] at c2
  rw [hg] at c3
  clear hi hg h
  go_enter Try.func51, Try.ntmps51
  go_wp2_with (first | (go_at_call 52; refine (c1 _).mono ?_; rintro e w1 ⟨rfl, hw1⟩; have hc1 := Tail.cells hw1; have zw10 := Nat.lt_of_lt_of_le (n := w.heap.size) (by simp <;> omega) hw1.size) | (go_at_call 86; refine (c2 _).mono ?_; rintro e w2 ⟨rfl, hw2⟩; have hc2 := Tail.cells hw2; have z2 := Nat.lt_of_lt_of_le (n := w1.heap.size) (by simp <;> omega) hw2.size) | (go_at_call 87; refine (c3 _).mono ?_; rintro e w3 ⟨rfl, hw3⟩))
  go_ret
  exact ⟨rfl, by repeat (first | (with_reducible exact Below.refl _ _) | (with_reducible refine Below.setCell ?_ ?_ _) | (with_reducible refine Below.drew ?_) | (with_reducible refine Below.alloc ?_ ?_ _) | (with_reducible refine Below.trans ?_ (Below.mono hw3 ?_)) | (with_reducible refine Below.trans ?_ (Below.mono hw2 ?_)) | (with_reducible refine Below.trans ?_ (Below.mono hw1 ?_)) | (with_reducible exact hw3.size) | (with_reducible exact hw2.size) | (with_reducible exact hw1.size) | omega | (simp <;> omega) | (simp <;> (have s := hw3.size; omega)) | (simp <;> (have s := hw2.size; omega)) | (simp <;> (have s := hw1.size; omega)) | (have s0 := hw3.size; (try simp at s0); have s1 := hw2.size; (try simp at s1); have s2 := hw1.size; (try simp at s2); (try simp); omega))⟩

set_option maxHeartbeats 1200000 in
theorem validate_bad (x : Q) (w : World) (h : ¬ V x) : Calls Try.prog 51 #[.agg #[.int .i64 x.a, .int .i64 x.b, .int .i64 x.c, .int .i64 x.d, .int .i64 x.n]] w fun e w' => e = .returned (.int .i64 1) ∧ Below w.heap.size w w' := by
  have c1 := fun W : World => quaternionOf_any x W
  by_cases h1 : x.n < 1
  · clear h
    go_enter Try.func51, Try.ntmps51
    go_wp2_with (go_at_call 52; refine (c1 _).mono ?_; rintro e w1 ⟨rfl, hw1⟩; have hc1 := Tail.cells hw1; have zw10 := Nat.lt_of_lt_of_le (n := w.heap.size) (by simp <;> omega) hw1.size)
    go_ret
    exact ⟨rfl, by repeat (first | (with_reducible exact Below.refl _ _) | (with_reducible refine Below.setCell ?_ ?_ _) | (with_reducible refine Below.drew ?_) | (with_reducible refine Below.alloc ?_ ?_ _) | (with_reducible refine Below.trans ?_ (Below.mono hw1 ?_)) | (with_reducible exact hw1.size) | omega | (simp <;> omega) | (simp <;> (have s := hw1.size; omega)) | (have s0 := hw1.size; (try simp at s0); (try simp); omega))⟩
  by_cases h2 : 1048576 < x.n
  · clear h
    go_enter Try.func51, Try.ntmps51
    go_wp2_with (go_at_call 52; refine (c1 _).mono ?_; rintro e w1 ⟨rfl, hw1⟩; have hc1 := Tail.cells hw1; have zw10 := Nat.lt_of_lt_of_le (n := w.heap.size) (by simp <;> omega) hw1.size)
    go_ret
    exact ⟨rfl, by repeat (first | (with_reducible exact Below.refl _ _) | (with_reducible refine Below.setCell ?_ ?_ _) | (with_reducible refine Below.drew ?_) | (with_reducible refine Below.alloc ?_ ?_ _) | (with_reducible refine Below.trans ?_ (Below.mono hw1 ?_)) | (with_reducible exact hw1.size) | omega | (simp <;> omega) | (simp <;> (have s := hw1.size; omega)) | (have s0 := hw1.size; (try simp at s0); (try simp); omega))⟩
  have h3 : 0 < x.n := by omega
  have h4 : x.n ≤ 1048576 := by omega
  have c2 := fun W : World => isUnit_any x W h3 (by omega)
  cases hu : uB x
  · rw [hu] at c2
    clear h hu
    go_enter Try.func51, Try.ntmps51
    go_wp2_with (first | (go_at_call 52; refine (c1 _).mono ?_; rintro e w1 ⟨rfl, hw1⟩; have hc1 := Tail.cells hw1; have zw10 := Nat.lt_of_lt_of_le (n := w.heap.size) (by simp <;> omega) hw1.size) | (go_at_call 86; refine (c2 _).mono ?_; rintro e w2 ⟨rfl, hw2⟩; have hc2 := Tail.cells hw2; have z2 := Nat.lt_of_lt_of_le (n := w1.heap.size) (by simp <;> omega) hw2.size))
    go_ret
    exact ⟨rfl, by repeat (first | (with_reducible exact Below.refl _ _) | (with_reducible refine Below.setCell ?_ ?_ _) | (with_reducible refine Below.drew ?_) | (with_reducible refine Below.alloc ?_ ?_ _) | (with_reducible refine Below.trans ?_ (Below.mono hw2 ?_)) | (with_reducible refine Below.trans ?_ (Below.mono hw1 ?_)) | (with_reducible exact hw2.size) | (with_reducible exact hw1.size) | omega | (simp <;> omega) | (simp <;> (have s := hw2.size; omega)) | (simp <;> (have s := hw1.size; omega)) | (have s0 := hw2.size; (try simp at s0); have s1 := hw1.size; (try simp at s1); (try simp); omega))⟩
  rw [hu] at c2
  have u := (uB_iff x h3).1 hu
  have hg : ((g x : Int) == 1) = false := by
    have : g x ≠ 1 := fun hg => h ⟨u, hg, h4⟩
    simp; omega
  have hg' : ((g x : Int) != 1) = true := by simp only [bne, hg]; rfl
  have hi := (U.in u h4).le (k := 4611686018427387904) (by omega)
  have c3 := fun W : World => common_any x W hi
  clear h hu hi u
  go_enter Try.func51, Try.ntmps51
  go_wp2_with (first | (go_at_call 52; refine (c1 _).mono ?_; rintro e w1 ⟨rfl, hw1⟩; have hc1 := Tail.cells hw1; have zw10 := Nat.lt_of_lt_of_le (n := w.heap.size) (by simp <;> omega) hw1.size) | (go_at_call 86; refine (c2 _).mono ?_; rintro e w2 ⟨rfl, hw2⟩; have hc2 := Tail.cells hw2; have z2 := Nat.lt_of_lt_of_le (n := w1.heap.size) (by simp <;> omega) hw2.size) | (go_at_call 87; refine (c3 _).mono ?_; rintro e w3 ⟨rfl, hw3⟩))
  go_ret
  exact ⟨rfl, by repeat (first | (with_reducible exact Below.refl _ _) | (with_reducible refine Below.setCell ?_ ?_ _) | (with_reducible refine Below.drew ?_) | (with_reducible refine Below.alloc ?_ ?_ _) | (with_reducible refine Below.trans ?_ (Below.mono hw3 ?_)) | (with_reducible refine Below.trans ?_ (Below.mono hw2 ?_)) | (with_reducible refine Below.trans ?_ (Below.mono hw1 ?_)) | (with_reducible exact hw3.size) | (with_reducible exact hw2.size) | (with_reducible exact hw1.size) | omega | (simp <;> omega) | (simp <;> (have s := hw3.size; omega)) | (simp <;> (have s := hw2.size; omega)) | (simp <;> (have s := hw1.size; omega)) | (have s0 := hw3.size; (try simp at s0); have s1 := hw2.size; (try simp at s1); have s2 := hw1.size; (try simp at s2); (try simp); omega))⟩
end Go.Proofs.Ytdplojcbfdbgnaa
