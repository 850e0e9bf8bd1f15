/- Inverses, and whether a quaternion has the length 1, as the program finds it.
Conditions: the bounds written at each theorem. -/
import Derived.Test.YtdplojcbfdbgnaaLow
import Derived.Deep.RegionWith
namespace Go.Proofs.Ytdplojcbfdbgnaa
set_option linter.unusedVariables false
set_option linter.unusedSimpArgs false
open Go.RowKit
open Um

set_option maxHeartbeats 400000 in
theorem inverse_any (x : Q) (w : World) (hb : -1152921504606846976 ≤ x.b ∧ x.b ≤ 1152921504606846976) (hc : -1152921504606846976 ≤ x.c ∧ x.c ≤ 1152921504606846976) (hd : -1152921504606846976 ≤ x.d ∧ x.d ≤ 1152921504606846976) :
    Calls Try.prog 53 #[.agg #[.int .i64 x.b, .int .i64 x.c, .int .i64 x.d, .int .i64 x.a, .int .i64 x.n]] w fun e w' => e = .returned (.agg #[.int .i64 (bar x).b, .int .i64 (bar x).c, .int .i64 (bar x).d, .int .i64 (bar x).a, .int .i64 (bar x).n]) ∧ Below w.heap.size w w' := by
  have s := fun W : World => scaled_any x (-1) W (by omega) (by omega) (by omega)
  rw [Int.neg_one_mul, Int.neg_one_mul, Int.neg_one_mul] at s
  clear hb hc hd
  go_enter Try.func53, Try.ntmps53
  go_wp2_with (go_at_call 88; refine (s _).mono ?_; rintro e w1 ⟨rfl, hw1⟩; have hc := Tail.cells hw1; have zw10 := Nat.lt_of_lt_of_le (n := w.heap.size) (by simp <;> omega) hw1.size; have zw11 := Nat.lt_of_lt_of_le (n := w.heap.size + 1) (by simp <;> omega) hw1.size; have kw1a0 : w1.cell? ⟨w.heap.size, 0, none⟩ = some (.int .i64 x.b) := (hc.1 _ _ (by simp <;> omega)).trans (by simp [go_sem]); have kw1a1 : w1.cell? ⟨w.heap.size, 1, none⟩ = some (.int .i64 x.c) := (hc.1 _ _ (by simp <;> omega)).trans (by simp [go_sem]); have kw1a2 : w1.cell? ⟨w.heap.size, 2, none⟩ = some (.int .i64 x.d) := (hc.1 _ _ (by simp <;> omega)).trans (by simp [go_sem]); have kw1a3 : w1.cell? ⟨w.heap.size, 3, none⟩ = some (.int .i64 x.a) := (hc.1 _ _ (by simp <;> omega)).trans (by simp [go_sem]); have kw1a4 : w1.cell? ⟨w.heap.size, 4, none⟩ = some (.int .i64 x.n) := (hc.1 _ _ (by simp <;> omega)).trans (by simp [go_sem]))
  refine bodyPost_ret (v := .agg #[.int .i64 (bar x).b, .int .i64 (bar x).c, .int .i64 (bar x).d, .int .i64 (bar x).a, .int .i64 (bar x).n]) ?_ rfl ⟨rfl, ?_⟩
  · simp [results, Try.results53, go_sem, hc, bar, zw10, zw11]
  · repeat (first | (with_reducible exact Below.refl _ _) | (with_reducible refine Below.setCell ?_ ?_ _) | (with_reducible refine Below.drew ?_) | (with_reducible refine Below.alloc ?_ ?_ _) | (with_reducible refine Below.trans ?_ (Below.mono hw1 ?_)) | (with_reducible exact hw1.size) | omega | (simp <;> omega) | (simp <;> (have s := hw1.size; omega)) | (have s0 := hw1.size; (try simp at s0); (try simp); omega))

set_option maxHeartbeats 400000 in
theorem vwithin_any (x : Q) (m : Int) (w : World) (h0 : 0 ≤ m) (h1 : m ≤ 1099511627776) :
    Calls Try.prog 111 #[.agg #[.int .i64 x.b, .int .i64 x.c, .int .i64 x.d], .int .i64 m] w fun e w' => e = .returned (.bool (inB x.b (-m) m && inB x.c (-m) m && inB x.d (-m) m)) ∧ Below w.heap.size w w' := by
  cases e1 : inB x.b (-m) m
  · go_enter Try.func111, Try.ntmps111
    go_wp2_with (go_at_call 110; refine (isWithin_any _ _ _ h0 h1).mono ?_; rintro e w1 ⟨rfl, rfl⟩)
    go_ret
    exact ⟨rfl, by repeat (first | (with_reducible exact Below.refl _ _) | (with_reducible refine Below.setCell ?_ ?_ _) | (with_reducible refine Below.drew ?_) | (with_reducible refine Below.alloc ?_ ?_ _) | omega | (simp <;> omega))⟩
  cases e2 : inB x.c (-m) m
  · go_enter Try.func111, Try.ntmps111
    go_wp2_with (go_at_call 110; refine (isWithin_any _ _ _ h0 h1).mono ?_; rintro e w1 ⟨rfl, rfl⟩)
    go_ret
    exact ⟨rfl, by repeat (first | (with_reducible exact Below.refl _ _) | (with_reducible refine Below.setCell ?_ ?_ _) | (with_reducible refine Below.drew ?_) | (with_reducible refine Below.alloc ?_ ?_ _) | omega | (simp <;> omega))⟩
  cases e3 : inB x.d (-m) m
  all_goals
    go_enter Try.func111, Try.ntmps111
    go_wp2_with (go_at_call 110; refine (isWithin_any _ _ _ h0 h1).mono ?_; rintro e w1 ⟨rfl, rfl⟩)
    go_ret
    exact ⟨rfl, by repeat (first | (with_reducible exact Below.refl _ _) | (with_reducible refine Below.setCell ?_ ?_ _) | (with_reducible refine Below.drew ?_) | (with_reducible refine Below.alloc ?_ ?_ _) | omega | (simp <;> omega))⟩
end Go.Proofs.Ytdplojcbfdbgnaa
