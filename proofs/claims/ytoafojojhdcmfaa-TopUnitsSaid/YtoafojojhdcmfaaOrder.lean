/- Orders of units, as the program and the document's answers find them.
Conditions: none. -/
import Derived.Test.YtoafojojhdcmfaaDist
namespace Go.Proofs.Ytoafojojhdcmfaa
set_option linter.unusedVariables false
set_option linter.unusedSimpArgs false
open Go.RowKit
open Um

theorem ord_cases {x : Q} (h : V x) : (¬ (tr x).2 = 1 ∧ ord x = 0) ∨ ((tr x).2 = 1 ∧ (((tr x).1 = 2 ∧ ord x = 1) ∨ ((tr x).1 = -2 ∧ ord x = 2) ∨ ((tr x).1 = -1 ∧ ord x = 3) ∨ ((tr x).1 = 0 ∧ ord x = 4) ∨ ((tr x).1 = 1 ∧ ord x = 6))) := by
  have ho := h.ord_eq
  by_cases hq : (tr x).2 = 1
  · have hd := (rat_den_one _ _ h.u.pos).1 hq
    refine .inr ⟨hq, ?_⟩
    rw [if_neg (by omega)] at ho
    have n : ∀ k : Int, 2 * x.a = x.n * k → (tr x).1 = k := fun k hk => rat_num_of_dvd _ _ k h.u.pos hk
    rcases h.trace_cases hd with e | e | e | e | e
    · have := n 2 (by omega)
      rw [if_pos this] at ho
      exact .inl ⟨this, ho⟩
    · have := n (-2) (by omega)
      rw [if_neg (by omega), if_pos this] at ho
      exact .inr (.inl ⟨this, ho⟩)
    · have := n (-1) (by omega)
      rw [if_neg (by omega), if_neg (by omega), if_pos this] at ho
      exact .inr (.inr (.inl ⟨this, ho⟩))
    · have := n 0 (by omega)
      rw [if_neg (by omega), if_neg (by omega), if_neg (by omega), if_pos this] at ho
      exact .inr (.inr (.inr (.inl ⟨this, ho⟩)))
    · have := n 1 (by omega)
      rw [if_neg (by omega), if_neg (by omega), if_neg (by omega), if_neg (by omega)] at ho
      exact .inr (.inr (.inr (.inr ⟨this, ho⟩)))
  · rw [if_pos hq] at ho
    exact .inl ⟨hq, ho⟩

set_option maxHeartbeats 800000 in
theorem order_bad (x : Q) (w : World) (h : ¬ V x) : Calls Try.prog 77 #[.agg #[.int .i64 x.a, .int .i64 x.b, .int .i64 x.c, .int .i64 x.d, .int .i64 x.n]] w fun e w' => e = .returned (.tuple #[.int .i64 0, .int .i64 1]) ∧ Below w.heap.size w w' := by
  have c1 := fun W : World => trace_bad x W h
  clear h
  go_enter Try.func77, Try.ntmps77
  go_wp2_with ((with_reducible refine (c1 _).mono ?_); rintro e w1 ⟨rfl, hw1⟩; have hc := Tail.cells hw1)
  go_ret2
  exact ⟨rfl, by repeat (first | (with_reducible exact Below.refl _ _) | (with_reducible refine Below.setCell ?_ ?_ _) | (with_reducible refine Below.drew ?_) | (with_reducible refine Below.alloc ?_ ?_ _) | (with_reducible refine Below.trans ?_ (Below.mono hw1 ?_)) | (with_reducible exact hw1.size) | omega | (simp <;> omega) | (simp <;> (have s := hw1.size; omega)) | (have s0 := hw1.size; (try simp at s0); (try simp); omega))⟩

set_option maxHeartbeats 1600000 in
theorem order_ok (x : Q) (w : World) (h : V x) : Calls Try.prog 77 #[.agg #[.int .i64 x.a, .int .i64 x.b, .int .i64 x.c, .int .i64 x.d, .int .i64 x.n]] w fun e w' => e = .returned (.tuple #[.int .i64 (ord x), .int .i64 0]) ∧ Below w.heap.size w w' := by
  have c1 := fun W : World => trace_ok x W h
  have ho := ord_cases h
  clear h
  generalize ord x = o at *
  generalize tr x = t at *
  obtain ⟨p, q⟩ := t
  simp only at ho
  rcases ho with ⟨hq, rfl⟩ | ⟨rfl, ⟨rfl, rfl⟩ | ⟨rfl, rfl⟩ | ⟨rfl, rfl⟩ | ⟨rfl, rfl⟩ | ⟨rfl, rfl⟩⟩
  · have hq' : (q != 1) = true := by simpa using hq
    go_enter Try.func77, Try.ntmps77
    go_wp2_with ((with_reducible refine (c1 _).mono ?_); rintro e w1 ⟨rfl, hw1⟩; have hc := Tail.cells hw1)
    go_ret2
    exact ⟨rfl, by repeat (first | (with_reducible exact Below.refl _ _) | (with_reducible refine Below.setCell ?_ ?_ _) | (with_reducible refine Below.drew ?_) | (with_reducible refine Below.alloc ?_ ?_ _) | (with_reducible refine Below.trans ?_ (Below.mono hw1 ?_)) | (with_reducible exact hw1.size) | omega | (simp <;> omega) | (simp <;> (have s := hw1.size; omega)) | (have s0 := hw1.size; (try simp at s0); (try simp); omega))⟩
  all_goals
    go_enter Try.func77, Try.ntmps77
    go_wp2_with ((with_reducible refine (c1 _).mono ?_); rintro e w1 ⟨rfl, hw1⟩; have hc := Tail.cells hw1)
    go_ret2
    exact ⟨rfl, by repeat (first | (with_reducible exact Below.refl _ _) | (with_reducible refine Below.setCell ?_ ?_ _) | (with_reducible refine Below.drew ?_) | (with_reducible refine Below.alloc ?_ ?_ _) | (with_reducible refine Below.trans ?_ (Below.mono hw1 ?_)) | (with_reducible exact hw1.size) | omega | (simp <;> omega) | (simp <;> (have s := hw1.size; omega)) | (have s0 := hw1.size; (try simp at s0); (try simp); omega))⟩

end Go.Proofs.Ytoafojojhdcmfaa
