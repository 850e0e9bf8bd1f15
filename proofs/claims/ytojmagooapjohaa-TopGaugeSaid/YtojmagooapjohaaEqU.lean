/- Whether two units are equal, as the model asks it; and what a product of a list may be.
Conditions: none. -/
import Derived.Test.YtojmagooapjohaaOpen
import Derived.ChangeKeysEq
namespace Go.Proofs.Ytojmagooapjohaa
set_option linter.unusedVariables false
set_option linter.unusedSimpArgs false
set_option maxRecDepth 1000000
open Go.RowKit
open Um

theorem parts_apart {x y : Q} (he : ¬ x = y) : ¬ x.a = y.a ∨ (x.a = y.a ∧ ¬ x.b = y.b) ∨ (x.a = y.a ∧ x.b = y.b ∧ ¬ x.c = y.c) ∨ (x.a = y.a ∧ x.b = y.b ∧ x.c = y.c ∧ ¬ x.d = y.d) ∨ (x.a = y.a ∧ x.b = y.b ∧ x.c = y.c ∧ x.d = y.d ∧ ¬ x.n = y.n) := by
  by_cases h1 : x.a = y.a
  · by_cases h2 : x.b = y.b
    · by_cases h3 : x.c = y.c
      · by_cases h4 : x.d = y.d
        · refine .inr (.inr (.inr (.inr ⟨h1, h2, h3, h4, fun h5 => he ?_⟩)))
          cases x
          cases y
          simp at h1 h2 h3 h4 h5
          simp [h1, h2, h3, h4, h5]
        · exact .inr (.inr (.inr (.inl ⟨h1, h2, h3, h4⟩)))
      · exact .inr (.inr (.inl ⟨h1, h2, h3⟩))
    · exact .inr (.inl ⟨h1, h2⟩)
  · exact .inl h1

theorem eqU (x y : Q) (W : World) : Sem.run Try.prog (Op.equalIn 10000 36 (.agg #[.int .i64 x.a, .int .i64 x.b, .int .i64 x.c, .int .i64 x.d, .int .i64 x.n]) (.agg #[.int .i64 y.a, .int .i64 y.b, .int .i64 y.c, .int .i64 y.d, .int .i64 y.n])) W = .ok (decide (x = y)) W := by
  by_cases h : x = y
  · subst h
    simp [go_sem]
  · have hd : decide (x = y) = false := by simpa using h
    rw [hd]
    rcases parts_apart h with h | h | h | h | h
    all_goals simp [go_sem, h]

theorem prod_cases (p : Q) (l : List Q) (hp : V p) (hl : ∀ x ∈ l, V x) : ∃ r er, prodFrom p l = (r, er) ∧ ((er = 0 ∧ V r) ∨ (er = 3 ∧ r = zero)) := by
  induction l generalizing p with
  | nil => exact ⟨p, 0, rfl, .inl ⟨rfl, hp⟩⟩
  | cons q l ih =>
    simp only [prodFrom]
    by_cases h : 1048576 < (low (mul p q)).n
    · rw [if_pos h]
      exact ⟨zero, 3, rfl, .inr ⟨rfl, rfl⟩⟩
    · rw [if_neg h]
      have hq := hl q (by simp)
      exact ih _ (V.of_low (mul_len p q hp.u hq.u) (by omega)) (fun x hx => hl x (by simp [hx]))
end Go.Proofs.Ytojmagooapjohaa
