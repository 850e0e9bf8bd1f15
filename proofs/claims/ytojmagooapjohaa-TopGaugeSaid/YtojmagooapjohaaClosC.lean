/- When a path is closed, as the document's answers find it.
Conditions: the list lies in memory as it is written at each theorem. -/
import Derived.Test.YtojmagooapjohaaPathA
namespace Go.Proofs.Ytojmagooapjohaa
set_option linter.unusedVariables false
set_option linter.unusedSimpArgs false
set_option maxRecDepth 1000000
open Go.RowKit
open Tm

structure SBox (w : World) (b : Nat) (x y z : Int) : Prop where
  c0 : w.cell? ⟨b, 0, none⟩ = some (.int .i64 x)
  c1 : w.cell? ⟨b, 1, none⟩ = some (.int .i64 y)
  c2 : w.cell? ⟨b, 2, none⟩ = some (.int .i64 z)
  free : ∀ j, w.frozen? ⟨b, j, none⟩ = false
  lt : b < w.heap.size
theorem setCell_grown3 (w : World) (p : Addr) (v : Value) : w.grownBy (w.setCell p v) (some p.block) :=
  ⟨rfl, rfl, rfl, by simp [World.setCell], fun k _ hk => heap_setCell_other w p k v (fun e => hk (by simp [e]))⟩

theorem clo_cases (a b c : Int) (l : List Int) (q : Bool) (hq : (Clo a b c l ∧ q = true) ∨ (¬ Clo a b c l ∧ q = false)) :
    ((((sm 1 l).tmod a == 0) = true) ∧ (((sm 2 l).tmod b == 0) = true) ∧ (((sm 3 l).tmod c == 0) = true) ∧ q = true) ∨ ((((sm 1 l).tmod a == 0) = false) ∧ q = false) ∨ ((((sm 1 l).tmod a == 0) = true) ∧ (((sm 2 l).tmod b == 0) = false) ∧ q = false) ∨ ((((sm 1 l).tmod a == 0) = true) ∧ (((sm 2 l).tmod b == 0) = true) ∧ (((sm 3 l).tmod c == 0) = false) ∧ q = false) := by
  have h : ∀ x n : Int, (x.tmod n == 0) = true ↔ n ∣ x := fun x n => by
    rw [beq_iff_eq]
    exact ⟨Int.dvd_of_tmod_eq_zero, Int.tmod_eq_zero_of_dvd⟩
  have f : ∀ x n : Int, ¬ n ∣ x → (x.tmod n == 0) = false := fun x n hn => by
    cases hb : (x.tmod n == 0)
    · rfl
    · exact absurd ((h x n).1 hb) hn
  by_cases h1 : a ∣ sm 1 l
  · by_cases h2 : b ∣ sm 2 l
    · by_cases h3 : c ∣ sm 3 l
      · refine .inl ⟨(h _ _).2 h1, (h _ _).2 h2, (h _ _).2 h3, ?_⟩
        rcases hq with ⟨_, h⟩ | ⟨hn, _⟩
        · exact h
        · exact absurd ⟨h1, h2, h3⟩ hn
      · refine .inr (.inr (.inr ⟨(h _ _).2 h1, (h _ _).2 h2, f _ _ h3, ?_⟩))
        rcases hq with ⟨hn, _⟩ | ⟨_, h⟩
        · exact absurd hn.2.2 h3
        · exact h
    · refine .inr (.inr (.inl ⟨(h _ _).2 h1, f _ _ h2, ?_⟩))
      rcases hq with ⟨hn, _⟩ | ⟨_, h⟩
      · exact absurd hn.2.1 h2
      · exact h
  · refine .inr (.inl ⟨f _ _ h1, ?_⟩)
    rcases hq with ⟨hn, _⟩ | ⟨_, h⟩
    · exact absurd hn.1 h1
    · exact h

end Go.Proofs.Ytojmagooapjohaa
