/- PathValidates: which fields and momenta are valid, and the opposite momenta, is what the document says, for all fields and lists.
Conditions: none. -/
import Derived.Test.YtilbhcjnkmeecaaGreatSane6
import Derived.Test.YtilbhcjnkmeecaaGreatKickB
import Derived.Test.YtilbhcjnkmeecaaGreatOpenKA
import Derived.Test.YtilbhcjnkmeecaaGreatLawValF
import Derived.Test.YtilbhcjnkmeecaaGreatJFacts
namespace Go.Proofs.YtilbhcjnkmeecaaGreat
set_option linter.unusedVariables false
set_option linter.unusedSimpArgs false
set_option maxRecDepth 1000000
open Go.ChangeShapes Go.WideShapes Go.ChangeAt Go.RowKit
open Um Tm Cm Km

set_option maxHeartbeats 800000 in
theorem long6_any (a b c : Int) (ao po : Option Addr) (cap pc m n : Nat) (r : Bool) (w : World) (h : (m ≤ 100 ∧ n ≤ 100 ∧ r = false) ∨ ((100 < m ∨ 100 < n) ∧ r = true)) : Calls Tryz.prog 8 #[.agg #[.int .i64 a, .int .i64 b, .int .i64 c, .slice ao m cap], .slice po n pc] w fun e w' => e = .returned (.bool r) ∧ Below w.heap.size w w' := by
  rcases h with ⟨h, h', rfl⟩ | ⟨h, rfl⟩
  · have c1 := fun W : World => long_any a b c ao cap m false W (.inl ⟨h, rfl⟩)
    have h2 : decide ((100 : Int) < (n : Int)) = false := decide_eq_false (by omega)
    clear h
    go_enter Tryz.func8, Tryz.ntmps8
    go_wp2_with (first | ((with_reducible refine (c1 _).mono ?_); clear c1; rintro e w1 ⟨rfl, hw1⟩; have hc1 := Tail.cells hw1; have s1 := hw1.size; (try simp at s1); (try have z1_0 : w.heap.size < w1.heap.size := (by omega)); clear s1))
    go_ret
    exact ⟨rfl, by repeat (first | (with_reducible exact Below.refl _ _) | (with_reducible refine Below.setCell ?_ ?_ _) | (with_reducible refine Below.drew ?_) | (with_reducible refine Below.alloc ?_ ?_ _) | (with_reducible refine Below.trans ?_ (Below.mono hw1 ?_)) | (with_reducible exact hw1.size) | omega | (simp <;> omega) | (simp <;> (have s := hw1.size; omega)) | (have s0 := hw1.size; (try simp at s0); (try simp); omega))⟩
  · by_cases hm : 100 < m
    · have c1 := fun W : World => long_any a b c ao cap m true W (.inr ⟨hm, rfl⟩)
      clear h
      go_enter Tryz.func8, Tryz.ntmps8
      go_wp2_with (first | ((with_reducible refine (c1 _).mono ?_); clear c1; rintro e w1 ⟨rfl, hw1⟩; have hc1 := Tail.cells hw1; have s1 := hw1.size; (try simp at s1); (try have z1_0 : w.heap.size < w1.heap.size := (by omega)); clear s1))
      go_ret
      exact ⟨rfl, by repeat (first | (with_reducible exact Below.refl _ _) | (with_reducible refine Below.setCell ?_ ?_ _) | (with_reducible refine Below.drew ?_) | (with_reducible refine Below.alloc ?_ ?_ _) | (with_reducible refine Below.trans ?_ (Below.mono hw1 ?_)) | (with_reducible exact hw1.size) | omega | (simp <;> omega) | (simp <;> (have s := hw1.size; omega)) | (have s0 := hw1.size; (try simp at s0); (try simp); omega))⟩
    · have c1 := fun W : World => long_any a b c ao cap m false W (.inl ⟨by omega, rfl⟩)
      have h2 : decide ((100 : Int) < (n : Int)) = true := decide_eq_true (by omega)
      clear h
      go_enter Tryz.func8, Tryz.ntmps8
      go_wp2_with (first | ((with_reducible refine (c1 _).mono ?_); clear c1; rintro e w1 ⟨rfl, hw1⟩; have hc1 := Tail.cells hw1; have s1 := hw1.size; (try simp at s1); (try have z1_0 : w.heap.size < w1.heap.size := (by omega)); clear s1))
      go_ret
      exact ⟨rfl, by repeat (first | (with_reducible exact Below.refl _ _) | (with_reducible refine Below.setCell ?_ ?_ _) | (with_reducible refine Below.drew ?_) | (with_reducible refine Below.alloc ?_ ?_ _) | (with_reducible refine Below.trans ?_ (Below.mono hw1 ?_)) | (with_reducible exact hw1.size) | omega | (simp <;> omega) | (simp <;> (have s := hw1.size; omega)) | (have s0 := hw1.size; (try simp at s0); (try simp); omega))⟩
theorem sameK_true (a1 a2 : Option Addr) (c1 c2 n : Nat) (l : List Int) (w : World) (h1 : LiesOI w a1 l) (h2 : LiesOI w a2 l) (hn : l.length = n * 3) (hlen : n ≤ 1000000) :
    Calls Tryz.prog 16 #[.slice a1 n c1, .slice a2 n c2] w fun e w' => e = .returned (.bool true) ∧ Below w.heap.size w w' := by
  have := sameK_any a1 a2 c1 c2 n n l l w h1 h2 hn hn hlen
  rwa [decide_eq_true rfl] at this
theorem liesI_re {W : World} {b off : Nat} {l : List Int} (h : LiesI W b off l) (d : Nat) (os : Array Obj) : LiesI (Sort.grow (redrawn W d) os) b off l := fun i x hx => by
  have f := h i x hx
  rw [Tail.cell_re W d os _ (World.block_lt_of_cell? W _ f)]
  exact f
end Go.Proofs.YtilbhcjnkmeecaaGreat
