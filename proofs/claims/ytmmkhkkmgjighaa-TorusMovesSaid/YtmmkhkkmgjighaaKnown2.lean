/- What the statements of the second layer ask of the program first, and how places are compared and arguments read.
Conditions: none. -/
import Derived.Test.YtmmkhkkmgjighaaTorA
namespace Go.Proofs.Ytmmkhkkmgjighaa
set_option linter.unusedVariables false
set_option linter.unusedSimpArgs false
set_option maxRecDepth 1000000
open Go.ChangeShapes Go.WideShapes Go.ChangeAt Go.RowKit
open Tm

theorem info3 : ∃ i, Try.prog.info? 3 = some i := Option.isSome_iff_exists.1 (by kernel_rfl)
theorem eqA3 (a b c : Int) (W : World) : Sem.run Try.prog (Op.equalIn 10000 22 (.agg #[.int .i64 a, .int .i64 b, .int .i64 c]) (.agg #[.int .i64 a, .int .i64 b, .int .i64 c])) W = .ok true W := by
  obtain ⟨i, hi⟩ := info3
  have h := run_equalIn_array W 9999 #[.int .i64 a, .int .i64 b, .int .i64 c] #[.int .i64 a, .int .i64 b, .int .i64 c] Try.underlying22 hi
  rw [show (10000 : Nat) = 9999 + 1 from rfl, h, cells3, show List.range 3 = [0, 1, 2] from rfl]
  simp [Op.eqItems, go_sem]

set_option maxHeartbeats 800000 in
theorem known2_any (w : World) : Calls Try.prog 15 #[] w fun e w' => e = .returned (.bool true) ∧ Below w.heap.size w w' := by
  have h : Sz 2 3 1 := ⟨by decide, by decide, by decide, by decide, by decide, by decide, by decide⟩
  have c1 := fun W : World => place_any 2 3 1 5 1 2 0 0 W (.inr (.inr ⟨h, by decide, by decide, by decide, by decide, by decide, rfl⟩))
  have c2 := fun W : World => nextO_any 2 3 1 5 1 4 0 W (.inr (.inr (.inr ⟨h, by decide, by decide, ⟨by decide, by decide, by decide⟩, by decide, rfl⟩)))
  have qa := eqA3 1 2 0
  clear h
  go_enter Try.func15, Try.ntmps15
  go_wp2_with (first | ((with_reducible refine (c1 _).mono ?_); rintro e w1 ⟨rfl, hw1⟩; have s1 := hw1.size) | ((with_reducible refine (c2 _).mono ?_); rintro e w2 ⟨rfl, hw2⟩; have hc2 := Tail.cells hw2; have z := Nat.lt_of_lt_of_le (n := w1.heap.size) (by simp) hw2.size))
  go_ret
  exact ⟨rfl, by repeat (first | (with_reducible exact Below.refl _ _) | (with_reducible refine Below.setCell ?_ ?_ _) | (with_reducible refine Below.drew ?_) | (with_reducible refine Below.alloc ?_ ?_ _) | (with_reducible refine Below.trans ?_ (Below.mono hw2 ?_)) | (with_reducible refine Below.trans ?_ (Below.mono hw1 ?_)) | (with_reducible exact hw2.size) | (with_reducible exact hw1.size) | omega | (simp <;> omega) | (simp <;> (have s := hw2.size; omega)) | (simp <;> (have s := hw1.size; omega)) | (have s0 := hw2.size; (try simp at s0); have s1 := hw1.size; (try simp at s1); (try simp); omega))⟩

section
open Go.ChangeShapes Go.WideShapes Go.ChangeAt Go.RowKit Go.Joins Go.Deep
variable {H : Type} {enc : TypeId × Value → H} {w : World} {base : Nat} {spare : Nat → Bool} {held : Bool}
end
end Go.Proofs.Ytmmkhkkmgjighaa
