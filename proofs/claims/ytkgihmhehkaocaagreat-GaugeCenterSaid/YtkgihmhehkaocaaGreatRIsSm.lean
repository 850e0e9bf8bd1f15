/- Which fields are small, as the program tells it.
Conditions: the list lies in memory as it is written at each theorem. -/
import Derived.Test.YtkgihmhehkaocaaGreatRNumC
namespace Go.Proofs.YtkgihmhehkaocaaGreat
set_option linter.unusedVariables false
set_option linter.unusedSimpArgs false
set_option maxRecDepth 1000000
open Go.RowKit
open Um Tm

set_option maxHeartbeats 800000 in
theorem isSmall_ok (a b c : Int) (ao : Option Addr) (cap : Nat) (L : List Q) (ns : List Int) (q : Bool) (w : World) (h : LiesO w ao L) (hr : fldR a b c L 0) (hq : smR L ns q) : Calls Tryz.prog 92 #[.agg #[.int .i64 a, .int .i64 b, .int .i64 c, .slice ao L.length cap]] w fun e w' => e = .returned (.tuple #[.bool q, .int .i64 0]) ∧ Below w.heap.size w w' := by
  have H := Lib.hid h
  cases q with
  | true =>
    have c1 : ∀ W : World, LiesO W ao L → Calls Tryz.prog 115 #[.agg #[.int .i64 a, .int .i64 b, .int .i64 c, .slice ao L.length cap]] W fun e w' => ∃ a2 k, e = .returned (.tuple #[.slice a2 ns.length k, .int .i64 0]) ∧ Below W.heap.size W w' := fun W h => (numbers_ok a b c ao cap L ns true W h hr hq).mono fun e w' ⟨hh, hb⟩ => by
      rcases hh with ⟨_, a2, k, he, hl⟩ | ⟨h, _⟩
      · exact ⟨a2, k, he, hb⟩
      · cases h
    clear h hr hq
    go_enter Tryz.func92, Tryz.ntmps92
    go_wp2_with ((with_reducible refine (c1 _ (H.out.later (by repeat (first | (with_reducible exact Below.refl _ _) | (with_reducible refine Below.setCell ?_ ?_ _) | (with_reducible refine Below.drew ?_) | (with_reducible refine Below.alloc ?_ ?_ _) | omega | (simp <;> omega))))).mono ?_); rintro e w1 ⟨a2, k2, rfl, hw1⟩)
    go_ret2
    exact ⟨rfl, by repeat (first | (with_reducible exact Below.refl _ _) | (with_reducible refine Below.setCell ?_ ?_ _) | (with_reducible refine Below.drew ?_) | (with_reducible refine Below.alloc ?_ ?_ _) | (with_reducible refine Below.trans ?_ (Below.mono hw1 ?_)) | (with_reducible exact hw1.size) | omega | (simp <;> omega) | (simp <;> (have s := hw1.size; omega)) | (have s0 := hw1.size; (try simp at s0); (try simp); omega))⟩
  | false =>
    have c1 : ∀ W : World, LiesO W ao L → Calls Tryz.prog 115 #[.agg #[.int .i64 a, .int .i64 b, .int .i64 c, .slice ao L.length cap]] W fun e w' => e = .returned (.tuple #[.slice none 0 0, .int .i64 7]) ∧ Below W.heap.size W w' := fun W h => (numbers_ok a b c ao cap L ns false W h hr hq).mono fun e w' ⟨hh, hb⟩ => by
      rcases hh with ⟨h, _⟩ | ⟨_, he⟩
      · cases h
      · exact ⟨he, hb⟩
    clear h hr hq
    go_enter Tryz.func92, Tryz.ntmps92
    go_wp2_with ((with_reducible refine (c1 _ (H.out.later (by repeat (first | (with_reducible exact Below.refl _ _) | (with_reducible refine Below.setCell ?_ ?_ _) | (with_reducible refine Below.drew ?_) | (with_reducible refine Below.alloc ?_ ?_ _) | omega | (simp <;> omega))))).mono ?_); rintro e w1 ⟨rfl, hw1⟩)
    go_ret2
    exact ⟨rfl, by repeat (first | (with_reducible exact Below.refl _ _) | (with_reducible refine Below.setCell ?_ ?_ _) | (with_reducible refine Below.drew ?_) | (with_reducible refine Below.alloc ?_ ?_ _) | (with_reducible refine Below.trans ?_ (Below.mono hw1 ?_)) | (with_reducible exact hw1.size) | omega | (simp <;> omega) | (simp <;> (have s := hw1.size; omega)) | (have s0 := hw1.size; (try simp at s0); (try simp); omega))⟩
end Go.Proofs.YtkgihmhehkaocaaGreat
