/- The unit along a path, as the document's answers make it.
Conditions: those written at each theorem. -/
import Derived.Test.YtkgihmhehkaocaaGreatRAlongC
import Derived.Test.YtkgihmhehkaocaaGreatRCold
import Derived.Test.YtkgihmhehkaocaaGreatRCloC
import Derived.Test.YtkgihmhehkaocaaGreatRDist
namespace Go.Proofs.YtkgihmhehkaocaaGreat
set_option linter.unusedVariables false
set_option linter.unusedSimpArgs false
set_option maxRecDepth 1000000
open Go.RowKit
open Um Tm

/-- what a step reads -/
structure StepF (L : List Q) (s n t : Int) (y : Q) : Prop where
  s0 : 0 ≤ s
  s16 : s < 16
  n0 : 0 ≤ n
  n16 : n < 16
  ht : IsStep t
  fwd : 0 < t → L[(3 * s + t - 1).toNat]? = some y ∧ 0 ≤ 3 * s + t - 1 ∧ 3 * s + t - 1 < (L.length : Int)
  bwd : ¬ 0 < t → ∃ x, V x ∧ y = bar x ∧ L[(3 * n - t - 1).toNat]? = some x ∧ 0 ≤ 3 * n - t - 1 ∧ 3 * n - t - 1 < (L.length : Int)
end Go.Proofs.YtkgihmhehkaocaaGreat

/- Whether a path is closed, as the document's answers tell it.
Conditions: the list lies in memory as it is written at each theorem. -/
namespace Go.Proofs.YtkgihmhehkaocaaGreat
set_option linter.unusedVariables false
set_option linter.unusedSimpArgs false
set_option maxRecDepth 1000000
open Go.ChangeShapes Go.WideShapes Go.ChangeAt Go.RowKit
open Tm

end Go.Proofs.YtkgihmhehkaocaaGreat

/- Traces along paths, as the program and the document's answers make them.
Conditions: the lists lie in memory as it is written at each theorem. -/
namespace Go.Proofs.YtkgihmhehkaocaaGreat
set_option linter.unusedVariables false
set_option linter.unusedSimpArgs false
set_option maxRecDepth 1000000
open Go.RowKit
open Um Tm

def z2 : Value := .agg #[.int .i64 0, .int .i64 0]
set_option maxHeartbeats 1600000 in
theorem traceL_ok (a b c s : Int) (bl off : Nat) (ao : Option Addr) (cap pc : Nat) (L : List Q) (l : List Int) (w : World) (hl : Lies w bl off L) (hp : LiesOI w ao l) (hr : asR a b c L s l 0) (hc : en a b c s l = s) : Calls Tryz.prog 78 #[.agg #[.int .i64 a, .int .i64 b, .int .i64 c, .slice (some ⟨bl, off, none⟩) L.length cap], .int .i64 s, .slice ao l.length pc] w fun e w' => e = .returned (.tuple #[.agg #[.int .i64 ((tr (al a b c L s l))).1, .int .i64 ((tr (al a b c L s l))).2], .int .i64 0]) ∧ Below w.heap.size w w' := by
  obtain ⟨hF, s0, s1, hs, h8⟩ := asR_ok hr
  have c1 := fun (W : World) (h : Lies W bl off L) (h2 : LiesOI W ao l) => alongO_ok a b c s bl off ao cap pc L l W h h2 hr
  have c2 := fun (W : World) (h2 : LiesOI W ao l) => isClosed_ok a b c s true ao pc l W hF.z s0 s1 h2 hs h8 (.inl ⟨hc, rfl⟩)
  have c3 := fun (W : World) => trace_ok (al a b c L s l) W (hF.al s l s0 s1 hs h8).2
  have H := Lib.hid hl
  have HP := Lib.hid hp
  clear hl hp hr hF s0 s1 hs h8 hc
  generalize tr (al a b c L s l) = q at *
  generalize al a b c L s l = x at *
  go_enter Tryz.func78, Tryz.ntmps78
  go_wp2_with (fail)
  refine (c1 _ (H.out.later (by repeat (first | (with_reducible exact Below.refl _ _) | (with_reducible refine Below.setCell ?_ ?_ _) | (with_reducible refine Below.drew ?_) | (with_reducible refine Below.alloc ?_ ?_ _) | omega | (simp <;> omega)))) (HP.out.later (by repeat (first | (with_reducible exact Below.refl _ _) | (with_reducible refine Below.setCell ?_ ?_ _) | (with_reducible refine Below.drew ?_) | (with_reducible refine Below.alloc ?_ ?_ _) | omega | (simp <;> omega))))).mono ?_
  rintro e w1 ⟨rfl, hw1⟩
  have hc1 := Tail.cells hw1
  have zw10 := Nat.lt_of_lt_of_le (n := w.heap.size) (by simp <;> omega) hw1.size; have zw11 := Nat.lt_of_lt_of_le (n := w.heap.size + 1) (by simp <;> omega) hw1.size
  go_wp2_with (fail)
  refine (c2 _ (HP.out.later (by repeat (first | (with_reducible exact Below.refl _ _) | (with_reducible refine Below.setCell ?_ ?_ _) | (with_reducible refine Below.drew ?_) | (with_reducible refine Below.alloc ?_ ?_ _) | (with_reducible refine Below.trans ?_ (Below.mono hw1 ?_)) | (with_reducible exact hw1.size) | omega | (simp <;> omega) | (simp <;> (have s := hw1.size; omega)) | (have s0 := hw1.size; (try simp at s0); (try simp); omega))))).mono ?_
  rintro e w2 ⟨rfl, hw2⟩
  have hc2 := Tail.cells hw2
  have y0 : w.heap.size < w2.heap.size := by have := hw2.size; simp at this; omega
  have y1 : w.heap.size + 1 < w2.heap.size := by have := hw2.size; simp at this; omega
  go_wp2_with (fail)
  refine (c3 _).mono ?_
  rintro e w3 ⟨rfl, hw3⟩
  have hc3 := Tail.cells hw3
  have x0 := Nat.lt_of_lt_of_le y0 hw3.size
  have x1 := Nat.lt_of_lt_of_le y1 hw3.size
  go_wp2
  refine bodyPost_ret (v := .tuple #[.agg #[.int .i64 (q).1, .int .i64 (q).2], .int .i64 0]) ?_ rfl ⟨rfl, ?_⟩
  · simp [results, Tryz.results78, go_sem, hc1, hc2, hc3, zw10, zw11, y0, y1, x0, x1]
  · repeat (first | (with_reducible exact Below.refl _ _) | (with_reducible refine Below.setCell ?_ ?_ _) | (with_reducible refine Below.drew ?_) | (with_reducible refine Below.alloc ?_ ?_ _) | (with_reducible refine Below.trans ?_ (Below.mono hw3 ?_)) | (with_reducible refine Below.trans ?_ (Below.mono hw2 ?_)) | (with_reducible refine Below.trans ?_ (Below.mono hw1 ?_)) | (with_reducible exact hw3.size) | (with_reducible exact hw2.size) | (with_reducible exact hw1.size) | omega | (simp <;> omega) | (simp <;> (have s := hw3.size; omega)) | (simp <;> (have s := hw2.size; omega)) | (simp <;> (have s := hw1.size; omega)) | (have s0 := hw3.size; (try simp at s0); have s1 := hw2.size; (try simp at s1); have s2 := hw1.size; (try simp at s2); (try simp); omega))

/-! ### the document's -/
end Go.Proofs.YtkgihmhehkaocaaGreat
