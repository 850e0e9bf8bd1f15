/- How a vector and a source are read off an argument.
Conditions: none. -/
import Derived.Test.YtmnlfojcofdaeaaOpenS
namespace Go.Proofs.Ytmnlfojcofdaeaa
set_option linter.unusedVariables false
set_option linter.unusedSimpArgs false
set_option maxRecDepth 1000000
open Go.ChangeShapes Go.WideShapes Go.ChangeAt Go.RowKit Go.Joins Go.Deep
open Fm
section
variable {H : Type} {enc : TypeId × Value → H} {w : World} {base : Nat} {spare : Nat → Bool} {held : Bool}
theorem cellsT7 : Try.prog.cellsOf 51 = 2 := by kernel_rfl
theorem cellsV7 : Try.prog.cellsOf 26 = 1 := by kernel_rfl
theorem one_ofT7 {fs : Array Field} (_ : Try.prog.underlying 51 = some (.struct fs)) (h : oneCellFields Try.prog fs = true) : oneCellFields Try.prog fs = true := h
theorem open_try {r : Reach} {b0 : Nat} {v : Value} {d : DataW H} {p : List MemPlace} (hv : Value.okWide Try.prog w r b0 51 v) (h : DataW.Trod enc Try.prog w base spare held 51 v d p) : ∃ (po : Option Addr) (M : List Sp) (pc : Nat) (qo : Option Addr) (N : List Sp) (qc : Nat), v = .agg #[.slice po M.length pc, .slice qo N.length qc] ∧ M.length ≤ pc ∧ pc ≤ maxLen ∧ LiesOI w po (fl M) ∧ (po = none → pc = 0) ∧ N.length ≤ qc ∧ qc ≤ maxLen ∧ LiesOI w qo (fl N) ∧ (qo = none → qc = 0) := by
  obtain ⟨cs, rfl, hsz⟩ := okWide_struct Try.underlying51 hv
  obtain ⟨ls⟩ := cs
  match ls, hsz.trans cellsT7 with
  | [c0, c1], _ =>
    obtain ⟨fuel, hf⟩ := h
    obtain ⟨xs, n, _, _, _, hlen, hg⟩ := DataW.trod_struct Try.underlying51 hf
    have hone := one_ofT7 (fs := _) Try.underlying51 (by kernel_rfl)
    match xs, hlen with
    | [y0, y1], _ =>
      obtain ⟨o0, k0⟩ := hone_of hone 0 _ rfl
      obtain ⟨o1, k1⟩ := hone_of hone 1 _ rfl
      obtain ⟨po, M, pc, e0, h1, h2, h3, h4⟩ := trod_spins (show DataW.trod enc Try.prog w base spare held n 26 [c0] = some y0 by simpa [Value.cells, o0, cellsV7] using hg 0 _ rfl)
      obtain ⟨qo, N, qc, e1, g1, g2, g3, g4⟩ := trod_spins (show DataW.trod enc Try.prog w base spare held n 26 [c1] = some y1 by simpa [Value.cells, o1, cellsV7] using hg 1 _ rfl)
      simp at e0 e1
      subst e0 e1
      exact ⟨po, M, pc, qo, N, qc, rfl, h1, h2, h3, h4, g1, g2, g3, g4⟩
end
end Go.Proofs.Ytmnlfojcofdaeaa
