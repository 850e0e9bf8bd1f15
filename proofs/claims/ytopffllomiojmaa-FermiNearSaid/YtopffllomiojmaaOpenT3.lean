/- How two vectors and a source are read off an argument.
Conditions: none. -/
import Derived.Test.YtopffllomiojmaaOpenS
namespace Go.Proofs.Ytopffllomiojmaa
set_option linter.unusedVariables false
set_option linter.unusedSimpArgs false
set_option maxRecDepth 1000000
open Go.ChangeShapes Go.WideShapes Go.ChangeAt Go.RowKit Go.Joins Go.Deep
open Fm
section
variable {H : Type} {enc : TypeId × Value → H} {w : World} {base : Nat} {spare : Nat → Bool} {held : Bool}
theorem cellsTh7 : Try.prog.cellsOf 62 = 3 := by kernel_rfl
theorem cellsVh7 : Try.prog.cellsOf 26 = 1 := by kernel_rfl
theorem one_ofTh7 {fs : Array Field} (_ : Try.prog.underlying 62 = some (.struct fs)) (h : oneCellFields Try.prog fs = true) : oneCellFields Try.prog fs = true := h
theorem open_three {r : Reach} {b0 : Nat} {v : Value} {d : DataW H} {p : List MemPlace} (hv : Value.okWide Try.prog w r b0 62 v) (h : DataW.Trod enc Try.prog w base spare held 62 v d p) : ∃ (po : Option Addr) (M : List Sp) (pc : Nat) (qo : Option Addr) (N : List Sp) (qc : Nat) (so : Option Addr) (B : List Sp) (sc : Nat), v = .agg #[.slice po M.length pc, .slice qo N.length qc, .slice so B.length sc] ∧ M.length ≤ pc ∧ pc ≤ maxLen ∧ LiesOI w po (fl M) ∧ (po = none → pc = 0) ∧ N.length ≤ qc ∧ qc ≤ maxLen ∧ LiesOI w qo (fl N) ∧ (qo = none → qc = 0) ∧ B.length ≤ sc ∧ sc ≤ maxLen ∧ LiesOI w so (fl B) ∧ (so = none → sc = 0) := by
  obtain ⟨cs, rfl, hsz⟩ := okWide_struct Try.underlying62 hv
  obtain ⟨ls⟩ := cs
  match ls, hsz.trans cellsTh7 with
  | [c0, c1, c2], _ =>
    obtain ⟨fuel, hf⟩ := h
    obtain ⟨xs, n, _, _, _, hlen, hg⟩ := DataW.trod_struct Try.underlying62 hf
    have hone := one_ofTh7 (fs := _) Try.underlying62 (by kernel_rfl)
    match xs, hlen with
    | [y0, y1, y2], _ =>
      obtain ⟨o0, k0⟩ := hone_of hone 0 _ rfl
      obtain ⟨o1, k1⟩ := hone_of hone 1 _ rfl
      obtain ⟨o2, k2⟩ := hone_of hone 2 _ rfl
      obtain ⟨po, M, pc, e0, h1, h2, h3, h4⟩ := trod_spins (show DataW.trod enc Try.prog w base spare held n 26 [c0] = some y0 by simpa [Value.cells, o0, cellsVh7] using hg 0 _ rfl)
      obtain ⟨qo, N, qc, e1, g1, g2, g3, g4⟩ := trod_spins (show DataW.trod enc Try.prog w base spare held n 26 [c1] = some y1 by simpa [Value.cells, o1, cellsVh7] using hg 1 _ rfl)
      obtain ⟨so, B, sc, e2, b1, b2, b3, b4⟩ := trod_spins (show DataW.trod enc Try.prog w base spare held n 26 [c2] = some y2 by simpa [Value.cells, o2, cellsVh7] using hg 2 _ rfl)
      simp at e0 e1 e2
      subst e0 e1 e2
      exact ⟨po, M, pc, qo, N, qc, so, B, sc, rfl, h1, h2, h3, h4, g1, g2, g3, g4, b1, b2, b3, b4⟩
end
end Go.Proofs.Ytopffllomiojmaa
