/- A path of chapter 4 as an argument.
Conditions: those written at each theorem. -/
import Derived.Test.YtojmagooapjohaaOpen4
namespace Go.Proofs.Ytojmagooapjohaa
set_option linter.unusedVariables false
set_option linter.unusedSimpArgs false
set_option maxRecDepth 1000000
section
open Go.ChangeShapes Go.WideShapes Go.ChangeAt Go.RowKit Go.Joins Go.Deep
variable {H : Type} {enc : TypeId × Value → H} {w : World} {base : Nat} {spare : Nat → Bool} {held : Bool}
theorem cellsP4 : Try.prog.cellsOf 45 = 2 := by kernel_rfl
theorem cellsSl4 : Try.prog.cellsOf 43 = 1 := by kernel_rfl
theorem one_ofP4 {fs : Array Field} (_ : Try.prog.underlying 45 = some (.struct fs)) (h : oneCellFields Try.prog fs = true) : oneCellFields Try.prog fs = true := h
theorem open_path4 {r : Reach} {b0 : Nat} {v : Value} {d : DataW H} {p : List MemPlace} (hv : Value.okWide Try.prog w r b0 45 v) (h : DataW.Trod enc Try.prog w base spare held 45 v d p) : ∃ (s : Int) (ao : Option Addr) (l : List Int) (cap : Nat), v = .agg #[.int .i64 s, .slice ao l.length cap] ∧ l.length ≤ cap ∧ cap ≤ maxLen ∧ LiesOI w ao l := by
  obtain ⟨cs, rfl, hsz⟩ := okWide_struct Try.underlying45 hv
  obtain ⟨ls⟩ := cs
  match ls, hsz.trans cellsP4 with
  | [c0, c1], _ =>
    obtain ⟨fuel, hf⟩ := h
    obtain ⟨xs, n, _, _, _, hlen, hg⟩ := DataW.trod_struct Try.underlying45 hf
    have hone := one_ofP4 (fs := _) Try.underlying45 (by kernel_rfl)
    match xs, hlen with
    | [y0, y1], _ =>
      obtain ⟨o0, k0⟩ := hone_of hone 0 _ rfl
      obtain ⟨o1, k1⟩ := hone_of hone 1 _ rfl
      obtain ⟨s, e0, _, _⟩ := DataW.trod_int Try.underlying3 (show DataW.trod enc Try.prog w base spare held n 3 [c0] = some y0 by simpa [Value.cells, o0, cells3] using hg 0 _ rfl)
      obtain ⟨ao, l, cap, e1, hl, hc, hm⟩ := trod_ints (show DataW.trod enc Try.prog w base spare held n 43 [c1] = some y1 by simpa [Value.cells, o1, cellsSl4] using hg 1 _ rfl)
      simp at e0 e1
      subst e0 e1
      exact ⟨s, ao, l, cap, rfl, hl, hc, hm⟩
end

end Go.Proofs.Ytojmagooapjohaa
