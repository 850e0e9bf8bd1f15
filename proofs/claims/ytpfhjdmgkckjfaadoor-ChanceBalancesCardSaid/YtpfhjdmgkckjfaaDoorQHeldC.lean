/- The unit along a path, as the program makes it.
Conditions: those written at each theorem. -/
import Derived.Test.YtpfhjdmgkckjfaaDoorQSane5
import Derived.Test.YtpfhjdmgkckjfaaDoorQPathA
import Derived.Test.YtpfhjdmgkckjfaaDoorQRegB
import Derived.Test.YtpfhjdmgkckjfaaDoorQMid
import Derived.Test.YtpfhjdmgkckjfaaDoorQWlkA
import Derived.Deep.RegionHeld3
import Derived.Test.YtpfhjdmgkckjfaaDoorQOpen4
namespace Go.Proofs.YtpfhjdmgkckjfaaDoor
set_option linter.unusedVariables false
set_option linter.unusedSimpArgs false
set_option maxRecDepth 1000000
open Go.RowKit
open Um Tm

theorem Lies.atP {w : World} {b off p : Nat} {L : List Q} (h : Lies w b off L) {x : Q} (hx : L[p]? = some x) : w.cell? ⟨b, off + p * 5, none⟩ = some (.int .i64 x.a) ∧ w.cell? ⟨b, off + p * 5 + 1, none⟩ = some (.int .i64 x.b) ∧ w.cell? ⟨b, off + p * 5 + 2, none⟩ = some (.int .i64 x.c) ∧ w.cell? ⟨b, off + p * 5 + 3, none⟩ = some (.int .i64 x.d) ∧ w.cell? ⟨b, off + p * 5 + 4, none⟩ = some (.int .i64 x.n) := h p x hx

/-- the error of a field, a site and a path -/
def asR (a b c : Int) (L : List Q) (s : Int) (l : List Int) (r : Int) : Prop := (fldR a b c L r ∧ r ≠ 0) ∨ (fldR a b c L 0 ∧ wkR a b c s l r)
end Go.Proofs.YtpfhjdmgkckjfaaDoor

namespace Go.Proofs.YtpfhjdmgkckjfaaDoor
set_option linter.unusedVariables false
set_option linter.unusedSimpArgs false
set_option maxRecDepth 1000000
open Go.RowKit

theorem belDG {w w1 : World} (h : Below w.drew.heap.size w.drew w1) : Below w.heap.size w w1 := ⟨h.os, h.tape, h.output, h.size, h.block⟩
theorem held_belowG {W W1 : World} {b i : Nat} {v : Value} (h : Below W.heap.size W W1) (hc : W.cell? ⟨b, i, none⟩ = some v) : W1.cell? ⟨b, i, none⟩ = some v := (h.cell (World.block_lt_of_cell? W _ hc)).trans hc
theorem alloc_atG {w : World} {o : Obj} : (w.alloc o).heap[w.heap.size]? = some o := by
  show (w.heap.push o)[w.heap.size]? = some o
  simp
open Um
theorem one_boxI {w : World} {b : Nat} {x : Q} (h : LBox w b [x]) : (w.cell? ⟨b, 0, none⟩ = some (.int .i64 x.a) ∧ w.cell? ⟨b, 1, none⟩ = some (.int .i64 x.b) ∧ w.cell? ⟨b, 2, none⟩ = some (.int .i64 x.c) ∧ w.cell? ⟨b, 3, none⟩ = some (.int .i64 x.d) ∧ w.cell? ⟨b, 4, none⟩ = some (.int .i64 x.n)) ∧ (∀ j, w.frozen? ⟨b, j, none⟩ = false) ∧ b < w.heap.size := ⟨by simpa using h.h 0 x rfl, h.free, h.lt⟩
end Go.Proofs.YtpfhjdmgkckjfaaDoor

namespace Go.Proofs.YtpfhjdmgkckjfaaDoor
set_option linter.unusedVariables false
set_option linter.unusedSimpArgs false
set_option maxRecDepth 1000000
section
open Go.ChangeShapes Go.WideShapes Go.ChangeAt Go.RowKit Go.Joins Go.Deep
variable {H : Type} {enc : TypeId × Value → H} {w : World} {base : Nat} {spare : Nat → Bool} {held : Bool}
theorem cellsW5 : Tryd.prog.cellsOf 26 = 5 := by kernel_rfl
theorem open_w5 {r : Reach} {b0 : Nat} {v : Value} {d : DataW H} {p : List MemPlace} (hv : Value.okWide Tryd.prog w r b0 26 v) (h : DataW.Trod enc Tryd.prog w base spare held 26 v d p) : ∃ (x y z t s : Int), v = .agg #[.int .i64 x, .int .i64 y, .int .i64 z, .int .i64 t, .int .i64 s] := by
  have hagg : ∃ cs, v = .agg cs ∧ cs.size = Tryd.prog.cellsOf 26 := by
    simp only [Value.okWide, Tryd.underlying26] at hv
    obtain ⟨cs, h1, h2, _⟩ := hv
    exact ⟨cs, h1, h2⟩
  obtain ⟨cs, rfl, hsz⟩ := hagg
  obtain ⟨l⟩ := cs
  match l, hsz.trans cellsW5 with
  | [c0, c1, c2, c3, c4], _ =>
    obtain ⟨fuel, hf⟩ := h
    obtain ⟨xs, n, _, _, _, hlen, hg⟩ := DataW.trod_array Tryd.underlying26 hf
    match xs, hlen with
    | [y0, y1, y2, y3, y4], _ =>
      obtain ⟨a, e0, _, _⟩ := DataW.trod_int Tryd.underlying3 (show DataW.trod enc Tryd.prog w base spare held n 3 [c0] = some y0 by simpa [Value.cells, cells3] using hg 0 (by omega))
      obtain ⟨b, e1, _, _⟩ := DataW.trod_int Tryd.underlying3 (show DataW.trod enc Tryd.prog w base spare held n 3 [c1] = some y1 by simpa [Value.cells, cells3] using hg 1 (by omega))
      obtain ⟨c, e2, _, _⟩ := DataW.trod_int Tryd.underlying3 (show DataW.trod enc Tryd.prog w base spare held n 3 [c2] = some y2 by simpa [Value.cells, cells3] using hg 2 (by omega))
      obtain ⟨d, e3, _, _⟩ := DataW.trod_int Tryd.underlying3 (show DataW.trod enc Tryd.prog w base spare held n 3 [c3] = some y3 by simpa [Value.cells, cells3] using hg 3 (by omega))
      obtain ⟨f, e4, _, _⟩ := DataW.trod_int Tryd.underlying3 (show DataW.trod enc Tryd.prog w base spare held n 3 [c4] = some y4 by simpa [Value.cells, cells3] using hg 4 (by omega))
      simp at e0 e1 e2 e3 e4
      subst e0 e1 e2 e3 e4
      exact ⟨a, b, c, d, f, rfl⟩
end
end Go.Proofs.YtpfhjdmgkckjfaaDoor
