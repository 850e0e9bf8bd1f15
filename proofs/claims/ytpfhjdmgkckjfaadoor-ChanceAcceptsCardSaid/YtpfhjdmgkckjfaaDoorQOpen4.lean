/- The field that a call makes itself, and the cold one, as the program and the document's answers make it.
Conditions: those written at each theorem. -/
import Derived.Test.YtpfhjdmgkckjfaaDoorQLBox
import Derived.Test.YtpfhjdmgkckjfaaDoorQRegB
import Derived.Test.YtpfhjdmgkckjfaaDoorQInts
import Derived.Test.YtpfhjdmgkckjfaaDoorQPathA
import Derived.Test.YtpfhjdmgkckjfaaDoorQDist
import Derived.Test.YtpfhjdmgkckjfaaDoorQRows5
namespace Go.Proofs.YtpfhjdmgkckjfaaDoor
set_option linter.unusedVariables false
set_option linter.unusedSimpArgs false
set_option maxRecDepth 1000000
open Go.RowKit
open Um Tm

/-- a field in a box, to be read and written -/
structure FW (w : World) (b : Nat) (x y z : Int) (v : Value) : Prop where
  c0 : w.cell? ⟨b, 0, none⟩ = some (.int .i64 x)
  c1 : w.cell? ⟨b, 1, none⟩ = some (.int .i64 y)
  c2 : w.cell? ⟨b, 2, none⟩ = some (.int .i64 z)
  c3 : w.cell? ⟨b, 3, none⟩ = some v
  free : ∀ j, w.frozen? ⟨b, j, none⟩ = false
  lt : b < w.heap.size
theorem FW.later {w w1 : World} {b : Nat} {x y z : Int} {v : Value} (h : FW w b x y z v) (hb : Below w.heap.size w w1) : FW w1 b x y z v :=
  ⟨(hb.cell h.lt).trans h.c0, (hb.cell h.lt).trans h.c1, (hb.cell h.lt).trans h.c2, (hb.cell h.lt).trans h.c3, fun j => (hb.frozen (p := ⟨b, j, none⟩) h.lt).trans (h.free j), Nat.lt_of_lt_of_le h.lt hb.size⟩
theorem FW.grown {w w1 : World} {b : Nat} {x y z : Int} {v : Value} {row : Option Nat} (h : FW w b x y z v) (hg : w.grownBy w1 row) (hne : some b ≠ row) : FW w1 b x y z v :=
  ⟨hg.cell h.c0 hne, hg.cell h.c1 hne, hg.cell h.c2 hne, hg.cell h.c3 hne, fun j => (World.frozen?_of_block (a := ⟨b, j, none⟩) (hg.block b h.lt hne)).trans (h.free j), Nat.lt_of_lt_of_le h.lt hg.size⟩
theorem LBox.at {w : World} {g : Nat} {M : List Q} (k : LBox w g M) {i : Nat} {x : Q} (hx : M[i]? = some x) : w.cell? ⟨g, i * 5, none⟩ = some (.int .i64 x.a) ∧ w.cell? ⟨g, i * 5 + 1, none⟩ = some (.int .i64 x.b) ∧ w.cell? ⟨g, i * 5 + 2, none⟩ = some (.int .i64 x.c) ∧ w.cell? ⟨g, i * 5 + 3, none⟩ = some (.int .i64 x.d) ∧ w.cell? ⟨g, i * 5 + 4, none⟩ = some (.int .i64 x.n) := by
  have := k.h i x hx
  simpa only [Nat.zero_add] using this
theorem owned5_some {w : World} {base : Nat} {T : TypeId} {v : Value} {n : Nat} {xs : List Value} (h : w.ownsRow base T 5 v n xs) (hn : 0 < n) : ∃ g cap, v = .slice (some ⟨g, 0, none⟩) n cap ∧ base ≤ g := by
  rcases h.2 with ⟨rfl, h0⟩ | ⟨g, cap, cur, rfl, hg, _⟩
  · omega
  · exact ⟨g, cap, rfl, hg⟩
/-- a list that is being filled -/
def fillTo (T : List Q) (k : Nat) : List Q := T.take k ++ List.replicate (T.length - k) zero
/-- What a call returns that makes a field of these links. -/
def RetF (a b c : Int) (M : List Q) (e : Ending) (w' : World) : Prop := ∃ g k : Nat, e = .returned (.tuple #[.agg #[.int .i64 a, .int .i64 b, .int .i64 c, .slice (some ⟨g, 0, none⟩) M.length k], .int .i64 0]) ∧ Lies w' g 0 M

end Go.Proofs.YtpfhjdmgkckjfaaDoor

namespace Go.Proofs.YtpfhjdmgkckjfaaDoor
set_option linter.unusedVariables false
set_option linter.unusedSimpArgs false
set_option maxRecDepth 1000000
open Go.ChangeShapes Go.WideShapes Go.ChangeAt Go.RowKit
open Um

section
open Go.ChangeShapes Go.WideShapes Go.ChangeAt Go.RowKit Go.Joins Go.Deep
variable {H : Type} {enc : TypeId × Value → H} {w : World} {base : Nat} {spare : Nat → Bool} {held : Bool}
theorem cellsF : Tryd.prog.cellsOf 25 = 4 := by kernel_rfl
theorem cellsA3 : Tryd.prog.cellsOf 22 = 3 := by kernel_rfl
theorem cellsUs : Tryd.prog.cellsOf 23 = 1 := by kernel_rfl
theorem open_field {r : Reach} {b0 : Nat} {v : Value} {d : DataW H} {p : List MemPlace} (hv : Value.okWide Tryd.prog w r b0 25 v) (h : DataW.Trod enc Tryd.prog w base spare held 25 v d p) : ∃ (x y z : Int) (ao : Option Addr) (L : List Q) (cap : Nat), v = .agg #[.int .i64 x, .int .i64 y, .int .i64 z, .slice ao L.length cap] ∧ L.length ≤ maxLen ∧ LiesO w ao L := by
  obtain ⟨cs, rfl, hsz⟩ := okWide_struct Tryd.underlying25 hv
  obtain ⟨ls⟩ := cs
  match ls, hsz.trans cellsF with
  | [c0, c1, c2, c3], _ =>
    obtain ⟨fuel, hf⟩ := h
    obtain ⟨xs, n, _, _, _, hlen, hg⟩ := DataW.trod_struct Tryd.underlying25 hf
    match xs, hlen with
    | [y0, y1], _ =>
      have g0' : DataW.trod enc Tryd.prog w base spare held n 22 [c0, c1, c2] = some y0 := by simpa [Value.cells, cellsA3] using hg 0 _ rfl
      have g1' : DataW.trod enc Tryd.prog w base spare held n 23 [c3] = some y1 := by simpa [Value.cells, cellsUs] using hg 1 _ rfl
      obtain ⟨ao, L, cap, e3, hl, hm⟩ := trod_units g1'
      obtain ⟨zs, n', _, _, _, hlen', hg'⟩ := DataW.trod_array Tryd.underlying22 g0'
      match zs, hlen' with
      | [z0, z1, z2], _ =>
        obtain ⟨a, e0, _, _⟩ := DataW.trod_int Tryd.underlying3 (show DataW.trod enc Tryd.prog w base spare held n' 3 [c0] = some z0 by simpa [Value.cells, cells3] using hg' 0 (by omega))
        obtain ⟨b, e1, _, _⟩ := DataW.trod_int Tryd.underlying3 (show DataW.trod enc Tryd.prog w base spare held n' 3 [c1] = some z1 by simpa [Value.cells, cells3] using hg' 1 (by omega))
        obtain ⟨c, e2, _, _⟩ := DataW.trod_int Tryd.underlying3 (show DataW.trod enc Tryd.prog w base spare held n' 3 [c2] = some z2 by simpa [Value.cells, cells3] using hg' 2 (by omega))
        simp at e0 e1 e2 e3
        subst e0 e1 e2 e3
        exact ⟨a, b, c, ao, L, cap, rfl, hl, hm⟩
end
section
open Go.ChangeShapes Go.WideShapes Go.ChangeAt Go.RowKit Go.Joins Go.Deep
variable {H : Type} {enc : TypeId × Value → H} {w : World} {base : Nat} {spare : Nat → Bool} {held : Bool}
end

end Go.Proofs.YtpfhjdmgkckjfaaDoor
