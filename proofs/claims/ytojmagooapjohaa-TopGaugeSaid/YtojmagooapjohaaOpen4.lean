/- What the laws of chapter 2 share: fields and paths as arguments, lists that are read within a drawn region, long fields.
Conditions: those written at each theorem. -/
import Derived.Test.YtojmagooapjohaaInts
import Derived.Test.YtojmagooapjohaaKnown2
import Derived.Test.YtojmagooapjohaaRows5
namespace Go.Proofs.Ytojmagooapjohaa
set_option linter.unusedVariables false
set_option linter.unusedSimpArgs false
set_option maxRecDepth 1000000
open Go.ChangeShapes Go.WideShapes Go.ChangeAt Go.RowKit
open Um

theorem liesO_re {W : World} {ao : Option Addr} {L : List Q} (h : LiesO W ao L) (d : Nat) (os : Array Obj) : LiesO (Sort.grow (redrawn W d) os) ao L := by
  rcases h with h | ⟨b, off, h, hl⟩
  · exact .inl h
  · refine .inr ⟨b, off, h, fun i x hx => ?_⟩
    have f := hl i x hx
    have g : ∀ a : Addr, ∀ v : Value, W.cell? a = some v → (Sort.grow (redrawn W d) os).cell? a = some v := fun a v hv => by rw [Tail.cell_re W d os a (World.block_lt_of_cell? W a hv)]; exact hv
    exact ⟨g _ _ f.1, g _ _ f.2.1, g _ _ f.2.2.1, g _ _ f.2.2.2.1, g _ _ f.2.2.2.2⟩
theorem liesOI_re {W : World} {ao : Option Addr} {l : List Int} (h : LiesOI W ao l) (d : Nat) (os : Array Obj) : LiesOI (Sort.grow (redrawn W d) os) ao l := by
  rcases h with h | ⟨b, off, h, hl⟩
  · exact .inl h
  · refine .inr ⟨b, off, h, fun i x hx => ?_⟩
    have f := hl i x hx
    rw [Tail.cell_re W d os _ (World.block_lt_of_cell? W _ f)]
    exact f
section
open Go.ChangeShapes Go.WideShapes Go.ChangeAt Go.RowKit Go.Joins Go.Deep
variable {H : Type} {enc : TypeId × Value → H} {w : World} {base : Nat} {spare : Nat → Bool} {held : Bool}
theorem cellsF : Try.prog.cellsOf 25 = 4 := by kernel_rfl
theorem cellsA3 : Try.prog.cellsOf 22 = 3 := by kernel_rfl
theorem cellsUs : Try.prog.cellsOf 23 = 1 := by kernel_rfl
theorem open_field {r : Reach} {b0 : Nat} {v : Value} {d : DataW H} {p : List MemPlace} (hv : Value.okWide Try.prog w r b0 25 v) (h : DataW.Trod enc Try.prog w base spare held 25 v d p) : ∃ (x y z : Int) (ao : Option Addr) (L : List Q) (cap : Nat), v = .agg #[.int .i64 x, .int .i64 y, .int .i64 z, .slice ao L.length cap] ∧ L.length ≤ maxLen ∧ LiesO w ao L := by
  obtain ⟨cs, rfl, hsz⟩ := okWide_struct Try.underlying25 hv
  obtain ⟨ls⟩ := cs
  match ls, hsz.trans cellsF with
  | [c0, c1, c2, c3], _ =>
    obtain ⟨fuel, hf⟩ := h
    obtain ⟨xs, n, _, _, _, hlen, hg⟩ := DataW.trod_struct Try.underlying25 hf
    match xs, hlen with
    | [y0, y1], _ =>
      have g0' : DataW.trod enc Try.prog w base spare held n 22 [c0, c1, c2] = some y0 := by simpa [Value.cells, cellsA3] using hg 0 _ rfl
      have g1' : DataW.trod enc Try.prog w base spare held n 23 [c3] = some y1 := by simpa [Value.cells, cellsUs] using hg 1 _ rfl
      obtain ⟨ao, L, cap, e3, hl, hm⟩ := trod_units g1'
      obtain ⟨zs, n', _, _, _, hlen', hg'⟩ := DataW.trod_array Try.underlying22 g0'
      match zs, hlen' with
      | [z0, z1, z2], _ =>
        obtain ⟨a, e0, _, _⟩ := DataW.trod_int Try.underlying3 (show DataW.trod enc Try.prog w base spare held n' 3 [c0] = some z0 by simpa [Value.cells, cells3] using hg' 0 (by omega))
        obtain ⟨b, e1, _, _⟩ := DataW.trod_int Try.underlying3 (show DataW.trod enc Try.prog w base spare held n' 3 [c1] = some z1 by simpa [Value.cells, cells3] using hg' 1 (by omega))
        obtain ⟨c, e2, _, _⟩ := DataW.trod_int Try.underlying3 (show DataW.trod enc Try.prog w base spare held n' 3 [c2] = some z2 by simpa [Value.cells, cells3] using hg' 2 (by omega))
        simp at e0 e1 e2 e3
        subst e0 e1 e2 e3
        exact ⟨a, b, c, ao, L, cap, rfl, hl, hm⟩
theorem open_fieldN {r : Reach} {b0 : Nat} {v : Value} {d : DataW H} {p : List MemPlace} (hv : Value.okWide Try.prog w r b0 25 v) (h : DataW.Trod enc Try.prog w base spare held 25 v d p) : ∃ (x y z : Int) (ao : Option Addr) (L : List Q) (cap : Nat), v = .agg #[.int .i64 x, .int .i64 y, .int .i64 z, .slice ao L.length cap] ∧ L.length ≤ maxLen ∧ LiesO w ao L ∧ (ao = none → cap = 0) := by
  obtain ⟨cs, rfl, hsz⟩ := okWide_struct Try.underlying25 hv
  obtain ⟨ls⟩ := cs
  match ls, hsz.trans cellsF with
  | [c0, c1, c2, c3], _ =>
    obtain ⟨fuel, hf⟩ := h
    obtain ⟨xs, n, _, _, _, hlen, hg⟩ := DataW.trod_struct Try.underlying25 hf
    match xs, hlen with
    | [y0, y1], _ =>
      have g0' : DataW.trod enc Try.prog w base spare held n 22 [c0, c1, c2] = some y0 := by simpa [Value.cells, cellsA3] using hg 0 _ rfl
      have g1' : DataW.trod enc Try.prog w base spare held n 23 [c3] = some y1 := by simpa [Value.cells, cellsUs] using hg 1 _ rfl
      obtain ⟨ao, L, cap, e3, hl, hm⟩ := trod_units g1'
      have hnil : ao = none → cap = 0 := fun h0 => by
        subst h0
        rcases open_slice_fields Try.underlying23 Try.underlying36 (one_of (fs := _) Try.underlying36 (by kernel_rfl)) cells23 g1' with h | ⟨a, len, cap', h, _⟩
        · rw [h] at e3; simp at e3; exact e3.2.symm
        · rw [h] at e3; simp at e3
      obtain ⟨zs, n', _, _, _, hlen', hg'⟩ := DataW.trod_array Try.underlying22 g0'
      match zs, hlen' with
      | [z0, z1, z2], _ =>
        obtain ⟨a, e0, _, _⟩ := DataW.trod_int Try.underlying3 (show DataW.trod enc Try.prog w base spare held n' 3 [c0] = some z0 by simpa [Value.cells, cells3] using hg' 0 (by omega))
        obtain ⟨b, e1, _, _⟩ := DataW.trod_int Try.underlying3 (show DataW.trod enc Try.prog w base spare held n' 3 [c1] = some z1 by simpa [Value.cells, cells3] using hg' 1 (by omega))
        obtain ⟨c, e2, _, _⟩ := DataW.trod_int Try.underlying3 (show DataW.trod enc Try.prog w base spare held n' 3 [c2] = some z2 by simpa [Value.cells, cells3] using hg' 2 (by omega))
        simp at e0 e1 e2 e3
        subst e0 e1 e2 e3
        exact ⟨a, b, c, ao, L, cap, rfl, hl, hm, hnil⟩
end
section
open Go.ChangeShapes Go.WideShapes Go.ChangeAt Go.RowKit Go.Joins Go.Deep
variable {H : Type} {enc : TypeId × Value → H} {w : World} {base : Nat} {spare : Nat → Bool} {held : Bool}
theorem cellsSl : Try.prog.cellsOf 43 = 1 := by kernel_rfl
end

end Go.Proofs.Ytojmagooapjohaa
