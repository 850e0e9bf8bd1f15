/- TorusValidates: which fields are valid, which are small, and the numbers of their links, is what the document says, for all fields.
Conditions: none. -/
import Derived.Test.YtilbhcjnkmeecaaGreatPkNumC
namespace Go.Proofs.YtilbhcjnkmeecaaGreat
set_option linter.unusedVariables false
set_option linter.unusedSimpArgs false
set_option maxRecDepth 1000000
open Go.ChangeShapes Go.WideShapes Go.ChangeAt Go.RowKit
open Um Tm

set_option maxHeartbeats 800000 in
theorem long_any (a b c : Int) (ao : Option Addr) (cap n : Nat) (r : Bool) (w : World) (h : (n ≤ 100 ∧ r = false) ∨ (100 < n ∧ r = true)) : Calls Tryz.prog 22 #[.agg #[.int .i64 a, .int .i64 b, .int .i64 c, .slice ao n cap]] w fun e w' => e = .returned (.bool r) ∧ Below w.heap.size w w' := by
  rcases h with ⟨h, rfl⟩ | ⟨h, rfl⟩
  · have h' : ¬ (100 : Int) < (n : Int) := by omega
    go_enter Tryz.func22, Tryz.ntmps22
    go_wp2
    go_ret
    exact ⟨rfl, by repeat (first | (with_reducible exact Below.refl _ _) | (with_reducible refine Below.setCell ?_ ?_ _) | (with_reducible refine Below.drew ?_) | (with_reducible refine Below.alloc ?_ ?_ _) | omega | (simp <;> omega))⟩
  · have h' : (100 : Int) < (n : Int) := by omega
    go_enter Tryz.func22, Tryz.ntmps22
    go_wp2
    go_ret
    exact ⟨rfl, by repeat (first | (with_reducible exact Below.refl _ _) | (with_reducible refine Below.setCell ?_ ?_ _) | (with_reducible refine Below.drew ?_) | (with_reducible refine Below.alloc ?_ ?_ _) | omega | (simp <;> omega))⟩

section
open Go.ChangeShapes Go.WideShapes Go.ChangeAt Go.RowKit Go.Joins Go.Deep
variable {H : Type} {enc : TypeId × Value → H} {w : World} {base : Nat} {spare : Nat → Bool} {held : Bool}
theorem cellsF : Tryz.prog.cellsOf 25 = 4 := by kernel_rfl
theorem cellsA3 : Tryz.prog.cellsOf 22 = 3 := by kernel_rfl
theorem cellsUs : Tryz.prog.cellsOf 23 = 1 := by kernel_rfl
theorem open_field {r : Reach} {b0 : Nat} {v : Value} {d : DataW H} {p : List MemPlace} (hv : Value.okWide Tryz.prog w r b0 25 v) (h : DataW.Trod enc Tryz.prog w base spare held 25 v d p) : ∃ (x y z : Int) (ao : Option Addr) (L : List Q) (cap : Nat), v = .agg #[.int .i64 x, .int .i64 y, .int .i64 z, .slice ao L.length cap] ∧ L.length ≤ maxLen ∧ LiesO w ao L := by
  obtain ⟨cs, rfl, hsz⟩ := okWide_struct Tryz.underlying25 hv
  obtain ⟨ls⟩ := cs
  match ls, hsz.trans cellsF with
  | [c0, c1, c2, c3], _ =>
    obtain ⟨fuel, hf⟩ := h
    obtain ⟨xs, n, _, _, _, hlen, hg⟩ := DataW.trod_struct Tryz.underlying25 hf
    match xs, hlen with
    | [y0, y1], _ =>
      have g0' : DataW.trod enc Tryz.prog w base spare held n 22 [c0, c1, c2] = some y0 := by simpa [Value.cells, cellsA3] using hg 0 _ rfl
      have g1' : DataW.trod enc Tryz.prog w base spare held n 23 [c3] = some y1 := by simpa [Value.cells, cellsUs] using hg 1 _ rfl
      obtain ⟨ao, L, cap, e3, hl, hm⟩ := trod_units g1'
      obtain ⟨zs, n', _, _, _, hlen', hg'⟩ := DataW.trod_array Tryz.underlying22 g0'
      match zs, hlen' with
      | [z0, z1, z2], _ =>
        obtain ⟨a, e0, _, _⟩ := DataW.trod_int Tryz.underlying3 (show DataW.trod enc Tryz.prog w base spare held n' 3 [c0] = some z0 by simpa [Value.cells, cells3] using hg' 0 (by omega))
        obtain ⟨b, e1, _, _⟩ := DataW.trod_int Tryz.underlying3 (show DataW.trod enc Tryz.prog w base spare held n' 3 [c1] = some z1 by simpa [Value.cells, cells3] using hg' 1 (by omega))
        obtain ⟨c, e2, _, _⟩ := DataW.trod_int Tryz.underlying3 (show DataW.trod enc Tryz.prog w base spare held n' 3 [c2] = some z2 by simpa [Value.cells, cells3] using hg' 2 (by omega))
        simp at e0 e1 e2 e3
        subst e0 e1 e2 e3
        exact ⟨a, b, c, ao, L, cap, rfl, hl, hm⟩
end

end Go.Proofs.YtilbhcjnkmeecaaGreat
