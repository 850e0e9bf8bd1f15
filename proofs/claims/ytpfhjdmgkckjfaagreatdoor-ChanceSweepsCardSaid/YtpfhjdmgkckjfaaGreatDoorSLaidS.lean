/- What the laws of chapter 2 share: fields and paths as arguments, lists that are read within a drawn region, long fields.
Conditions: those written at each theorem. -/
import Derived.Test.YtpfhjdmgkckjfaaGreatDoorSThrM
import Derived.Test.YtpfhjdmgkckjfaaGreatDoorSRows5
import Derived.Test.YtpfhjdmgkckjfaaGreatDoorTie
import Derived.Test.YtpfhjdmgkckjfaaGreatDoorCards
import Derived.Test.YtpfhjdmgkckjfaaGreatDoorSDist
import Derived.Test.YtpfhjdmgkckjfaaGreatDoorSSidC
import Derived.ProofKit
import Derived.LaidMore
import Derived.SevenTiedAt
namespace Go.Proofs.YtpfhjdmgkckjfaaGreatDoor
set_option linter.unusedVariables false
set_option linter.unusedSimpArgs false
set_option maxRecDepth 1000000
open Go.ChangeShapes Go.WideShapes Go.ChangeAt Go.RowKit
open Um

section
open Go.ChangeShapes Go.WideShapes Go.ChangeAt Go.RowKit Go.Joins Go.Deep
variable {H : Type} {enc : TypeId × Value → H} {w : World} {base : Nat} {spare : Nat → Bool} {held : Bool}
theorem cellsF : Tryz.prog.cellsOf 25 = 4 := by kernel_rfl
theorem cellsA3 : Tryz.prog.cellsOf 22 = 3 := by kernel_rfl
theorem cellsUs : Tryz.prog.cellsOf 23 = 1 := by kernel_rfl
theorem open_fieldN {r : Reach} {b0 : Nat} {v : Value} {d : DataW H} {p : List MemPlace} (hv : Value.okWide Tryz.prog w r b0 25 v) (h : DataW.Trod enc Tryz.prog w base spare held 25 v d p) : ∃ (x y z : Int) (ao : Option Addr) (L : List Q) (cap : Nat), v = .agg #[.int .i64 x, .int .i64 y, .int .i64 z, .slice ao L.length cap] ∧ L.length ≤ maxLen ∧ LiesO w ao L ∧ (ao = none → cap = 0) := by
  obtain ⟨cs, rfl, hsz⟩ := okWide_struct Tryz.underlying25 hv
  obtain ⟨ls⟩ := cs
  match ls, hsz.trans cellsF with
  | [c0, c1, c2, c3], _ =>
    obtain ⟨fuel, hf⟩ := h
    obtain ⟨xs, n, _, _, _, hlen, hg⟩ := DataW.trod_struct Tryz.underlying25 hf
    match xs, hlen with
    | [y0, y1], _ =>
      have g0' : DataW.trod enc Tryz.prog w base spare held n 22 [c0, c1, c2] = some y0 := by simpa [Value.cells, cellsA3] using hg 0 _ rfl
      have g1' : DataW.trod enc Tryz.prog w base spare held n 23 [c3] = some y1 := by simpa [Value.cells, cellsUs] using hg 1 _ rfl
      obtain ⟨ao, L, cap, e3, hl, hm⟩ := trod_units g1'
      have hnil : ao = none → cap = 0 := fun h0 => by
        subst h0
        rcases open_slice_fields Tryz.underlying23 Tryz.underlying73 (one_of (fs := _) Tryz.underlying73 (by kernel_rfl)) cells23 g1' with h | ⟨a, len, cap', h, _⟩
        · rw [h] at e3; simp at e3; exact e3.2.symm
        · rw [h] at e3; simp at e3
      obtain ⟨zs, n', _, _, _, hlen', hg'⟩ := DataW.trod_array Tryz.underlying22 g0'
      match zs, hlen' with
      | [z0, z1, z2], _ =>
        obtain ⟨a, e0, _, _⟩ := DataW.trod_int Tryz.underlying3 (show DataW.trod enc Tryz.prog w base spare held n' 3 [c0] = some z0 by simpa [Value.cells, cells3] using hg' 0 (by omega))
        obtain ⟨b, e1, _, _⟩ := DataW.trod_int Tryz.underlying3 (show DataW.trod enc Tryz.prog w base spare held n' 3 [c1] = some z1 by simpa [Value.cells, cells3] using hg' 1 (by omega))
        obtain ⟨c, e2, _, _⟩ := DataW.trod_int Tryz.underlying3 (show DataW.trod enc Tryz.prog w base spare held n' 3 [c2] = some z2 by simpa [Value.cells, cells3] using hg' 2 (by omega))
        simp at e0 e1 e2 e3
        subst e0 e1 e2 e3
        exact ⟨a, b, c, ao, L, cap, rfl, hl, hm, hnil⟩
end
section
open Go.ChangeShapes Go.WideShapes Go.ChangeAt Go.RowKit Go.Joins Go.Deep
variable {H : Type} {enc : TypeId × Value → H} {w : World} {base : Nat} {spare : Nat → Bool} {held : Bool}
end

end Go.Proofs.YtpfhjdmgkckjfaaGreatDoor

namespace Go.Proofs.YtpfhjdmgkckjfaaGreatDoor
set_option linter.unusedVariables false
set_option linter.unusedSimpArgs false
set_option maxRecDepth 1000000
open Go.ChangeShapes Go.WideShapes Go.ChangeAt Go.WideMaps Go.WideElems Go.RowKit Go.Joins Go.Deep

theorem gSteps : Tryz.prog.globalNamed "plaquette/chance.steps" = some 0 := by kernel_rfl
theorem tSteps : (Tryz.prog.globals[0]?).map (·.type) = some 174 := by kernel_rfl
theorem cI1 : Tryz.prog.cellsOf 3 = 1 := by kernel_rfl
theorem c322 : Tryz.prog.cellsOf 174 = 6 := by kernel_rfl
theorem c22 : Tryz.prog.cellsOf 173 = 2 := by kernel_rfl
theorem two_of_trod {H : Type} {enc : TypeId × Value → H} {w : World} {base : Nat} {sp : Nat → Bool} {held : Bool} {fuel : Nat} {u v : Value} {a b : Int} {m : List MemPlace} (h : DataW.trod enc Tryz.prog w base sp held fuel 173 [u, v] = some (.agg [.lit (.int .i64 a), .lit (.int .i64 b)], m)) : u = .int .i64 a ∧ v = .int .i64 b := by
  obtain ⟨xs, m1, _, hx1, _, hn, hel⟩ := DataW.trod_array Tryz.underlying173 h
  simp only [Prod.mk.injEq, DataW.agg.injEq] at hx1
  match xs, hn, hx1, hel with
  | [x0, x1], _, hx1, hel =>
    have h0 := hel 0 (by decide)
    have h1 := hel 1 (by decide)
    obtain ⟨k0, e0, f0, _⟩ := DataW.trod_int Tryz.underlying3 (show DataW.trod enc Tryz.prog w base sp held m1 3 [u] = some x0 by simpa [cI1] using h0)
    obtain ⟨k1, e1, f1, _⟩ := DataW.trod_int Tryz.underlying3 (show DataW.trod enc Tryz.prog w base sp held m1 3 [v] = some x1 by simpa [cI1] using h1)
    simp only [List.map_cons, List.map_nil, List.cons.injEq] at hx1
    rw [f0] at hx1
    rw [f1] at hx1
    simp at hx1 e0 e1
    obtain ⟨⟨rfl, rfl⟩, _⟩ := hx1
    exact ⟨e0, e1⟩
theorem sta_of_laid {W : World} (h : laidMetH Tryz.prog [("plaquette/chance.steps", Rows.laid_plaquette_chance_steps)] W) : StA W := by
  rw [MakeChecks.laidMetH_plain _ _ _ (by kernel_rfl)] at h
  obtain ⟨ps, ⟨g0, t0, cs0, f0, p0, q0, hg0, ht0, hv0, hd0, _, _⟩, _⟩ := h
  obtain rfl := Option.some.inj (gSteps.symm.trans hg0)
  obtain rfl := Option.some.inj (tSteps.symm.trans ht0)
  obtain ⟨xs, m1, hc, hx1, hsz, hn, hel⟩ := DataW.trod_array Tryz.underlying174 hd0
  simp only [Prod.mk.injEq, DataW.agg.injEq, Rows.laid_plaquette_chance_steps] at hx1
  have hlen : cs0.toList.length = 6 := by
    have := hsz
    simp [c322] at this
    simpa using this
  obtain ⟨cl⟩ := cs0
  match cl, hlen, xs, hn, hx1, hel with
  | [u0, u1, u2, u3, u4, u5], _, [x0, x1, x2], _, hx1, hel =>
    have h0 := hel 0 (by decide)
    have h1 := hel 1 (by decide)
    have h2 := hel 2 (by decide)
    simp only [List.map_cons, List.map_nil, List.cons.injEq] at hx1
    obtain ⟨⟨e0, e1, e2, _⟩, _⟩ := hx1
    simp [c22] at h0 h1 h2
    obtain ⟨d0, m0⟩ := x0
    obtain ⟨d1, m2⟩ := x1
    obtain ⟨d2, m3⟩ := x2
    simp only at e0 e1 e2
    subst e0 e1 e2
    obtain ⟨rfl, rfl⟩ := two_of_trod h0
    obtain ⟨rfl, rfl⟩ := two_of_trod h1
    obtain ⟨rfl, rfl⟩ := two_of_trod h2
    exact ⟨World.var?_cell hg0 hv0 0, World.var?_cell hg0 hv0 1, World.var?_cell hg0 hv0 2, World.var?_cell hg0 hv0 3, World.var?_cell hg0 hv0 4, World.var?_cell hg0 hv0 5⟩
end Go.Proofs.YtpfhjdmgkckjfaaGreatDoor
