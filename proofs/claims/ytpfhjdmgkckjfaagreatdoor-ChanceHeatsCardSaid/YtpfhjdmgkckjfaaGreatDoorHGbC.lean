/- Which lists of units are gauge transformations of a field, as the program and the document's answers find it.
Conditions: the lists lie in memory as it is written at each theorem. -/
import Derived.Test.YtpfhjdmgkckjfaaGreatDoorHFieldC
import Derived.Test.YtpfhjdmgkckjfaaGreatDoorHWlkA
import Derived.Test.YtpfhjdmgkckjfaaGreatDoorHQuatB
import Derived.Test.YtpfhjdmgkckjfaaGreatDoorHCold
import Derived.Test.YtpfhjdmgkckjfaaGreatDoorHOpenW5
import Derived.Test.YtpfhjdmgkckjfaaGreatDoorHSameU4
import Derived.Test.YtpfhjdmgkckjfaaGreatDoorTie
import Derived.Test.YtpfhjdmgkckjfaaGreatDoorCards
import Derived.Test.YtpfhjdmgkckjfaaGreatDoorHEqU
import Derived.Test.YtpfhjdmgkckjfaaGreatDoorHSidC
import Derived.ProofKit
import Derived.LaidMore
import Derived.SevenTiedAt
namespace Go.Proofs.YtpfhjdmgkckjfaaGreatDoor
set_option linter.unusedVariables false
set_option linter.unusedSimpArgs false
set_option maxRecDepth 1000000
open Go.RowKit
open Um Tm

/-- the error of a field and a list of units, one at each site -/
def gaR (a b c : Int) (L G : List Q) (r : Int) : Prop := (fldR a b c L r ∧ r ≠ 0) ∨ (fldR a b c L 0 ∧ 3 * G.length ≠ L.length ∧ r = 1) ∨ (fldR a b c L 0 ∧ 3 * G.length = L.length ∧ LinksR G r)
end Go.Proofs.YtpfhjdmgkckjfaaGreatDoor

namespace Go.Proofs.YtpfhjdmgkckjfaaGreatDoor
set_option linter.unusedVariables false
set_option linter.unusedSimpArgs false
set_option maxRecDepth 1000000
open Go.RowKit
open Um Tm

set_option maxHeartbeats 400000 in
theorem refBar_any (x : Q) (w : World) (h : V x) (h5 : x.n ≤ 5) : Calls Tryz.prog 71 #[.agg #[.int .i64 x.a, .int .i64 x.b, .int .i64 x.c, .int .i64 x.d, .int .i64 x.n]] w fun e w' => e = .returned (.agg #[.int .i64 (bar x).a, .int .i64 (bar x).b, .int .i64 (bar x).c, .int .i64 (bar x).d, .int .i64 (bar x).n]) ∧ Below w.heap.size w w' := by
  have i := V.in h
  have e1 : IntKind.i64.wrap (-x.b) = -x.b := IntWalk.i64_in _ (by have := i.b; omega)
  have e2 : IntKind.i64.wrap (-x.c) = -x.c := IntWalk.i64_in _ (by have := i.c; omega)
  have e3 : IntKind.i64.wrap (-x.d) = -x.d := IntWalk.i64_in _ (by have := i.d; omega)
  obtain ⟨ib1, ib2⟩ := i.b
  obtain ⟨ic1, ic2⟩ := i.c
  obtain ⟨id1, id2⟩ := i.d
  clear h i
  go_enter Tryz.func71, Tryz.ntmps71
  go_wp2
  refine bodyPost_ret (v := .agg #[.int .i64 (bar x).a, .int .i64 (bar x).b, .int .i64 (bar x).c, .int .i64 (bar x).d, .int .i64 (bar x).n]) ?_ rfl ⟨rfl, ?_⟩
  · simp [results, Tryz.results71, go_sem, bar, e1, e2, e3]
  · repeat (first | (with_reducible exact Below.refl _ _) | (with_reducible refine Below.setCell ?_ ?_ _) | (with_reducible refine Below.drew ?_) | (with_reducible refine Below.alloc ?_ ?_ _) | omega | (simp <;> omega))
end Go.Proofs.YtpfhjdmgkckjfaaGreatDoor

namespace Go.Proofs.YtpfhjdmgkckjfaaGreatDoor
set_option linter.unusedVariables false
set_option linter.unusedSimpArgs false
set_option maxRecDepth 1000000
open Go.RowKit
open Um Tm Cm

def RetU3 (m : Nat) (L : List Q) (t : Int) (e : Ending) (w' : World) : Prop := ∃ g k : Nat, e = .returned (.tuple #[.slice (some ⟨g, 0, none⟩) L.length k, .int .i64 t, .int .i64 0]) ∧ Lies w' g 0 L ∧ m ≤ g
def RetF3 (a b c : Int) (L : List Q) (t : Int) (e : Ending) (w' : World) : Prop := ∃ g k : Nat, e = .returned (.tuple #[.agg #[.int .i64 a, .int .i64 b, .int .i64 c, .slice (some ⟨g, 0, none⟩) L.length k], .int .i64 t, .int .i64 0]) ∧ Lies w' g 0 L
/-- sizes and a seed: the error -/
def ssR (a b c s r : Int) : Prop := (¬ Sz a b c ∧ r = 1) ∨ (Sz a b c ∧ ¬ IsSeed s ∧ r = 1)
end Go.Proofs.YtpfhjdmgkckjfaaGreatDoor

namespace Go.Proofs.YtpfhjdmgkckjfaaGreatDoor
set_option linter.unusedVariables false
set_option linter.unusedSimpArgs false
set_option maxRecDepth 1000000
open Go.ChangeShapes Go.WideShapes Go.ChangeAt Go.WideMaps Go.WideElems Go.RowKit Go.Joins Go.Deep

theorem gSteps : Tryz.prog.globalNamed "plaquette/chance.steps" = some 0 := by kernel_rfl
theorem tSteps : (Tryz.prog.globals[0]?).map (·.type) = some 174 := by kernel_rfl
theorem cI1 : Tryz.prog.cellsOf 3 = 1 := by kernel_rfl
theorem c322 : Tryz.prog.cellsOf 174 = 6 := by kernel_rfl
theorem c22 : Tryz.prog.cellsOf 173 = 2 := by kernel_rfl
theorem two_of_trod {H : Type} {enc : TypeId × Value → H} {w : World} {base : Nat} {sp : Nat → Bool} {held : Bool} {fuel : Nat} {u v : Value} {a b : Int} {m : List MemPlace} (h : DataW.trod enc Tryz.prog w base sp held fuel 173 [u, v] = some (.agg [.lit (.int .i64 a), .lit (.int .i64 b)], m)) : u = .int .i64 a ∧ v = .int .i64 b := by
  obtain ⟨xs, m1, _, hx1, _, hn, hel⟩ := DataW.trod_array Tryz.underlying173 h
  simp only [Prod.mk.injEq, DataW.agg.injEq] at hx1
  match xs, hn, hx1, hel with
  | [x0, x1], _, hx1, hel =>
    have h0 := hel 0 (by decide)
    have h1 := hel 1 (by decide)
    obtain ⟨k0, e0, f0, _⟩ := DataW.trod_int Tryz.underlying3 (show DataW.trod enc Tryz.prog w base sp held m1 3 [u] = some x0 by simpa [cI1] using h0)
    obtain ⟨k1, e1, f1, _⟩ := DataW.trod_int Tryz.underlying3 (show DataW.trod enc Tryz.prog w base sp held m1 3 [v] = some x1 by simpa [cI1] using h1)
    simp only [List.map_cons, List.map_nil, List.cons.injEq] at hx1
    rw [f0] at hx1
    rw [f1] at hx1
    simp at hx1 e0 e1
    obtain ⟨⟨rfl, rfl⟩, _⟩ := hx1
    exact ⟨e0, e1⟩
theorem sta_of_laid {W : World} (h : laidMetH Tryz.prog [("plaquette/chance.steps", Rows.laid_plaquette_chance_steps)] W) : StA W := by
  rw [MakeChecks.laidMetH_plain _ _ _ (by kernel_rfl)] at h
  obtain ⟨ps, ⟨g0, t0, cs0, f0, p0, q0, hg0, ht0, hv0, hd0, _, _⟩, _⟩ := h
  obtain rfl := Option.some.inj (gSteps.symm.trans hg0)
  obtain rfl := Option.some.inj (tSteps.symm.trans ht0)
  obtain ⟨xs, m1, hc, hx1, hsz, hn, hel⟩ := DataW.trod_array Tryz.underlying174 hd0
  simp only [Prod.mk.injEq, DataW.agg.injEq, Rows.laid_plaquette_chance_steps] at hx1
  have hlen : cs0.toList.length = 6 := by
    have := hsz
    simp [c322] at this
    simpa using this
  obtain ⟨cl⟩ := cs0
  match cl, hlen, xs, hn, hx1, hel with
  | [u0, u1, u2, u3, u4, u5], _, [x0, x1, x2], _, hx1, hel =>
    have h0 := hel 0 (by decide)
    have h1 := hel 1 (by decide)
    have h2 := hel 2 (by decide)
    simp only [List.map_cons, List.map_nil, List.cons.injEq] at hx1
    obtain ⟨⟨e0, e1, e2, _⟩, _⟩ := hx1
    simp [c22] at h0 h1 h2
    obtain ⟨d0, m0⟩ := x0
    obtain ⟨d1, m2⟩ := x1
    obtain ⟨d2, m3⟩ := x2
    simp only at e0 e1 e2
    subst e0 e1 e2
    obtain ⟨rfl, rfl⟩ := two_of_trod h0
    obtain ⟨rfl, rfl⟩ := two_of_trod h1
    obtain ⟨rfl, rfl⟩ := two_of_trod h2
    exact ⟨World.var?_cell hg0 hv0 0, World.var?_cell hg0 hv0 1, World.var?_cell hg0 hv0 2, World.var?_cell hg0 hv0 3, World.var?_cell hg0 hv0 4, World.var?_cell hg0 hv0 5⟩
end Go.Proofs.YtpfhjdmgkckjfaaGreatDoor
