/- A link of a field, as the program and the document's answers read it.
Conditions: the list lies in memory as it is written at each theorem. -/
import Derived.Test.YtpfhjdmgkckjfaaGreatDoorPShelf
import Derived.Test.YtpfhjdmgkckjfaaGreatDoorPMathA
import Derived.Test.YtpfhjdmgkckjfaaGreatDoorPFieldC
import Derived.Test.YtpfhjdmgkckjfaaGreatDoorPWlkA
import Derived.Test.YtpfhjdmgkckjfaaGreatDoorPCloC
import Derived.Test.YtpfhjdmgkckjfaaGreatDoorPThrM
import Derived.Test.YtpfhjdmgkckjfaaGreatDoorPRows5
namespace Go.Proofs.YtpfhjdmgkckjfaaGreatDoor
set_option linter.unusedVariables false
set_option linter.unusedSimpArgs false
set_option maxRecDepth 1000000
open Go.RowKit
open Um Tm

/-- the error of a field, a site and a direction -/
def lnR (a b c : Int) (L : List Q) (s d r : Int) : Prop := (fldR a b c L r ∧ r ≠ 0) ∨ (fldR a b c L 0 ∧ ¬ (0 ≤ s ∧ s < a * b * c) ∧ r = 4) ∨ (fldR a b c L 0 ∧ 0 ≤ s ∧ s < a * b * c ∧ ¬ (0 ≤ d ∧ d ≤ 2) ∧ r = 1) ∨ (fldR a b c L 0 ∧ 0 ≤ s ∧ s < a * b * c ∧ 0 ≤ d ∧ d ≤ 2 ∧ r = 0)
end Go.Proofs.YtpfhjdmgkckjfaaGreatDoor

namespace Go.Proofs.YtpfhjdmgkckjfaaGreatDoor
set_option linter.unusedVariables false
set_option linter.unusedSimpArgs false
set_option maxRecDepth 1000000
open Go.RowKit
open Um Tm

/-- the error of a field and a list of units, one at each site -/
def gaR (a b c : Int) (L G : List Q) (r : Int) : Prop := (fldR a b c L r ∧ r ≠ 0) ∨ (fldR a b c L 0 ∧ 3 * G.length ≠ L.length ∧ r = 1) ∨ (fldR a b c L 0 ∧ 3 * G.length = L.length ∧ LinksR G r)
end Go.Proofs.YtpfhjdmgkckjfaaGreatDoor

namespace Go.Proofs.YtpfhjdmgkckjfaaGreatDoor
set_option linter.unusedVariables false
set_option linter.unusedSimpArgs false
set_option maxRecDepth 1000000
open Go.RowKit
open Cm

def stepR (s r e : Int) : Prop := (IsSeed s ∧ r = nxt s ∧ e = 0) ∨ (¬ IsSeed s ∧ r = 0 ∧ e = 1)
set_option maxHeartbeats 400000 in
theorem step_any (s r er : Int) (w : World) (h : stepR s r er) : Calls Tryz.prog 34 #[.int .i64 s] w fun e w' => e = .returned (.tuple #[.int .i64 r, .int .i64 er]) ∧ w = w' := by
  rcases h with ⟨h, rfl, rfl⟩ | ⟨h, rfl, rfl⟩
  · have c1 := fun W : World => checkSeed_any s 0 W (.inl ⟨h, rfl⟩)
    have c2 := fun W : World => chNext_any s W h
    clear h
    go_enter Tryz.func34, Tryz.ntmps34
    go_wp2_with (first | ((with_reducible refine (c1 _).mono ?_); rintro e w1 ⟨rfl, rfl⟩) | ((with_reducible refine (c2 _).mono ?_); rintro e w1 ⟨rfl, rfl⟩))
    go_ret2
    exact ⟨rfl, rfl⟩
  · have c1 := fun W : World => checkSeed_any s 1 W (.inr ⟨h, rfl⟩)
    clear h
    go_enter Tryz.func34, Tryz.ntmps34
    go_wp2_with ((with_reducible refine (c1 _).mono ?_); rintro e w1 ⟨rfl, rfl⟩)
    go_ret2
    exact ⟨rfl, rfl⟩
def drawR (s n d t e : Int) : Prop := (IsSeed s ∧ (1 ≤ n ∧ n ≤ 1099511627776) ∧ d = drw s n ∧ t = adv s ∧ e = 0) ∨ (IsSeed s ∧ ¬ (1 ≤ n ∧ n ≤ 1099511627776) ∧ d = 0 ∧ t = 0 ∧ e = 1) ∨ (¬ IsSeed s ∧ d = 0 ∧ t = 0 ∧ e = 1)
end Go.Proofs.YtpfhjdmgkckjfaaGreatDoor

namespace Go.Proofs.YtpfhjdmgkckjfaaGreatDoor
set_option linter.unusedVariables false
set_option linter.unusedSimpArgs false
set_option maxRecDepth 1000000
open Go.ChangeShapes Go.WideShapes Go.ChangeAt Go.RowKit
open Um

section
open Go.ChangeShapes Go.WideShapes Go.ChangeAt Go.RowKit Go.Joins Go.Deep
variable {H : Type} {enc : TypeId × Value → H} {w : World} {base : Nat} {spare : Nat → Bool} {held : Bool}
theorem cellsF : Tryz.prog.cellsOf 25 = 4 := by kernel_rfl
theorem cellsA3 : Tryz.prog.cellsOf 22 = 3 := by kernel_rfl
theorem cellsUs : Tryz.prog.cellsOf 23 = 1 := by kernel_rfl
theorem open_fieldN {r : Reach} {b0 : Nat} {v : Value} {d : DataW H} {p : List MemPlace} (hv : Value.okWide Tryz.prog w r b0 25 v) (h : DataW.Trod enc Tryz.prog w base spare held 25 v d p) : ∃ (x y z : Int) (ao : Option Addr) (L : List Q) (cap : Nat), v = .agg #[.int .i64 x, .int .i64 y, .int .i64 z, .slice ao L.length cap] ∧ L.length ≤ maxLen ∧ LiesO w ao L ∧ (ao = none → cap = 0) := by
  obtain ⟨cs, rfl, hsz⟩ := okWide_struct Tryz.underlying25 hv
  obtain ⟨ls⟩ := cs
  match ls, hsz.trans cellsF with
  | [c0, c1, c2, c3], _ =>
    obtain ⟨fuel, hf⟩ := h
    obtain ⟨xs, n, _, _, _, hlen, hg⟩ := DataW.trod_struct Tryz.underlying25 hf
    match xs, hlen with
    | [y0, y1], _ =>
      have g0' : DataW.trod enc Tryz.prog w base spare held n 22 [c0, c1, c2] = some y0 := by simpa [Value.cells, cellsA3] using hg 0 _ rfl
      have g1' : DataW.trod enc Tryz.prog w base spare held n 23 [c3] = some y1 := by simpa [Value.cells, cellsUs] using hg 1 _ rfl
      obtain ⟨ao, L, cap, e3, hl, hm⟩ := trod_units g1'
      have hnil : ao = none → cap = 0 := fun h0 => by
        subst h0
        rcases open_slice_fields Tryz.underlying23 Tryz.underlying73 (one_of (fs := _) Tryz.underlying73 (by kernel_rfl)) cells23 g1' with h | ⟨a, len, cap', h, _⟩
        · rw [h] at e3; simp at e3; exact e3.2.symm
        · rw [h] at e3; simp at e3
      obtain ⟨zs, n', _, _, _, hlen', hg'⟩ := DataW.trod_array Tryz.underlying22 g0'
      match zs, hlen' with
      | [z0, z1, z2], _ =>
        obtain ⟨a, e0, _, _⟩ := DataW.trod_int Tryz.underlying3 (show DataW.trod enc Tryz.prog w base spare held n' 3 [c0] = some z0 by simpa [Value.cells, cells3] using hg' 0 (by omega))
        obtain ⟨b, e1, _, _⟩ := DataW.trod_int Tryz.underlying3 (show DataW.trod enc Tryz.prog w base spare held n' 3 [c1] = some z1 by simpa [Value.cells, cells3] using hg' 1 (by omega))
        obtain ⟨c, e2, _, _⟩ := DataW.trod_int Tryz.underlying3 (show DataW.trod enc Tryz.prog w base spare held n' 3 [c2] = some z2 by simpa [Value.cells, cells3] using hg' 2 (by omega))
        simp at e0 e1 e2 e3
        subst e0 e1 e2 e3
        exact ⟨a, b, c, ao, L, cap, rfl, hl, hm, hnil⟩
end
section
open Go.ChangeShapes Go.WideShapes Go.ChangeAt Go.RowKit Go.Joins Go.Deep
variable {H : Type} {enc : TypeId × Value → H} {w : World} {base : Nat} {spare : Nat → Bool} {held : Bool}
end

end Go.Proofs.YtpfhjdmgkckjfaaGreatDoor
