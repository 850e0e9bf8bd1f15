/- The program's product that the statements ask of it, and how a unit is read off an argument.
Conditions: none. -/
import Derived.Test.YtpfhjdmgkckjfaaDoorQQuatB
import Derived.ProofKit
import Derived.Lib.SmallJoins
import Derived.Carry
import Derived.OpenShut
import Derived.Test.YtpfhjdmgkckjfaaDoorQCrM
namespace Go.Proofs.YtpfhjdmgkckjfaaDoor
set_option linter.unusedVariables false
set_option linter.unusedSimpArgs false
set_option maxRecDepth 1000000
open Go.RowKit
open Um

theorem own : ownKnob Tryd.prog.godebug = none := by kernel_rfl
theorem laidOut : laidOutB Tryd.prog = true := by kernel_rfl
theorem cells3 : Tryd.prog.cellsOf 3 = 1 := by kernel_rfl
theorem cells23 : Tryd.prog.cellsOf 44 = 5 := by kernel_rfl
section
open Go.ChangeShapes Go.WideShapes Go.ChangeAt Go.RowKit Go.Joins Go.Deep
open Go.ChangeShapes Go.Deep Go.Joins in
theorem one_of {fs : Array Field} (_ : Tryd.prog.underlying 44 = some (.struct fs)) (h : oneCellFields Tryd.prog fs = true) : oneCellFields Tryd.prog fs = true := h
variable {H : Type} {enc : TypeId × Value → H} {w : World} {base : Nat} {spare : Nat → Bool} {held : Bool}
end
end Go.Proofs.YtpfhjdmgkckjfaaDoor

namespace Go.Proofs.YtpfhjdmgkckjfaaDoor
set_option linter.unusedVariables false
set_option linter.unusedSimpArgs false
open Go.ChangeShapes Go.WideShapes Go.ChangeAt Go.RowKit
open Um

end Go.Proofs.YtpfhjdmgkckjfaaDoor

namespace Go.Proofs.YtpfhjdmgkckjfaaDoor
set_option linter.unusedVariables false
set_option linter.unusedSimpArgs false
set_option maxRecDepth 1000000
open Go.ChangeShapes Go.WideShapes Go.ChangeAt Go.RowKit
open Um
section
variable {H : Type} {enc : TypeId × Value → H} {w : World} {base : Nat} {spare : Nat → Bool} {held : Bool}
end
end Go.Proofs.YtpfhjdmgkckjfaaDoor

namespace Go.Proofs.YtpfhjdmgkckjfaaDoor
set_option linter.unusedVariables false
set_option linter.unusedSimpArgs false
open Go.RowKit
open Um

end Go.Proofs.YtpfhjdmgkckjfaaDoor

set_option autoImplicit false
namespace Cm
set_option linter.unusedVariables false
set_option linter.unusedSimpArgs false
open Tm Um
/-- the sum of the first weights -/
def psum (l : List Int) (k : Nat) : Int := (l.take k).sum
theorem psum_zero (l : List Int) : psum l 0 = 0 := by simp [psum]
theorem psum_succ {l : List Int} {k : Nat} {x : Int} (h : l[k]? = some x) : psum l (k + 1) = psum l k + x := by
  obtain ⟨hk, rfl⟩ := List.getElem?_eq_some_iff.1 h
  unfold psum
  rw [List.take_succ_eq_append_getElem hk, List.sum_append]
  simp
/-- a draw leads to a value -/
def Ch (l : List Int) (d : Int) (k : Nat) : Prop := k < l.length ∧ psum l k ≤ d ∧ d < psum l (k + 1)
theorem psum_mono {l : List Int} (hp : ∀ x ∈ l, 1 ≤ x) (i : Nat) : ∀ j, i ≤ j → j ≤ l.length → psum l i ≤ psum l j
  | 0, h, _ => by
    have : i = 0 := by omega
    subst this
    exact Int.le_refl _
  | j + 1, h, hj => by
    by_cases he : i = j + 1
    · subst he
      exact Int.le_refl _
    · have hx : l[j]? = some l[j] := List.getElem?_eq_getElem (by omega)
      rw [psum_succ hx]
      have := psum_mono hp i j (by omega) (by omega)
      have := hp _ (List.mem_of_getElem? hx)
      omega
theorem psum_le {l : List Int} {B : Int} (hp : ∀ x ∈ l, x ≤ B) : ∀ j : Nat, j ≤ l.length → psum l j ≤ j * B
  | 0, _ => by rw [psum_zero]; omega
  | j + 1, hj => by
    have hx : l[j]? = some l[j] := List.getElem?_eq_getElem (by omega)
    rw [psum_succ hx]
    have := psum_le hp j (by omega)
    have := hp _ (List.mem_of_getElem? hx)
    have e : ((j + 1 : Nat) : Int) * B = j * B + B := by rw [Int.natCast_add, Int.add_mul]; simp
    omega
theorem psum_ge {l : List Int} (hp : ∀ x ∈ l, 1 ≤ x) (j : Nat) (hj : j ≤ l.length) : 0 ≤ psum l j := by
  have := psum_mono hp 0 j (by omega) hj
  rw [psum_zero] at this
  exact this
theorem Ch_le {l : List Int} {d : Int} {k : Nat} (hp : ∀ x ∈ l, 1 ≤ x) (h : Ch l d k) {j : Nat} (hj : j < k) : psum l (j + 1) ≤ d := by
  have := psum_mono hp (j + 1) k (by omega) (by have := h.1; omega)
  have := h.2.1
  omega
theorem small_inj : ∀ k : Nat, k < 24 → ∀ m : Nat, m < 24 → small k = small m → k = m := by decide +kernel
end Cm
