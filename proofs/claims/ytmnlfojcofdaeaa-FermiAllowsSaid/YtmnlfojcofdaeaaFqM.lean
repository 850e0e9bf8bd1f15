/- Plain mathematics of the operator and the dagger; no Go program.
Conditions: none. -/
import Derived.Test.YtmnlfojcofdaeaaFpM
set_option autoImplicit false
namespace Fm
set_option linter.unusedVariables false
set_option linter.unusedSimpArgs false
open Um Tm Go.RowKit
/-- 4 * mass times a vector and k times its hopping -/
def opL (k ma : Int) (n : Nat) (A : List Arm) (M : List Sp) : List Sp := tab n (fun s => axS k (axS (4 * ma) zs (at0 M s)) (at0 (hopL n A M) s))
theorem opL_len (k ma : Int) (n : Nat) (A : List Arm) (M : List Sp) : (opL k ma n A M).length = n := tab_len _ _
theorem hopR_row (n : Nat) (A : List Arm) (M : List Sp) : hopR n (row A) M = hopL n A M := rfl
theorem smS_one (p : Sp) : smS 1 p = p := ext_S (Int.one_mul _) (Int.one_mul _) (Int.one_mul _) (Int.one_mul _)
theorem addS_comm (p q : Sp) : addS p q = addS q p := ext_S (Int.add_comm _ _) (Int.add_comm _ _) (Int.add_comm _ _) (Int.add_comm _ _)
theorem apply_op (ma : Int) {n : Nat} (A : List Arm) (M : List Sp) : axp (4 * ma) (hopR n (row A) M) M = opL 1 ma n A M := by
  unfold axp opL
  rw [hopR_row, hopL_len]
  refine tab_congr fun s _ => ?_
  unfold axS
  rw [addS_zero, smS_one, addS_w_l, addS_comm]
theorem dagger_op (ma : Int) {n : Nat} (A : List Arm) (M : List Sp) (h : M.length = n) : axp (-1) (mulL (4 * ma) M) (hopR n (row A) M) = opL (-1) ma n A M := by
  unfold axp opL
  rw [hopR_row, mulL_len, h]
  refine tab_congr fun s hs => ?_
  unfold axS mulL
  rw [addS_zero, h, at0_tab _ hs]
end Fm
