/- Plain mathematics of the hopping, site by site; no Go program.
Conditions: none. -/
import Derived.Test.YtmnlfojcofdaeaaFnM
set_option autoImplicit false
namespace Fm
set_option linter.unusedVariables false
set_option linter.unusedSimpArgs false
open Um Tm Go.RowKit
/-- the hopping by the arms of each site -/
def hopR (n : Nat) (R : Nat → List Arm) (M : List Sp) : List Sp := tab n (fun s => (accS M (R s)).w)
/-- the sites before s are done, the site s has had j arms -/
def prt (n : Nat) (R : Nat → List Arm) (M : List Sp) (s j : Nat) : List Sp := tab n (fun i => if i < s then (accS M (R i)).w else if i = s then (accS M ((R s).take j)).w else zs)
theorem prt_len (n : Nat) (R : Nat → List Arm) (M : List Sp) (s j : Nat) : (prt n R M s j).length = n := tab_len _ _
theorem prt_start (n : Nat) (R : Nat → List Arm) (M : List Sp) : prt n R M 0 0 = List.replicate n zs := by
  refine List.ext_getElem? fun i => ?_
  by_cases hi : i < n
  · unfold prt
    rw [tab_at _ hi, List.getElem?_replicate, if_pos hi, if_neg (by omega)]
    by_cases h0 : i = 0
    · rw [if_pos h0, List.take_zero]; exact congrArg some zs_w
    · rw [if_neg h0]
  · rw [List.getElem?_eq_none (by rw [prt_len]; omega), List.getElem?_eq_none (by rw [List.length_replicate]; omega)]
theorem prt_next (n : Nat) (R : Nat → List Arm) (M : List Sp) (s : Nat) : prt n R M s (R s).length = prt n R M (s + 1) 0 := by
  refine tab_congr fun i hi => ?_
  by_cases h1 : i < s
  · rw [if_pos h1, if_pos (by omega)]
  · rw [if_neg h1]
    by_cases h2 : i = s
    · subst h2; rw [if_pos rfl, if_pos (by omega), List.take_length]
    · rw [if_neg h2, if_neg (by omega)]
      by_cases h3 : i = s + 1
      · rw [if_pos h3, List.take_zero]; exact zs_w.symm
      · rw [if_neg h3]
theorem prt_end (n : Nat) (R : Nat → List Arm) (M : List Sp) : prt n R M n 0 = hopR n R M := tab_congr fun i hi => if_pos hi
theorem prt_at {n s : Nat} (R : Nat → List Arm) (M : List Sp) (j : Nat) (h : s < n) : (prt n R M s j)[s]? = some (accS M ((R s).take j)).w := by
  unfold prt; rw [tab_at _ h, if_neg (by omega), if_pos rfl]
theorem prt_set {n s j : Nat} (R : Nat → List Arm) (M : List Sp) {x : Arm} (hx : (R s)[j]? = some x) : (prt n R M s j).set s (addS (accS M ((R s).take j)) (mulS x.q (at0 M x.frm))).w = prt n R M s (j + 1) := by
  have hj : j < (R s).length := (List.getElem?_eq_some_iff.1 hx).1
  have he : (R s).take (j + 1) = (R s).take j ++ [x] := by
    rw [List.take_succ_eq_append_getElem hj, (List.getElem?_eq_some_iff.1 hx).2]
  unfold prt
  rw [tab_set]
  refine tab_congr fun i _ => ?_
  by_cases h1 : i = s
  · subst h1; rw [if_pos rfl, if_neg (by omega), if_pos rfl, he, accS_snoc]
  · rw [if_neg h1]
    by_cases h2 : i < s
    · rw [if_pos h2, if_pos h2]
    · rw [if_neg h2, if_neg h1, if_neg h2, if_neg h1]
end Fm
