/- Plain mathematics of sums and products of vectors of quaternions, in numbers of 64 bits; no Go program.
Conditions: none. -/
import Derived.Test.YtmnlfojcofdaeaaFmM
set_option autoImplicit false
namespace Fm
set_option linter.unusedVariables false
set_option linter.unusedSimpArgs false
open Um Tm Go.RowKit
/-! ### tables -/
def tab (n : Nat) (f : Nat → Sp) : List Sp := (List.range n).map f
theorem tab_len (n : Nat) (f : Nat → Sp) : (tab n f).length = n := by simp [tab]
theorem tab_at {n s : Nat} (f : Nat → Sp) (h : s < n) : (tab n f)[s]? = some (f s) := by
  unfold tab; rw [List.getElem?_map, List.getElem?_range h]; rfl
theorem tab_none {n s : Nat} (f : Nat → Sp) (h : n ≤ s) : (tab n f)[s]? = none := List.getElem?_eq_none (by rw [tab_len]; exact h)
theorem tab_congr {n : Nat} {f g : Nat → Sp} (h : ∀ s, s < n → f s = g s) : tab n f = tab n g := by
  refine List.ext_getElem? fun i => ?_
  by_cases hi : i < n
  · rw [tab_at _ hi, tab_at _ hi, h i hi]
  · rw [tab_none _ (by omega), tab_none _ (by omega)]
theorem tab_set {n s : Nat} (f : Nat → Sp) (y : Sp) : (tab n f).set s y = tab n (fun i => if i = s then y else f i) := by
  refine List.ext_getElem? fun i => ?_
  rw [List.getElem?_set]
  by_cases hi : i < n
  · rw [tab_at _ hi, tab_at _ hi, tab_len]
    by_cases he : s = i
    · subst he; rw [if_pos rfl, if_pos hi, if_pos rfl]
    · rw [if_neg he, if_neg (fun h => he h.symm)]
  · rw [tab_none f (by omega), tab_none _ (by omega), tab_len]
    by_cases he : s = i
    · rw [if_pos he, if_neg (by omega)]
    · rw [if_neg he]
theorem tab_self (M : List Sp) : tab M.length (at0 M) = M := by
  refine List.ext_getElem? fun i => ?_
  by_cases hi : i < M.length
  · rw [tab_at _ hi, List.getElem?_eq_getElem hi, at0_of (List.getElem?_eq_getElem hi)]
  · rw [tab_none _ (by omega), List.getElem?_eq_none (by omega)]
theorem at0_tab {n s : Nat} (f : Nat → Sp) (h : s < n) : at0 (tab n f) s = f s := at0_of (tab_at f h)
theorem tab_snoc (n : Nat) (f : Nat → Sp) : tab (n + 1) f = tab n f ++ [f n] := by
  unfold tab; rw [List.range_succ, List.map_append]; rfl
theorem hopL_tab (n : Nat) (A : List Arm) (M : List Sp) : hopL n A M = tab n (fun s => (accS M (row A s)).w) := rfl

/-! ### sums -/
def axS (k : Int) (x y : Sp) : Sp := (addS x (smS k y)).w
/-- the first m entries have got k times those of M -/
def axK (k : Int) (A M : List Sp) (m : Nat) : List Sp := tab A.length (fun s => if s < m then axS k (at0 A s) (at0 M s) else at0 A s)
def axp (k : Int) (A M : List Sp) : List Sp := tab A.length (fun s => axS k (at0 A s) (at0 M s))
theorem axK_len (k : Int) (A M : List Sp) (m : Nat) : (axK k A M m).length = A.length := tab_len _ _
theorem axp_len (k : Int) (A M : List Sp) : (axp k A M).length = A.length := tab_len _ _
theorem axK_zero (k : Int) (A M : List Sp) : axK k A M 0 = A := (tab_congr (fun s _ => if_neg (by omega))).trans (tab_self A)
theorem axK_end (k : Int) (A M : List Sp) : axK k A M A.length = axp k A M := tab_congr (fun _ h => if_pos h)
theorem axK_at (k : Int) (A M : List Sp) {m : Nat} (h : m < A.length) : (axK k A M m)[m]? = some (at0 A m) := by
  unfold axK; rw [tab_at _ h, if_neg (by omega)]
theorem axK_set (k : Int) (A M : List Sp) {m : Nat} : (axK k A M m).set m (axS k (at0 A m) (at0 M m)) = axK k A M (m + 1) := by
  unfold axK
  rw [tab_set]
  refine tab_congr fun s _ => ?_
  by_cases h1 : s = m
  · subst h1; rw [if_pos rfl, if_pos (by omega)]
  · rw [if_neg h1]
    by_cases h2 : s < m
    · rw [if_pos h2, if_pos (by omega)]
    · rw [if_neg h2, if_neg (by omega)]
theorem fl_get_len {M : List Sp} {k : Nat} (h : k < M.length) : k * 4 + 3 < (fl M).length := by rw [fl_len]; omega

/-- so many times a vector -/
def mulL (k : Int) (M : List Sp) : List Sp := tab M.length (fun s => (smS k (at0 M s)).w)
theorem mulL_len (k : Int) (M : List Sp) : (mulL k M).length = M.length := tab_len _ _
theorem at0_repl (n s : Nat) : at0 (List.replicate n zs) s = zs := by
  unfold at0
  rw [List.getD_eq_getElem?_getD, List.getElem?_replicate]
  split <;> rfl
theorem addS_zero (p : Sp) : addS zs p = p := ext_S (Int.zero_add _) (Int.zero_add _) (Int.zero_add _) (Int.zero_add _)
theorem axp_repl (k : Int) (M : List Sp) : axp k (List.replicate M.length zs) M = mulL k M := by
  unfold axp mulL
  rw [List.length_replicate]
  refine tab_congr fun s _ => ?_
  rw [at0_repl]; unfold axS; rw [addS_zero]
/-! ### products -/
def dot4 (x y : Sp) : Int := x.a * y.a + x.b * y.b + x.c * y.c + x.d * y.d
/-- the sum of the products of the first m -/
def dotK (A M : List Sp) : Nat → Int
  | 0 => 0
  | m + 1 => dotK A M m + dot4 (at0 A m) (at0 M m)
def dotL (A M : List Sp) : Int := dotK A M A.length
theorem dot4_comm (x y : Sp) : dot4 x y = dot4 y x := by unfold dot4; grind
theorem dotK_comm (A M : List Sp) : ∀ m, dotK A M m = dotK M A m
  | 0 => rfl
  | m + 1 => by unfold dotK; rw [dotK_comm A M m, dot4_comm]
theorem dotL_comm {A M : List Sp} (h : A.length = M.length) : dotL A M = dotL M A := by unfold dotL; rw [dotK_comm, h]
end Fm
