/- Plain mathematics of vectors of quaternions and of the hopping, in numbers of 64 bits; no Go program.
Conditions: none. -/
import Derived.Test.YtojmagooapjohaaMathA
import Derived.IntWalk
set_option autoImplicit false
namespace Fm
set_option linter.unusedVariables false
set_option linter.unusedSimpArgs false
open Um Tm Go.RowKit
/-! ### numbers of 64 bits -/
theorem w_ex (x : Int) : ∃ k : Int, wrap64 x = x + 18446744073709551616 * k := ⟨-((x + 9223372036854775808) / 18446744073709551616), by unfold wrap64; omega⟩
theorem w_add_k (x k : Int) : wrap64 (x + 18446744073709551616 * k) = wrap64 x := by unfold wrap64; omega
theorem w_idem (x : Int) : wrap64 (wrap64 x) = wrap64 x := by obtain ⟨k, hk⟩ := w_ex x; conv => lhs; rw [hk, w_add_k]
theorem w_add_l (x y : Int) : wrap64 (wrap64 x + y) = wrap64 (x + y) := by
  obtain ⟨k, hk⟩ := w_ex x; conv => lhs; rw [hk, show x + 18446744073709551616 * k + y = x + y + 18446744073709551616 * k by omega, w_add_k]
theorem w_add_r (x y : Int) : wrap64 (x + wrap64 y) = wrap64 (x + y) := by rw [Int.add_comm, w_add_l, Int.add_comm]
theorem w_sub_l (x y : Int) : wrap64 (wrap64 x - y) = wrap64 (x - y) := w_add_l x (-y)
theorem w_sub_r (x y : Int) : wrap64 (x - wrap64 y) = wrap64 (x - y) := by
  obtain ⟨k, hk⟩ := w_ex y; conv => lhs; rw [hk, show x - (y + 18446744073709551616 * k) = x - y + 18446744073709551616 * (-k) by omega, w_add_k]
theorem w_neg (x : Int) : wrap64 (-wrap64 x) = wrap64 (-x) := by
  obtain ⟨k, hk⟩ := w_ex x; conv => lhs; rw [hk, show -(x + 18446744073709551616 * k) = -x + 18446744073709551616 * (-k) by omega, w_add_k]
theorem w_mul_l (x y : Int) : wrap64 (wrap64 x * y) = wrap64 (x * y) := by
  obtain ⟨k, hk⟩ := w_ex x; conv => lhs; rw [hk, Int.add_mul, Int.mul_assoc, w_add_k]
theorem w_mul_r (x y : Int) : wrap64 (x * wrap64 y) = wrap64 (x * y) := by rw [Int.mul_comm, w_mul_l, Int.mul_comm]
theorem w_in {x : Int} (h1 : -9223372036854775808 ≤ x) (h2 : x ≤ 9223372036854775807) : wrap64 x = x := by unfold wrap64; omega
theorem w_rng (x : Int) : -9223372036854775808 ≤ wrap64 x ∧ wrap64 x ≤ 9223372036854775807 := by unfold wrap64; omega

/-! ### quaternions of integers -/
structure Sp where
  a : Int
  b : Int
  c : Int
  d : Int
deriving DecidableEq
def zs : Sp := ⟨0, 0, 0, 0⟩
def mulS (p q : Sp) : Sp := ⟨p.a * q.a - p.b * q.b - p.c * q.c - p.d * q.d, p.a * q.b + p.b * q.a + p.c * q.d - p.d * q.c, p.a * q.c - p.b * q.d + p.c * q.a + p.d * q.b, p.a * q.d + p.b * q.c - p.c * q.b + p.d * q.a⟩
def addS (p q : Sp) : Sp := ⟨p.a + q.a, p.b + q.b, p.c + q.c, p.d + q.d⟩
def smS (k : Int) (p : Sp) : Sp := ⟨k * p.a, k * p.b, k * p.c, k * p.d⟩
/-- the opposite of the conjugate -/
def flipS (p : Sp) : Sp := ⟨-p.a, p.b, p.c, p.d⟩
def conS (p : Sp) : Sp := ⟨p.a, -p.b, -p.c, -p.d⟩
def Sp.w (p : Sp) : Sp := ⟨wrap64 p.a, wrap64 p.b, wrap64 p.c, wrap64 p.d⟩
theorem ext_S {p q : Sp} (ha : p.a = q.a) (hb : p.b = q.b) (hc : p.c = q.c) (hd : p.d = q.d) : p = q := by cases p; cases q; simp_all
theorem zs_w : zs.w = zs := ext_S (w_in (by decide) (by decide)) (w_in (by decide) (by decide)) (w_in (by decide) (by decide)) (w_in (by decide) (by decide))
theorem addS_w_l (p q : Sp) : (addS p.w q).w = (addS p q).w := ext_S (w_add_l _ _) (w_add_l _ _) (w_add_l _ _) (w_add_l _ _)
theorem addS_w_r (p q : Sp) : (addS p q.w).w = (addS p q).w := ext_S (w_add_r _ _) (w_add_r _ _) (w_add_r _ _) (w_add_r _ _)
theorem smS_w (k : Int) (p : Sp) : (smS k p.w).w = (smS k p).w := ext_S (w_mul_r _ _) (w_mul_r _ _) (w_mul_r _ _) (w_mul_r _ _)
theorem w_w (p : Sp) : p.w.w = p.w := ext_S (w_idem _) (w_idem _) (w_idem _) (w_idem _)
theorem mulS_w_l (p q : Sp) : (mulS p.w q).w = (mulS p q).w := by
  obtain ⟨k1, h1⟩ := w_ex p.a
  obtain ⟨k2, h2⟩ := w_ex p.b
  obtain ⟨k3, h3⟩ := w_ex p.c
  obtain ⟨k4, h4⟩ := w_ex p.d
  unfold Sp.w mulS
  simp only [h1, h2, h3, h4]
  refine ext_S ?_ ?_ ?_ ?_
  · exact (congrArg wrap64 (by grind)).trans (w_add_k _ (k1 * q.a - k2 * q.b - k3 * q.c - k4 * q.d))
  · exact (congrArg wrap64 (by grind)).trans (w_add_k _ (k1 * q.b + k2 * q.a + k3 * q.d - k4 * q.c))
  · exact (congrArg wrap64 (by grind)).trans (w_add_k _ (k1 * q.c - k2 * q.d + k3 * q.a + k4 * q.b))
  · exact (congrArg wrap64 (by grind)).trans (w_add_k _ (k1 * q.d + k2 * q.c - k3 * q.b + k4 * q.a))
theorem mulS_w_r (p q : Sp) : (mulS p q.w).w = (mulS p q).w := by
  obtain ⟨k1, h1⟩ := w_ex q.a
  obtain ⟨k2, h2⟩ := w_ex q.b
  obtain ⟨k3, h3⟩ := w_ex q.c
  obtain ⟨k4, h4⟩ := w_ex q.d
  unfold Sp.w mulS
  simp only [h1, h2, h3, h4]
  refine ext_S ?_ ?_ ?_ ?_
  · exact (congrArg wrap64 (by grind)).trans (w_add_k _ (p.a * k1 - p.b * k2 - p.c * k3 - p.d * k4))
  · exact (congrArg wrap64 (by grind)).trans (w_add_k _ (p.a * k2 + p.b * k1 + p.c * k4 - p.d * k3))
  · exact (congrArg wrap64 (by grind)).trans (w_add_k _ (p.a * k3 - p.b * k4 + p.c * k1 + p.d * k2))
  · exact (congrArg wrap64 (by grind)).trans (w_add_k _ (p.a * k4 + p.b * k3 - p.c * k2 + p.d * k1))
theorem mulS_sm (k : Int) (p q : Sp) : mulS (smS k p) q = smS k (mulS p q) := by
  refine ext_S ?_ ?_ ?_ ?_ <;> simp only [mulS, smS] <;> grind
theorem flip_sm (k : Int) (p : Sp) : flipS (smS k p) = smS (-k) (conS p) := by
  refine ext_S ?_ ?_ ?_ ?_ <;> simp only [flipS, conS, smS] <;> grind

/-! ### lists of quaternions, flat -/
def fl : List Sp → List Int
  | [] => []
  | x :: M => x.a :: x.b :: x.c :: x.d :: fl M
theorem fl_len : ∀ M : List Sp, (fl M).length = M.length * 4
  | [] => rfl
  | x :: M => by simp only [fl, List.length_cons, fl_len M]; omega
theorem fl_append : ∀ M N : List Sp, fl (M ++ N) = fl M ++ fl N
  | [], N => rfl
  | x :: M, N => by simp only [List.cons_append, fl, fl_append M N]
theorem fl_inj : ∀ {M N : List Sp}, fl M = fl N → M = N
  | [], [], _ => rfl
  | [], y :: N, h => by simp [fl] at h
  | x :: M, [], h => by simp [fl] at h
  | x :: M, y :: N, h => by
    simp only [fl, List.cons.injEq] at h
    obtain ⟨h1, h2, h3, h4, h5⟩ := h
    rw [fl_inj h5, ext_S h1 h2 h3 h4]
theorem fl_four : ∀ {M : List Sp} {s : Nat} {x : Sp}, M[s]? = some x → (fl M)[s * 4]? = some x.a ∧ (fl M)[s * 4 + 1]? = some x.b ∧ (fl M)[s * 4 + 2]? = some x.c ∧ (fl M)[s * 4 + 3]? = some x.d
  | [], s, x, h => by simp at h
  | y :: M, 0, x, h => by simp at h; subst h; simp [fl]
  | y :: M, s + 1, x, h => by
    have k := fl_four (M := M) (s := s) (x := x) (by simpa using h)
    simp only [show (s + 1) * 4 = s * 4 + 1 + 1 + 1 + 1 by omega]
    simpa [fl, Nat.add_assoc] using k
theorem fl_ex : ∀ (n : Nat) (l : List Int), l.length = n * 4 → ∃ M : List Sp, M.length = n ∧ fl M = l
  | 0, l, h => ⟨[], rfl, by cases l <;> simp_all [fl]⟩
  | n + 1, l, h => by
    match l, h with
    | a :: b :: c :: d :: l, h =>
      obtain ⟨M, h1, h2⟩ := fl_ex n l (by simp only [List.length_cons] at h; omega)
      exact ⟨⟨a, b, c, d⟩ :: M, by simp [h1], by simp [fl, h2]⟩
    | [], h => exact absurd h (by simp)
    | [a], h => exact absurd h (by simp; omega)
    | [a, b], h => exact absurd h (by simp; omega)
    | [a, b, c], h => exact absurd h (by simp; omega)
theorem set4 (x y z t v : Int) (l : List Int) (i : Nat) : (x :: y :: z :: t :: l).set (i + 4) v = x :: y :: z :: t :: l.set i v := rfl
theorem fl_set : ∀ (M : List Sp) (s : Nat) (y : Sp), ((((fl M).set (s * 4) y.a).set (s * 4 + 1) y.b).set (s * 4 + 2) y.c).set (s * 4 + 3) y.d = fl (M.set s y)
  | [], s, y => by simp [fl]
  | x :: M, 0, y => by simp [fl]
  | x :: M, s + 1, y => by
    have k := fl_set M s y
    rw [show (s + 1) * 4 = s * 4 + 4 by omega, show s * 4 + 4 + 1 = s * 4 + 1 + 4 by omega, show s * 4 + 4 + 2 = s * 4 + 2 + 4 by omega, show s * 4 + 4 + 3 = s * 4 + 3 + 4 by omega]
    simp only [fl, List.set_cons_succ]
    rw [k]
theorem fl_repl : ∀ n : Nat, fl (List.replicate n zs) = List.replicate (n * 4) 0
  | 0 => rfl
  | n + 1 => by
    rw [List.replicate_succ, show (n + 1) * 4 = n * 4 + 1 + 1 + 1 + 1 by omega]
    have k := fl_repl n
    simp only [List.replicate_succ]
    rw [← k]
    rfl
theorem fl_take : ∀ (M : List Sp) (k : Nat), (fl M).take (k * 4) = fl (M.take k)
  | [], k => by simp [fl]
  | x :: M, 0 => by simp [fl]
  | x :: M, k + 1 => by
    rw [show (k + 1) * 4 = k * 4 + 1 + 1 + 1 + 1 by omega]
    simp only [fl, List.take_succ_cons, fl_take M k]

/-! ### arms -/
structure Arm where
  to : Nat
  frm : Nat
  q : Sp
deriving DecidableEq
/-- the arms that lead to a site -/
def row (A : List Arm) (s : Nat) : List Arm := A.filter (fun x => x.to == s)
theorem row_snoc (A : List Arm) (x : Arm) (s : Nat) : row (A ++ [x]) s = if x.to = s then row A s ++ [x] else row A s := by
  unfold row
  rw [List.filter_append]
  by_cases h : x.to = s
  · simp [h]
  · simp [h]
def at0 (M : List Sp) (s : Nat) : Sp := M.getD s zs
theorem at0_of {M : List Sp} {s : Nat} {x : Sp} (h : M[s]? = some x) : at0 M s = x := by unfold at0; rw [List.getD_eq_getElem?_getD, h]; rfl
def stepS (M : List Sp) (t : Sp) (x : Arm) : Sp := addS t (mulS x.q (at0 M x.frm))
def accS (M : List Sp) (A : List Arm) : Sp := A.foldl (stepS M) zs
theorem accS_snoc (M : List Sp) (A : List Arm) (x : Arm) : accS M (A ++ [x]) = addS (accS M A) (mulS x.q (at0 M x.frm)) := by
  unfold accS; rw [List.foldl_append]; rfl
/-- the hopping of a vector of n quaternions -/
def hopL (n : Nat) (A : List Arm) (M : List Sp) : List Sp := (List.range n).map (fun s => (accS M (row A s)).w)
theorem hopL_len (n : Nat) (A : List Arm) (M : List Sp) : (hopL n A M).length = n := by simp [hopL]
theorem hopL_at {n s : Nat} (A : List Arm) (M : List Sp) (h : s < n) : (hopL n A M)[s]? = some (accS M (row A s)).w := by
  unfold hopL; rw [List.getElem?_map, List.getElem?_range h]; rfl
theorem hopL_nil (n : Nat) (M : List Sp) : hopL n [] M = List.replicate n zs := by
  unfold hopL
  rw [List.eq_replicate_iff]
  refine ⟨by simp, fun x hx => ?_⟩
  obtain ⟨s, -, rfl⟩ := List.mem_map.1 hx
  exact zs_w
theorem hopL_snoc {n : Nat} (A : List Arm) (x : Arm) (M : List Sp) (y : Sp) (h : x.to < n) (hy : y = (addS (accS M (row A x.to)) (mulS x.q (at0 M x.frm))).w) : (hopL n A M).set x.to y = hopL n (A ++ [x]) M := by
  refine List.ext_getElem? fun i => ?_
  rw [List.getElem?_set]
  by_cases hi : i < n
  · rw [hopL_at (A ++ [x]) _ hi, row_snoc]
    by_cases he : x.to = i
    · rw [if_pos he, hopL_len, if_pos h, if_pos he, accS_snoc, hy, he]
    · rw [if_neg he, if_neg he, hopL_at _ _ hi]
  · have e1 : (hopL n A M)[i]? = none := List.getElem?_eq_none (by rw [hopL_len]; omega)
    have e2 : (hopL n (A ++ [x]) M)[i]? = none := List.getElem?_eq_none (by rw [hopL_len]; omega)
    rw [e2, if_neg (by omega), e1]
/-! ### signs -/
def sg3 (a b d s : Int) : Int := if d = 0 then 1 else if d = 1 then 1 - 2 * (s % a % 2) else 1 - 2 * ((s % a + s / a % b) % 2)
theorem sg3_next {a b c s d : Int} (h : Sz a b c) (h0 : 0 ≤ s) (h1 : s < a * b * c) (d0 : 0 ≤ d) (d2 : d ≤ 2) : sg3 a b d (nx a b c s (d + 1)) = sg3 a b d s := by
  obtain rfl | rfl | rfl : d = 0 ∨ d = 1 ∨ d = 2 := by omega
  · rfl
  · simp only [sg3, show (1 : Int) + 1 = 2 from rfl, nx_p2, px_site h, Int.emod_emod]; rfl
  · simp only [sg3, show (2 : Int) + 1 = 3 from rfl, nx_p3, px_site h, py_site h, Int.emod_emod]
/-- twice a small unit -/
def tw (u : Q) : Sp := ⟨2 / u.n * u.a, 2 / u.n * u.b, 2 / u.n * u.c, 2 / u.n * u.d⟩
theorem tw_bar (u : Q) : tw (bar u) = conS (tw u) := by
  refine ext_S ?_ ?_ ?_ ?_ <;> simp only [tw, bar, conS] <;> grind
theorem zero_n : zero.n = 0 := rfl
/-- the link k of a field, and its two arms -/
def ln (L : List Q) (k : Nat) : Q := L.getD k one
def nxl (a b c : Int) (k : Nat) : Nat := (nx a b c ((k / 3 : Nat) : Int) (((k % 3 : Nat) : Int) + 1)).toNat
def fac (a b : Int) (L : List Q) (k : Nat) : Sp := smS (sg3 a b ((k % 3 : Nat) : Int) ((k / 3 : Nat) : Int)) (tw (ln L k))
def arm1 (a b c : Int) (L : List Q) (k : Nat) : Arm := ⟨k / 3, nxl a b c k, fac a b L k⟩
def arm2 (a b c : Int) (L : List Q) (k : Nat) : Arm := ⟨nxl a b c k, k / 3, flipS (fac a b L k)⟩
def arms (a b c : Int) (L : List Q) : Nat → List Arm
  | 0 => []
  | k + 1 => arms a b c L k ++ [arm1 a b c L k] ++ [arm2 a b c L k]
theorem nxl_rng {a b c : Int} (h : Sz a b c) (k : Nat) : ((nxl a b c k : Nat) : Int) = nx a b c ((k / 3 : Nat) : Int) (((k % 3 : Nat) : Int) + 1) ∧ ((nxl a b c k : Nat) : Int) < a * b * c := by
  have := nx_rng h ((k / 3 : Nat) : Int) (((k % 3 : Nat) : Int) + 1)
  unfold nxl
  omega
end Fm

/- Plain mathematics of sums and products of vectors of quaternions, in numbers of 64 bits; no Go program.
Conditions: none. -/
set_option autoImplicit false
namespace Fm
set_option linter.unusedVariables false
set_option linter.unusedSimpArgs false
open Um Tm Go.RowKit
/-! ### tables -/
def tab (n : Nat) (f : Nat → Sp) : List Sp := (List.range n).map f
theorem tab_len (n : Nat) (f : Nat → Sp) : (tab n f).length = n := by simp [tab]
theorem tab_at {n s : Nat} (f : Nat → Sp) (h : s < n) : (tab n f)[s]? = some (f s) := by
  unfold tab; rw [List.getElem?_map, List.getElem?_range h]; rfl
theorem tab_none {n s : Nat} (f : Nat → Sp) (h : n ≤ s) : (tab n f)[s]? = none := List.getElem?_eq_none (by rw [tab_len]; exact h)
theorem tab_congr {n : Nat} {f g : Nat → Sp} (h : ∀ s, s < n → f s = g s) : tab n f = tab n g := by
  refine List.ext_getElem? fun i => ?_
  by_cases hi : i < n
  · rw [tab_at _ hi, tab_at _ hi, h i hi]
  · rw [tab_none _ (by omega), tab_none _ (by omega)]
theorem tab_set {n s : Nat} (f : Nat → Sp) (y : Sp) : (tab n f).set s y = tab n (fun i => if i = s then y else f i) := by
  refine List.ext_getElem? fun i => ?_
  rw [List.getElem?_set]
  by_cases hi : i < n
  · rw [tab_at _ hi, tab_at _ hi, tab_len]
    by_cases he : s = i
    · subst he; rw [if_pos rfl, if_pos hi, if_pos rfl]
    · rw [if_neg he, if_neg (fun h => he h.symm)]
  · rw [tab_none f (by omega), tab_none _ (by omega), tab_len]
    by_cases he : s = i
    · rw [if_pos he, if_neg (by omega)]
    · rw [if_neg he]
theorem tab_self (M : List Sp) : tab M.length (at0 M) = M := by
  refine List.ext_getElem? fun i => ?_
  by_cases hi : i < M.length
  · rw [tab_at _ hi, List.getElem?_eq_getElem hi, at0_of (List.getElem?_eq_getElem hi)]
  · rw [tab_none _ (by omega), List.getElem?_eq_none (by omega)]
theorem at0_tab {n s : Nat} (f : Nat → Sp) (h : s < n) : at0 (tab n f) s = f s := at0_of (tab_at f h)
theorem tab_snoc (n : Nat) (f : Nat → Sp) : tab (n + 1) f = tab n f ++ [f n] := by
  unfold tab; rw [List.range_succ, List.map_append]; rfl
theorem hopL_tab (n : Nat) (A : List Arm) (M : List Sp) : hopL n A M = tab n (fun s => (accS M (row A s)).w) := rfl

/-! ### sums -/
def axS (k : Int) (x y : Sp) : Sp := (addS x (smS k y)).w
/-- the first m entries have got k times those of M -/
def axK (k : Int) (A M : List Sp) (m : Nat) : List Sp := tab A.length (fun s => if s < m then axS k (at0 A s) (at0 M s) else at0 A s)
def axp (k : Int) (A M : List Sp) : List Sp := tab A.length (fun s => axS k (at0 A s) (at0 M s))
theorem axK_len (k : Int) (A M : List Sp) (m : Nat) : (axK k A M m).length = A.length := tab_len _ _
theorem axp_len (k : Int) (A M : List Sp) : (axp k A M).length = A.length := tab_len _ _
theorem axK_zero (k : Int) (A M : List Sp) : axK k A M 0 = A := (tab_congr (fun s _ => if_neg (by omega))).trans (tab_self A)
theorem axK_end (k : Int) (A M : List Sp) : axK k A M A.length = axp k A M := tab_congr (fun _ h => if_pos h)
theorem axK_at (k : Int) (A M : List Sp) {m : Nat} (h : m < A.length) : (axK k A M m)[m]? = some (at0 A m) := by
  unfold axK; rw [tab_at _ h, if_neg (by omega)]
theorem axK_set (k : Int) (A M : List Sp) {m : Nat} : (axK k A M m).set m (axS k (at0 A m) (at0 M m)) = axK k A M (m + 1) := by
  unfold axK
  rw [tab_set]
  refine tab_congr fun s _ => ?_
  by_cases h1 : s = m
  · subst h1; rw [if_pos rfl, if_pos (by omega)]
  · rw [if_neg h1]
    by_cases h2 : s < m
    · rw [if_pos h2, if_pos (by omega)]
    · rw [if_neg h2, if_neg (by omega)]
theorem fl_get_len {M : List Sp} {k : Nat} (h : k < M.length) : k * 4 + 3 < (fl M).length := by rw [fl_len]; omega

/-- so many times a vector -/
def mulL (k : Int) (M : List Sp) : List Sp := tab M.length (fun s => (smS k (at0 M s)).w)
theorem mulL_len (k : Int) (M : List Sp) : (mulL k M).length = M.length := tab_len _ _
theorem at0_repl (n s : Nat) : at0 (List.replicate n zs) s = zs := by
  unfold at0
  rw [List.getD_eq_getElem?_getD, List.getElem?_replicate]
  split <;> rfl
theorem addS_zero (p : Sp) : addS zs p = p := ext_S (Int.zero_add _) (Int.zero_add _) (Int.zero_add _) (Int.zero_add _)
theorem axp_repl (k : Int) (M : List Sp) : axp k (List.replicate M.length zs) M = mulL k M := by
  unfold axp mulL
  rw [List.length_replicate]
  refine tab_congr fun s _ => ?_
  rw [at0_repl]; unfold axS; rw [addS_zero]
/-! ### products -/
def dot4 (x y : Sp) : Int := x.a * y.a + x.b * y.b + x.c * y.c + x.d * y.d
/-- the sum of the products of the first m -/
def dotK (A M : List Sp) : Nat → Int
  | 0 => 0
  | m + 1 => dotK A M m + dot4 (at0 A m) (at0 M m)
def dotL (A M : List Sp) : Int := dotK A M A.length
theorem dot4_comm (x y : Sp) : dot4 x y = dot4 y x := by unfold dot4; grind
theorem dotK_comm (A M : List Sp) : ∀ m, dotK A M m = dotK M A m
  | 0 => rfl
  | m + 1 => by unfold dotK; rw [dotK_comm A M m, dot4_comm]
theorem dotL_comm {A M : List Sp} (h : A.length = M.length) : dotL A M = dotL M A := by unfold dotL; rw [dotK_comm, h]
end Fm

/- Plain mathematics of the hopping, site by site; no Go program.
Conditions: none. -/
set_option autoImplicit false
namespace Fm
set_option linter.unusedVariables false
set_option linter.unusedSimpArgs false
open Um Tm Go.RowKit
/-- the hopping by the arms of each site -/
def hopR (n : Nat) (R : Nat → List Arm) (M : List Sp) : List Sp := tab n (fun s => (accS M (R s)).w)
/-- the sites before s are done, the site s has had j arms -/
def prt (n : Nat) (R : Nat → List Arm) (M : List Sp) (s j : Nat) : List Sp := tab n (fun i => if i < s then (accS M (R i)).w else if i = s then (accS M ((R s).take j)).w else zs)
theorem prt_len (n : Nat) (R : Nat → List Arm) (M : List Sp) (s j : Nat) : (prt n R M s j).length = n := tab_len _ _
theorem prt_start (n : Nat) (R : Nat → List Arm) (M : List Sp) : prt n R M 0 0 = List.replicate n zs := by
  refine List.ext_getElem? fun i => ?_
  by_cases hi : i < n
  · unfold prt
    rw [tab_at _ hi, List.getElem?_replicate, if_pos hi, if_neg (by omega)]
    by_cases h0 : i = 0
    · rw [if_pos h0, List.take_zero]; exact congrArg some zs_w
    · rw [if_neg h0]
  · rw [List.getElem?_eq_none (by rw [prt_len]; omega), List.getElem?_eq_none (by rw [List.length_replicate]; omega)]
theorem prt_next (n : Nat) (R : Nat → List Arm) (M : List Sp) (s : Nat) : prt n R M s (R s).length = prt n R M (s + 1) 0 := by
  refine tab_congr fun i hi => ?_
  by_cases h1 : i < s
  · rw [if_pos h1, if_pos (by omega)]
  · rw [if_neg h1]
    by_cases h2 : i = s
    · subst h2; rw [if_pos rfl, if_pos (by omega), List.take_length]
    · rw [if_neg h2, if_neg (by omega)]
      by_cases h3 : i = s + 1
      · rw [if_pos h3, List.take_zero]; exact zs_w.symm
      · rw [if_neg h3]
theorem prt_end (n : Nat) (R : Nat → List Arm) (M : List Sp) : prt n R M n 0 = hopR n R M := tab_congr fun i hi => if_pos hi
theorem prt_at {n s : Nat} (R : Nat → List Arm) (M : List Sp) (j : Nat) (h : s < n) : (prt n R M s j)[s]? = some (accS M ((R s).take j)).w := by
  unfold prt; rw [tab_at _ h, if_neg (by omega), if_pos rfl]
theorem prt_set {n s j : Nat} (R : Nat → List Arm) (M : List Sp) {x : Arm} (hx : (R s)[j]? = some x) : (prt n R M s j).set s (addS (accS M ((R s).take j)) (mulS x.q (at0 M x.frm))).w = prt n R M s (j + 1) := by
  have hj : j < (R s).length := (List.getElem?_eq_some_iff.1 hx).1
  have he : (R s).take (j + 1) = (R s).take j ++ [x] := by
    rw [List.take_succ_eq_append_getElem hj, (List.getElem?_eq_some_iff.1 hx).2]
  unfold prt
  rw [tab_set]
  refine tab_congr fun i _ => ?_
  by_cases h1 : i = s
  · subst h1; rw [if_pos rfl, if_neg (by omega), if_pos rfl, he, accS_snoc]
  · rw [if_neg h1]
    by_cases h2 : i < s
    · rw [if_pos h2, if_pos h2]
    · rw [if_neg h2, if_neg h1, if_neg h2, if_neg h1]
end Fm

/- Plain mathematics of the operator and the dagger; no Go program.
Conditions: none. -/
set_option autoImplicit false
namespace Fm
set_option linter.unusedVariables false
set_option linter.unusedSimpArgs false
open Um Tm Go.RowKit
/-- 4 * mass times a vector and k times its hopping -/
def opL (k ma : Int) (n : Nat) (A : List Arm) (M : List Sp) : List Sp := tab n (fun s => axS k (axS (4 * ma) zs (at0 M s)) (at0 (hopL n A M) s))
theorem opL_len (k ma : Int) (n : Nat) (A : List Arm) (M : List Sp) : (opL k ma n A M).length = n := tab_len _ _
theorem hopR_row (n : Nat) (A : List Arm) (M : List Sp) : hopR n (row A) M = hopL n A M := rfl
theorem smS_one (p : Sp) : smS 1 p = p := ext_S (Int.one_mul _) (Int.one_mul _) (Int.one_mul _) (Int.one_mul _)
theorem addS_comm (p q : Sp) : addS p q = addS q p := ext_S (Int.add_comm _ _) (Int.add_comm _ _) (Int.add_comm _ _) (Int.add_comm _ _)
theorem apply_op (ma : Int) {n : Nat} (A : List Arm) (M : List Sp) : axp (4 * ma) (hopR n (row A) M) M = opL 1 ma n A M := by
  unfold axp opL
  rw [hopR_row, hopL_len]
  refine tab_congr fun s _ => ?_
  unfold axS
  rw [addS_zero, smS_one, addS_w_l, addS_comm]
theorem dagger_op (ma : Int) {n : Nat} (A : List Arm) (M : List Sp) (h : M.length = n) : axp (-1) (mulL (4 * ma) M) (hopR n (row A) M) = opL (-1) ma n A M := by
  unfold axp opL
  rw [hopR_row, mulL_len, h]
  refine tab_congr fun s hs => ?_
  unfold axS mulL
  rw [addS_zero, h, at0_tab _ hs]
end Fm
